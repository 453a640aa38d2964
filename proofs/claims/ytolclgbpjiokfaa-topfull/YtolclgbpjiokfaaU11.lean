/- The step of a change that stamps: which flows begin at a switch. -/
import Derived.Test.YtolclgbpjiokfaaU08
import Derived.Deep.RegionLaw
import Derived.Deep.RegionHeld3
import Derived.Test.YtolclgbpjiokfaaU10
import Derived.Deep.DeepCutAuto
namespace Go.Proofs.Ytolclgbpjiokfaa.Tb
open Go.RowKit Go.Maps Stw Go.Deep Rul Go.Sort
def tot (ps:List (List Int)):Nat→Nat
 | 0=>0
 | k+1=>tot ps k+(ps.getD k []).length
theorem tot_mono {ps:List (List Int)} {j:Nat}:∀{k:Nat},j≤k→tot ps j≤tot ps k
 | 0,h=>by rw[show j=0 by omega];exact Nat.le_refl _
 | k+1,h=>by
  rcases Nat.lt_or_ge j (k+1) with h1 | h1
  ·exact Nat.le_trans (tot_mono (k:=k) (by omega)) (by rw[tot];omega)
  ·rw[show j=k+1 by omega];exact Nat.le_refl _
theorem rof_len {v s:Int} {ps:List (List Int)}:∀k,(rof v s ps k).length≤tot ps k
 | 0=>Nat.le_refl _
 | k+1=>by
  have:=rof_len (v:=v) (s:=s) (ps:=ps) k
  have:=stk_len (v:=v) (f:=k) (s:=s) (path:=ps.getD k []) (ps.getD k []).length
  rw[rof,tot,List.length_append];omega
theorem one3 (a b c:Int):∀u∈[Value.int .i64 a,.int .i64 b,.int .i64 c],u.oneCell'=true:=by
 intro u hu;simp only[List.mem_cons,List.not_mem_nil,or_false] at hu;rcases hu with rfl | rfl | rfl <;> rfl
theorem infoS:(Try.prog.info? 57).map (fun i=>(i.zero,i.size,i.bytes))=some (some (.slice none 0 0),1,24):=by kernel_rfl
theorem infoS':∃i,Try.prog.info? 57=some i∧i.zero=some (.slice none 0 0)∧i.size=1∧i.bytes=24:=by
 have h:=infoS
 cases e:Try.prog.info? 57 with
 | none=>rw[e] at h;simp at h
 | some i=>rw[e] at h;simp at h;exact⟨i,rfl,h.1,h.2.1,h.2.2⟩
theorem make_tables (n:Nat) (hn:n≤1000) (W:World):(Instr.makeSlice 68 (.int .i64 n) (.int .i64 n)).run Try.prog W=.ok (.slice (some ⟨W.heap.size,0,none⟩) n n) (W.alloc (.cells (madeCells #[.slice none 0 0] n) 57)):=by
 obtain⟨i,hi,h0,h1,h2⟩:=infoS'
 have:=run_make (P:=Try.prog) W 68 57 i (.slice none 0 0) Try.underlying68 hi h0 .i64 .i64 n n (by omega) (by omega) (by rw[h2];omega) (by omega)
 rw[h1] at this
 simpa[Value.cells] using this
set_option maxRecDepth 100000 in
set_option maxHeartbeats 1600000 in
theorem Of_any (v:Int) (fo qo:Option Addr) (fl fc ql qc n:Nat) (ps:List (List Int)) (w:World) (hql:ps.length=ql) (hps:PsAt w qo ps) (hn:n≤1000) (hT:tot ps ps.length*24≤140737488351232) (hqx:ql≤4611686018427387904):
 Calls Try.prog 25 #[.agg #[.int .i64 v,.slice fo fl fc,.slice qo ql qc],.int .i64 n] w fun e w'=>∃vs,e=.returned (.slice (some ⟨w.heap.size+1,0,none⟩) n n)∧TB w' (w.heap.size+1) n vs (fun s=>rof v s ps ql)∧Ext w w':=by
 obtain⟨i3',hi3,hz0,hz1,hz2⟩:=infoR'
 have hE0:Ext w (w.alloc (.cells #[.int .i64 v,.slice fo fl fc,.slice qo ql qc] 30)):=(Ext.refl w).alloc _
 have HB:Hid (∀W:World,Ext (w.alloc (.cells #[.int .i64 v,.slice fo fl fc,.slice qo ql qc] 30)) W→W.cell? ⟨w.heap.size,0,none⟩=some (.int .i64 v)∧W.cell? ⟨w.heap.size,2,none⟩=some (.slice qo ql qc)):=fun W h=>
  ⟨(h.cells.1 _ _ (by simp)).trans (by simp),(h.cells.1 _ _ (by simp)).trans (by simp)⟩
 have hT0:TB ((w.alloc (.cells #[.int .i64 v,.slice fo fl fc,.slice qo ql qc] 30)).alloc (.cells (madeCells #[.slice none 0 0] n) 57)) (w.heap.size+1) n (fun _=>.slice none 0 0) (fun s=>rof v s ps 0):=by
  refine⟨?_,fun s _=>RO.nil _ _,fun s t _ _ _ g h=>by cases h⟩
  have:=World.rowIs_made (w.alloc (.cells #[.int .i64 v,.slice fo fl fc,.slice qo ql qc] 30)) (.slice none 0 0) n 57
  simpa using this
 have HT0:Hid _:=hT0
 have HT:Hid _:=hT
 clear hT0 hT
 have hmk:=make_tables n hn
 go_enter Try.func25,Try.ntmps25
 have i0:¬(n:Int)<0:=by omega
 have i1:¬(2147483647:Int)<(n:Int):=by omega
 go_wp2
 obtain⟨W1,hW1⟩:∃W1,W1=w.alloc (.cells #[.int .i64 v,.slice fo fl fc,.slice qo ql qc] 30):=⟨_,rfl⟩
 have hW1s:W1.heap.size=w.heap.size+1:=by rw[hW1];simp
 rw[←hW1] at HT0 HB hE0 ⊢
 clear hW1
 obtain⟨H,hH⟩:∃H,H=w.heap.size+1:=⟨_,rfl⟩
 rw[←hH] at HT0 hW1s ⊢
 have hH1:H≤w.heap.size+1:=by omega
 have hH2:w.heap.size+1≤H:=by omega
 have HH:Hid (H=w.heap.size+1):=hH
 have HW:Hid (W1.heap.size=H):=hW1s
 clear hH hW1s hmk i0 i1
 go_loopw [21] (fun iv wd=>∃(k:Nat) (vs:Nat→Value),k≤ql∧iv=.int .i64 k∧Hid (TB wd H n vs (fun s=>rof v s ps k))∧Ext W1 wd) (fun iv _=>ql - (intOf iv).toNat)
 case atStart=>exact⟨0,_,Nat.zero_le _,rfl,HT0,(Ext.refl W1).alloc _⟩
 case round=>
  clear HT0
  obtain⟨k,vs,hk,rfl,HTB,hE⟩:=hrel
  by_cases hlt:k<ql
  ·have i1:(k:Int)<(ql:Int):=by omega
   obtain⟨b0,b2⟩:=HB.out wr hE
   have htk:tot ps k+(ps.getD k []).length≤tot ps ps.length:=by have:=tot_mono (ps:=ps) (j:=k+1) (k:=ps.length) (by omega);rwa [tot] at this
   rcases hps.ext hE0 with h0 | ⟨g,off,rfl,hg,hcs⟩
   ·exfalso;rw[h0] at hql;simp at hql;omega
   obtain⟨xo,xc,cx0,lx⟩:=hcs k (by omega)
   have cx:=(hE.cells.1 _ _ hg).trans cx0
   clear cx0
   obtain⟨path,hpath⟩:∃path,path=ps.getD k []:=⟨_,rfl⟩
   rw[←hpath] at cx lx htk
   have HP:Hid _:=hpath
   have hr1:Hid (∀s:Nat,s<n→rof v s ps (k+1)=rof v s ps k++stk v k s path path.length):=fun s _=>by show rof v s ps k++_=_;rw[hpath]
   clear hpath hcs
   obtain⟨L,hL⟩:∃L,L=path.length:=⟨_,rfl⟩
   rw[←hL] at cx htk
   have hL1:L≤path.length:=by omega
   have hL2:path.length≤L:=by omega
   have HL:Hid (L=path.length):=hL
   clear hL
   have hLx:L≤4611686018427387904:=by have:=HT.out;omega
   have HTB1:Hid (TB wr H n vs (fun s=>rof v s ps k++stk v k s path (1 - 1))):=HTB.out.congr (fun s _=>by simp[stk])
   go_wp2
   clear cx b0 b2
   go_loopw [8] (fun iv wd=>∃(i:Nat) (vs:Nat→Value),1≤i∧(i≤L∨i=1)∧iv=.int .i64 i∧Hid (TB wd H n vs (fun s=>rof v s ps k++stk v k s path (i - 1)))∧Ext W1 wd) (fun iv _=>L - (intOf iv).toNat)
   case atStart=>exact⟨1,vs,Nat.le_refl _,Or.inr rfl,rfl,HTB1,hE⟩
   case round=>
    clear HTB HTB1 hE
    obtain⟨i,vs,hi1,hi2,rfl,HTB,hE⟩:=hrel
    obtain⟨i',rfl⟩:∃j,i=j+1:=⟨i - 1,by omega⟩
    have HTB':Hid (TB wr H n vs (fun s=>rof v s ps k++stk v k s path i')):=HTB.out
    clear HTB
    by_cases hil:i'+1<L
    ·have i3:((i':Int)+1)<(L:Int):=by omega
     have i4:(i':Int)<(L:Int):=by omega
     rcases lx with h0 | ⟨b,o,rfl,hb,hin0⟩
     ·exfalso;rw[h0] at hL2 hL1;simp at hL1 hL2;omega
     have hin:IntsAt wr b o path:=fun j hj=>(hE.cells.1 _ _ hb).trans (hin0 j hj)
     have c1:=hin i' (by omega)
     have c2:=hin (i'+1) (by omega)
     obtain⟨a,ha⟩:∃a,path.getD i' 0=a:=⟨_,rfl⟩
     obtain⟨y,hy⟩:∃a,path.getD (i'+1) 0=a:=⟨_,rfl⟩
     rw[ha] at c1
     rw[hy] at c2
     have hst:∀s:Nat,stk v k s path (i'+1)=stk v k s path i'++(if a=(s:Int) then [(v,(k:Int),y)] else []):=fun s=>by
      rw[stk,ha,hy]
      by_cases e:a=(s:Int)
      ·rw[if_pos ⟨e,by omega⟩,if_pos e]
      ·rw[if_neg (fun h=>e h.1),if_neg e]
     have HST:Hid _:=hst
     have HKP:Hid (∀W:World,Ext W1 W→W.cell? ⟨w.heap.size,0,none⟩=some (.int .i64 v)∧W.cell? ⟨b,o+(i'+1),none⟩=some (.int .i64 y)):=fun W hW=>⟨(HB.out W hW).1,by rw[←hy];exact(hW.cells.1 _ _ hb).trans (hin0 (i'+1) (by omega))⟩
     clear hst ha hy hin hin0
     obtain⟨b0,b2⟩:=HB.out wr hE
     by_cases ha0:a<0
     ·have HT2:Hid (TB wr H n vs (fun s=>rof v s ps k++stk v k s path (i'+1+1 - 1))):=HTB'.out.congr (fun s _=>by show _=rof v s ps k++stk v k s path (i'+1);rw[HST.out,if_neg (by omega),List.append_nil])
      go_wp2
      exact⟨⟨i'+1+1,vs,by omega,by omega,by go_num,HT2,hE⟩,by simp[intOf];omega⟩
     ·by_cases han:(n:Int)≤a
      ·have HT2:Hid (TB wr H n vs (fun s=>rof v s ps k++stk v k s path (i'+1+1 - 1))):=HTB'.out.congr (fun s _=>by show _=rof v s ps k++stk v k s path (i'+1);rw[HST.out,if_neg (by omega),List.append_nil])
       go_wp2
       exact⟨⟨i'+1+1,vs,by omega,by omega,by go_num,HT2,hE⟩,by simp[intOf];omega⟩
      ·obtain⟨t,rfl⟩:∃t:Nat,a=(t:Int):=⟨a.toNat,by omega⟩
       have htn:t<n:=by omega
       have i5:¬(t:Int)<0:=by omega
       have i6:¬(n:Int)≤(t:Int):=by omega
       have i7:(t:Int)<(n:Int):=by omega
       obtain⟨va,hva⟩:∃va,vs t=va:=⟨_,rfl⟩
       obtain⟨R,hR⟩:∃R,rof v t ps k++stk v k t path i'=R:=⟨_,rfl⟩
       have hc:=HTB'.out.row.cell (i:=t) htn
       have hfz:=HTB'.out.row.frozen t
       have hown:RO wr (H+1) va R:=by rw[←hva, ←hR];exact HTB'.out.own t htn
       rw[hva] at hc
       have hRl:R.length≤tot ps k+L:=by
        rw[←hR,List.length_append]
        have h1:=rof_len (v:=v) (s:=t) (ps:=ps) k
        have h2:=stk_len (v:=v) (f:=k) (s:=t) (path:=path) i'
        omega
       have HVR:Hid _:=And.intro hva hR
       have HO:Hid (RO wr (H+1) va R):=hown
       have HNE:Hid (some H≠va.ownBlock):=fun e=>by have:=(hown.block H e.symm).1;omega
       have hHlt:=HTB'.out.row.lt
       have hTo:=HT.out
       have HFIN:Hid (∀(g5 gc5:Nat) (w5:World),w5.ownsRow (H+1) 63 3 (.slice (some ⟨g5,0,none⟩) (R.length+1) gc5) (R.length+1) (rcs R++[.int .i64 v,.int .i64 k,.int .i64 y])→
        (wr.alloc (.cells #[.int .i64 v,.int .i64 k,.int .i64 y] 63)).grownBy w5 va.ownBlock→(va.ownBlock=some g5∨g5=wr.heap.size+1)→
        w5.cell? ⟨H,t,none⟩=some va∧w5.frozen? ⟨H,t,none⟩=false∧
        (TB (w5.setCell ⟨H,t,none⟩ (.slice (some ⟨g5,0,none⟩) (R.length+1) gc5)) H n (fun s=>if s=t then .slice (some ⟨g5,0,none⟩) (R.length+1) gc5 else vs s) (fun s=>rof v s ps k++stk v k s path (i'+1+1 - 1))∧
        Ext W1 (w5.setCell ⟨H,t,none⟩ (.slice (some ⟨g5,0,none⟩) (R.length+1) gc5)))):=fun g5 gc5 w5 hown5 hgr6 hat5=>by
        have hb5:w5.heap[H]? =wr.heap[H]?:=(hgr6.block H (by simp;omega) HNE.out).trans (blk_alloc_lt _ _ _ hHlt)
        have hE5:Ext W1 w5:=Below.grown (hE.alloc _) hgr6 (by have:=HW.out;simp;omega) (fun j hj=>by have:=(RO.block HO.out j hj).1;have:=HW.out;omega)
        have hpush:=TB.push (r:=(v,(k:Int),y)) HTB'.out htn (by rw[HVR.out.2];exact hown5) (by rw[HVR.out.1];exact hgr6) (by rw[HVR.out.1];exact hat5)
        rw[HVR.out.2] at hpush
        refine⟨(World.cell?_of_block (a:=⟨H,t,none⟩) hb5).trans hc,(World.frozen?_of_block (a:=⟨H,t,none⟩) hb5).trans hfz,hpush.congr (fun s _=>?_),hE5.setCell (by have:=HW.out;simp;omega) _⟩
        show _=rof v s ps k++stk v k s path (i'+1)
        rw[HST.out]
        by_cases e:s=t
        ·subst e;simp
        ·rw[if_neg e,if_neg (fun h=>e (by omega)),List.append_nil]
       clear hva hR hown HKP
       have p0:(0:Int)≤(i':Int)+1:=by omega
       go_wp2
       go_region_law
        (refine step_append_lies _ ?_ (.tmp 49) (.tmp 58) 57 ?_ (H+1) 63 i3' (.agg #[.int .i64 0,.int .i64 0,.int .i64 0]) 3 24 Try.underlying57 hi3 hz0 hz1 hz2 rfl (by decide) va R.length (rcs R) ?_ ?_ ⟨wr.heap.size,0,none⟩ 1 1 [.int .i64 v,.int .i64 k,.int .i64 y] ?_ ?_ ?_ (one3 _ _ _) ?_ ?_ ?_ ?_ _ rfl ?_
         ·rfl
         ·rfl
         ·rfl
         ·exact RO.ext HO.out ((Ext.refl wr).alloc _).drew
         ·rfl
         ·rfl
         ·exact World.news_of_block (cs:=#[.int .i64 v,.int .i64 k,.int .i64 y]) (blk_alloc_new wr _)
         ·omega
         ·unfold maxLen;omega
         ·omega
         ·simp;omega
         intro g5 gc5 w5 hown5 hgr5 hat5 hlt5
         have hfin:=HFIN.out g5 gc5 w5 hown5 ⟨hgr5.os,hgr5.tape,hgr5.output,hgr5.size,hgr5.block⟩ (hat5.imp id (fun h=>by simpa using h))
         have q1:=hfin.1
         have q2:=hfin.2.1
         have HG5:Hid _:=hfin.2.2
         clear hown5 hgr5 hat5 hlt5 hfin)
       all_goals(
        clear b0 b2 c1 c2 hc hfz q1 q2
        go_wp2
        exact⟨⟨i'+1+1,_,by omega,by omega,by go_num,HG5.out.1,HG5.out.2⟩,by simp[intOf];omega⟩)
    ·have HT2:Hid (TB wr H n vs (fun s=>rof v s ps (k+1))):=HTB'.out.congr (fun s hs=>by
      show rof v s ps k++stk v k s path i'=rof v s ps (k+1)
      rw[hr1.out s hs]
      congr 1
      by_cases e:path.length=i'+1
      ·rw[e,stk_last (by omega)]
      ·have e2:path.length=0:=by omega
       have e3:i'=0:=by omega
       rw[e2,e3])
     have i3:¬((i':Int)+1)<(L:Int):=by omega
     go_wp2
     exact⟨⟨k+1,vs,by omega,by go_num,HT2,hE⟩,by simp[intOf];omega⟩
  ·have hkq:k=ql:=by omega
   have HTB2:Hid (TB wr H n vs (fun s=>rof v s ps ql)):=by have:=HTB.out;rwa [hkq] at this
   go_wp2
   go_ret
   refine⟨vs,?_,?_,hE0.trans hE⟩
   ·rw[←HH.out];rfl
   ·rw[←HH.out];exact HTB2.out
end Go.Proofs.Ytolclgbpjiokfaa.Tb
namespace Go.Proofs.Ytolclgbpjiokfaa.Ct
open Go.RowKit Go.Deep Stw Stp Tb Rul
theorem TB.rq {w w' W:World} {H n:Nat} {vs:Nat→Value} {ts:Nat→List Ru} {Q:Nat→Prop} (h:TB w' H n vs ts) (hH:w.heap.size≤H) (hk:∀b,w.heap.size≤b→b<w'.heap.size→Q b∧b<W.heap.size∧W.heap[b]? =w'.heap[b]?) {s:Nat} (hs:s<n):
 W.cell? ⟨H,s,none⟩=some (vs s)∧RQ W Q (ts s) (vs s):=by
 have hlt:=h.row.lt
 refine⟨(World.cell?_of_block (a:=⟨H,s,none⟩) (hk H hH hlt).2.2).trans (h.row.cell hs),?_⟩
 have ho:=h.own s hs
 obtain⟨ao,cap,hv,hat,_⟩:=RO.form ho
 refine RQ.mono (w:=w') (Q:=fun b=>w.heap.size≤b) ⟨ao,cap,hv,?_⟩ (fun b hb hlt=>hk b hb hlt)
 rcases hat with h0 | ⟨g,off,rfl,hg,hcs⟩
 ·exact Or.inl h0
 ·by_cases h0:ts s=[]
  ·exact Or.inl h0
  ·rcases ho.2 with⟨h1,h2⟩ | ⟨g',c',cur,h1,h2,_⟩
   ·exact absurd (List.eq_nil_of_length_eq_zero h2) h0
   ·rw[hv] at h1
    cases h1
    exact Or.inr ⟨g,0,rfl,by omega,hg,hcs⟩
set_option maxRecDepth 100000 in
set_option maxHeartbeats 1600000 in
theorem adding1_any (v:Int) (p1 p2 H n s:Nat) (ro:Option Addr) (rl rc:Nat) (W:World) (h1:W.cell? ⟨p1,0,none⟩=some (.int .i64 v)) (h2:W.cell? ⟨p2,0,none⟩=some (.slice (some ⟨H,0,none⟩) n n)) (h3:W.cell? ⟨H,s,none⟩=some (.slice ro rl rc)) (hs:s<n)
 (l1:p1<W.heap.size) (l2:p2<W.heap.size) (l3:H<W.heap.size):
 Calls Try.prog 95 #[.int .i64 s,.pointer (some ⟨p1,0,none⟩),.pointer (some ⟨p2,0,none⟩)] W fun e w'=>e=.returned (.tuple #[.agg #[.int .i64 1,.int .i64 0,.int .i64 v,.slice ro rl rc,.slice none 0 0],.bool (decide (0<rl))])∧Ext W w':=by
 have i1:(s:Int)<(n:Int):=by omega
 have i2:(0:Int)≤(s:Int):=by omega
 go_enter Try.func95,Try.ntmps95
 go_wp2
 go_region
 go_wp2
 refine bodyPost_ret (v:=.tuple #[.agg #[.int .i64 1,.int .i64 0,.int .i64 v,.slice ro rl rc,.slice none 0 0],.bool (decide (0<rl))]) (by simp[results,Try.results95,go_sem]) rfl ⟨rfl,((Ext.refl W).alloc _).drew⟩
set_option maxRecDepth 100000 in
set_option maxHeartbeats 1600000 in
theorem dropping1_any (v:Int) (p1 p2 H n s:Nat) (ro:Option Addr) (rl rc:Nat) (W:World) (h1:W.cell? ⟨p1,0,none⟩=some (.int .i64 v)) (h2:W.cell? ⟨p2,0,none⟩=some (.slice (some ⟨H,0,none⟩) n n)) (h3:W.cell? ⟨H,s,none⟩=some (.slice ro rl rc)) (hs:s<n)
 (l1:p1<W.heap.size) (l2:p2<W.heap.size) (l3:H<W.heap.size):
 Calls Try.prog 110 #[.int .i64 s,.pointer (some ⟨p1,0,none⟩),.pointer (some ⟨p2,0,none⟩)] W fun e w'=>e=.returned (.tuple #[.agg #[.int .i64 3,.int .i64 0,.int .i64 v,.slice none 0 0,.slice none 0 0],.bool (decide (0<rl))])∧Ext W w':=by
 have i1:(s:Int)<(n:Int):=by omega
 have i2:(0:Int)≤(s:Int):=by omega
 go_enter Try.func110,Try.ntmps110
 go_wp2
 go_region
 go_wp2
 refine bodyPost_ret (v:=.tuple #[.agg #[.int .i64 3,.int .i64 0,.int .i64 v,.slice none 0 0,.slice none 0 0],.bool (decide (0<rl))]) (by simp[results,Try.results110,go_sem]) rfl ⟨rfl,((Ext.refl W).alloc _).drew⟩
theorem tot_take (ps:List (List Int)):∀k,k≤ps.length→tot ps k=((ps.take k).map List.length).sum
 | 0,_=>by simp[tot]
 | k+1,h=>by
  rw[tot,tot_take ps k (by omega),List.take_succ_eq_append_getElem (show k<ps.length by omega),List.map_append,List.sum_append,List.map_cons,List.map_nil,List.sum_cons,List.sum_nil,List.getD_eq_getElem?_getD,List.getElem?_eq_getElem (show k<ps.length by omega)]
  rfl
theorem tot_sum (ps:List (List Int)):tot ps ps.length=(ps.map List.length).sum:=by
 rw[tot_take ps _ (Nat.le_refl _),List.take_of_length_le (Nat.le_refl _)]
theorem pths_ps {w:World} {qo:Option Addr} {ps:List (List Int)} (h:PthsAt w qo ps):PsAt w qo ps:=by
 rcases h with h | ⟨g,off,h1,h2,h3⟩
 ·exact Or.inl h
 ·refine Or.inr ⟨g,off,h1,h2,fun k hk=>?_⟩
  obtain⟨v,k1,o,c,rfl,k2,_⟩:=h3 k hk
  exact⟨o,c,k1,k2⟩
theorem rls_len {p:Pl} (h:PlOk p) (s:Nat):(rls p s).length≤16777216:=Nat.le_trans (rof_len _) (by rw[tot_sum];exact h.tt)
def StepOf (F n:Nat) (ord:Nat→Option Wir.Od) (w0 w w':World) (e:Ending):Prop:=∃p1 p2,e=.returned (.func (.func F) #[] #[.pointer (some ⟨p1,0,none⟩),.pointer (some ⟨p2,0,none⟩)])∧Ext w w'∧Hid (∀(Q:Nat→Prop) (W:World),(∀b,w.heap.size≤b→b<w'.heap.size→Q b∧b<W.heap.size∧W.heap[b]? =w'.heap[b]?)→Ext w0 W→(∀b,W.heap.size≤b→Q b)→∀s:Nat,s<n→Calls Try.prog F #[.int .i64 s,.pointer (some ⟨p1,0,none⟩),.pointer (some ⟨p2,0,none⟩)] W fun e w''=>StOut Q (ord s) e w''∧Ext W w'')
theorem table_at {w w1 W:World} {H n:Nat} {vs:Nat→Value} {ts:Nat→List Ru} {Q:Nat→Prop} {pv:Int} {T:TypeId} (h:TB w1 H n vs ts) (hH:w.heap.size≤H) (l0:w.heap.size<w1.heap.size) (p1:w1.cell? ⟨w.heap.size,0,none⟩=some (.int .i64 pv))
 (hk:∀b,w.heap.size≤b→b<(w1.alloc (.cells #[.slice (some ⟨H,0,none⟩) n n] T)).heap.size→Q b∧b<W.heap.size∧W.heap[b]? =(w1.alloc (.cells #[.slice (some ⟨H,0,none⟩) n n] T)).heap[b]?) {s:Nat} (hs:s<n):
 W.cell? ⟨w.heap.size,0,none⟩=some (.int .i64 pv)∧W.cell? ⟨w1.heap.size,0,none⟩=some (.slice (some ⟨H,0,none⟩) n n)∧∃ro rc,W.cell? ⟨H,s,none⟩=some (.slice ro (ts s).length rc)∧RQ W Q (ts s) (.slice ro (ts s).length rc)∧w.heap.size<W.heap.size∧w1.heap.size<W.heap.size∧H<W.heap.size:=by
 have hlt:=h.row.lt
 have hs1:(w1.alloc (.cells #[.slice (some ⟨H,0,none⟩) n n] T)).heap.size=w1.heap.size+1:=by simp
 have k0:=hk w.heap.size (Nat.le_refl _) (by omega)
 have k1:=hk w1.heap.size (by omega) (by omega)
 have kH:=hk H hH (by omega)
 obtain⟨q1,q2⟩:=TB.rq (w:=w) (W:=W) (Q:=Q) (h.ext ((Ext.refl w1).alloc (.cells #[.slice (some ⟨H,0,none⟩) n n] T))) hH hk hs
 obtain⟨ro,rc,e,r3⟩:=q2
 refine⟨(World.cell?_of_block (a:=⟨w.heap.size,0,none⟩) k0.2.2).trans ((World.cell?_alloc_past _ _ _ l0).trans p1),(World.cell?_of_block (a:=⟨w1.heap.size,0,none⟩) k1.2.2).trans (by simp),ro,rc,by rw[q1,e],⟨ro,rc,rfl,r3⟩,k0.2.1,k1.2.1,kH.2.1⟩
theorem addO_some {p:Pl} {s:Nat}:(addO p s).isSome=decide (0<(rls p s).length):=by
 unfold addO
 cases rls p s <;> simp
theorem drpO_some {p:Pl} {s:Nat}:(drpO p s).isSome=decide (0<(rls p s).length):=by
 unfold drpO
 cases rls p s <;> simp
set_option maxRecDepth 100000 in
set_option maxHeartbeats 1600000 in
theorem adding_any (p:Pl) (a:PA) (n:Nat) (w0 w:World) (h:PlAt w p a) (hok:PlOk p) (hn:n≤8):
 Calls Try.prog 85 #[pvl p a,.int .i64 n] w fun e w'=>StepOf 95 n (addO p) w0 w w' e:=by
 obtain⟨pv,fs,ps⟩:=p
 obtain⟨fo,qo,fc,qc⟩:=a
 obtain⟨_,hq⟩:=h
 simp only at hq
 have htt:tot ps ps.length*24≤140737488351232:=by rw[tot_sum];have:=hok.tt;simp only at this;omega
 have hql:ps.length≤16777216:=hok.ql
 clear hok
 unfold pvl
 show Calls _ _ #[.agg #[.int .i64 pv,.slice fo fs.length fc,.slice qo ps.length qc],_] _ _
 go_enter Try.func85,Try.ntmps85
 go_wp2_with fail
 refine(Of_any pv fo qo fs.length fc ps.length qc n ps _ rfl (pths_ps (hq.ext ((Ext.refl w).alloc _))) (by omega) htt (by omega)).mono ?_
 rintro e w1 ⟨vs,rfl,hT,E1⟩
 rw[World.size_alloc] at hT
 have HT:=hidp hT
 have E0:Ext w w1:=((Ext.refl w).alloc _).trans E1
 have p1:w1.cell? ⟨w.heap.size,0,none⟩=some (.int .i64 pv):=(E1.cells.1 _ _ (by simp)).trans (by simp)
 have l0:w.heap.size<w1.heap.size:=by have:=E1.size;simp at this;omega
 clear hT
 go_wp2
 go_ret
 refine⟨w.heap.size,w1.heap.size,rfl,E0.alloc _,fun Q W hk _ _ s hs=>?_⟩
 obtain⟨t1,t2,ro,rc,t3,t4,m1,m2,m3⟩:=table_at (Q:=Q) (W:=W) HT.out (by omega) l0 p1 hk hs
 refine(adding1_any pv w.heap.size w1.heap.size _ n s ro _ rc W t1 t2 t3 hs m1 m2 m3).mono ?_
 rintro e w2 ⟨rfl,E2⟩
 refine⟨⟨1,pv,ro,none,(rof pv s ps ps.length).length,rc,0,0,?_,fun x hx=>?_⟩,E2⟩
 ·show _=Ending.returned (.tuple #[_,.bool (addO ⟨pv,fs,ps⟩ s).isSome])
  rw[addO_some];rfl
 ·unfold addO at hx
  split at hx
  ·cases hx
  ·cases hx
   exact⟨rfl,rfl,t4.mono (fun b hb hlt=>⟨hb,Nat.lt_of_lt_of_le hlt E2.size,Below.block E2 b hlt⟩),LQ.nil _ _⟩
set_option maxRecDepth 100000 in
set_option maxHeartbeats 1600000 in
theorem dropping_any (p:Pl) (a:PA) (n:Nat) (w0 w:World) (h:PlAt w p a) (hok:PlOk p) (hn:n≤8):
 Calls Try.prog 94 #[pvl p a,.int .i64 n] w fun e w'=>StepOf 110 n (drpO p) w0 w w' e:=by
 obtain⟨pv,fs,ps⟩:=p
 obtain⟨fo,qo,fc,qc⟩:=a
 obtain⟨_,hq⟩:=h
 simp only at hq
 have htt:tot ps ps.length*24≤140737488351232:=by rw[tot_sum];have:=hok.tt;simp only at this;omega
 have hql:ps.length≤16777216:=hok.ql
 clear hok
 unfold pvl
 show Calls _ _ #[.agg #[.int .i64 pv,.slice fo fs.length fc,.slice qo ps.length qc],_] _ _
 go_enter Try.func94,Try.ntmps94
 go_wp2_with fail
 refine(Of_any pv fo qo fs.length fc ps.length qc n ps _ rfl (pths_ps (hq.ext ((Ext.refl w).alloc _))) (by omega) htt (by omega)).mono ?_
 rintro e w1 ⟨vs,rfl,hT,E1⟩
 rw[World.size_alloc] at hT
 have HT:=hidp hT
 have E0:Ext w w1:=((Ext.refl w).alloc _).trans E1
 have p1:w1.cell? ⟨w.heap.size,0,none⟩=some (.int .i64 pv):=(E1.cells.1 _ _ (by simp)).trans (by simp)
 have l0:w.heap.size<w1.heap.size:=by have:=E1.size;simp at this;omega
 clear hT
 go_wp2
 go_ret
 refine⟨w.heap.size,w1.heap.size,rfl,E0.alloc _,fun Q W hk _ _ s hs=>?_⟩
 obtain⟨t1,t2,ro,rc,t3,_,m1,m2,m3⟩:=table_at (Q:=Q) (W:=W) HT.out (by omega) l0 p1 hk hs
 refine(dropping1_any pv w.heap.size w1.heap.size _ n s ro _ rc W t1 t2 t3 hs m1 m2 m3).mono ?_
 rintro e w2 ⟨rfl,E2⟩
 refine⟨⟨3,pv,none,none,0,0,0,0,?_,fun x hx=>?_⟩,E2⟩
 ·show _=Ending.returned (.tuple #[_,.bool (drpO ⟨pv,fs,ps⟩ s).isSome])
  rw[drpO_some];rfl
 ·unfold drpO at hx
  split at hx
  ·cases hx
  ·cases hx
   exact⟨rfl,rfl,RQ.nil _ _,LQ.nil _ _⟩
end Go.Proofs.Ytolclgbpjiokfaa.Ct
namespace Go.Proofs.Ytolclgbpjiokfaa.Ct
open Go.RowKit Go.Deep Stw Stp Tb Rul
set_option maxHeartbeats 400000 in
theorem begins_any (f:Stf.Fl) (vv nv:Value) (s:Int) (p:Nat) (w:World) (hp:w.cell? ⟨p,0,none⟩=some (.int .i64 s)) (hl:p<w.heap.size):
 Calls Try.prog 118 #[.agg #[.int .i64 f.fr,.int .i64 f.to,vv,nv],.pointer (some ⟨p,0,none⟩)] w fun e w'=>e=.returned (.bool (f.fr == s))∧Ext w w':=by
 go_enter Try.func118,Try.ntmps118
 go_wp2
 go_ret
 exact⟨rfl,(Ext.refl w).alloc _⟩
theorem beg_none {s:Int} {fs:List Stf.Fl}:∀{k:Nat},(∀j,j<k→(fs.getD j Fw.f0).fr≠s)→beg s fs k=[]
 | 0,_=>rfl
 | k+1,h=>by rw[beg,beg_none (fun j hj=>h j (by omega)),if_neg (h k (by omega))];rfl
theorem beg_mono {s:Int} {fs:List Stf.Fl} {j:Nat}:∀{k:Nat},j≤k→beg s fs k=[]→beg s fs j=[]
 | 0,h,e=>by rw[show j=0 by omega];rfl
 | k+1,h,e=>by
  rcases Nat.lt_or_ge j (k+1) with h1 | h1
  ·rw[beg,List.append_eq_nil_iff] at e
   exact beg_mono (by omega) e.1
  ·rw[show j=k+1 by omega];exact e
theorem beg_some {s:Int} {fs:List Stf.Fl} {j k:Nat} (hj:j<k) (h:(fs.getD j Fw.f0).fr=s):beg s fs k≠[]:=fun e=>by
 have:=beg_mono (j:=j+1) (by omega) e
 rw[beg,if_pos h] at this
 simp at this
theorem beg_len {s:Int} {fs:List Stf.Fl}:∀k,(beg s fs k).length≤k
 | 0=>Nat.le_refl _
 | k+1=>by
  have:=beg_len (s:=s) (fs:=fs) k
  rw[beg,List.length_append]
  split
  ·simp;omega
  ·simp;omega
def IxOut (s:Int) (fs:List Stf.Fl) (r:Int):Prop:=(r= -1∧beg s fs fs.length=[])∨(0≤r∧beg s fs fs.length≠[])
set_option maxRecDepth 100000 in
set_option maxHeartbeats 800000 in
theorem IndexFunc_any (fo:Option Addr) (fc:Nat) (fs:List Stf.Fl) (s:Int) (p:Nat) (w:World) (hf:Fw.FlowsAt w fo fs) (hfl:fs.length≤16777216) (hp0:w.cell? ⟨p,0,none⟩=some (.int .i64 s)) (hl0:p<w.heap.size):
 Calls Try.prog 122 #[.slice fo fs.length fc,.func (.func 118) #[] #[.pointer (some ⟨p,0,none⟩)]] w fun e w'=>∃r,e=.returned (.int .i64 r)∧Hid (IxOut s fs r)∧Ext w w':=by
 have HP:Hid (∀W,Ext w W→W.cell? ⟨p,0,none⟩=some (.int .i64 s)∧p<W.heap.size):=fun W hW=>⟨(hW.cells.1 _ _ hl0).trans hp0,Nat.lt_of_lt_of_le hl0 hW.size⟩
 clear hp0 hl0
 go_enter Try.func122,Try.ntmps122
 go_wp2
 go_loopw [8] (fun iv wd=>∃k:Nat,k≤fs.length∧iv=.int .i64 k∧Hid (∀j,j<k→(fs.getD j Fw.f0).fr≠s)∧Ext w wd) (fun iv _=>fs.length - (intOf iv).toNat)
 case atStart=>exact⟨0,Nat.zero_le _,rfl,hidp (fun j hj=>by omega),Ext.refl w⟩
 case round=>
  obtain⟨k,hk,rfl,HW,hE⟩:=hrel
  by_cases hlt:k<fs.length
  ·obtain⟨b,off,vo,vc,no,nc,a,t,X,Y,rfl,hb,hg,c0,c1,c2,c3,⟨_,_,e1,hv,hvc⟩,⟨_,_,e2,hn,hnc⟩⟩:=(hf.ext hE).get (k:=k) (by omega)
   cases e1
   cases e2
   have i1:(k:Int)<(fs.length:Int):=by omega
   have HG:=hidp hg
   clear hg
   obtain⟨p0,pl⟩:=HP.out _ hE
   go_wp2_with fail
   refine(begins_any ⟨a,t,X,Y⟩ _ _ s p _ p0 pl).mono ?_
   rintro e w1 ⟨rfl,E1⟩
   clear p0 pl c0 c1 c2 c3
   by_cases h1:a=s
   ·have HF:Hid (IxOut s fs k):=Or.inr ⟨by omega,beg_some hlt (by rw[HG.out];exact h1)⟩
    have b1:(a == s)=true:=by simpa using h1
    rw[show((⟨a,t,X,Y⟩:Stf.Fl).fr == s)=true from b1]
    clear h1 b1
    go_wp2
    go_ret
    exact⟨_,rfl,HF,hE.trans E1⟩
   ·have HW2:Hid (∀j,j<k+1→(fs.getD j Fw.f0).fr≠s):=hidp (fun j hj=>by
     by_cases e:j=k
     ·subst e;rw[HG.out];exact h1
     ·exact HW.out j (by omega))
    have b1:(a == s)=false:=by simpa using h1
    rw[show((⟨a,t,X,Y⟩:Stf.Fl).fr == s)=false from b1]
    clear h1 b1
    go_wp2
    exact⟨⟨k+1,by omega,by go_num,HW2,hE.trans E1⟩,by simp[intOf];omega⟩
  ·have HF:Hid (IxOut s fs (-1)):=Or.inl ⟨rfl,beg_none (fun j hj=>HW.out j (by omega))⟩
   have i1:¬(k:Int)<(fs.length:Int):=by omega
   clear HW
   go_wp2
   go_ret
   exact⟨_,rfl,HF,hE⟩
set_option maxRecDepth 100000 in
set_option maxHeartbeats 800000 in
theorem ContainsFunc_any (fo:Option Addr) (fc:Nat) (fs:List Stf.Fl) (s:Int) (p:Nat) (w:World) (hf:Fw.FlowsAt w fo fs) (hfl:fs.length≤16777216) (hp0:w.cell? ⟨p,0,none⟩=some (.int .i64 s)) (hl0:p<w.heap.size):
 Calls Try.prog 119 #[.slice fo fs.length fc,.func (.func 118) #[] #[.pointer (some ⟨p,0,none⟩)]] w fun e w'=>e=.returned (.bool (decide (beg s fs fs.length≠[])))∧Ext w w':=by
 have HA:=hidp (IndexFunc_any fo fc fs s p w hf hfl hp0 hl0)
 clear hf hfl hp0 hl0
 go_enter Try.func119,Try.ntmps119
 go_wp2_with fail
 refine Calls.mono HA.out ?_
 rintro e w1 ⟨r,rfl,HI,E1⟩
 clear HA
 rcases HI.out with⟨rfl,hv⟩ | ⟨h0,hv⟩
 ·have HV:Hid (decide (beg s fs fs.length≠[])=false):=by show _=_;simpa using hv
  clear hv HI
  go_wp2
  go_ret
  exact⟨by rw[HV.out];first | done | rfl,E1⟩
 ·have HV:Hid (decide (beg s fs fs.length≠[])=true):=by show _=_;simpa using hv
  clear hv HI
  go_wp2
  go_ret
  exact⟨by rw[HV.out];first | done | rfl,E1⟩
structure OSt (P:Nat) (w0 w:World) (v:Int) (fv:Value) (L:List Int):Prop where
 row:w.rowIs P 135 5 (fun j=>([.int .i64 2,.int .i64 0,.int .i64 v,.slice none 0 0,fv]:List Value).getD j vd)
 own:w.ownsRow (P+1) 3 1 fv L.length (L.map (Value.int .i64))
 bel:Below P w0 w
theorem OSt.ext {P:Nat} {w0 w w':World} {v:Int} {fv:Value} {L:List Int} (h:OSt P w0 w v fv L) (E:Ext w w'):OSt P w0 w' v fv L:=
 ⟨h.row.of_block (Below.block E _ h.row.lt),own_extU h.own E,below_ext h.bel E (by have:=h.row.lt;omega)⟩
theorem OSt.push {P g c:Nat} {w0 w w':World} {v x:Int} {fv:Value} {L:List Int} {o:Obj} (h:OSt P w0 w v fv L)
 (hown:w'.ownsRow (P+1) 3 1 (.slice (some ⟨g,0,none⟩) (L.length+1) c) (L.length+1) (L.map (Value.int .i64)++[.int .i64 x])) (hg:(w.alloc o).grownBy w' fv.ownBlock):
 w'.cell? ⟨P,4,none⟩=some fv∧w'.frozen? ⟨P,4,none⟩=false∧OSt P w0 (w'.setCell ⟨P,4,none⟩ (.slice (some ⟨g,0,none⟩) (L.length+1) c)) v (.slice (some ⟨g,0,none⟩) (L.length+1) c) (L++[x]):=by
 have hP:=h.row.lt
 have hneP:some P≠fv.ownBlock:=fun e=>by have:=(h.own.lt P e.symm).1;omega
 have hr:=h.row.of_block ((hg.block P (by simp;omega) hneP).trans (blk_alloc_lt _ _ _ hP))
 refine⟨hr.cell (i:=4) (by omega),hr.frozen 4,((hr.set 4 _).congr (fun j _=>(getD_put (by simp) j).trans rfl)),?_,?_⟩
 ·have:=ownsRow_setCell_below hown (a:=⟨P,4,none⟩) (by simp) (.slice (some ⟨g,0,none⟩) (L.length+1) c)
  simpa using this
 ·exact(Below.grown (h.bel.alloc (by omega) o) hg (by simp;omega) (fun j hj=>by have:=(h.own.lt j hj).1;omega)).setCell (by simp) _
end Go.Proofs.Ytolclgbpjiokfaa.Ct
