/- What Find tells, in plain words. -/
import Derived.Test.YtolclgbpjiokfaaU11
import Derived.Test.YtolclgbpjiokfaaU09
import Derived.Test.YtolclgbpjiokfaaU06
namespace Go.Proofs.Ytolclgbpjiokfaa.Ct
open Go.RowKit Go.Deep Stw Stp Tb Rul
theorem full_true {n k:Nat} {a b:Pl} (hk:k<n) (h:16<(rls a k).length+(rls b k).length):full n a b=true:=by
 unfold full
 rw[List.any_eq_true]
 exact⟨k,List.mem_range.2 hk,by simpa using h⟩
theorem full_false {n:Nat} {a b:Pl} (h:∀j,j<n→(rls a j).length+(rls b j).length≤16):full n a b=false:=by
 unfold full
 rw[List.any_eq_false]
 intro x hx
 have:=h x (List.mem_range.1 hx)
 simp
 omega
set_option maxRecDepth 100000 in
set_option maxHeartbeats 1600000 in
theorem haveRoom_any (now nxt:Pl) (an ax:PA) (n:Nat) (w:World) (hn:PlAt w now an) (hx:PlAt w nxt ax) (hnk:PlOk now) (hxk:PlOk nxt) (h8:n≤8):
 Calls Try.prog 82 #[pvl now an,pvl nxt ax,.int .i64 n] w fun e w'=>e=.returned (.bool (!full n now nxt))∧Ext w w':=by
 have HL1:Hid (∀s,(rls now s).length≤16777216):=hidp (rls_len hnk)
 have HL2:Hid (∀s,(rls nxt s).length≤16777216):=hidp (rls_len hxk)
 obtain⟨nv,nfs,nps⟩:=now
 obtain⟨nfo,nqo,nfc,nqc⟩:=an
 obtain⟨xv,xfs,xps⟩:=nxt
 obtain⟨xfo,xqo,xfc,xqc⟩:=ax
 have hnq:PthsAt w nqo nps:=hn.hq
 have hxq:PthsAt w xqo xps:=hx.hq
 have ht1:tot nps nps.length*24≤140737488351232:=by rw[tot_sum];have:=hnk.tt;simp only at this;omega
 have ht2:tot xps xps.length*24≤140737488351232:=by rw[tot_sum];have:=hxk.tt;simp only at this;omega
 have hl1:nps.length≤16777216:=hnk.ql
 have hl2:xps.length≤16777216:=hxk.ql
 clear hn hx hnk hxk
 unfold pvl
 show Calls _ _ #[.agg #[.int .i64 nv,.slice nfo nfs.length nfc,.slice nqo nps.length nqc],.agg #[.int .i64 xv,.slice xfo xfs.length xfc,.slice xqo xps.length xqc],_] _ _
 go_enter Try.func82,Try.ntmps82
 go_wp2_with fail
 have hE0:Ext w ((w.alloc (.cells #[.int .i64 nv,.slice nfo nfs.length nfc,.slice nqo nps.length nqc] 30)).alloc (.cells #[.int .i64 xv,.slice xfo xfs.length xfc,.slice xqo xps.length xqc] 30)):=((Ext.refl w).alloc _).alloc _
 refine(Of_any xv xfo xqo xfs.length xfc xps.length xqc n xps _ rfl (pths_ps (hxq.ext hE0)) (by omega) ht2 (by omega)).mono ?_
 rintro e w1 ⟨vs1,rfl,hT1,E1⟩
 have q0:w1.cell? ⟨w.heap.size,0,none⟩=some (.int .i64 nv):=(E1.cells.1 _ _ (by simp;omega)).trans (by simp)
 have q1:w1.cell? ⟨w.heap.size,1,none⟩=some (.slice nfo nfs.length nfc):=(E1.cells.1 _ _ (by simp;omega)).trans (by simp)
 have q2:w1.cell? ⟨w.heap.size,2,none⟩=some (.slice nqo nps.length nqc):=(E1.cells.1 _ _ (by simp;omega)).trans (by simp)
 rw[World.size_alloc,World.size_alloc] at hT1
 have HT1:=hidp hT1
 clear hT1
 have hE1:=hE0.trans E1
 go_wp2_with fail
 refine(Of_any nv nfo nqo nfs.length nfc nps.length nqc n nps _ rfl (pths_ps (hnq.ext hE1)) (by omega) ht1 (by omega)).mono ?_
 rintro e w2 ⟨vs2,rfl,hT2,E2⟩
 have HT2:=hidp hT2
 clear hT2
 have hE2:=hE1.trans E2
 have HT1':=hidp (HT1.out.ext E2)
 clear q0 q1 q2 HT1
 go_wp2
 go_loopw [17] (fun iv wr=>∃k:Nat,k≤n∧iv=.int .i64 k∧Hid (∀j,j<k→(rls ⟨nv,nfs,nps⟩ j).length+(rls ⟨xv,xfs,xps⟩ j).length≤16)∧Ext w2 wr) (fun iv _=>n - (intOf iv).toNat)
 case atStart=>exact⟨0,Nat.zero_le _,rfl,hidp (fun j hj=>by omega),Ext.refl w2⟩
 case round=>
  obtain⟨k,hk,rfl,HW,hE⟩:=hrel
  by_cases hlt:k<n
  ·have i1:(k:Int)<(n:Int):=by omega
   have t1:=(HT1'.out.ext hE)
   have t2:=(HT2.out.ext hE)
   obtain⟨o1,p1,e1,_⟩:=RO.form (t1.own k hlt)
   obtain⟨o2,p2,e2,_⟩:=RO.form (t2.own k hlt)
   have c1:=t1.row.cell (i:=k) hlt
   have c2:=t2.row.cell (i:=k) hlt
   rw[e1] at c1
   rw[e2] at c2
   have m1:=HL1.out k
   have m2:=HL2.out k
   have HD:Hid (16<(rls ⟨nv,nfs,nps⟩ k).length+(rls ⟨xv,xfs,xps⟩ k).length→full n ⟨nv,nfs,nps⟩ ⟨xv,xfs,xps⟩=true):=full_true hlt
   have HW2:Hid ((rls ⟨nv,nfs,nps⟩ k).length+(rls ⟨xv,xfs,xps⟩ k).length≤16→∀j,j<k+1→(rls ⟨nv,nfs,nps⟩ j).length+(rls ⟨xv,xfs,xps⟩ j).length≤16):=fun h j hj=>by
    by_cases e:j=k
    ·subst e;exact h
    ·exact HW.out j (by omega)
   obtain⟨L1,h1⟩:∃L,(rls ⟨xv,xfs,xps⟩ k).length=L:=⟨_,rfl⟩
   obtain⟨L2,h2⟩:∃L,(rls ⟨nv,nfs,nps⟩ k).length=L:=⟨_,rfl⟩
   have c1':wr.cell? ⟨w.heap.size+1+1+1,k,none⟩=some (.slice o1 L1 p1):=by rw[←h1];exact c1
   have c2':wr.cell? ⟨w1.heap.size+1,k,none⟩=some (.slice o2 L2 p2):=by rw[←h2];exact c2
   rw[h1] at m2 HD HW2
   rw[h2] at m1 HD HW2
   clear t1 t2 e1 e2 c1 c2 h1 h2
   by_cases hs:16<L2+L1
   ·have HF:=hidp (HD.out hs)
    have i2:(16:Int)<(L2:Int)+(L1:Int):=by omega
    clear hs
    go_wp2
    go_ret
    exact⟨by rw[HF.out];first | done | rfl,hE2.trans hE⟩
   ·have HF:=hidp (HW2.out (by omega))
    have i2:¬(16:Int)<(L2:Int)+(L1:Int):=by omega
    clear hs
    go_wp2
    exact⟨⟨k+1,by omega,by go_num,HF,hE⟩,by simp[intOf];omega⟩
  ·have HF:Hid (full n ⟨nv,nfs,nps⟩ ⟨xv,xfs,xps⟩=false):=full_false (fun j hj=>HW.out j (by omega))
   have i1:¬(k:Int)<(n:Int):=by omega
   clear HW
   go_wp2
   go_ret
   exact⟨by rw[HF.out];first | done | rfl,hE2.trans hE⟩
end Go.Proofs.Ytolclgbpjiokfaa.Ct
namespace Go.Proofs.Ytolclgbpjiokfaa
open Go.RowKit Go.Maps Stw Go.Deep Stp
theorem costs_one {cs:Array Value} {ls:List Lk} (hcs:cs.size=64) (hcc:∀a b:Nat,a<8→b<8→cs[a*8+b]? =some (.int .i64 (cost ls a b))):cs.all (·.oneCell')=true:=by
 rw[Array.all_eq_true]
 intro i hi
 have:=hcc (i / 8) (i % 8) (by omega) (by omega)
 rw[show i / 8*8+i % 8=i by omega,Array.getElem?_eq_getElem hi] at this
 injection this with this
 rw[this];rfl
theorem costs_block {w W:World} {cs A:Array Value} (h:(w.alloc (.cells A 104)).setRow w.heap.size cs=W):W.heap[w.heap.size]? =some (.cells cs 104 (0,0))∧Ext w W∧W.heap.size=w.heap.size+1:=by
 subst h
 exact⟨setRow_heap _ _ _ cs _ _ (blk_alloc_new _ _),below_setRow ((Below.refl _ _).alloc (Nat.le_refl _) _) (Nat.le_refl _) _,by simp⟩
theorem PSt.keepF {P:Nat} {w0 w w':World} {o:Obj} {v0 fv qv v:Value} {kf kq g c:Nat} {FV FV' V:List Value} {fs:List Stf.Fl} {ps:List (List Int)} {p:List Int} (h:PSt P w0 w v0 fv qv kf kq FV V fs ps) (hp:LQ w (Qn P fv qv) p v)
 (hown:w'.ownsRow (P+1) 55 4 (.slice (some ⟨g,0,none⟩) (kf+1) c) (kf+1) FV') (hg:(w.alloc o).grownBy w' fv.ownBlock) (hat:fv.ownBlock=some g∨g=w.heap.size+1):
 LQ (w'.setCell ⟨P,1,none⟩ (.slice (some ⟨g,0,none⟩) (kf+1) c)) (Qn P (.slice (some ⟨g,0,none⟩) (kf+1) c) qv) p v:=by
 have hP:=h.row.lt
 have hge:P+1≤g:=(hown.lt g rfl).1
 have hs:=hg.size
 rw[World.size_alloc] at hs
 refine hp.mono (fun b hb hlt=>?_)
 have hb1:=hb.1
 refine⟨⟨hb.1,hb.2.1,fun e=>?_⟩,by simp;omega,(blk_setCell_other _ _ _ _ (by simp;omega)).trans ((hg.block b (by simp;omega) (fun e=>hb.2.2 e.symm)).trans (blk_alloc_lt _ _ _ hlt))⟩
 have e':g=b:=by simpa[Value.ownBlock] using e
 rcases hat with k | k
 ·exact hb.2.2 (by rw[k,e'])
 ·omega
theorem LQ.ext {w w':World} {Q:Nat→Prop} {ps:List Int} {v:Value} (h:LQ w Q ps v) (E:Ext w w'):LQ w' Q ps v:=h.mono (fun b hb hlt=>⟨hb,Nat.lt_of_lt_of_le hlt E.size,Below.block E b hlt⟩)
theorem plan7 {P:Nat} {w0 w w':World} {o:Obj} {v0 fv qv v n u:Value} {kf kq g c:Nat} {FV V:List Value} {fs:List Stf.Fl} {ps:List (List Int)} {f:Stf.Fl} {p:List Int} (h:PSt P w0 w v0 fv qv kf kq FV V fs ps) (kv:LQ w (Qn P fv qv) f.via v) (kn:LQ w (Qn P fv qv) f.nt n) (kp:LQ w (Qn P fv qv) p u)
 (hown:w'.ownsRow (P+1) 55 4 (.slice (some ⟨g,0,none⟩) (kf+1) c) (kf+1) (FV++[.int .i64 f.fr,.int .i64 f.to,v,n])) (hg:(w.alloc o).grownBy w' fv.ownBlock) (hat:fv.ownBlock=some g∨g=w.heap.size+1):
 w'.cell? ⟨P,1,none⟩=some fv∧w'.frozen? ⟨P,1,none⟩=false∧w'.cell? ⟨P,2,none⟩=some qv∧PSt P w0 (w'.setCell ⟨P,1,none⟩ (.slice (some ⟨g,0,none⟩) (kf+1) c)) v0 (.slice (some ⟨g,0,none⟩) (kf+1) c) qv (kf+1) kq (FV++[.int .i64 f.fr,.int .i64 f.to,v,n]) V (fs++[f]) ps∧LQ (w'.setCell ⟨P,1,none⟩ (.slice (some ⟨g,0,none⟩) (kf+1) c)) (Qn P (.slice (some ⟨g,0,none⟩) (kf+1) c) qv) p u:=by
 have hP:=h.row.lt
 have hneP:some P≠fv.ownBlock:=fun e=>by have:=(h.ownF.lt P e.symm).1;omega
 have hr:=h.row.of_block ((hg.block P (by simp;omega) hneP).trans (blk_alloc_lt _ _ _ hP))
 exact⟨hr.cell (i:=1) (by omega),hr.frozen 1,hr.cell (i:=2) (by omega),h.pushF kv kn hown hg hat,h.keepF kp hown hg hat⟩
theorem plan9 {P:Nat} {w0 w w':World} {o:Obj} {v0 fv qv v:Value} {kf kq g c:Nat} {FV V:List Value} {fs:List Stf.Fl} {ps:List (List Int)} {p:List Int} (h:PSt P w0 w v0 fv qv kf kq FV V fs ps) (kv:LQ w (Qn P fv qv) p v)
 (hown:w'.ownsRow (P+1) 51 1 (.slice (some ⟨g,0,none⟩) (kq+1) c) (kq+1) (V++[v])) (hg:(w.alloc o).grownBy w' qv.ownBlock) (hat:qv.ownBlock=some g∨g=w.heap.size+1):
 w'.cell? ⟨P,2,none⟩=some qv∧w'.frozen? ⟨P,2,none⟩=false∧PSt P w0 (w'.setCell ⟨P,2,none⟩ (.slice (some ⟨g,0,none⟩) (kq+1) c)) v0 fv (.slice (some ⟨g,0,none⟩) (kq+1) c) kf (kq+1) FV (V++[v]) fs (ps++[p]):=by
 have hP:=h.row.lt
 have hneP:some P≠qv.ownBlock:=fun e=>by have:=(h.ownQ.lt P e.symm).1;omega
 have hr:=h.row.of_block ((hg.block P (by simp;omega) hneP).trans (blk_alloc_lt _ _ _ hP))
 exact⟨hr.cell (i:=2) (by omega),hr.frozen 2,h.pushQ kv hown hg hat⟩
theorem take_flow {fs:List Stf.Fl} {k:Nat} (h:k<fs.length):fs.take (k+1)=fs.take k++[fs.getD k Fw.f0]:=by
 rw[List.take_succ_eq_append_getElem h]
 simp[List.getD_eq_getElem?_getD,h]
set_option maxRecDepth 100000 in
set_option maxHeartbeats 16000000 in
theorem Plan_new (n version:Int) (ao:Option Addr) (len cap:Nat) (ls:List Lk) (lo:Option Addr) (ll lc:Nat) (fs:List Stf.Fl) (w:World) (hlen:ls.length=len) (hl:NetAt w ao ls) (hx:len≤9223372036854775807) (hI:I64 n)
 (hll:fs.length=ll) (hf:Fw.FlowsAt w lo fs) (hS:Fw.Sm fs) (hlx:ll≤9223372036854775807):
 Calls Try.prog 29 #[.agg #[.int .i64 n,.slice ao len cap],.int .i64 version,.slice lo ll lc] w fun e w'=>PlanNew w w' e n version ls fs:=by
 go_enter Try.func29,Try.ntmps29
 go_wp2_with fail
 refine(Wrong_any n ao len cap ls _ hlen (hl.ext ((((Ext.refl w).alloc _).alloc _).alloc _)) hx).mono ?_
 rintro e w1 ⟨rfl,E1⟩
 have hw1:Ext w w1:=((((Ext.refl w).alloc _).alloc _).alloc _).trans E1
 have hpb:=(PB.start w n ao len cap).ext E1
 have HPB:=hidp hpb
 obtain⟨s1,n0,n1,p0,p1,p2,f0,f1,z1,z2⟩:=hpb
 have s0:w.heap.size+1<w1.heap.size:=by omega
 have s00:w.heap.size<w1.heap.size:=by omega
 by_cases hr:(wrong n ls).1=0
 ·have hright:=right_of hr
  have HW:=hidp hr
  rw[hright.wrong]
  clear hr
  by_cases hv:version<1∨1000<version
  ·have HP:=hidp (plnF_range (fs:=fs) HW.out hv)
   rcases hv with hv | hv
   ·go_wp2
    refine bodyPost_ret_by (plan_ret Try.results29 rfl rfl (((c5_sets (by omega) HPB.out.c5).alloc (by simp;omega) (by simp;omega) _))) rfl (planN_bad HP.out (by simp) ?_)
    exact((((((hw1).setCell (by simp) _).setCell (by simp) _).setCell (by simp) _).setCell (by simp;omega) _).setCell (by simp;omega) _).alloc _
   ·go_wp2
    refine bodyPost_ret_by (plan_ret Try.results29 rfl rfl (((c5_sets (by omega) HPB.out.c5).alloc (by simp;omega) (by simp;omega) _))) rfl (planN_bad HP.out (by simp) ?_)
    exact((((((hw1).setCell (by simp) _).setCell (by simp) _).setCell (by simp) _).setCell (by simp;omega) _).setCell (by simp;omega) _).alloc _
  ·have hv1:¬version<1:=fun h=>hv (Or.inl h)
   have hv2:¬1000<version:=fun h=>hv (Or.inr h)
   have HV:=hidp hv
   clear hv
   go_wp2_with fail
   refine(Fw.Wrong_any lo ll lc n fs _ hll (hf.ext (hw1.alloc _)) hI hS hlx).mono ?_
   rintro e w2 ⟨rfl,E2⟩
   have E2':Ext w1 w2:=((Ext.refl w1).alloc _).trans E2
   have hw2:Ext w w2:=hw1.trans E2'
   have hpb2:=HPB.out.ext E2'
   have HPB2:=hidp hpb2
   clear n0 n1 p0 p1 p2 f0 f1 z1 z2 HPB
   obtain⟨s2,n0,n1,p0,p1,p2,f0,f1,z1,z2⟩:=hpb2
   have s02:w.heap.size+1<w2.heap.size:=by omega
   have s002:w.heap.size<w2.heap.size:=by omega
   by_cases hwf:(Stf.wflows fs n).1=0
   ·have HWF:=hidp hwf
    have h12:=wflows_len hwf
    have hwf':((Stf.wflows fs n).1 != 0)=false:=by simpa using hwf
    clear hwf
    obtain⟨nn,rfl⟩:=Int.eq_ofNat_of_zero_le (show 0≤n by have:=hright.bounds;omega)
    go_wp2_with fail
    refine(costsOf_right nn ao len cap ls _ hlen (hl.ext (hw2.alloc _)) hx (hright.wrong)).mono ?_
    rintro e w3 ⟨cs,rfl,hcs,hcc,E3⟩
    have E3':Ext w2 w3:=((Ext.refl w2).alloc _).trans E3
    have hw3:Ext w w3:=hw2.trans E3'
    have hpb3:=HPB2.out.ext E3'
    have HPB3:=hidp hpb3
    clear n0 n1 p0 p1 p2 f0 f1 z1 z2 HPB2 E1 E2 E3
    obtain⟨s3,n0,n1,p0,p1,p2,f0,f1,z1,z2⟩:=hpb3
    have s03:w.heap.size+1<w3.heap.size:=by omega
    have s003:w.heap.size<w3.heap.size:=by omega
    have hone:=costs_one hcs hcc
    have hi2:(Try.prog.info? 104).map (·.size)=some cs.size:=by rw[hcs];kernel_rfl
    go_wp2_with (refine wpList_store_row rfl 104 (.tmp 10) (.tmp 41) rfl w3.heap.size cs rfl rfl 104 _ (blk_alloc_new _ _) hi2 (by rw[hcs];rfl) hone ?_;generalize hW:World.setRow _ _ _=w4;have h4:=costs_block hW;clear hW;obtain⟨hb4,hE4,hz4⟩:=h4;have HZ4:=hidp hz4;have l4:w3.heap.size<w4.heap.size:=(by omega);clear hz4)
    clear n0 n1 p0 p1 p2 f0 f1 z1 z2
    have HP4:=hidp (HPB3.out.ext hE4)
    have hw4:Ext w w4:=hw3.trans hE4
    have hs4:w.heap.size+1+1<w4.heap.size:=HP4.out.sz
    clear hone hE4 HPB3 s3 s03 s003
    go_loopw [46] (fun iv wr=>∃(k:Nat) (fv qv:Value) (FV V:List Value),k≤ll∧iv=.int .i64 k∧(∀j,j<k→(fnd nn ls (fs.getD j Fw.f0)).1=0)∧PSt w4.heap.size w4 wr (.int .i64 version) fv qv k k FV V (fs.take k) ((plnP nn ls fs).take k)) (fun iv _=>ll - (intOf iv).toNat)
    case atStart=>
     exact⟨0,.slice none 0 0,.slice none 0 0,[],[],Nat.zero_le _,rfl,fun j hj=>by omega,pst_start rfl _⟩
    case round=>
     obtain⟨k,fv,qv,FV,V,hk,rfl,hpre,hps⟩:=hrel
     have hEr:Ext w wr:=Below.trans hw4 (hps.bel.mono (by omega))
     have hpr:=HP4.out.below hps.bel hs4
     have HPr:=hidp hpr
     have HPre:=hidp hpre
     have HPS:=hidp hps
     have hPl:=hps.row.lt
     have hbr:wr.heap[w3.heap.size]? =some (.cells cs 104 (0,0)):=(Below.block hps.bel _ l4).trans hb4
     clear hpre
     obtain⟨sr,n0,n1,p0,p1,p2,f0,f1,z1,z2⟩:=hpr
     have sr0:w.heap.size+1<wr.heap.size:=by omega
     have sr00:w.heap.size<wr.heap.size:=by omega
     have l3r:w3.heap.size<wr.heap.size:=by omega
     by_cases hlt:k<ll
     ·obtain⟨b,off,vo,vc,no,nc,a,t,X,Y,rfl,hb,hg,c0,c1,c2,c3,⟨_,_,e1,hv,hvc⟩,⟨_,_,e2,hn,hnc⟩⟩:=(hf.ext hEr).get (k:=k) (by omega)
      cases e1
      cases e2
      have hsm:=hS.get (k:=k) (by omega) hg
      have HG:=hidp hg
      have i1:(k:Int)<(ll:Int):=by omega
      clear hg hps
      have hl1:(wr.alloc (.cells #[.int .i64 a,.int .i64 t,.slice vo X.length vc,.slice no Y.length nc] 55)).heap[w3.heap.size]? =some (.cells cs 104 (0,0)):=(blk_alloc_lt _ _ _ l3r).trans hbr
      go_wp2_with (refine wpList_load_row rfl 104 (.tmp 10) rfl w3.heap.size rfl 104 cs (0,0) _ hl1 Try.underlying104 rfl hi2 ?_)
      have hwk:Stf.wflow ⟨a,t,X,Y⟩ nn=0:=by rw[←HG.out];exact wflows_all HWF.out k (by omega)
      have HWK:=hidp hwk
      have hF:=rightF_of hwk
      clear hwk
      obtain⟨frn,rfl⟩:=Int.eq_ofNat_of_zero_le hF.fr.1
      have hbd:=hright.bounds
      have hfr8:frn<8:=by have:=hF.fr.2;simp at this;omega
      have HC:Hid (∀a b,0≤cost ls a b∧cost ls a b≤1000):=fun a b=>⟨(hright.cost a b).1,(hright.cost a b).2.1⟩
      have HN1:Hid (∀x∈Y,0≤x∧x<8):=fun x hx=>by have:=hF.nt x hx;simp only at this;omega
      have HN2:Hid (¬(frn:Int)∈Y):=fun h=>(hF.nt _ h).2.2.1 rfl
      have hX8:X.length≤8:=rng_len 8 X hF.vnd (fun x hx=>by have:=hF.via x hx;simp only at this;omega)
      have hY8:Y.length≤8:=rng_len 8 Y hF.nnd (fun x hx=>by have:=hF.nt x hx;simp only at this;omega)
      clear hF hbd
      refine(cheapest_any (C:=cost ls) HC.out frn t vo no vc nc X Y _ hfr8 hsm.1 hsm.2 (hv.ext ((Ext.refl wr).alloc _)) (hn.ext ((Ext.refl wr).alloc _)) HN1.out HN2.out cs hcs hcc).mono ?_
      rintro e w5 ⟨E5,ho⟩
      have E5':Ext wr w5:=((Ext.refl wr).alloc _).trans E5
      have hE5:=hEr.trans E5'
      have hP5:=HPr.out.ext E5'
      have HP5:=hidp hP5
      clear n0 n1 p0 p1 p2 f0 f1 z1 z2 c0 c1 c2 c3
      have hs5:=E5'.size
      have hF5:wr.heap.size<w5.heap.size:=by have:=E5.size;simp at this;omega
      cases hfi:find (cost ls) frn t X Y with
      | none=>
       rw[hfi] at ho
       have ho':=FOut.none ho
       subst ho'
       have HP:=hidp (plnF_bad (version:=version) HW.out HV.out HWF.out (k:=k) (by omega) HPre.out (by rw[HG.out,fnd_none HW.out HWK.out hfi];decide))
       have HFN:=hidp (fnd_none HW.out HWK.out hfi)
       clear hfi ho
       obtain⟨s5,n0,n1,p0,p1,p2,f0,f1,z1,z2⟩:=hP5
       have s05:w.heap.size+1<w5.heap.size:=by omega
       go_wp2
       refine bodyPost_ret_by (plan_ret Try.results29 rfl rfl (c5_sets (by omega) HP5.out.c5)) rfl ?_
       have hq:=planN_bad (w:=w) (w':=((((((w5.setCell ⟨w.heap.size+1,0,none⟩ (.int .i64 0)).setCell ⟨w.heap.size+1,1,none⟩ (.slice none 0 0)).setCell ⟨w.heap.size+1,2,none⟩ (.slice none 0 0)).setCell ⟨w.heap.size+1+1,0,none⟩ (.int .i64 9)).setCell ⟨w.heap.size+1+1,1,none⟩ (.int .i64 k)))) (r:=(9,(k:Int))) (by rw[HP.out,HG.out,HFN.out]) (by simp) ((((((hE5).setCell (by simp) _).setCell (by simp) _).setCell (by simp) _).setCell (by simp;omega) _).setCell (by simp;omega) _)
       exact hq
      | some y=>
       obtain⟨p,c⟩:=y
       rw[hfi] at ho
       obtain⟨g,gcap,rfl,hg1,hg2,hg3,hg4⟩:=ho
       have HFN:=hidp (fnd_some HW.out HWK.out hfi)
       clear hfi
       obtain⟨s5,n0,n1,p0,p1,p2,f0,f1,z1,z2⟩:=hP5
       clear n0 n1 p0 p1 p2 f0 f1 z1 z2 hl1 hb4 hbr
       have hps5:=HPS.out.ext E5'
       have q1:w5.cell? ⟨w4.heap.size,1,none⟩=some fv:=hps5.row.cell (i:=1) (by omega)
       have HPS5:=hidp hps5
       have hP5':=hps5.row.lt
       clear hps5
       have c0:w5.cell? ⟨wr.heap.size,0,none⟩=some (.int .i64 frn):=(E5.cells.1 _ _ (by simp)).trans (by simp)
       have c1:w5.cell? ⟨wr.heap.size,1,none⟩=some (.int .i64 t):=(E5.cells.1 _ _ (by simp)).trans (by simp)
       have c2:w5.cell? ⟨wr.heap.size,2,none⟩=some (.slice vo X.length vc):=(E5.cells.1 _ _ (by simp)).trans (by simp)
       have c3:w5.cell? ⟨wr.heap.size,3,none⟩=some (.slice no Y.length nc):=(E5.cells.1 _ _ (by simp)).trans (by simp)
       have HB:Hid (∀W,Ext w5 W→W.cell? ⟨w4.heap.size,1,none⟩=some fv∧W.cell? ⟨wr.heap.size,0,none⟩=some (.int .i64 frn)∧W.cell? ⟨wr.heap.size,1,none⟩=some (.int .i64 t)∧W.cell? ⟨wr.heap.size,2,none⟩=some (.slice vo X.length vc)∧W.cell? ⟨wr.heap.size,3,none⟩=some (.slice no Y.length nc)):=fun W h=>
        ⟨(h.cells.1 _ _ hP5').trans q1,(h.cells.1 _ _ hF5).trans c0,(h.cells.1 _ _ hF5).trans c1,(h.cells.1 _ _ hF5).trans c2,(h.cells.1 _ _ hF5).trans c3⟩
       have HLP:Hid (LQ w5 (fun b=>wr.heap.size≤b) p (.slice (some ⟨g,0,none⟩) p.length gcap)):=⟨_,_,rfl,Or.inr ⟨g,0,rfl,by simp at hg1;omega,hg2,hg3⟩,hg4⟩
       obtain⟨i0,hi0,hz00,hz01,hz02⟩:=info_parts infoFl
       obtain⟨j0,hj0,hy0,hy1,hy2⟩:=info_parts infoP
       clear hg1 hg3 hg4 E5
       go_wp2
       go_region_law
        (first
        | (have _t:=mk6
           refine step_append_lies _ ?_ (.tmp 64) (.tmp 67) 27 ?_ (w4.heap.size+1) 55 i0 (.agg #[.int .i64 0,.int .i64 0,.slice none 0 0,.slice none 0 0]) 4 64 Try.underlying27 hi0 hz00 hz01 hz02 rfl (by decide) fv k FV ?_ ?_ ⟨w6.heap.size,0,none⟩ 1 1 [.int .i64 frn,.int .i64 t,.slice vo' X.length vc',.slice no' Y.length nc'] ?_ ?_ ?_ (one4s _ _ _ _ _ _ _ _) ?_ ?_ ?_ ?_ _ rfl ?_
           ·rfl
           ·rfl
           ·rfl
           ·with_reducible exact(HPS5.out.ext mk6).ownF.alloc _
           ·rfl
           ·rfl
           ·exact World.news_of_block (cs:=#[.int .i64 frn,.int .i64 t,.slice vo' X.length vc',.slice no' Y.length nc']) (blk_alloc_new w6 _)
           ·omega
           ·unfold maxLen;omega
           ·omega
           ·have:=mk6.size;simp;omega
           intro g7 gc7 w7 hown7 hgr7 hat7 hlt7
           have H7:=hidp (plan7 (f:=⟨frn,t,X,Y⟩) (HPS5.out.ext mk6) (HPS5.out.fresh hv6) (HPS5.out.fresh hn6) ((HPS.out.fresh HLP.out).ext mk6) hown7 hgr7 (hat7.imp id (fun h=>by simpa using h)))
           have q7:=H7.out.1
           have q7z:=H7.out.2.1
           have q72:=H7.out.2.2.1
           clear hown7 hgr7 hat7)
        | (go_simp
           go_at_call 47
           refine(copyOf_any ⟨frn,t,X,Y⟩ vo no vc nc _ (hv.ext E5'.drew) (Nat.le_trans hX8 (by decide)) (hn.ext E5'.drew) (Nat.le_trans hY8 (by decide))).mono ?_
           rintro e w6 ⟨v',n',rfl,hv6,hn6,E6⟩
           have mk6:Ext w5 w6:=(Ext.refl w5).drew.trans E6
           obtain⟨r0,r1,r2,r3,r4⟩:=HB.out w6 mk6
           have l6:w4.heap.size<w6.heap.size:=Nat.lt_of_lt_of_le hP5' mk6.size
           have l6':wr.heap.size<w6.heap.size:=Nat.lt_of_lt_of_le hF5 mk6.size
           obtain⟨vo',vc',rfl,hv6'⟩:=hv6
           obtain⟨no',nc',rfl,hn6'⟩:=hn6
           have hv6:FN w5.heap.size w6 X (.slice vo' X.length vc'):=⟨_,_,rfl,hv6'⟩
           have hn6:FN w5.heap.size w6 Y (.slice no' Y.length nc'):=⟨_,_,rfl,hn6'⟩
           clear hv6' hn6' E6))
       all_goals
        have l7:w4.heap.size<w7.heap.size:=by have:=H7.out.2.2.2.1.row.lt;simpa using this
        go_wp2_with (first | (at_builtin;refine wpList_append_lies _ rfl _ _ 28 rfl (w4.heap.size+1) 51 j0 (.slice none 0 0) 1 24 Try.underlying28 hj0 hy0 hy1 hy2 rfl (by decide) _ _ _ rfl (H7.out.2.2.2.1.ownQ.alloc _) ⟨w7.heap.size,0,none⟩ 1 1 [.slice (some ⟨g,0,none⟩) p.length gcap] rfl rfl (news1' (by simp) _ _) (one1s _ _ _) (by decide) (by unfold maxLen;omega) (by omega) (by simp;omega) _ rfl ?_) | go_in)
        intro g9 gc9 w9 hown9 hgr9 hat9 hlt9
        have H9:=hidp (plan9 H7.out.2.2.2.1 H7.out.2.2.2.2 hown9 hgr9 (hat9.imp id (fun h=>by simpa using h)))
        have q9:=H9.out.1
        have q9z:=H9.out.2.1
        clear hown9 hgr9 hat9 q7 q7z q72
        go_wp2
        go_roundw
        case rel=>
         have ef:fs.take (k+1)=fs.take k++[⟨frn,t,X,Y⟩]:=by rw[take_flow (by omega),HG.out]
         have ep:(plnP nn ls fs).take (k+1)=(plnP nn ls fs).take k++[p]:=by rw[plnP_take (by omega),HG.out,HFN.out]
         have hq:=H9.out.2.2
         rw[←ef, ←ep] at hq
         refine⟨k+1,_,_,_,_,by omega,by go_num,fun j hj=>?_,hq⟩
         by_cases e:j=k
         ·subst e;rw[HG.out,HFN.out]
         ·exact HPre.out j (by omega)
        case measure=>simp[intOf];omega
     ·have hkl:k=fs.length:=by omega
      have HP:=hidp (plnF_good (version:=version) HW.out HV.out HWF.out (fun j hj=>HPre.out j (by omega)))
      have ht:(plnP nn ls fs).take k=plnP nn ls fs:=List.take_of_length_le (by simp[plnP];omega)
      have ht2:fs.take k=fs:=List.take_of_length_le (by omega)
      rw[ht,ht2] at hps
      clear HPS ht ht2
      obtain⟨fo,fc,qo,qc,rfl,rfl,hfa⟩:=hps.fin3
      have HT:=hidp hfa
      have q0:wr.cell? ⟨w4.heap.size,0,none⟩=some (.int .i64 version):=hps.row.cell (i:=0) (by omega)
      have q1:wr.cell? ⟨w4.heap.size,1,none⟩=some (.slice fo ll fc):=by have:=hps.row.cell (i:=1) (by omega);rw[hll] at this;exact this
      have q2:wr.cell? ⟨w4.heap.size,2,none⟩=some (.slice qo (plnP nn ls fs).length qc):=hps.row.cell (i:=2) (by omega)
      have i1:¬(k:Int)<(ll:Int):=by omega
      have HK:=hidp hkl
      clear hfa hps hkl hbr hb4
      go_wp2
      refine bodyPost_ret_by (plan_ret Try.results29 rfl rfl (c5_sets (by omega) HPr.out.c5)) rfl ?_
      have hE5:Ext w (((((wr.setCell ⟨w.heap.size+1,0,none⟩ (.int .i64 version)).setCell ⟨w.heap.size+1,1,none⟩ (.slice fo ll fc)).setCell ⟨w.heap.size+1,2,none⟩ (.slice qo (plnP nn ls fs).length qc)).setCell ⟨w.heap.size+1+1,0,none⟩ (.int .i64 0)).setCell ⟨w.heap.size+1+1,1,none⟩ (.int .i64 0)):=
       ((((hEr.setCell (by simp) _).setCell (by simp) _).setCell (by simp) _).setCell (by simp;omega) _).setCell (by simp;omega) _
      exact⟨version,fo,ll,fc,qo,_,qc,by rw[HP.out],hE5,Or.inr ⟨by rw[HP.out],rfl,hll.symm,rfl,fun U hs hU=>HT.out U (by simpa using hs) (fun b hb hlt=>by rw[hU b (by omega) (by simpa using hlt),blk_setCell_other _ _ _ _ (by simp;omega),blk_setCell_other _ _ _ _ (by simp;omega),blk_setCell_other _ _ _ _ (by simp;omega),blk_setCell_other _ _ _ _ (by simp;omega),blk_setCell_other _ _ _ _ (by simp;omega)])⟩⟩
   ·have HP:=hidp (plnF_flows (version:=version) HW.out HV.out hwf)
    have hwf':((Stf.wflows fs n).1 != 0)=true:=by simpa using hwf
    have HWF:=hidp hwf
    clear hwf
    go_wp2
    go_region
    go_wp2
    refine bodyPost_ret_by (plan_ret Try.results29 rfl rfl (((c5_sets (by omega) HPB2.out.c5).alloc (by simp;omega) (by simp;omega) _).drew)) rfl (planN_bad HP.out HWF.out ?_)
    exact(((((((hw2).setCell (by simp) _).setCell (by simp) _).setCell (by simp) _).setCell (by simp;omega) _).setCell (by simp;omega) _).alloc _).drew
 ·have HP:=hidp (plnF_wrong (version:=version) (fs:=fs) hr)
  have hr':((wrong n ls).1 != 0)=true:=by simpa using hr
  have HR:=hidp hr
  clear hr
  go_wp2
  go_region
  go_wp2
  refine bodyPost_ret_by (plan_ret Try.results29 rfl rfl (((c5_sets (by omega) HPB.out.c5).alloc (by simp;omega) (by simp;omega) _).drew)) rfl (planN_bad HP.out HR.out ?_)
  exact(((((((hw1).setCell (by simp) _).setCell (by simp) _).setCell (by simp) _).setCell (by simp;omega) _).setCell (by simp;omega) _).alloc _).drew
theorem Plan_any (n version:Int) (ao:Option Addr) (len cap:Nat) (ls:List Lk) (lo:Option Addr) (ll lc:Nat) (fs:List Stf.Fl) (w:World) (hlen:ls.length=len) (hl:NetAt w ao ls) (hx:len≤9223372036854775807) (hI:I64 n)
 (hll:fs.length=ll) (hf:Fw.FlowsAt w lo fs) (hS:Fw.Sm fs) (hlx:ll≤9223372036854775807):
 Calls Try.prog 29 #[.agg #[.int .i64 n,.slice ao len cap],.int .i64 version,.slice lo ll lc] w fun e w'=>PlanOut w w' e n version ls fs:=
 (Plan_new n version ao len cap ls lo ll lc fs w hlen hl hx hI hll hf hS hlx).mono (fun _ _ h=>h.out)
end Go.Proofs.Ytolclgbpjiokfaa
namespace Go.Proofs.Ytolclgbpjiokfaa
open Go.RowKit Go.Maps Stw Go.Deep Stp
theorem scan_ne {f:Nat→Int} {c:Int} (hc:c≠0) (h:∀i,f i≠c):∀(m k:Nat),(scan f m k).1≠c
 | 0,_=>by simp only[scan];exact fun e=>hc e.symm
 | m+1,k=>by
  unfold scan
  split
  ·exact scan_ne hc h m (k+1)
  ·exact h k
theorem wlink_ne {n a b c:Int}:wlink n a b c≠9:=by
 unfold wlink
 repeat' split
 all_goals omega
theorem ewl_ne {n:Int} {ls:List Lk} {k:Nat}:ewl n ls k≠9:=by
 unfold ewl
 split
 ·split <;> omega
 ·exact wlink_ne
theorem wrong_ne {n:Int} {ls:List Lk}:(wrong n ls).1≠9:=by
 unfold wrong
 split
 ·simp
 ·exact scan_ne (by omega) (fun i=>ewl_ne) _ _
theorem wlist_ne {a b n:Int} {L:List Int}:Stf.wlist a b n L≠9:=by
 unfold Stf.wlist
 split
 ·unfold Stf.ewl
  repeat' split
  all_goals omega
 ·omega
theorem wflow_ne {f:Stf.Fl} {n:Int}:Stf.wflow f n≠9:=by
 unfold Stf.wflow
 repeat' split
 all_goals first | omega | exact wlist_ne
theorem fnd_cases {n:Int} {ls:List Lk} {f:Stf.Fl}:((fnd n ls f).1≠0∧(fnd n ls f).1≠9∧(fnd n ls f).2=[])∨((fnd n ls f).1=9∧(fnd n ls f).2=[]∧Right n ls∧RightF n f∧∀q,¬Srv (cost ls) f.fr f.to f.via f.nt q)∨
 ((fnd n ls f).1=0∧Right n ls∧RightF n f∧IsBest (cost ls) f.fr f.to f.via f.nt (fnd n ls f).2 (pc (cost ls) (fnd n ls f).2)):=by
 unfold fnd
 by_cases hw:(wrong n ls).1=0
 ·have hr:=right_of hw
  have hb:=hr.bounds
  rw[if_neg (by simp[hw])]
  by_cases hf:Stf.wflow f n=0
  ·rw[if_neg (by simp[hf])]
   have hF:=rightF_of hf
   have hC:∀x y,0≤cost ls x y:=fun x y=>(hr.cost x y).1
   have hfr:0≤f.fr∧f.fr<8:=by have:=hF.fr;omega
   have hnf:¬f.fr∈f.nt:=fun h=>(hF.nt _ h).2.2.1 rfl
   cases hfi:find (cost ls) f.fr f.to f.via f.nt with
   | none=>exact Or.inr (Or.inl ⟨rfl,rfl,hr,hF,find_none hC hfr hnf hfi⟩)
   | some y=>
    obtain⟨p,c⟩:=y
    have hbest:=find_some hC hfr hnf hfi
    refine Or.inr (Or.inr ⟨rfl,hr,hF,?_⟩)
    have:=hbest.2.1
    rw[←this]
    exact hbest
  ·rw[if_pos hf]
   exact Or.inl ⟨hf,wflow_ne,rfl⟩
 ·rw[if_pos hw]
  exact Or.inl ⟨hw,wrong_ne,rfl⟩
end Go.Proofs.Ytolclgbpjiokfaa
