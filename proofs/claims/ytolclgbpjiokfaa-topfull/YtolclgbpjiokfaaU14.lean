/- What changeOf makes: a change that shares no memory with the control that was handed in. -/
import Derived.Test.YtolclgbpjiokfaaU08
import Derived.Test.YtolclgbpjiokfaaU09
import Derived.Deep.RegionHeld3
import Derived.Test.YtolclgbpjiokfaaU13
namespace Go.Proofs.Ytolclgbpjiokfaa.Ct
open Go.RowKit Go.Deep Stw Stp Tb Rul
set_option maxRecDepth 100000 in
set_option maxHeartbeats 800000 in
theorem refused_any (k:Int) (w:World):
 Calls Try.prog 81 #[.int .i64 k] w fun e w'=>e=.returned (.tuple #[cvl co0 ca0,.slice none 0 0,.int .i64 k])∧Ext w w':=by
 go_enter Try.func81,Try.ntmps81
 go_wp2
 refine bodyPost_ret (v:=.tuple #[cvl co0 ca0,.slice none 0 0,.int .i64 k]) (by simp[results,Try.results81,go_sem,cvl,co0,ca0,pl0,pa0]) rfl ⟨rfl,(Ext.refl w).alloc _⟩
set_option maxHeartbeats 1000000 in
theorem clonePt_nil (n c:Nat) (w:World):
 Calls Try.prog 80 #[.slice none n c] w fun e w'=>e=.returned (.slice none 0 0)∧w'=w:=by
 have hq:∀(w:World) (a:Option Addr) (n c:Nat),(binOp .eql 51 (.slice a n c) (.slice none 0 0)).run Try.prog w=.ok (.bool a.isNone) w:=fun w a n c=>Lib.run_eql_slice_nil w _ _ a n c 0 0 Try.underlying51
 go_enter Try.func80,Try.ntmps80
 go_wp2
 go_ret
 exact⟨rfl,rfl⟩
set_option maxHeartbeats 1000000 in
theorem clonePt_some (ad:Addr) (n c:Nat) (ps:List Int) (w:World) (hn:ps.length=n) (hb:n*8≤140737488351232) (hp:∀j u,(ps.map (Value.int .i64))[j]? =some u→(w.alloc (.cells #[] 3)).cell? (ad.add j)=some u):
 Calls Try.prog 80 #[.slice (some ad) n c] w fun e w'=>∃v',e=.returned v'∧w'.ownsRow w.heap.size 3 1 v' n (ps.map (Value.int .i64))∧Ext w w':=by
 obtain⟨i0,hi,hz0,hz1,hz2⟩:=info_parts infoI
 have hq:∀(w:World) (a:Option Addr) (n c:Nat),(binOp .eql 51 (.slice a n c) (.slice none 0 0)).run Try.prog w=.ok (.bool a.isNone) w:=fun w a n c=>Lib.run_eql_slice_nil w _ _ a n c 0 0 Try.underlying51
 have A:=hidp hp
 clear hp
 go_enter Try.func80,Try.ntmps80
 go_wp2_with (at_builtin;refine wpList_append_own _ rfl _ _ 51 rfl w.heap.size 3 i0 (.int .i64 0) 1 8 Try.underlying51 hi hz0 hz1 hz2 rfl (by decide) _ _ _ rfl (World.ownsRow_made w #[] 0 (Nat.le_refl _) (Nat.zero_le _) rfl) ad n c (ps.map (Value.int .i64)) rfl ?qc1 ?qc2 ?qc3 ?qc4 ?qc5 ?qc6 ?_)
 case qc1=>simp;omega
 case qc2=>exact A.out
 case qc3=>intro u hu;obtain⟨x,_,rfl⟩:=List.mem_map.1 hu;rfl
 case qc4=>unfold maxLen;omega
 case qc5=>omega
 case qc6=>simp
 intro v' w1 hown hgrow hnil
 go_wp2
 go_ret
 refine⟨v',rfl,by simpa using hown,?_⟩
 exact((Below.refl _ w).alloc (Nat.le_refl _) _).grown hgrow (by simp) (by intro k hk;simp[Value.ownBlock] at hk;omega)
theorem clonePt_any (o:Option Addr) (c:Nat) (ps:List Int) (w:World) (hb:ps.length*8≤140737488351232) (hp:ListAt w o ps):
 Calls Try.prog 80 #[.slice o ps.length c] w fun e w'=>∃v',e=.returned v'∧FN w.heap.size w' ps v'∧Ext w w':=by
 cases o with
 | none=>
  have he:ps=[]:=by
   rcases hp with h | ⟨b,off,h,_⟩
   ·exact h
   ·cases h
  refine(clonePt_nil ps.length c w).mono ?_
  rintro e w' ⟨rfl,rfl⟩
  exact⟨_,rfl,⟨none,0,by rw[he];rfl,Or.inl he,by rw[he];exact Nat.le_refl _⟩,Ext.refl _⟩
 | some ad=>
  refine(clonePt_some ad ps.length c ps w rfl hb (fun j u hj=>?_)).mono ?_
  ·have hjn:j<ps.length:=by have:=(List.getElem?_eq_some_iff.1 hj).1;simpa using this
   rcases hp with rfl | ⟨b,off,h,hlt,hat⟩
   ·simp at hjn
   ·cases h
    rw[Addr.add_mid,World.cell?_alloc_past _ _ _ hlt,hat j hjn]
    rw[List.getElem?_map,List.getElem?_eq_getElem hjn] at hj
    simp at hj
    rw[←hj]
    simp[List.getD_eq_getElem?_getD,hjn]
  ·rintro e w' ⟨v',rfl,hown,hE⟩
   exact⟨v',rfl,fn_own hown,hE⟩
theorem copy7 {P:Nat} {w0 w w':World} {o:Obj} {v0 fv qv v n:Value} {kf kq g c:Nat} {FV V:List Value} {fs:List Stf.Fl} {ps:List (List Int)} {f:Stf.Fl} (h:PSt P w0 w v0 fv qv kf kq FV V fs ps) (kv:LQ w (Qn P fv qv) f.via v) (kn:LQ w (Qn P fv qv) f.nt n)
 (hown:w'.ownsRow (P+1) 55 4 (.slice (some ⟨g,0,none⟩) (kf+1) c) (kf+1) (FV++[.int .i64 f.fr,.int .i64 f.to,v,n])) (hg:(w.alloc o).grownBy w' fv.ownBlock) (hat:fv.ownBlock=some g∨g=w.heap.size+1):
 w'.cell? ⟨P,1,none⟩=some fv∧w'.frozen? ⟨P,1,none⟩=false∧PSt P w0 (w'.setCell ⟨P,1,none⟩ (.slice (some ⟨g,0,none⟩) (kf+1) c)) v0 (.slice (some ⟨g,0,none⟩) (kf+1) c) qv (kf+1) kq (FV++[.int .i64 f.fr,.int .i64 f.to,v,n]) V (fs++[f]) ps:=by
 have hP:=h.row.lt
 have hneP:some P≠fv.ownBlock:=fun e=>by have:=(h.ownF.lt P e.symm).1;omega
 have hr:=h.row.of_block ((hg.block P (by simp;omega) hneP).trans (blk_alloc_lt _ _ _ hP))
 exact⟨hr.cell (i:=1) (by omega),hr.frozen 1,h.pushF kv kn hown hg hat⟩
theorem copy9 {P:Nat} {w0 w w':World} {o:Obj} {v0 fv qv v:Value} {kf kq g c:Nat} {FV V:List Value} {fs:List Stf.Fl} {ps:List (List Int)} {p:List Int} (h:PSt P w0 w v0 fv qv kf kq FV V fs ps) (kv:LQ w (Qn P fv qv) p v)
 (hown:w'.ownsRow (P+1) 51 1 (.slice (some ⟨g,0,none⟩) (kq+1) c) (kq+1) (V++[v])) (hg:(w.alloc o).grownBy w' qv.ownBlock) (hat:qv.ownBlock=some g∨g=w.heap.size+1):
 w'.cell? ⟨P,2,none⟩=some qv∧w'.frozen? ⟨P,2,none⟩=false∧PSt P w0 (w'.setCell ⟨P,2,none⟩ (.slice (some ⟨g,0,none⟩) (kq+1) c)) v0 fv (.slice (some ⟨g,0,none⟩) (kq+1) c) kf (kq+1) FV (V++[v]) fs (ps++[p]):=by
 have hP:=h.row.lt
 have hneP:some P≠qv.ownBlock:=fun e=>by have:=(h.ownQ.lt P e.symm).1;omega
 have hr:=h.row.of_block ((hg.block P (by simp;omega) hneP).trans (blk_alloc_lt _ _ _ hP))
 exact⟨hr.cell (i:=2) (by omega),hr.frozen 2,h.pushQ kv hown hg hat⟩
theorem take_fl {fs:List Stf.Fl} {k:Nat} (h:k<fs.length):fs.take (k+1)=fs.take k++[fs.getD k Fw.f0]:=by
 rw[List.take_succ_eq_append_getElem h]
 simp[List.getD_eq_getElem?_getD,h]
theorem take_pt {ps:List (List Int)} {k:Nat} (h:k<ps.length):ps.take (k+1)=ps.take k++[ps.getD k []]:=by
 rw[List.take_succ_eq_append_getElem h]
 simp[List.getD_eq_getElem?_getD,h]
theorem mem_fl {fs:List Stf.Fl} {k:Nat} (h:k<fs.length):fs.getD k Fw.f0∈fs:=by
 simp[List.getD_eq_getElem?_getD,h]
structure CB (W:World) (b:Nat) (v:Int) (fv qv:Value):Prop where
 all:W.cell? ⟨b,0,none⟩=some (.int .i64 v)∧W.cell? ⟨b,1,none⟩=some fv∧W.cell? ⟨b,2,none⟩=some qv∧W.cell? ⟨b+1,0,none⟩=some (.int .i64 0)∧W.cell? ⟨b+1,1,none⟩=some (.slice none 0 0)∧W.cell? ⟨b+1,2,none⟩=some (.slice none 0 0)∧(∀i,W.frozen? ⟨b+1,i,none⟩=false)∧b+1<W.heap.size
def Cw (w:World) (v:Int) (fv qv:Value):World:=(w.alloc (.cells #[.int .i64 v,fv,qv] 30)).alloc (.cells #[.int .i64 0,.slice none 0 0,.slice none 0 0] 30)
theorem Cw_size (w:World) (v:Int) (fv qv:Value):(Cw w v fv qv).heap.size=w.heap.size+1+1:=by unfold Cw;simp
theorem Cw_ext (w:World) (v:Int) (fv qv:Value):Ext w (Cw w v fv qv):=((Ext.refl w).alloc _).alloc _
theorem CB.of {w W:World} {v:Int} {fv qv:Value} (E:Ext (Cw w v fv qv) W):CB W w.heap.size v fv qv:=by
 have l0:w.heap.size<(Cw w v fv qv).heap.size:=by rw[Cw_size];omega
 have l1:w.heap.size+1<(Cw w v fv qv).heap.size:=by rw[Cw_size];omega
 obtain⟨hc,hf⟩:=E.cells
 refine⟨?_,?_,?_,?_,?_,?_,fun i=>?_,Nat.lt_of_lt_of_le l1 E.size⟩
 ·rw[hc _ _ l0];unfold Cw;first | (simp;done) | (simp[go_sem];done)
 ·rw[hc _ _ l0];unfold Cw;first | (simp;done) | (simp[go_sem];done)
 ·rw[hc _ _ l0];unfold Cw;first | (simp;done) | (simp[go_sem];done)
 ·rw[hc _ _ l1];unfold Cw;first | (simp;done) | (simp[go_sem];done)
 ·rw[hc _ _ l1];unfold Cw;first | (simp;done) | (simp[go_sem];done)
 ·rw[hc _ _ l1];unfold Cw;first | (simp;done) | (simp[go_sem];done)
 ·rw[hf _ _ l1];unfold Cw;first | (simp;done) | (simp[go_sem];done)
end Go.Proofs.Ytolclgbpjiokfaa.Ct
namespace Go.Proofs.Ytolclgbpjiokfaa.Ct
open Go.RowKit Go.Deep Stw Stp Tb Rul
set_option maxRecDepth 100000 in
set_option maxHeartbeats 4000000 in
theorem Copy_any (p:Pl) (a:PA) (w:World) (h:PlAt w p a) (hok:PlOk p):
 Calls Try.prog 67 #[pvl p a] w fun e w'=>∃a',e=.returned (pvl p a')∧PlNew w.heap.size w' p a'∧Ext w w':=by
 obtain⟨pv,fs,ps⟩:=p
 obtain⟨fo,qo,fc,qc⟩:=a
 obtain⟨hf,hq⟩:=h
 simp only at hf hq
 have HOK:=hidp hok
 have hfl:fs.length≤16777216:=hok.fl
 have hql:ps.length≤16777216:=hok.ql
 clear hok
 unfold pvl
 show Calls _ _ #[.agg #[.int .i64 pv,.slice fo fs.length fc,.slice qo ps.length qc]] _ _
 obtain⟨i0,hi0,hz00,hz01,hz02⟩:=info_parts infoFl
 obtain⟨j0,hj0,hy0,hy1,hy2⟩:=info_parts infoP
 go_enter Try.func67,Try.ntmps67
 go_wp2
 obtain⟨W2,hW2⟩:∃W2,W2=(w.alloc (.cells #[.int .i64 pv,.slice fo fs.length fc,.slice qo ps.length qc] 30)).alloc (.cells #[.int .i64 0,.slice none 0 0,.slice none 0 0] 30):=⟨_,rfl⟩
 have hE2:Ext w W2:=by rw[hW2];exact Cw_ext w pv _ _
 have HS2:Hid (W2.heap.size=w.heap.size+1+1):=by show _=_;rw[hW2];exact Cw_size w pv _ _
 have HCB:Hid (∀W,Below (w.heap.size+1+1) W2 W→CB W w.heap.size pv (.slice fo fs.length fc) (.slice qo ps.length qc)):=fun W hW=>CB.of (w:=w) (by show Below _ _ _;rw[Cw_size];rw[hW2] at hW;exact hW)
 rw[←hW2]
 clear hW2
 go_loopw [14] (fun iv wr=>∃(k:Nat) (fv:Value) (FV:List Value),k≤fs.length∧iv=.int .i64 k∧Hid (PSt (w.heap.size+1+1) W2 wr (.int .i64 pv) fv (.slice none 0 0) k 0 FV [] (fs.take k) [])) (fun iv _=>fs.length - (intOf iv).toNat)
 case atStart=>exact⟨0,.slice none 0 0,[],Nat.zero_le _,rfl,pst_start HS2.out _⟩
 case round=>
  obtain⟨k,fv,FV,hk,rfl,HPS⟩:=hrel
  have hEr:Ext w wr:=Below.trans hE2 (HPS.out.bel.mono (by omega))
  obtain⟨b0,b1,b2,r0,r1,r2,rz,hbs⟩:=(HCB.out _ HPS.out.bel).all
  have hPl:=HPS.out.row.lt
  by_cases hlt:k<fs.length
  ·obtain⟨b,off,vo,vc,no,nc,a,t,X,Y,rfl,hb,hg,c0,c1,c2,c3,⟨_,_,e1,hv,hvc⟩,⟨_,_,e2,hn,hnc⟩⟩:=(hf.ext hEr).get (k:=k) (by omega)
   cases e1
   cases e2
   have hsm:=HOK.out.sm _ (mem_fl hlt)
   rw[hg] at hsm
   have HG:=hidp hg
   have i1:(k:Int)<(fs.length:Int):=by omega
   clear hg
   obtain⟨hX,hY⟩:=hsm
   simp only at hX hY
   have q1:wr.cell? ⟨w.heap.size+1+1,1,none⟩=some fv:=HPS.out.row.cell (i:=1) (by omega)
   have HB:Hid (∀W,Ext (wr.alloc (.cells #[.int .i64 a,.int .i64 t,.slice vo X.length vc,.slice no Y.length nc] 55)) W→W.cell? ⟨w.heap.size+1+1,1,none⟩=some fv∧W.cell? ⟨wr.heap.size,0,none⟩=some (.int .i64 a)∧W.cell? ⟨wr.heap.size,1,none⟩=some (.int .i64 t)∧W.cell? ⟨wr.heap.size,2,none⟩=some (.slice vo X.length vc)∧W.cell? ⟨wr.heap.size,3,none⟩=some (.slice no Y.length nc)):=fun W h=>by
    have l0:wr.heap.size<(wr.alloc (.cells #[.int .i64 a,.int .i64 t,.slice vo X.length vc,.slice no Y.length nc] 55)).heap.size:=by simp
    have l1:w.heap.size+1+1<(wr.alloc (.cells #[.int .i64 a,.int .i64 t,.slice vo X.length vc,.slice no Y.length nc] 55)).heap.size:=by simp;omega
    exact⟨(h.cells.1 _ _ l1).trans ((World.cell?_alloc_past _ _ _ hPl).trans q1),(h.cells.1 _ _ l0).trans (by simp),(h.cells.1 _ _ l0).trans (by simp),(h.cells.1 _ _ l0).trans (by simp),(h.cells.1 _ _ l0).trans (by simp)⟩
   go_wp2
   obtain⟨w5,hw5⟩:∃w5,w5=wr.alloc (.cells #[.int .i64 a,.int .i64 t,.slice vo X.length vc,.slice no Y.length nc] 55):=⟨_,rfl⟩
   have E5:Ext wr w5:=by rw[hw5];exact(Ext.refl wr).alloc _
   rw[←hw5] at HB ⊢
   clear hw5 c0 c1 c2 c3 b0 b1 b2 r0 r1 r2 rz q1
   have HPS5:=hidp (HPS.out.ext E5)
   have l5:=HPS5.out.row.lt
   obtain⟨q1,f0,f1,f2,f3⟩:=HB.out w5 (Ext.refl w5)
   have l50:wr.heap.size≤w5.heap.size:=E5.size
   go_region_law
    (first
    | (have _t:=mk6
       refine step_append_lies _ ?_ (.tmp 19) (.tmp 22) 27 ?_ (w.heap.size+1+1+1) 55 i0 (.agg #[.int .i64 0,.int .i64 0,.slice none 0 0,.slice none 0 0]) 4 64 Try.underlying27 hi0 hz00 hz01 hz02 rfl (by decide) fv k FV ?_ ?_ ⟨w6.heap.size,0,none⟩ 1 1 [.int .i64 a,.int .i64 t,.slice vo' X.length vc',.slice no' Y.length nc'] ?_ ?_ ?_ (one4s _ _ _ _ _ _ _ _) ?_ ?_ ?_ ?_ _ rfl ?_
       ·rfl
       ·rfl
       ·rfl
       ·with_reducible exact(HPS5.out.ext mk6).ownF.alloc _
       ·rfl
       ·rfl
       ·exact World.news_of_block (cs:=#[.int .i64 a,.int .i64 t,.slice vo' X.length vc',.slice no' Y.length nc']) (blk_alloc_new w6 _)
       ·omega
       ·unfold maxLen;omega
       ·omega
       ·have:=mk6.size;simp;omega
       intro g7 gc7 w7 hown7 hgr7 hat7 hlt7
       have H7:=hidp (copy7 (f:=⟨a,t,X,Y⟩) (HPS5.out.ext mk6) (HPS5.out.fresh hv6) (HPS5.out.fresh hn6) hown7 hgr7 (hat7.imp id (fun h=>by simpa using h)))
       have q7:=H7.out.1
       have q7z:=H7.out.2.1
       clear hown7 hgr7 hat7)
    | (go_simp
       go_at_call 47
       refine(copyOf_any ⟨a,t,X,Y⟩ vo no vc nc _ (hv.ext E5.drew) hX (hn.ext E5.drew) hY).mono ?_
       rintro e w6 ⟨v',n',rfl,hv6,hn6,E6⟩
       have mk6:Ext w5 w6:=(Ext.refl w5).drew.trans E6
       obtain⟨r0,r1,r2,r3,r4⟩:=HB.out w6 mk6
       have l6:w.heap.size+1+1<w6.heap.size:=Nat.lt_of_lt_of_le l5 mk6.size
       obtain⟨vo',vc',rfl,hv6'⟩:=hv6
       obtain⟨no',nc',rfl,hn6'⟩:=hn6
       have hv6:FN w5.heap.size w6 X (.slice vo' X.length vc'):=⟨_,_,rfl,hv6'⟩
       have hn6:FN w5.heap.size w6 Y (.slice no' Y.length nc'):=⟨_,_,rfl,hn6'⟩
       clear hv6' hn6' E6))
   all_goals
    clear q1 f0 f1 f2 f3
    go_wp2
    go_roundw
    case rel=>
     have ef:fs.take (k+1)=fs.take k++[⟨a,t,X,Y⟩]:=by rw[take_fl (by omega),HG.out]
     have hq:=H7.out.2.2
     rw[←ef] at hq
     exact⟨k+1,_,_,by omega,by go_num,hq⟩
    case measure=>simp[intOf];omega
  ·have hkl:k=fs.length:=by omega
   have HPS0:Hid (PSt (w.heap.size+1+1) W2 wr (.int .i64 pv) fv (.slice none 0 0) fs.length 0 FV [] fs ([]:List (List Int))):=by
    have:=HPS.out
    rw[hkl,List.take_of_length_le (Nat.le_refl _)] at this
    exact this
   have HKL:=hidp hkl
   have i1:¬(k:Int)<(fs.length:Int):=by omega
   clear HPS hkl
   go_wp2
   clear b0 b1 b2 r0 r1 r2 rz
   go_loopw [29] (fun iv wx=>∃(m:Nat) (qv:Value) (V:List Value),m≤ps.length∧iv=.int .i64 m∧Hid (PSt (w.heap.size+1+1) W2 wx (.int .i64 pv) fv qv fs.length m FV V fs (ps.take m))) (fun iv _=>ps.length - (intOf iv).toNat)
   case atStart=>exact⟨0,.slice none 0 0,[],Nat.zero_le _,rfl,by rw[List.take_zero];exact HPS0⟩
   case round=>
    clear HPS0
    obtain⟨m,qv,V,hm,rfl,HPS⟩:=hrel
    have hEr:Ext w wr:=Below.trans hE2 (HPS.out.bel.mono (by omega))
    obtain⟨b0,b1,b2,r0,r1,r2,rz,hbs⟩:=(HCB.out _ HPS.out.bel).all
    have hPl:=HPS.out.row.lt
    by_cases hlt:m<ps.length
    ·rcases hq.ext hEr with h0 | ⟨g1,o1,rfl,hg1,hc1⟩
     ·exfalso;rw[h0] at hlt;simp at hlt
     obtain⟨v1,d1,x1,y1,rfl,l1,_⟩:=hc1 m hlt
     have hxl:(ps.getD m []).length≤16777216:=Nat.le_trans getD_sum HOK.out.tt
     obtain⟨x,hx⟩:∃x,x=ps.getD m []:=⟨_,rfl⟩
     rw[←hx] at d1 l1 hxl
     have HX:=hidp hx
     have i1:(m:Int)<(ps.length:Int):=by omega
     clear hx hc1
     have q2:wr.cell? ⟨w.heap.size+1+1,2,none⟩=some qv:=HPS.out.row.cell (i:=2) (by omega)
     have HB:Hid (∀W,Ext wr W→W.cell? ⟨w.heap.size+1+1,2,none⟩=some qv):=fun W h=>(h.cells.1 _ _ hPl).trans q2
     clear b0 b1 b2 r0 r1 r2 rz
     go_wp2
     go_region_law
      (first
      | (have _t:=mk6
         refine step_append_lies _ ?_ (.tmp 34) (.tmp 37) 28 ?_ (w.heap.size+1+1+1) 51 j0 (.slice none 0 0) 1 24 Try.underlying28 hj0 hy0 hy1 hy2 rfl (by decide) qv m V ?_ ?_ ⟨w6.heap.size,0,none⟩ 1 1 [.slice vo' x.length vc'] ?_ ?_ ?_ (one1s _ _ _) ?_ ?_ ?_ ?_ _ rfl ?_
         ·rfl
         ·rfl
         ·rfl
         ·with_reducible exact(HPS.out.ext mk6).ownQ.alloc _
         ·rfl
         ·rfl
         ·exact World.news_of_block (cs:=#[.slice vo' x.length vc']) (blk_alloc_new w6 _)
         ·omega
         ·unfold maxLen;omega
         ·omega
         ·have:=mk6.size;simp;omega
         intro g7 gc7 w7 hown7 hgr7 hat7 hlt7
         have H7:=hidp (copy9 (HPS.out.ext mk6) (HPS.out.fresh hv6) hown7 hgr7 (hat7.imp id (fun h=>by simpa using h)))
         have q7:=H7.out.1
         have q7z:=H7.out.2.1
         clear hown7 hgr7 hat7)
      | (go_simp
         go_at_call 80
         refine(clonePt_any x1 y1 x _ (by omega) (l1.ext (Ext.refl wr).drew)).mono ?_
         rintro e w6 ⟨v',rfl,hv6,E6⟩
         have mk6:Ext wr w6:=(Ext.refl wr).drew.trans E6
         have r0:=HB.out w6 mk6
         have l6:w.heap.size+1+1<w6.heap.size:=Nat.lt_of_lt_of_le hPl mk6.size
         obtain⟨vo',vc',rfl,hv6'⟩:=hv6
         have hv6:FN wr.heap.size w6 x (.slice vo' x.length vc'):=⟨_,_,rfl,hv6'⟩
         clear hv6' E6))
     all_goals
      clear q2
      go_wp2
      go_roundw
      case rel=>
       have ef:ps.take (m+1)=ps.take m++[x]:=by rw[take_pt (by omega),HX.out]
       have hq:=H7.out.2.2
       rw[←ef] at hq
       exact⟨m+1,_,_,by omega,by go_num,hq⟩
      case measure=>simp[intOf];omega
    ·have hkl:m=ps.length:=by omega
     have i1:¬(m:Int)<(ps.length:Int):=by omega
     have HPSm:Hid (PSt (w.heap.size+1+1) W2 wr (.int .i64 pv) fv qv fs.length ps.length FV V fs ps):=by
      have:=HPS.out
      rw[hkl,List.take_of_length_le (Nat.le_refl _)] at this
      exact this
     obtain⟨fo',fc',qo',qc',rfl,rfl,hfa⟩:=HPSm.out.fin3
     have HT:=hidp hfa
     have q0:wr.cell? ⟨w.heap.size+1+1,0,none⟩=some (.int .i64 pv):=HPSm.out.row.cell (i:=0) (by omega)
     have q1:wr.cell? ⟨w.heap.size+1+1,1,none⟩=some (.slice fo' fs.length fc'):=HPSm.out.row.cell (i:=1) (by omega)
     have q2:wr.cell? ⟨w.heap.size+1+1,2,none⟩=some (.slice qo' ps.length qc'):=HPSm.out.row.cell (i:=2) (by omega)
     have z0:=rz 0
     have z1:=rz 1
     have z2:=rz 2
     clear hfa HPS HPSm hkl HKL b0 b1 b2 rz
     go_wp2
     refine bodyPost_ret (v:=.agg #[.int .i64 pv,.slice fo' fs.length fc',.slice qo' ps.length qc']) (by simp[results,Try.results67,go_sem,r0,r1,r2]) rfl ?_
     exact⟨⟨fo',qo',fc',qc'⟩,rfl,fun U hs hU=>(fun x=>⟨x.1,x.2⟩) (HT.out U (by simpa using hs) (fun b hb hlt=>by rw[hU b (by omega) (by simpa using hlt),blk_setCell_other _ _ _ _ (by simp;omega),blk_setCell_other _ _ _ _ (by simp;omega),blk_setCell_other _ _ _ _ (by simp;omega)])),((hEr.setCell (by simp) _).setCell (by simp) _).setCell (by simp) _⟩
end Go.Proofs.Ytolclgbpjiokfaa.Ct
namespace Go.Proofs.Ytolclgbpjiokfaa.Ct
open Go.RowKit Go.Deep Stw Stp Tb Rul
theorem cloneOwn_any (o:Option Addr) (c:Nat) (ps:List Int) (w:World) (hb:ps.length*8≤140737488351232) (hp:ListAt w o ps):
 Calls Try.prog 63 #[.slice o ps.length c] w fun e w'=>∃v',e=.returned v'∧w'.ownsRow w.heap.size 3 1 v' ps.length (ps.map (Value.int .i64))∧Ext w w':=by
 cases o with
 | none=>
  have he:ps=[]:=by
   rcases hp with h | ⟨b,off,h,_⟩
   ·exact h
   ·cases h
  refine(cloneInts_nil ps.length c w).mono ?_
  rintro e w' ⟨rfl,rfl⟩
  refine⟨_,rfl,?_,Ext.refl _⟩
  rw[he]
  exact World.ownsRow_nil _ _ _ _
 | some ad=>
  refine(cloneInts_some ad ps.length c ps w rfl hb (fun j u hj=>?_)).mono ?_
  ·have hjn:j<ps.length:=by have:=(List.getElem?_eq_some_iff.1 hj).1;simpa using this
   rcases hp with rfl | ⟨b,off,h,hlt,hat⟩
   ·simp at hjn
   ·cases h
    rw[Addr.add_mid,World.cell?_alloc_past _ _ _ hlt,hat j hjn]
    rw[List.getElem?_map,List.getElem?_eq_getElem hjn] at hj
    simp at hj
    rw[←hj]
    simp[List.getD_eq_getElem?_getD,hjn]
  ·rintro e w' ⟨v',rfl,hown,hE⟩
   exact⟨v',rfl,hown,hE⟩
def coL (c:Co) (a:CA):List Value:=[.int .i64 c.st,.int .i64 c.now.v,.slice a.n.fo c.now.fs.length a.n.fc,.slice a.n.qo c.now.ps.length a.n.qc,.int .i64 c.nxt.v,.slice a.x.fo c.nxt.fs.length a.x.fc,.slice a.x.qo c.nxt.ps.length a.x.qc,.int .i64 c.num,.slice a.wo c.wts.length a.wc]
abbrev BX (V:World) (b:Nat) (l:List Value):Prop:=V.rowIs b 33 9 (fun j=>l.getD j vd)
theorem BX.set {b i:Nat} {w:World} {l:List Value} (h:BX w b l) (hi:i<l.length) (v:Value):BX (w.setCell ⟨b,i,none⟩ v) b (l.set i v):=
 (World.rowIs.set h i v).congr (fun j _=>getD_put hi j)
theorem box_row {W:World} {b:Nat} {T:TypeId} (h:W.heap.size=b) (x0 x1 x2 x3 x4 x5 x6 x7 x8:Value):(W.alloc (.cells #[x0,x1,x2,x3,x4,x5,x6,x7,x8] T)).rowIs b T 9 (fun j=>[x0,x1,x2,x3,x4,x5,x6,x7,x8].getD j vd):=by
 subst h
 exact World.rowIs_alloc W #[x0,x1,x2,x3,x4,x5,x6,x7,x8] T _ (fun i hi=>by
  have hi':i<9:=hi
  match i,hi' with
  | 0,_ | 1,_ | 2,_ | 3,_ | 4,_ | 5,_ | 6,_ | 7,_ | 8,_=>simp)
theorem chg_row {W:World} {b:Nat} {T:TypeId} (h:W.heap.size=b) (x0 x1 x2 x3 x4 x5 x6 x7 x8 x9 x10:Value):(W.alloc (.cells #[x0,x1,x2,x3,x4,x5,x6,x7,x8,x9,x10] T)).rowIs b T 11 (fun j=>[x0,x1,x2,x3,x4,x5,x6,x7,x8,x9,x10].getD j vd):=by
 subst h
 exact World.rowIs_alloc W #[x0,x1,x2,x3,x4,x5,x6,x7,x8,x9,x10] T _ (fun i hi=>by
  have hi':i<11:=hi
  match i,hi' with
  | 0,_ | 1,_ | 2,_ | 3,_ | 4,_ | 5,_ | 6,_ | 7,_ | 8,_ | 9,_ | 10,_=>simp)
theorem setCell_block {a b:World} {k:Nat} (p:Addr) (u:Value) (h:b.heap[k]? =a.heap[k]?):(b.setCell p u).heap[k]? =(a.setCell p u).heap[k]?:=by
 unfold World.setCell
 simp only[Array.getElem?_modify,h]
theorem ext_set {a b:World} (h:Ext a b) (p:Addr) (u:Value):Ext (a.setCell p u) (b.setCell p u):=
 ⟨(show b.os=a.os from Below.os h),(show b.tape=a.tape from Below.tape h),(show b.output=a.output from Below.output h),by simpa using Below.size h,fun k hk=>setCell_block p u (Below.block h k (by simpa using hk))⟩
def ChOut (w:World) (c:Co) (n:Nat) (e:Ending) (w':World):Prop:=∃P w0 a' wv,e=.returned (.pointer (some ⟨P,0,none⟩))∧CSt w.heap.size (fun _=>True) P w0 w' ⟨c,[]⟩ a' n wv (.slice none 0 0) []∧Ext w w0
set_option maxRecDepth 100000 in
set_option maxHeartbeats 4000000 in
theorem changeOf_any (c:Co) (a:CA) (n:Nat) (ao:Option Addr) (len cap:Nat) (w:World) (h:CoAt w c a) (hok:CoOk c):
 Calls Try.prog 83 #[cvl c a,.agg #[.int .i64 n,.slice ao len cap]] w fun e w'=>ChOut w c n e w':=by
 obtain⟨st,now,nxt,num,wts⟩:=c
 obtain⟨an,ax,wo,wc⟩:=a
 obtain⟨hn,hx,hw⟩:=h
 simp only at hn hx hw
 obtain⟨hnk,hxk,hwl⟩:=hok
 simp only at hnk hxk hwl
 unfold cvl
 simp only
 go_enter Try.func83,Try.ntmps83
 go_wp2_with fail
 obtain⟨W1,hW1⟩:∃W1,W1=(w.alloc (.cells #[.int .i64 st,.int .i64 now.v,.slice an.fo now.fs.length an.fc,.slice an.qo now.ps.length an.qc,.int .i64 nxt.v,.slice ax.fo nxt.fs.length ax.fc,.slice ax.qo nxt.ps.length ax.qc,.int .i64 num,.slice wo wts.length wc] 33)).alloc (.cells #[.int .i64 n,.slice ao len cap] 24):=⟨_,rfl⟩
 have E1:Ext w W1:=by rw[hW1];exact((Ext.refl w).alloc _).alloc _
 have b1:BX W1 w.heap.size (coL ⟨st,now,nxt,num,wts⟩ ⟨an,ax,wo,wc⟩):=by rw[hW1];exact(box_row rfl _ _ _ _ _ _ _ _ _).alloc _
 have t1:W1.cell? ⟨w.heap.size+1,0,none⟩=some (.int .i64 n):=by rw[hW1];simp
 have s1:W1.heap.size=w.heap.size+1+1:=by rw[hW1];simp
 rw[←hW1]
 have HB1:=hidp b1
 have HT1:=hidp t1
 have HS1:=hidp s1
 clear hW1 b1 t1 s1
 refine(Copy_any now an W1 (hn.ext E1) hnk).mono ?_
 rintro e w2 ⟨a1,he,hN1,E2⟩
 have he':e=.returned (.agg #[.int .i64 now.v,.slice a1.fo now.fs.length a1.fc,.slice a1.qo now.ps.length a1.qc]):=he
 subst he'
 have HN1:=hidp hN1
 have hl2:w.heap.size<w2.heap.size:=by have:=HS1.out;have:=E2.size;omega
 have hl2':w.heap.size+1<w2.heap.size:=by have:=HS1.out;have:=E2.size;omega
 have HB2:Hid (BX w2 w.heap.size (coL ⟨st,now,nxt,num,wts⟩ ⟨an,ax,wo,wc⟩)):=World.rowIs.of_block HB1.out (Below.block E2 _ (World.rowIs.lt HB1.out))
 have c1:w2.cell? ⟨w.heap.size,1,none⟩=some (.int .i64 now.v):=World.rowIs.cell HB2.out (i:=1) (by omega)
 have c2:w2.cell? ⟨w.heap.size,2,none⟩=some (.slice an.fo now.fs.length an.fc):=World.rowIs.cell HB2.out (i:=2) (by omega)
 have c3:w2.cell? ⟨w.heap.size,3,none⟩=some (.slice an.qo now.ps.length an.qc):=World.rowIs.cell HB2.out (i:=3) (by omega)
 have c4:w2.cell? ⟨w.heap.size,4,none⟩=some (.int .i64 nxt.v):=World.rowIs.cell HB2.out (i:=4) (by omega)
 have c5:w2.cell? ⟨w.heap.size,5,none⟩=some (.slice ax.fo nxt.fs.length ax.fc):=World.rowIs.cell HB2.out (i:=5) (by omega)
 have c6:w2.cell? ⟨w.heap.size,6,none⟩=some (.slice ax.qo nxt.ps.length ax.qc):=World.rowIs.cell HB2.out (i:=6) (by omega)
 have z1:=World.rowIs.frozen HB2.out 1
 have z2:=World.rowIs.frozen HB2.out 2
 have z3:=World.rowIs.frozen HB2.out 3
 clear he hN1
 go_wp2_with fail
 obtain⟨W3,hW3⟩:∃W3,W3=((w2.setCell ⟨w.heap.size,1,none⟩ (.int .i64 now.v)).setCell ⟨w.heap.size,2,none⟩ (.slice a1.fo now.fs.length a1.fc)).setCell ⟨w.heap.size,3,none⟩ (.slice a1.qo now.ps.length a1.qc):=⟨_,rfl⟩
 have E3:Ext w W3:=by rw[hW3];exact(((E1.trans E2).setCell (Nat.le_refl _) _).setCell (Nat.le_refl _) _).setCell (Nat.le_refl _) _
 have HB3:Hid (BX W3 w.heap.size (coL ⟨st,now,nxt,num,wts⟩ ⟨a1,ax,wo,wc⟩)):=by rw[hW3];exact BX.set (BX.set (BX.set HB2.out (i:=1) (by simp[coL]) _) (i:=2) (by simp[coL]) _) (i:=3) (by simp[coL]) _
 have HK3:Hid (W3.heap.size=w2.heap.size∧∀b,b≠w.heap.size→W3.heap[b]? =w2.heap[b]?):=by
  refine⟨by rw[hW3];simp,fun b hb=>?_⟩
  rw[hW3,blk_setCell_other _ _ _ _ hb,blk_setCell_other _ _ _ _ hb,blk_setCell_other _ _ _ _ hb]
 rw[←hW3]
 clear hW3 HB1 HB2 c1 c2 c3 c4 c5 c6 z1 z2 z3
 refine Calls.mono (Copy_any nxt ax W3 (hx.ext E3) hxk) ?_
 rintro e w4 ⟨a2,he,hN2,E4⟩
 have he':e=.returned (.agg #[.int .i64 nxt.v,.slice a2.fo nxt.fs.length a2.fc,.slice a2.qo nxt.ps.length a2.qc]):=he
 subst he'
 have HN2:=hidp hN2
 have hl4:w.heap.size<w4.heap.size:=by have:=HK3.out.1;have:=E4.size;omega
 have hl4':w.heap.size+1<w4.heap.size:=by have:=HK3.out.1;have:=E4.size;omega
 have HB4:Hid (BX w4 w.heap.size (coL ⟨st,now,nxt,num,wts⟩ ⟨a1,ax,wo,wc⟩)):=World.rowIs.of_block HB3.out (Below.block E4 _ (World.rowIs.lt HB3.out))
 have c4:w4.cell? ⟨w.heap.size,4,none⟩=some (.int .i64 nxt.v):=World.rowIs.cell HB4.out (i:=4) (by omega)
 have c5:w4.cell? ⟨w.heap.size,5,none⟩=some (.slice ax.fo nxt.fs.length ax.fc):=World.rowIs.cell HB4.out (i:=5) (by omega)
 have c6:w4.cell? ⟨w.heap.size,6,none⟩=some (.slice ax.qo nxt.ps.length ax.qc):=World.rowIs.cell HB4.out (i:=6) (by omega)
 have c8:w4.cell? ⟨w.heap.size,8,none⟩=some (.slice wo wts.length wc):=World.rowIs.cell HB4.out (i:=8) (by omega)
 have z4:=World.rowIs.frozen HB4.out 4
 have z5:=World.rowIs.frozen HB4.out 5
 have z6:=World.rowIs.frozen HB4.out 6
 clear he hN2
 go_wp2_with fail
 obtain⟨W5,hW5⟩:∃W5,W5=((w4.setCell ⟨w.heap.size,4,none⟩ (.int .i64 nxt.v)).setCell ⟨w.heap.size,5,none⟩ (.slice a2.fo nxt.fs.length a2.fc)).setCell ⟨w.heap.size,6,none⟩ (.slice a2.qo nxt.ps.length a2.qc):=⟨_,rfl⟩
 have E5:Ext w W5:=by rw[hW5];exact(((E3.trans E4).setCell (Nat.le_refl _) _).setCell (Nat.le_refl _) _).setCell (Nat.le_refl _) _
 have HB5:Hid (BX W5 w.heap.size (coL ⟨st,now,nxt,num,wts⟩ ⟨a1,a2,wo,wc⟩)):=by rw[hW5];exact BX.set (BX.set (BX.set HB4.out (i:=4) (by simp[coL]) _) (i:=5) (by simp[coL]) _) (i:=6) (by simp[coL]) _
 have HK5:Hid (W5.heap.size=w4.heap.size∧∀b,b≠w.heap.size→W5.heap[b]? =w4.heap[b]?):=by
  refine⟨by rw[hW5];simp,fun b hb=>?_⟩
  rw[hW5,blk_setCell_other _ _ _ _ hb,blk_setCell_other _ _ _ _ hb,blk_setCell_other _ _ _ _ hb]
 rw[←hW5]
 clear hW5 HB3 HB4 c4 c5 c6 c8 z4 z5 z6
 refine Calls.mono (cloneOwn_any wo wc wts W5 (by omega) (hw.ext E5)) ?_
 rintro e w6 ⟨wv,rfl,hown,E6⟩
 obtain⟨vo,vc,hwv,_⟩:=fn_own hown
 subst hwv
 have HOW:=hidp hown
 have hl6:w.heap.size<w6.heap.size:=by have:=HK5.out.1;have:=E6.size;omega
 have hl6':w.heap.size+1<w6.heap.size:=by have:=HK5.out.1;have:=E6.size;omega
 have HB6:Hid (BX w6 w.heap.size (coL ⟨st,now,nxt,num,wts⟩ ⟨a1,a2,wo,wc⟩)):=World.rowIs.of_block HB5.out (Below.block E6 _ (World.rowIs.lt HB5.out))
 have t6:w6.cell? ⟨w.heap.size+1,0,none⟩=some (.int .i64 n):=by
  have hne:w.heap.size+1≠w.heap.size:=by omega
  have s1:=HS1.out
  have q1:=Below.block E2 (w.heap.size+1) (by omega)
  have q2:=HK3.out.2 _ hne
  have q3:=Below.block E4 (w.heap.size+1) (by have:=HK3.out.1;omega)
  have q4:=HK5.out.2 _ hne
  have q5:=Below.block E6 (w.heap.size+1) (by have:=HK5.out.1;omega)
  exact(World.cell?_of_block (a:=⟨w.heap.size+1,0,none⟩) (q5.trans (q4.trans (q3.trans (q2.trans q1))))).trans HT1.out
 have c0:w6.cell? ⟨w.heap.size,0,none⟩=some (.int .i64 st):=World.rowIs.cell HB6.out (i:=0) (by omega)
 have c1:w6.cell? ⟨w.heap.size,1,none⟩=some (.int .i64 now.v):=World.rowIs.cell HB6.out (i:=1) (by omega)
 have c2:w6.cell? ⟨w.heap.size,2,none⟩=some (.slice a1.fo now.fs.length a1.fc):=World.rowIs.cell HB6.out (i:=2) (by omega)
 have c3:w6.cell? ⟨w.heap.size,3,none⟩=some (.slice a1.qo now.ps.length a1.qc):=World.rowIs.cell HB6.out (i:=3) (by omega)
 have c4:w6.cell? ⟨w.heap.size,4,none⟩=some (.int .i64 nxt.v):=World.rowIs.cell HB6.out (i:=4) (by omega)
 have c5:w6.cell? ⟨w.heap.size,5,none⟩=some (.slice a2.fo nxt.fs.length a2.fc):=World.rowIs.cell HB6.out (i:=5) (by omega)
 have c6:w6.cell? ⟨w.heap.size,6,none⟩=some (.slice a2.qo nxt.ps.length a2.qc):=World.rowIs.cell HB6.out (i:=6) (by omega)
 have c7:w6.cell? ⟨w.heap.size,7,none⟩=some (.int .i64 num):=World.rowIs.cell HB6.out (i:=7) (by omega)
 have c8:w6.cell? ⟨w.heap.size,8,none⟩=some (.slice wo wts.length wc):=World.rowIs.cell HB6.out (i:=8) (by omega)
 have z8:=World.rowIs.frozen HB6.out 8
 clear hown
 go_wp2
 go_ret
 have s1:=HS1.out
 have s3:=HK3.out
 have s5:=HK5.out
 have z2:=E2.size
 have z4':=E4.size
 have z6':=E6.size
 have hb8:∀b',b'≠w.heap.size→(W5.setCell ⟨w.heap.size,8,none⟩ (.slice vo wts.length vc)).heap[b']? =W5.heap[b']?:=fun b' hb'=>blk_setCell_other _ _ _ _ hb'
 refine⟨w6.heap.size,W5.setCell ⟨w.heap.size,8,none⟩ (.slice vo wts.length vc),⟨a1,a2,vo,vc⟩,.slice vo wts.length vc,rfl,⟨?_,?_,World.ownsRow_nil _ _ _ _,fun e=>?_,fun b' _ e=>?_,trivial,(ext_set E6 _ _).alloc _,by simpa using z6',by simp;omega,?_,?_⟩,E5.setCell (Nat.le_refl _) _⟩
 ·exact chg_row (by simp) _ _ _ _ _ _ _ _ _ _ _
 ·have h1:=ownsRow_setCell_below HOW.out (a:=⟨w.heap.size,8,none⟩) (by show w.heap.size<_;omega) (.slice vo wts.length vc)
  have h2:=h1.alloc (.cells #[.int .i64 st,.int .i64 now.v,.slice a1.fo now.fs.length a1.fc,.slice a1.qo now.ps.length a1.qc,.int .i64 nxt.v,.slice a2.fo nxt.fs.length a2.fc,.slice a2.qo nxt.ps.length a2.qc,.int .i64 num,.slice vo wts.length vc,.int .i64 n,.slice none 0 0] 157)
  rw[show(W5.setCell ⟨w.heap.size,8,none⟩ (.slice vo wts.length vc)).heap.size=W5.heap.size by simp]
  exact h2
 ·have:=(HOW.out.lt _ e).2;omega
 ·simp[Value.ownBlock] at e
 ·intro V hV1 hV2
  refine HN1.out V (by simp at hV1;omega) (fun b' hb' hlt=>?_)
  rw[hV2 b' (by omega) (by simp;omega),hb8 b' (by omega),s5.2 b' (by omega),Below.block E4 b' (by omega),s3.2 b' (by omega)]
 ·intro V hV1 hV2
  refine HN2.out V (by simp at hV1;omega) (fun b' hb' hlt=>?_)
  rw[hV2 b' (by omega) (by simp;omega),hb8 b' (by omega),s5.2 b' (by omega)]
end Go.Proofs.Ytolclgbpjiokfaa.Ct
