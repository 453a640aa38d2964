/- What Do answers: what the document says. -/
import Derived.Test.YtolclgbpjiokfaaU28
import Derived.Test.YtolclgbpjiokfaaU31
namespace Go.Proofs.Ytolclgbpjiokfaa.Ag
open Go.RowKit Go.Deep Tb Rul Wi
def SwOut (w:World) (x:Agt.Sw×Int) (e:Ending) (w':World):Prop:=
 ∃ao bo ac bc,e=.returned (.tuple #[svl x.1 ao bo ac bc,.int .i64 x.2])∧SwAt w' x.1 ao bo ac∧Ext w w'∧NwA w.heap.size ao∧NwA w.heap.size bo
def ChOut (F:Nat) (s:Agt.Sw) (ro so:Option Addr) (rc sc:Nat) (x:Agt.Sw×Int) (w:World) (e:Ending) (w':World):Prop:=
 ∃p,e=.returned (.func (.func F) #[] #[.pointer (some ⟨p,0,none⟩)])∧Ext w w'∧Hid (∀W,Ext w' W→Calls Try.prog F #[svl s ro so rc sc,.pointer (some ⟨p,0,none⟩)] W fun e w''=>SwOut W x e w'')
theorem Ob_ext (w:World) (o:Wir.Od) (po fo:Option Addr) (pc fc:Nat):Ext w (Ob w o po fo pc fc):=(Ext.refl w).alloc _
theorem Ob_cells {w W:World} {o:Wir.Od} {po fo:Option Addr} {pc fc:Nat} (E:Ext (Ob w o po fo pc fc) W):W.cell? ⟨w.heap.size,2,none⟩=some (.int .i64 o.v)∧W.cell? ⟨w.heap.size,3,none⟩=some (.slice po o.rs.length pc)∧W.cell? ⟨w.heap.size,4,none⟩=some (.slice fo o.fs.length fc)∧w.heap.size<W.heap.size:=by
 have l0:w.heap.size<(Ob w o po fo pc fc).heap.size:=by unfold Ob;simp
 refine⟨(E.cells.1 _ _ l0).trans ?_,(E.cells.1 _ _ l0).trans ?_,(E.cells.1 _ _ l0).trans ?_,Nat.lt_of_lt_of_le l0 E.size⟩ <;> (unfold Ob;simp)
theorem change_add (s:Agt.Sw) (o:Wir.Od) (ro so po fo:Option Addr) (rc sc pc fc:Nat) (w:World) (h:SwAt w s ro so rc) (ho:OAt w o po fo) (hk:o.k=1) (hpn:po=none→o.rs.length=0∧pc=0) (hpl:o.rs.length≤16):
 Calls Try.prog 89 #[ovl o po fo pc fc] w fun e w'=>ChOut 112 s ro so rc sc (chg (add s.rs o.rs).1 (add s.rs o.rs).2 s.st) w e w':=by
 refine(changeBy_add o po fo pc fc w hk).mono ?_
 rintro e w1 ⟨rfl,hw1⟩
 have E1:Ext (Ob w o po fo pc fc) w1:=by rw[hw1];exact(Ext.refl _).alloc _
 have E0:=(Ob_ext w o po fo pc fc).trans E1
 have hs1:(Ob w o po fo pc fc).heap.size=w.heap.size+1:=by unfold Ob;simp
 have pc1:w1.cell? ⟨w.heap.size+1,0,none⟩=some (.func (.func 103) #[] #[.pointer (some ⟨w.heap.size,0,none⟩)]):=by rw[hw1, ←hs1];simp
 have pl1:w.heap.size+1<w1.heap.size:=by rw[hw1, ←hs1];simp
 refine⟨_,rfl,E0,fun W hW=>?_⟩
 have hSW:=h.ext (E0.trans hW)
 have hrl:s.rs.length*24≤140737488351232:=h.rl
 exact turn_any 103 s ro so rc sc (w.heap.size+1) w.heap.size _ _ W hSW (Or.inl rfl) (fun h0=>by have:=(tab_iff.1 (add_zero h0).2.1).1;omega) ((hW.cells.1 _ _ pl1).trans pc1) (Nat.lt_of_lt_of_le pl1 hW.size)
  (fun W2 hW2=>cloAdd_any ro po rc pc w.heap.size s.rs o.rs W2 (hSW.hr.ext hW2) ⟨rfl,RsAt.ext ho.hr ((E0.trans hW).trans hW2),hpn⟩ (by omega) (by omega) (Ob_cells ((E1.trans hW).trans hW2)).2.1)
theorem change_drop (s:Agt.Sw) (o:Wir.Od) (ro so po fo:Option Addr) (rc sc pc fc:Nat) (w:World) (h:SwAt w s ro so rc) (hk:o.k=3):
 Calls Try.prog 89 #[ovl o po fo pc fc] w fun e w'=>ChOut 112 s ro so rc sc (chg (drp s.rs o.v) 0 s.st) w e w':=by
 refine(changeBy_drop o po fo pc fc w hk).mono ?_
 rintro e w1 ⟨rfl,hw1⟩
 have E1:Ext (Ob w o po fo pc fc) w1:=by rw[hw1];exact(Ext.refl _).alloc _
 have E0:=(Ob_ext w o po fo pc fc).trans E1
 have hs1:(Ob w o po fo pc fc).heap.size=w.heap.size+1:=by unfold Ob;simp
 have pc1:w1.cell? ⟨w.heap.size+1,0,none⟩=some (.func (.func 105) #[] #[.pointer (some ⟨w.heap.size,0,none⟩)]):=by rw[hw1, ←hs1];simp
 have pl1:w.heap.size+1<w1.heap.size:=by rw[hw1, ←hs1];simp
 refine⟨_,rfl,E0,fun W hW=>?_⟩
 have hSW:=h.ext (E0.trans hW)
 have hrl:s.rs.length*24≤140737488351232:=h.rl
 exact turn_any 105 s ro so rc sc (w.heap.size+1) w.heap.size _ _ W hSW (Or.inr rfl) (fun _=>by have:=drp_le s.rs o.v;omega) ((hW.cells.1 _ _ pl1).trans pc1) (Nat.lt_of_lt_of_le pl1 hW.size)
  (fun W2 hW2=>cloDrop_any ro rc w.heap.size s.rs o.v W2 (RsAt.ext hSW.hr.hat hW2) hrl (Ob_cells ((E1.trans hW).trans hW2)).1)
theorem change_stamp (s:Agt.Sw) (o:Wir.Od) (ro so po fo:Option Addr) (rc sc pc fc:Nat) (w:World) (h:SwAt w s ro so rc) (ho:OAt w o po fo) (hk:o.k=2) (hfl:o.fs.length≤12):
 Calls Try.prog 89 #[ovl o po fo pc fc] w fun e w'=>ChOut 107 s ro so rc sc (⟨s.rs,Agt.stamps o.v o.fs⟩,0) w e w':=by
 refine(changeBy_stamp o po fo pc fc w hk).mono ?_
 rintro e w1 ⟨rfl,hw1⟩
 have E1:Ext (Ob w o po fo pc fc) w1:=by rw[hw1];exact Ext.refl _
 have E0:=(Ob_ext w o po fo pc fc).trans E1
 refine⟨_,rfl,E0,fun W hW=>?_⟩
 obtain⟨c2,_,c4,cl⟩:=Ob_cells (E1.trans hW)
 exact cloStamp_any s ro so fo rc sc fc w.heap.size o.v o.fs W (h.ext (E0.trans hW)) (ListAt.ext ho.hf (E0.trans hW)) hfl c2 c4 cl
set_option maxRecDepth 100000 in
set_option maxHeartbeats 1600000 in
theorem Do_wrong (s:Agt.Sw) (o:Wir.Od) (ro so po fo:Option Addr) (rc sc pc fc:Nat) (w:World) (h:SwAt w s ro so rc) (hz:Agt.wrongS s≠0):
 Calls Try.prog 69 #[svl s ro so rc sc,ovl o po fo pc fc] w fun e w'=>e=.returned (.tuple #[.agg #[.slice none 0 0,.slice none 0 0],.int .i64 (Agt.wrongS s)])∧Ext w w':=by
 have HC:Hid (∀W,Ext w W→Calls Try.prog 87 #[svl s ro so rc sc] W fun e w'=>e=.returned (.int .i64 (Agt.wrongS s))∧Ext W w'):=fun W hW=>Wrong_any s ro so rc sc W (h.ext hW)
 clear h
 obtain⟨y,hy⟩:∃y,Agt.wrongS s=y:=⟨_,rfl⟩
 rw[hy] at hz HC ⊢
 clear hy
 have b0:(y != 0)=true:=by simpa using hz
 obtain⟨rs,st⟩:=s
 obtain⟨k,n,v,ps,fs⟩:=o
 unfold svl ovl at *
 clear hz
 go_enter Try.func69,Try.ntmps69
 go_wp2_with fail
 refine(HC.out _ (Dw_ext w _ _ k n v (.slice po ps.length pc) (.slice fo fs.length fc))).mono ?_
 rintro e w1 ⟨rfl,E1⟩
 have D1:Hid _:=DAt.of E1
 have r0:=D1.out.r0
 have r1:=D1.out.r1
 have g0:=D1.out.g0
 have g1:=D1.out.g1
 go_wp2
 refine bodyPost_ret (v:=.tuple #[.agg #[.slice none 0 0,.slice none 0 0],.int .i64 y]) (by simp[results,Try.results69,go_sem,r0,r1]) rfl ⟨rfl,?_⟩
 exact(((Dw_ext w _ _ k n v _ _).trans E1).setCell (by simp;omega) _).setCell (by simp;omega) _
set_option maxRecDepth 100000 in
set_option maxHeartbeats 1600000 in
theorem Do_order (s:Agt.Sw) (o:Wir.Od) (ro so po fo:Option Addr) (rc sc pc fc:Nat) (w:World) (h:SwAt w s ro so rc) (ho:OAt w o po fo) (hz:Agt.wrongS s=0) (hy:Wir.wrong o≠0):
 Calls Try.prog 69 #[svl s ro so rc sc,ovl o po fo pc fc] w fun e w'=>e=.returned (.tuple #[.agg #[.slice none 0 0,.slice none 0 0],.int .i64 (Wir.wrong o)])∧Ext w w':=by
 have HC:Hid (∀W,Ext w W→Calls Try.prog 87 #[svl s ro so rc sc] W fun e w'=>e=.returned (.int .i64 0)∧Ext W w'):=fun W hW=>by have:=Wrong_any s ro so rc sc W (h.ext hW);rwa [hz] at this
 have HO:Hid (∀W,Ext w W→Calls Try.prog 88 #[ovl o po fo pc fc] W fun e w'=>e=.returned (.int .i64 (Wir.wrong o))∧Ext W w'):=fun W hW=>Wi.Wrong_any o po fo pc fc W (ho.ext hW)
 clear h ho hz
 obtain⟨y,hy'⟩:∃y,Wir.wrong o=y:=⟨_,rfl⟩
 rw[hy'] at hy HO ⊢
 clear hy'
 have b0:(y != 0)=true:=by simpa using hy
 obtain⟨rs,st⟩:=s
 obtain⟨k,n,v,ps,fs⟩:=o
 unfold svl ovl at *
 clear hy
 go_enter Try.func69,Try.ntmps69
 go_wp2_with fail
 refine(HC.out _ (Dw_ext w _ _ k n v (.slice po ps.length pc) (.slice fo fs.length fc))).mono ?_
 rintro e w1 ⟨rfl,E1⟩
 obtain⟨s0,s1,o0,o1,o2,o3,o4,r0,r1,f0,f1,g0,g1⟩:=DAt.of E1
 go_wp2_with fail
 refine(HO.out _ ((Dw_ext w _ _ k n v (.slice po ps.length pc) (.slice fo fs.length fc)).trans E1)).mono ?_
 rintro e w2 ⟨rfl,E2⟩
 clear s0 s1 o0 o1 o2 o3 o4 r0 r1 f0 f1 g0 g1
 have D1:Hid _:=DAt.of (E1.trans E2)
 have r0:=D1.out.r0
 have r1:=D1.out.r1
 have g0:=D1.out.g0
 have g1:=D1.out.g1
 go_wp2
 refine bodyPost_ret (v:=.tuple #[.agg #[.slice none 0 0,.slice none 0 0],.int .i64 y]) (by simp[results,Try.results69,go_sem,r0,r1]) rfl ⟨rfl,?_⟩
 exact(((Dw_ext w _ _ k n v _ _).trans (E1.trans E2)).setCell (by simp;omega) _).setCell (by simp;omega) _
def Dv (w:World) (rv sv:Value) (k n v:Int) (pv fv:Value):World:=
 (w.alloc (.cells #[rv,sv] 60)).alloc (.cells #[.int .i64 k,.int .i64 n,.int .i64 v,pv,fv] 135)
theorem Dv_ext (w:World) (rv sv:Value) (k n v:Int) (pv fv:Value):Ext (Dv w rv sv k n v pv fv) (Dw w rv sv k n v pv fv):=(Ext.refl _).alloc _
theorem Dv_size (w:World) (rv sv:Value) (k n v:Int) (pv fv:Value):(Dv w rv sv k n v pv fv).heap.size=w.heap.size+1+1:=by unfold Dv;simp
structure SOAt (W:World) (b:Nat) (rv sv:Value) (k n v:Int) (pv fv:Value):Prop where
 all:W.cell? ⟨b,0,none⟩=some rv∧W.cell? ⟨b,1,none⟩=some sv∧W.cell? ⟨b+1,0,none⟩=some (.int .i64 k)∧W.cell? ⟨b+1,1,none⟩=some (.int .i64 n)∧W.cell? ⟨b+1,2,none⟩=some (.int .i64 v)∧W.cell? ⟨b+1,3,none⟩=some pv∧W.cell? ⟨b+1,4,none⟩=some fv
theorem SOAt.of {w W:World} {rv sv:Value} {k n v:Int} {pv fv:Value} (E:Ext (Dv w rv sv k n v pv fv) W):SOAt W w.heap.size rv sv k n v pv fv:=by
 have l0:w.heap.size<(Dv w rv sv k n v pv fv).heap.size:=by unfold Dv;simp;omega
 have l1:w.heap.size+1<(Dv w rv sv k n v pv fv).heap.size:=by unfold Dv;simp
 have hc:=E.cells.1
 refine⟨?_,?_,?_,?_,?_,?_,?_⟩
 ·rw[hc _ _ l0];unfold Dv;first | (simp;done) | (simp[go_sem];done)
 ·rw[hc _ _ l0];unfold Dv;first | (simp;done) | (simp[go_sem];done)
 all_goals(rw[hc _ _ l1];unfold Dv;first | (simp;done) | (simp[go_sem];done))
set_option maxRecDepth 100000 in
set_option maxHeartbeats 1600000 in
theorem Do_right (F:Nat) (x:Agt.Sw×Int) (s:Agt.Sw) (o:Wir.Od) (ro so po fo:Option Addr) (rc sc pc fc:Nat) (w:World) (h:SwAt w s ro so rc) (ho:OAt w o po fo) (hz:Agt.wrongS s=0) (hy:Wir.wrong o=0) (hF:F=112∨F=107)
 (hch:∀W,Ext w W→Calls Try.prog 89 #[ovl o po fo pc fc] W fun e w'=>ChOut F s ro so rc sc x W e w'):
 Calls Try.prog 69 #[svl s ro so rc sc,ovl o po fo pc fc] w fun e w'=>SwOut w x e w':=by
 have HC:Hid (∀W,Ext w W→Calls Try.prog 87 #[svl s ro so rc sc] W fun e w'=>e=.returned (.int .i64 0)∧Ext W w'):=fun W hW=>by have:=Wrong_any s ro so rc sc W (h.ext hW);rwa [hz] at this
 have HO:Hid (∀W,Ext w W→Calls Try.prog 88 #[ovl o po fo pc fc] W fun e w'=>e=.returned (.int .i64 0)∧Ext W w'):=fun W hW=>by have:=Wi.Wrong_any o po fo pc fc W (ho.ext hW);rwa [hy] at this
 have HH:Hid _:=hch
 clear h ho hz hy hch
 obtain⟨rs,st⟩:=s
 obtain⟨⟨xr,xt⟩,xe⟩:=x
 obtain⟨k,n,v,ps,fs⟩:=o
 unfold ChOut svl ovl at *
 rcases hF with rfl | rfl
 all_goals
  go_enter Try.func69,Try.ntmps69
  go_wp2_with fail
  refine(HC.out _ (Dw_ext w _ _ k n v (.slice po ps.length pc) (.slice fo fs.length fc))).mono ?_
  rintro e w1 ⟨rfl,E1⟩
  obtain⟨s0,s1,o0,o1,o2,o3,o4,r0,r1,f0,f1,g0,g1⟩:=DAt.of E1
  go_wp2_with fail
  refine(HO.out _ ((Dw_ext w _ _ k n v (.slice po ps.length pc) (.slice fo fs.length fc)).trans E1)).mono ?_
  rintro e w2 ⟨rfl,E2⟩
  clear s0 s1 o0 o1 o2 o3 o4 r0 r1 f0 f1 g0 g1 HC HO
  have E12:=E1.trans E2
  have HK:Hid (∀W,Ext (Dv w (.slice ro rs.length rc) (.slice so st.length sc) k n v (.slice po ps.length pc) (.slice fo fs.length fc)) W→SOAt W w.heap.size (.slice ro rs.length rc) (.slice so st.length sc) k n v (.slice po ps.length pc) (.slice fo fs.length fc)):=fun W hW=>SOAt.of hW
  have HD:Hid (∀W,Ext w2 W→DAt W w.heap.size (.slice ro rs.length rc) (.slice so st.length sc) k n v (.slice po ps.length pc) (.slice fo fs.length fc)):=fun W hW=>DAt.of (E12.trans hW)
  have hEv:=(Dv_ext w (.slice ro rs.length rc) (.slice so st.length sc) k n v (.slice po ps.length pc) (.slice fo fs.length fc)).trans E12
  have HVS:Hid _:=Dv_size w (.slice ro rs.length rc) (.slice so st.length sc) k n v (.slice po ps.length pc) (.slice fo fs.length fc)
  have hEw:=(Dw_ext w (.slice ro rs.length rc) (.slice so st.length sc) k n v (.slice po ps.length pc) (.slice fo fs.length fc)).trans E12
  clear E1 E2 E12
  generalize Dv w (.slice ro rs.length rc) (.slice so st.length sc) k n v (.slice po ps.length pc) (.slice fo fs.length fc)=D at HK hEv HVS
  have b0:((0:Int) != 0)=false:=rfl
  go_upto_region 7 with fail
  have hd:Ext w2 w2.drew:=(Ext.refl w2).drew
  go_region_held3 (fun W=>W.cell? ⟨w.heap.size,0,none⟩=some (.slice ro rs.length rc)∧W.cell? ⟨w.heap.size,1,none⟩=some (.slice so st.length sc)∧W.cell? ⟨w.heap.size+1,0,none⟩=some (.int .i64 k)∧W.cell? ⟨w.heap.size+1,1,none⟩=some (.int .i64 n)∧W.cell? ⟨w.heap.size+1,2,none⟩=some (.int .i64 v)∧W.cell? ⟨w.heap.size+1,3,none⟩=some (.slice po ps.length pc)∧W.cell? ⟨w.heap.size+1,4,none⟩=some (.slice fo fs.length fc))
   (first | exact(HK.out _ (hEv.trans hd)).all | exact(HK.out _ (hEv.trans mk1)).all | exact(HK.out _ (hEv.trans mk2)).all | exact(HK.out _ (((hEv.trans mk2).setCell (Nat.le_of_eq HVS.out) _).setCell (Nat.le_of_eq HVS.out) _)).all)
   (first
   | (have _t:=mk1
      first
      | (go_at_call 112
         refine(HP.out _ (Ext.refl _)).mono ?_
         rintro e w4 ⟨ao,bo,ac,bc,he,hx,E4,hn1,hn2⟩
         have he':e=.returned (.tuple #[.agg #[.slice ao xr.length ac,.slice bo xt.length bc],.int .i64 xe]):=he
         subst he'
         clear he
         have HX:Hid _:=hx
         have HNW:Hid (NwA w.heap.size ao∧NwA w.heap.size bo):=⟨hn1.mono (hEw.trans mk1).size,hn2.mono (hEw.trans mk1).size⟩
         clear hn1 hn2
         have mk2:=mk1.trans E4
         obtain⟨_,_,_,_,_,_,_,r0,r1,_,_,g0,g1⟩:=HD.out _ mk2)
      | (go_at_call 107
         refine(HP.out _ (Ext.refl _)).mono ?_
         rintro e w4 ⟨ao,bo,ac,bc,he,hx,E4,hn1,hn2⟩
         have he':e=.returned (.tuple #[.agg #[.slice ao xr.length ac,.slice bo xt.length bc],.int .i64 xe]):=he
         subst he'
         clear he
         have HX:Hid _:=hx
         have HNW:Hid (NwA w.heap.size ao∧NwA w.heap.size bo):=⟨hn1.mono (hEw.trans mk1).size,hn2.mono (hEw.trans mk1).size⟩
         clear hn1 hn2
         have mk2:=mk1.trans E4
         obtain⟨_,_,_,_,_,_,_,r0,r1,_,_,g0,g1⟩:=HD.out _ mk2))
   | (go_at_call 89
      refine(HH.out _ (hEw.trans hd)).mono ?_
      rintro e w3 ⟨p,rfl,E3,HP⟩
      have mk1:=hd.trans E3))
  all_goals
   go_wp2
   refine bodyPost_ret (v:=.tuple #[.agg #[.slice ao xr.length ac,.slice bo xt.length bc],.int .i64 xe]) (by simp[results,Try.results69,go_sem,r0,r1]) rfl ?_
   exact⟨ao,bo,ac,bc,rfl,SwAt_put HX.out r0 r1 _ _,(((hEw.trans mk2).setCell (by simp;omega) _).setCell (by simp;omega) _),HNW.out.1,HNW.out.2⟩
theorem Do_any (s:Agt.Sw) (o:Wir.Od) (ro so po fo:Option Addr) (rc sc pc fc:Nat) (w:World) (h:SwAt w s ro so rc) (ho:OAt w o po fo) (hpn:o.k=1→po=none→o.rs.length=0∧pc=0):
 Calls Try.prog 69 #[svl s ro so rc sc,ovl o po fo pc fc] w fun e w'=>SwOut w (Agt.doS s o) e w':=by
 by_cases hz:Agt.wrongS s=0
 ·by_cases hy:Wir.wrong o=0
  ·obtain⟨_,hk⟩:=Wir.right_cases hy
   have e:Agt.doS s o=if o.k=1 then(if(add s.rs o.rs).2≠0 then(Agt.sw0,(add s.rs o.rs).2) else(⟨(add s.rs o.rs).1,s.st⟩,0)) else if o.k=3 then(⟨drp s.rs o.v,s.st⟩,0) else(⟨s.rs,Agt.stamps o.v o.fs⟩,0):=by
    unfold Agt.doS;rw[if_neg (by simpa using hz),if_neg (by simpa using hy)]
   rcases hk with⟨hk,hl,_⟩ | ⟨hk,hl,_⟩ | hk
   ·rw[if_pos hk] at e
    rw[e]
    exact Do_right 112 _ s o ro so po fo rc sc pc fc w h ho hz hy (Or.inl rfl) (fun W hW=>change_add s o ro so po fo rc sc pc fc W (h.ext hW) (ho.ext hW) hk (hpn hk) hl)
   ·rw[if_neg (by omega),if_neg (by omega)] at e
    rw[e]
    exact Do_right 107 _ s o ro so po fo rc sc pc fc w h ho hz hy (Or.inr rfl) (fun W hW=>change_stamp s o ro so po fo rc sc pc fc W (h.ext hW) (ho.ext hW) hk hl)
   ·rw[if_neg (by omega),if_pos hk] at e
    rw[e]
    exact Do_right 112 _ s o ro so po fo rc sc pc fc w h ho hz hy (Or.inl rfl) (fun W hW=>change_drop s o ro so po fo rc sc pc fc W (h.ext hW) hk)
  ·have e:Agt.doS s o=(Agt.sw0,Wir.wrong o):=by unfold Agt.doS;rw[if_neg (by simpa using hz),if_pos hy]
   rw[e]
   refine(Do_order s o ro so po fo rc sc pc fc w h ho hz hy).mono ?_
   rintro e w' ⟨rfl,hE⟩
   exact⟨none,none,0,0,rfl,SwAt_none _,hE,NwA.none _,NwA.none _⟩
 ·have e:Agt.doS s o=(Agt.sw0,Agt.wrongS s):=by unfold Agt.doS;rw[if_pos hz]
  rw[e]
  refine(Do_wrong s o ro so po fo rc sc pc fc w h hz).mono ?_
  rintro e w' ⟨rfl,hE⟩
  exact⟨none,none,0,0,rfl,SwAt_none _,hE,NwA.none _,NwA.none _⟩
end Go.Proofs.Ytolclgbpjiokfaa.Ag
