import Derived.Test.YthkpbefnkmmaiaaGreate28
set_option maxRecDepth 100000
set_option maxHeartbeats 4000000
namespace Go.Proofs.YthkpbefnkmmaiaaGreat
open Go.Proofs.Tryz
namespace Ag
open Go.RowKit Go.Deep Tb Rul Wi
def Dw (w:World) (rv sv:Value) (k n v:Int) (pv fv:Value):World:=
 ((w.alloc (.cells #[rv,sv] 64)).alloc (.cells #[.int .i64 k,.int .i64 n,.int .i64 v,pv,fv] 69)).alloc (.cells #[.slice none 0 0,.slice none 0 0] 64)
theorem q1b(w:World)(rv sv:Value)(k n v:Int)(pv fv:Value):Ext w (Dw w rv sv k n v pv fv):=(((Ext.refl w).alloc _).alloc _).alloc _
structure DAt (W:World) (b:Nat) (rv sv:Value) (k n v:Int) (pv fv:Value):Prop where
 s0:W.cell? ⟨b,0,none⟩=some rv
 s1:W.cell? ⟨b,1,none⟩=some sv
 o0:W.cell? ⟨b+1,0,none⟩=some (.int .i64 k)
 o1:W.cell? ⟨b+1,1,none⟩=some (.int .i64 n)
 o2:W.cell? ⟨b+1,2,none⟩=some (.int .i64 v)
 o3:W.cell? ⟨b+1,3,none⟩=some pv
 o4:W.cell? ⟨b+1,4,none⟩=some fv
 r0:W.cell? ⟨b+1+1,0,none⟩=some (.slice none 0 0)
 r1:W.cell? ⟨b+1+1,1,none⟩=some (.slice none 0 0)
 f0:W.frozen? ⟨b,0,none⟩=false
 f1:W.frozen? ⟨b,1,none⟩=false
 g0:W.frozen? ⟨b+1+1,0,none⟩=false
 g1:W.frozen? ⟨b+1+1,1,none⟩=false
variable {w W:World} {rv sv:Value} {k:Int}
theorem DAt.of{n v:Int}{pv fv:Value}(E:Ext (Dw w rv sv k n v pv fv) W):DAt W w.heap.size rv sv k n v pv fv:=by
 have l0:w.heap.size<(Dw w rv sv k n v pv fv).heap.size:=by unfold Dw;simp;omega
 have l1:w.heap.size+1<(Dw w rv sv k n v pv fv).heap.size:=by unfold Dw;simp
 have l2:w.heap.size+1+1<(Dw w rv sv k n v pv fv).heap.size:=by unfold Dw;simp
 obtain⟨hc,hf⟩:=E.cells
 constructor
 ·rw[hc _ _ l0];unfold Dw;first | (simp;done) | (simp[go_sem];done)
 ·rw[hc _ _ l0];unfold Dw;first | (simp;done) | (simp[go_sem];done)
 ·rw[hc _ _ l1];unfold Dw;first | (simp;done) | (simp[go_sem];done)
 ·rw[hc _ _ l1];unfold Dw;first | (simp;done) | (simp[go_sem];done)
 ·rw[hc _ _ l1];unfold Dw;first | (simp;done) | (simp[go_sem];done)
 ·rw[hc _ _ l1];unfold Dw;first | (simp;done) | (simp[go_sem];done)
 ·rw[hc _ _ l1];unfold Dw;first | (simp;done) | (simp[go_sem];done)
 ·rw[hc _ _ l2];unfold Dw;first | (simp;done) | (simp[go_sem];done)
 ·rw[hc _ _ l2];unfold Dw;first | (simp;done) | (simp[go_sem];done)
 ·rw[hf _ _ l0];unfold Dw;first | (simp;done) | (simp[go_sem];done)
 ·rw[hf _ _ l0];unfold Dw;first | (simp;done) | (simp[go_sem];done)
 ·rw[hf _ _ l2];unfold Dw;first | (simp;done) | (simp[go_sem];done)
 ·rw[hf _ _ l2];unfold Dw;first | (simp;done) | (simp[go_sem];done)
def SwOut (w:World) (x:Agt.Sw×Int) (e:Ending) (w':World):Prop:=
 ∃ao bo ac bc,e=.returned (.tuple #[svl x.1 ao bo ac bc,.int .i64 x.2])/\Zn w' x.1 ao bo ac/\Ext w w'/\NwA w.heap.size ao/\NwA w.heap.size bo
def z8o (F:Nat) (s:Agt.Sw) (ro so:Option Addr) (rc sc:Nat) (x:Agt.Sw×Int) (w:World) (e:Ending) (w':World):Prop:=
 ∃p,e=.returned (.func (.func F) #[] #[.pointer (some ⟨p,0,none⟩)])/\Ext w w'/\Hid (∀W,Ext w' W->Calls prog F #[svl s ro so rc sc,.pointer (some ⟨p,0,none⟩)] W fun e w''=>SwOut W x e w'')
theorem Ob_ext(w:World)(o:Wir.Od)(po fo:Option Addr)(pc fc:Nat):Ext w (Ob w o po fo pc fc):=(Ext.refl w).alloc _
theorem z2w{o:Wir.Od}{po fo:Option Addr}{pc fc:Nat}(E:Ext (Ob w o po fo pc fc) W):W.cell? ⟨w.heap.size,2,none⟩=some (.int .i64 o.v)/\W.cell? ⟨w.heap.size,3,none⟩=some (.slice po o.rs.length pc)/\W.cell? ⟨w.heap.size,4,none⟩=some (.slice fo o.fs.length fc)/\w.heap.size<W.heap.size:=by
 have l0:w.heap.size<(Ob w o po fo pc fc).heap.size:=by unfold Ob;simp
 refine⟨(E.cells.1 _ _ l0).trans ?_,(E.cells.1 _ _ l0).trans ?_,(E.cells.1 _ _ l0).trans ?_,Q5 l0 E.size⟩ <;> (unfold Ob;simp)
theorem change_add(s:Agt.Sw)(o:Wir.Od)(ro so po fo:Option Addr)(rc sc pc fc:Nat)(w:World)(h:Zn w s ro so rc)(ho:OAt w o po fo)(hk:o.k=1)(hpn:po=none->o.rs.length=0/\pc=0)(hpl:o.rs.length<=16):
 Calls prog 71 #[ovl o po fo pc fc] w fun e w'=>z8o 114 s ro so rc sc (chg (add s.rs o.rs).1 (add s.rs o.rs).2 s.st) w e w':=by
 refine(z5o o po fo pc fc w hk).mono ?_
 rintro e w1 ⟨rfl,hw1⟩
 have E1:Ext (Ob w o po fo pc fc) w1:=by rw[hw1];exact(Ext.refl _).alloc _
 have E0:=(Ob_ext w o po fo pc fc).trans E1
 have hs1:(Ob w o po fo pc fc).heap.size=w.heap.size+1:=by unfold Ob;simp
 have pc1:w1.cell? ⟨w.heap.size+1,0,none⟩=some (.func (.func 95) #[] #[.pointer (some ⟨w.heap.size,0,none⟩)]):=by rw[hw1, <-hs1];simp
 have pl1:w.heap.size+1<w1.heap.size:=by rw[hw1, <-hs1];simp
 refine⟨_,rfl,E0,fun W hW=>?_⟩
 have hSW:=h.ext (E0.trans hW)
 have hrl:s.rs.length*24<=140737488351232:=h.rl
 exact turn_any 95 s ro so rc sc (w.heap.size+1) w.heap.size _ _ W hSW (Or.inl rfl) (fun h0=>by have:=(q0j.1 (add_zero h0).2.1).1;omega) ((hW.cells.1 _ _ pl1).trans pc1) (Q5 pl1 hW.size)
  (fun W2 hW2=>cloAdd_any ro po rc pc w.heap.size s.rs o.rs W2 (hSW.hr.ext hW2) ⟨rfl,Zl.ext ho.hr ((E0.trans hW).trans hW2),hpn⟩ (by omega) (by omega) (z2w ((E1.trans hW).trans hW2)).2.1)
theorem z8b(s:Agt.Sw)(o:Wir.Od)(ro so po fo:Option Addr)(rc sc pc fc:Nat)(w:World)(h:Zn w s ro so rc)(hk:o.k=3):
 Calls prog 71 #[ovl o po fo pc fc] w fun e w'=>z8o 114 s ro so rc sc (chg (drp s.rs o.v) 0 s.st) w e w':=by
 refine(z2o o po fo pc fc w hk).mono ?_
 rintro e w1 ⟨rfl,hw1⟩
 have E1:Ext (Ob w o po fo pc fc) w1:=by rw[hw1];exact(Ext.refl _).alloc _
 have E0:=(Ob_ext w o po fo pc fc).trans E1
 have hs1:(Ob w o po fo pc fc).heap.size=w.heap.size+1:=by unfold Ob;simp
 have pc1:w1.cell? ⟨w.heap.size+1,0,none⟩=some (.func (.func 97) #[] #[.pointer (some ⟨w.heap.size,0,none⟩)]):=by rw[hw1, <-hs1];simp
 have pl1:w.heap.size+1<w1.heap.size:=by rw[hw1, <-hs1];simp
 refine⟨_,rfl,E0,fun W hW=>?_⟩
 have hSW:=h.ext (E0.trans hW)
 have hrl:s.rs.length*24<=140737488351232:=h.rl
 exact turn_any 97 s ro so rc sc (w.heap.size+1) w.heap.size _ _ W hSW (Or.inr rfl) (fun _=>by have:=drp_le s.rs o.v;omega) ((hW.cells.1 _ _ pl1).trans pc1) (Q5 pl1 hW.size)
  (fun W2 hW2=>z7z ro rc w.heap.size s.rs o.v W2 (Zl.ext hSW.hr.Q2 hW2) hrl (z2w ((E1.trans hW).trans hW2)).1)
theorem z5n(s:Agt.Sw)(o:Wir.Od)(ro so po fo:Option Addr)(rc sc pc fc:Nat)(w:World)(h:Zn w s ro so rc)(ho:OAt w o po fo)(hk:o.k=2)(hfl:o.fs.length<=12):
 Calls prog 71 #[ovl o po fo pc fc] w fun e w'=>z8o 99 s ro so rc sc (⟨s.rs,Agt.stamps o.v o.fs⟩,0) w e w':=by
 refine(q9e o po fo pc fc w hk).mono ?_
 rintro e w1 ⟨rfl,hw1⟩
 have E1:Ext (Ob w o po fo pc fc) w1:=by rw[hw1];exact Ext.refl _
 have E0:=(Ob_ext w o po fo pc fc).trans E1
 refine⟨_,rfl,E0,fun W hW=>?_⟩
 obtain⟨c2,_,c4,cl⟩:=z2w (E1.trans hW)
 exact z5l s ro so fo rc sc fc w.heap.size o.v o.fs W (h.ext (E0.trans hW)) (Qj.ext ho.hf (E0.trans hW)) hfl c2 c4 cl
theorem Do_wrong(s:Agt.Sw)(o:Wir.Od)(ro so po fo:Option Addr)(rc sc pc fc:Nat)(w:World)(h:Zn w s ro so rc)(hz:Agt.Qo s≠0):
 Calls prog 44 #[svl s ro so rc sc,ovl o po fo pc fc] w fun e w'=>e=.returned (.tuple #[.agg #[.slice none 0 0,.slice none 0 0],.int .i64 (Agt.Qo s)])/\Ext w w':=by
 have HC:Hid (∀W,Ext w W->Calls prog 69 #[svl s ro so rc sc] W fun e w'=>e=.returned (.int .i64 (Agt.Qo s))/\Ext W w'):=fun W hW=>Zb s ro so rc sc W (h.ext hW)
 clear h
 obtain⟨y,hy⟩:∃y,Agt.Qo s=y:=⟨_,rfl⟩
 rw[hy] at hz HC ⊢
 clear hy
 have b0:(y != 0)=true:=by simpa using hz
 obtain⟨rs,st⟩:=s
 obtain⟨k,n,v,ps,fs⟩:=o
 unfold svl ovl at *
 clear hz
 go_enter func44,ntmps44
 go_wp2_with fail
 refine(HC.out _ (q1b w _ _ k n v (.slice po ps.length pc) (.slice fo fs.length fc))).mono ?_
 rintro e w1 ⟨rfl,E1⟩
 have D1:Hid _:=DAt.of E1
 have r0:=D1.out.r0
 have r1:=D1.out.r1
 have g0:=D1.out.g0
 have g1:=D1.out.g1
 go_wp2
 refine bodyPost_ret (v:=.tuple #[.agg #[.slice none 0 0,.slice none 0 0],.int .i64 y]) (by simp[results,results44,go_sem,r0,r1]) rfl ⟨rfl,?_⟩
 exact(((q1b w _ _ k n v _ _).trans E1).setCell (by simp;omega) _).setCell (by simp;omega) _
theorem Do_order(s:Agt.Sw)(o:Wir.Od)(ro so po fo:Option Addr)(rc sc pc fc:Nat)(w:World)(h:Zn w s ro so rc)(ho:OAt w o po fo)(hz:Agt.Qo s=0)(hy:Wir.Qc o≠0):
 Calls prog 44 #[svl s ro so rc sc,ovl o po fo pc fc] w fun e w'=>e=.returned (.tuple #[.agg #[.slice none 0 0,.slice none 0 0],.int .i64 (Wir.Qc o)])/\Ext w w':=by
 have HC:Hid (∀W,Ext w W->Calls prog 69 #[svl s ro so rc sc] W fun e w'=>e=.returned (.int .i64 0)/\Ext W w'):=fun W hW=>by have:=Zb s ro so rc sc W (h.ext hW);rwa [hz] at this
 have HO:Hid (∀W,Ext w W->Calls prog 70 #[ovl o po fo pc fc] W fun e w'=>e=.returned (.int .i64 (Wir.Qc o))/\Ext W w'):=fun W hW=>Wi.Zb o po fo pc fc W (ho.ext hW)
 clear h ho hz
 obtain⟨y,hy'⟩:∃y,Wir.Qc o=y:=⟨_,rfl⟩
 rw[hy'] at hy HO ⊢
 clear hy'
 have b0:(y != 0)=true:=by simpa using hy
 obtain⟨rs,st⟩:=s
 obtain⟨k,n,v,ps,fs⟩:=o
 unfold svl ovl at *
 clear hy
 go_enter func44,ntmps44
 go_wp2_with fail
 refine(HC.out _ (q1b w _ _ k n v (.slice po ps.length pc) (.slice fo fs.length fc))).mono ?_
 rintro e w1 ⟨rfl,E1⟩
 obtain⟨s0,s1,o0,o1,o2,o3,o4,r0,r1,f0,f1,g0,g1⟩:=DAt.of E1
 go_wp2_with fail
 refine(HO.out _ ((q1b w _ _ k n v (.slice po ps.length pc) (.slice fo fs.length fc)).trans E1)).mono ?_
 rintro e w2 ⟨rfl,E2⟩
 clear s0 s1 o0 o1 o2 o3 o4 r0 r1 f0 f1 g0 g1
 have D1:Hid _:=DAt.of (E1.trans E2)
 have r0:=D1.out.r0
 have r1:=D1.out.r1
 have g0:=D1.out.g0
 have g1:=D1.out.g1
 go_wp2
 refine bodyPost_ret (v:=.tuple #[.agg #[.slice none 0 0,.slice none 0 0],.int .i64 y]) (by simp[results,results44,go_sem,r0,r1]) rfl ⟨rfl,?_⟩
 exact(((q1b w _ _ k n v _ _).trans (E1.trans E2)).setCell (by simp;omega) _).setCell (by simp;omega) _
def Dv (w:World) (rv sv:Value) (k n v:Int) (pv fv:Value):World:=
 (w.alloc (.cells #[rv,sv] 64)).alloc (.cells #[.int .i64 k,.int .i64 n,.int .i64 v,pv,fv] 69)
theorem Dv_ext(w:World)(rv sv:Value)(k n v:Int)(pv fv:Value):Ext (Dv w rv sv k n v pv fv) (Dw w rv sv k n v pv fv):=(Ext.refl _).alloc _
theorem Dv_size(w:World)(rv sv:Value)(k n v:Int)(pv fv:Value):(Dv w rv sv k n v pv fv).heap.size=w.heap.size+1+1:=by unfold Dv;simp
structure SOAt (W:World) (b:Nat) (rv sv:Value) (k n v:Int) (pv fv:Value):Prop where
 all:W.cell? ⟨b,0,none⟩=some rv/\W.cell? ⟨b,1,none⟩=some sv/\W.cell? ⟨b+1,0,none⟩=some (.int .i64 k)/\W.cell? ⟨b+1,1,none⟩=some (.int .i64 n)/\W.cell? ⟨b+1,2,none⟩=some (.int .i64 v)/\W.cell? ⟨b+1,3,none⟩=some pv/\W.cell? ⟨b+1,4,none⟩=some fv
theorem SOAt.of{n v:Int}{pv fv:Value}(E:Ext (Dv w rv sv k n v pv fv) W):SOAt W w.heap.size rv sv k n v pv fv:=by
 have l0:w.heap.size<(Dv w rv sv k n v pv fv).heap.size:=by unfold Dv;simp;omega
 have l1:w.heap.size+1<(Dv w rv sv k n v pv fv).heap.size:=by unfold Dv;simp
 have hc:=E.cells.1
 refine⟨?_,?_,?_,?_,?_,?_,?_⟩
 ·rw[hc _ _ l0];unfold Dv;first | (simp;done) | (simp[go_sem];done)
 ·rw[hc _ _ l0];unfold Dv;first | (simp;done) | (simp[go_sem];done)
 all_goals(rw[hc _ _ l1];unfold Dv;first | (simp;done) | (simp[go_sem];done))
theorem z3a(F:Nat)(x:Agt.Sw×Int)(s:Agt.Sw)(o:Wir.Od)(ro so po fo:Option Addr)(rc sc pc fc:Nat)(w:World)(h:Zn w s ro so rc)(ho:OAt w o po fo)(hz:Agt.Qo s=0)(hy:Wir.Qc o=0)(hF:F=114\/F=99)(hch:∀W,Ext w W->Calls prog 71 #[ovl o po fo pc fc] W fun e w'=>z8o F s ro so rc sc x W e w'):
  Calls prog 44 #[svl s ro so rc sc,ovl o po fo pc fc] w fun e w'=>SwOut w x e w':=by
  have HC:Hid (∀W,Ext w W->Calls prog 69 #[svl s ro so rc sc] W fun e w'=>e=.returned (.int .i64 0)/\Ext W w'):=fun W hW=>by have:=Zb s ro so rc sc W (h.ext hW);rwa [hz] at this
  have HO:Hid (∀W,Ext w W->Calls prog 70 #[ovl o po fo pc fc] W fun e w'=>e=.returned (.int .i64 0)/\Ext W w'):=fun W hW=>by have:=Wi.Zb o po fo pc fc W (ho.ext hW);rwa [hy] at this
  have HH:Hid _:=hch
  clear h ho hz hy hch
  obtain⟨rs,st⟩:=s
  obtain⟨⟨xr,xt⟩,xe⟩:=x
  obtain⟨k,n,v,ps,fs⟩:=o
  unfold z8o svl ovl at *
  rcases hF with rfl | rfl
  all_goals
   go_enter func44,ntmps44
   go_wp2_with fail
   refine(HC.out _ (q1b w _ _ k n v (.slice po ps.length pc) (.slice fo fs.length fc))).mono ?_
   rintro e w1 ⟨rfl,E1⟩
   obtain⟨s0,s1,o0,o1,o2,o3,o4,r0,r1,f0,f1,g0,g1⟩:=DAt.of E1
   go_wp2_with fail
   refine(HO.out _ ((q1b w _ _ k n v (.slice po ps.length pc) (.slice fo fs.length fc)).trans E1)).mono ?_
   rintro e w2 ⟨rfl,E2⟩
   clear s0 s1 o0 o1 o2 o3 o4 r0 r1 f0 f1 g0 g1 HC HO
   have E12:=E1.trans E2
   have HK:Hid (∀W,Ext (Dv w (.slice ro rs.length rc) (.slice so st.length sc) k n v (.slice po ps.length pc) (.slice fo fs.length fc)) W->SOAt W w.heap.size (.slice ro rs.length rc) (.slice so st.length sc) k n v (.slice po ps.length pc) (.slice fo fs.length fc)):=fun W hW=>SOAt.of hW
   have HD:Hid (∀W,Ext w2 W->DAt W w.heap.size (.slice ro rs.length rc) (.slice so st.length sc) k n v (.slice po ps.length pc) (.slice fo fs.length fc)):=fun W hW=>DAt.of (E12.trans hW)
   have hEv:=(Dv_ext w (.slice ro rs.length rc) (.slice so st.length sc) k n v (.slice po ps.length pc) (.slice fo fs.length fc)).trans E12
   have HVS:Hid _:=Dv_size w (.slice ro rs.length rc) (.slice so st.length sc) k n v (.slice po ps.length pc) (.slice fo fs.length fc)
   have hEw:=(q1b w (.slice ro rs.length rc) (.slice so st.length sc) k n v (.slice po ps.length pc) (.slice fo fs.length fc)).trans E12
   clear E1 E2 E12
   generalize Dv w (.slice ro rs.length rc) (.slice so st.length sc) k n v (.slice po ps.length pc) (.slice fo fs.length fc)=D at HK hEv HVS
   have b0:((0:Int) != 0)=false:=rfl
   go_upto_region 7 with fail
   have hd:Ext w2 w2.drew:=(Ext.refl w2).drew
   go_region_held3 (fun W=>cl W w.heap.size 0 (.slice ro rs.length rc)/\cl W w.heap.size 1 (.slice so st.length sc)/\cl W (w.heap.size+1) 0 (.int .i64 k)/\cl W (w.heap.size+1) 1 (.int .i64 n)/\cl W (w.heap.size+1) 2 (.int .i64 v)/\cl W (w.heap.size+1) 3 (.slice po ps.length pc)/\cl W (w.heap.size+1) 4 (.slice fo fs.length fc))
    (first | exact(HK.out _ (hEv.trans hd)).all | exact(HK.out _ (hEv.trans mk1)).all | exact(HK.out _ (hEv.trans mk2)).all | exact(HK.out _ (((hEv.trans mk2).setCell (Nat.le_of_eq HVS.out) _).setCell (Nat.le_of_eq HVS.out) _)).all)
    (first
    | (have _t:=mk1
       first
       | (go_at_call 114
          refine(HP.out _ (Ext.refl _)).mono ?_
          rintro e w4 ⟨ao,bo,ac,bc,he,hx,E4,hn1,hn2⟩
          have he':e=.returned (.tuple #[.agg #[.slice ao xr.length ac,.slice bo xt.length bc],.int .i64 xe]):=he
          subst he'
          clear he
          have HX:Hid _:=hx
          have HNW:Hid (NwA w.heap.size ao/\NwA w.heap.size bo):=⟨hn1.mono (hEw.trans mk1).size,hn2.mono (hEw.trans mk1).size⟩
          clear hn1 hn2
          have mk2:=mk1.trans E4
          obtain⟨_,_,_,_,_,_,_,r0,r1,_,_,g0,g1⟩:=HD.out _ mk2)
       | (go_at_call 99
          refine(HP.out _ (Ext.refl _)).mono ?_
          rintro e w4 ⟨ao,bo,ac,bc,he,hx,E4,hn1,hn2⟩
          have he':e=.returned (.tuple #[.agg #[.slice ao xr.length ac,.slice bo xt.length bc],.int .i64 xe]):=he
          subst he'
          clear he
          have HX:Hid _:=hx
          have HNW:Hid (NwA w.heap.size ao/\NwA w.heap.size bo):=⟨hn1.mono (hEw.trans mk1).size,hn2.mono (hEw.trans mk1).size⟩
          clear hn1 hn2
          have mk2:=mk1.trans E4
          obtain⟨_,_,_,_,_,_,_,r0,r1,_,_,g0,g1⟩:=HD.out _ mk2))
    | (go_at_call 71
       refine(HH.out _ (hEw.trans hd)).mono ?_
       rintro e w3 ⟨p,rfl,E3,HP⟩
       have mk1:=hd.trans E3))
   all_goals
    go_wp2
    refine bodyPost_ret (v:=.tuple #[.agg #[.slice ao xr.length ac,.slice bo xt.length bc],.int .i64 xe]) (by simp[results,results44,go_sem,r0,r1]) rfl ?_
    exact⟨ao,bo,ac,bc,rfl,q7g HX.out r0 r1 _ _,(((hEw.trans mk2).setCell (by simp;omega) _).setCell (by simp;omega) _),HNW.out.1,HNW.out.2⟩
theorem Do_any(s:Agt.Sw)(o:Wir.Od)(ro so po fo:Option Addr)(rc sc pc fc:Nat)(w:World)(h:Zn w s ro so rc)(ho:OAt w o po fo)(hpn:o.k=1->po=none->o.rs.length=0/\pc=0):
 Calls prog 44 #[svl s ro so rc sc,ovl o po fo pc fc] w fun e w'=>SwOut w (Agt.doS s o) e w':=by
 by_cases hz:Agt.Qo s=0
 ·by_cases hy:Wir.Qc o=0
  ·obtain⟨_,hk⟩:=Wir.q4u hy
   have e:Agt.doS s o=if o.k=1 then(if(add s.rs o.rs).2≠0 then(Agt.Zq,(add s.rs o.rs).2) else(⟨(add s.rs o.rs).1,s.st⟩,0)) else if o.k=3 then(⟨drp s.rs o.v,s.st⟩,0) else(⟨s.rs,Agt.stamps o.v o.fs⟩,0):=by
    unfold Agt.doS;rw[if_neg (by simpa using hz),if_neg (by simpa using hy)]
   rcases hk with⟨hk,hl,_⟩ | ⟨hk,hl,_⟩ | hk
   ·rw[if_pos hk] at e
    rw[e]
    exact z3a 114 _ s o ro so po fo rc sc pc fc w h ho hz hy (Or.inl rfl) (fun W hW=>change_add s o ro so po fo rc sc pc fc W (h.ext hW) (ho.ext hW) hk (hpn hk) hl)
   ·rw[if_neg (by omega),if_neg (by omega)] at e
    rw[e]
    exact z3a 99 _ s o ro so po fo rc sc pc fc w h ho hz hy (Or.inr rfl) (fun W hW=>z5n s o ro so po fo rc sc pc fc W (h.ext hW) (ho.ext hW) hk hl)
   ·rw[if_neg (by omega),if_pos hk] at e
    rw[e]
    exact z3a 114 _ s o ro so po fo rc sc pc fc w h ho hz hy (Or.inl rfl) (fun W hW=>z8b s o ro so po fo rc sc pc fc W (h.ext hW) hk)
  ·have e:Agt.doS s o=(Agt.Zq,Wir.Qc o):=by unfold Agt.doS;rw[if_neg (by simpa using hz),if_pos hy]
   rw[e]
   refine(Do_order s o ro so po fo rc sc pc fc w h ho hz hy).mono ?_
   rintro e w' ⟨rfl,hE⟩
   exact⟨none,none,0,0,rfl,q3t _,hE,NwA.none _,NwA.none _⟩
 ·have e:Agt.doS s o=(Agt.Zq,Agt.Qo s):=by unfold Agt.doS;rw[if_pos hz]
  rw[e]
  refine(Do_wrong s o ro so po fo rc sc pc fc w h hz).mono ?_
  rintro e w' ⟨rfl,hE⟩
  exact⟨none,none,0,0,rfl,q3t _,hE,NwA.none _,NwA.none _⟩
end Ag
namespace Rm
open Go.RowKit Go.Deep Stw Stp Tb Rul Ct
variable {t:Nat} {w:World} {tg:Nat->Nat}
theorem Za.row{ns:List Int}{v:Value}(h:Za tg t w ns v):Rw w 3 1 v ns.length (ns.map (Value.int .i64)):=RwT.rw h
variable {W:Wd} {s:Nat} {ls:List Lk} {o:Wir.Od} {r:List Wir.Od}
theorem order_is{n:Nat}(h:Inv n ls t W)(ht:t<=1000)(hs:s<n)(ho:W.od.getD s []=o::r):(1<=o.k/\o.k<=3)/\(o.k=1->o.rs≠[]):=by
 obtain⟨_,_,hd,_⟩:=q2m h ht hs ho
 refine⟨?_,fun hk=>?_⟩
 ·obtain⟨_,_,hc⟩:=Agt.do_cases (s:=W.sw.getD s Agt.Zq) (o:=o) (by rw[hd])
  rcases hc with⟨hk,_⟩ | ⟨hk,_⟩ | ⟨hk,_⟩ <;> omega
 ·rcases h.dyn.core.sws s hs with⟨e,_,_⟩ | ⟨o',k,e1,e2,_,_⟩ | ⟨k,e,_,_⟩
  ·rw[ho] at e;cases e
  ·rw[ho] at e2
   injection e2 with e2 _
   subst e2
   unfold ordC at e1
   split at e1
   ·unfold addO at e1
    split at e1
    ·cases e1
    ·rename_i hne;cases e1;exact hne
   ·split at e1
    ·have:=stpO_k e1;simp only[nmb] at hk;omega
    ·split at e1
     ·unfold drpO at e1
      split at e1
      ·cases e1
      ·cases e1;simp[nmb] at hk
     ·cases e1
  ·rw[ho] at e;cases e
theorem hapO_out{n:Nat}{i:Int}(h:¬(0<=i/\i<(n:Int))):hapO n W i=(W,6):=by unfold hapO;rw[if_pos h]
theorem hapO_nil{n:Nat}(h:W.od.getD s []=[]):hapO n W s=(W,6):=by
 unfold hapO
 split
 ·rfl
 ·simp only[Int.toNat_natCast,h]
theorem hapO_yes{n:Nat}(h:Inv n ls t W)(ht:t<=1000)(hs:s<n)(ho:W.od.getD s []=o::r):hapO n W s=(⟨W.co,W.sw.set s (aft W.co s),W.od.set s r,W.bk.set s (W.bk.getD s []++[o.n]),W.pk,W.pn⟩,0):=by
 obtain⟨_,_,hd,_⟩:=q2m h ht hs ho
 unfold hapO
 rw[if_neg (by omega)]
 simp only[Int.toNat_natCast,ho,hd]
 simp
variable {w3:World} {B:Nat}
theorem sw_stb{x:Agt.Sw}{ao bo:Option Addr}{ac:Nat}(h:Ag.Zn w3 x ao bo ac)(h1:NwA B ao)(h2:NwA B bo):∀U:World,w3.heap.size<=U.heap.size->(∀b,B<=b->b<w3.heap.size->U.heap[b]? =w3.heap[b]?)->Ag.Zn U x ao bo ac:=fun U hU kU=>by
 refine⟨⟨h.hr.hlen,?_,h.hr.hnil⟩,?_,h.rl,h.sl,h.rq⟩
 ·rcases h.hr.Q2 with e | ⟨g,off,e,hg,hc⟩
  ·exact Or.inl e
  ·have hk:=kU g (h1 _ e) hg
   exact Or.inr ⟨g,off,e,by omega,fun k hk'=>⟨(cob (a:=⟨g,off+k*3,none⟩) hk).trans (hc k hk').1,(cob (a:=⟨g,off+k*3+1,none⟩) hk).trans (hc k hk').2.1,(cob (a:=⟨g,off+k*3+2,none⟩) hk).trans (hc k hk').2.2⟩⟩
 ·rcases h.hs with e | ⟨g,off,e,hg,hc⟩
  ·exact Or.inl e
  ·have hk:=kU g (h2 _ e) hg
   exact Or.inr ⟨g,off,e,by omega,fun k hk'=>⟨(cob (a:=⟨g,off+k*2,none⟩) hk).trans (hc k hk').1,(cob (a:=⟨g,off+k*2+1,none⟩) hk).trans (hc k hk').2⟩⟩
theorem Q0.fresh2{T:TypeId}{tl:List Value}{w0 w4:World}{P n:Nat}{a:CA}{sb ob bb:Nat}{kv lv:Value}{D:World->Prop}(h:Q0 T tl w0 P n tg w W a sb ob bb kv lv)(hB:w.heap.size<=B)(hD:∀U:World,w3.heap.size<=U.heap.size->(∀b,B<=b->b<w3.heap.size->U.heap[b]? =w3.heap[b]?)->D U)(hs:w3.heap.size<=w4.heap.size)(hb:∀b,B<=b->b<w3.heap.size->w4.heap[b]? =w3.heap[b]?):Stb (fun b=>tg b=0) w4 D:=
 fun U hU kU=>hD U (by omega) (fun b h1 h2=>(kU b (h.nw b (by omega)) (by omega)).trans (hb b h1 h2))
theorem z2d:(prog.info? 3).map (fun i=>(i.zero,i.size,i.bytes))=some (some (.int .i64 0),1,8):=by kernel_rfl
theorem news1{W:World}{H:Nat}(hH:w.heap.size=H){a:Value}{T:TypeId}(E:Ext (w.alloc (.cells #[a] T)) W):∀(j:Nat) (u:Value),[a][j]? =some u->W.cell? ((⟨H,0,none⟩:Addr).add j)=some u:=fun j u hu=>by
 have hb:(w.alloc (.cells #[a] T)).heap[H]? =some (.cells #[a] T):=by rw[<-hH];exact blk_alloc_new _ _
 have hb2:W.heap[H]? =some (.cells #[a] T):=(Below.block E H (by simp;omega)).trans hb
 have hadd:(⟨H,0,none⟩:Addr).add j=⟨H,j,none⟩:=by unfold Addr.add;split <;> simp_all
 rw[hadd,cell_of_row _ _ _ _ _ _ hb2]
 have:j<1:=(List.getElem?_eq_some_iff.1 hu).1
 obtain rfl:j=0:=by omega
 exact hu
theorem order_out(tl:List Value)(n:Nat)(w0:World)(P:Nat)(tg:Nat->Nat)(w:World)(W:Wd)(a:CA)(sb ob bb:Nat)(kv lv:Value)(i:Int)(h:Q0 56 tl w0 P n tg w W a sb ob bb kv lv)(hi:¬(0<=i/\i<(n:Int))):
 Calls prog 23 #[.pointer (some ⟨P,0,none⟩),.int .i64 i] w fun e w'=>MOut tl w0 P n tg w sb ob bb (hapO n W i) e w':=by
 have HW:=Qa h
 have HD:=Qa (hapO_out (W:=W) hi)
 have c10:w.cell? ⟨P,10,none⟩=some (.slice (some ⟨ob,0,none⟩) n n):=h.row.cell (i:=10) (by omega)
 clear h
 go_enter func23,ntmps23
 go_wp2_with fail
 refine(isAnyO_out ob n i w hi).mono ?_
 rintro e w1 ⟨rfl,rfl⟩
 clear hi
 go_wp2
 go_ret
 rw[HD.out]
 exact⟨rfl,tg,a,kv,lv,HW.out,Qf.refl _ _ _⟩
theorem order_nil(tl:List Value)(n:Nat)(w0:World)(P:Nat)(tg:Nat->Nat)(w:World)(W:Wd)(a:CA)(sb ob bb:Nat)(kv lv:Value)(s:Nat)(h:Q0 56 tl w0 P n tg w W a sb ob bb kv lv)(hs:s<n)(hb:W.od.getD s []=[]):
 Calls prog 23 #[.pointer (some ⟨P,0,none⟩),.int .i64 s] w fun e w'=>MOut tl w0 P n tg w sb ob bb (hapO n W s) e w':=by
 have HW:=Qa h
 have HD:=Qa (hapO_nil (n:=n) hb)
 have c10:w.cell? ⟨P,10,none⟩=some (.slice (some ⟨ob,0,none⟩) n n):=h.row.cell (i:=10) (by omega)
 obtain⟨v,cv,_,_,xs,hv,_⟩:=h.ors.get hs
 obtain⟨ao,cap,rfl⟩:=hv.rw.form
 rw[hb] at cv
 clear h hv
 go_enter func23,ntmps23
 go_wp2_with fail
 refine(z4r ob n s _ cap ao w hs cv).mono ?_
 rintro e w1 ⟨rfl,rfl⟩
 clear cv
 go_wp2
 go_ret
 rw[HD.out]
 exact⟨rfl,tg,a,kv,lv,HW.out,Qf.refl _ _ _⟩
theorem order_some(tl:List Value)(n s:Nat)(ls:List Lk)(o:Wir.Od)(r:List Wir.Od)(t:Nat)(w0:World)(P:Nat)(tg:Nat->Nat)(w:World)(W:Wd)(a:CA)(sb ob bb:Nat)(kv lv:Value)(h:Q0 56 tl w0 P n tg w W a sb ob bb kv lv)(hI:Inv n ls t W)(ht:t<=900)(hs:s<n)(ho:W.od.getD s []=o::r):
 Calls prog 23 #[.pointer (some ⟨P,0,none⟩),.int .i64 s] w fun e w'=>MOut tl w0 P n tg w sb ob bb (hapO n W s) e w':=by
 obtain⟨i0,hi0,hz00,hz01,hz02⟩:=info_parts z2d
 have HW:=Qa h
 have HI:=Qa hI
 have hP:=h.row.lt
 have HD:=Qa (hapO_yes hI (by omega) hs ho)
 obtain⟨hr0,hbk,hdo,hrs,hfs,_⟩:=q2m hI (by omega) hs ho
 have HIS:=Qa (order_is hI (by omega) hs ho)
 have hln:r.length=0:=by rw[hr0];rfl
 obtain⟨v,cv,fv,hol,hv⟩:=h.ors.get hs
 rw[ho] at hv
 obtain⟨g,off,oc,po,pc,fo,fc,rfl,hgl,hoc,g0,g1,g2,g3,g4,hst⟩:=hv.first
 obtain⟨ro,rc,so,sc,s0,s1,sz,hsl,hsw⟩:=h.sws.get hs
 have HV:=Qa hv
 have HFV:=Qa fv
 have HST:=Qa hst
 have HSW:=Qa hsw
 have HSZ:=Qa sz
 have HBK:=Qa hbk
 have j1:(0:Int)<=(s:Int):=by omega
 have j2:(s:Int)<(n:Int):=by omega
 have hsn:s*2+1<n*2:=by omega
 have c10:w.cell? ⟨P,10,none⟩=some (.slice (some ⟨ob,0,none⟩) n n):=h.row.cell (i:=10) (by omega)
 have c9:w.cell? ⟨P,9,none⟩=some (.slice (some ⟨sb,0,none⟩) n n):=h.row.cell (i:=9) (by omega)
 obtain⟨x,hx⟩:=Qy (aft W.co s)
 have HXE:=Qa hx
 obtain⟨y,hy⟩:=Qy (W.sw.getD s Agt.Zq)
 rw[<-hy] at s0 s1 HSW
 have HCA:Hid (∀V,Ext w V->Calls prog 44 #[Ag.svl y ro so rc sc,Wi.ovl o po fo pc fc] V fun e w'=>Ag.SwOut V (x,0) e w'):=fun V hV=>by
  have h1:=Ag.Do_any y o ro so po fo rc sc pc fc V ((HSW.out.Qh (Qf.ext (S:=fun _=>True) hV) trivial).at) ⟨(HST.out.Qh (Qf.ext (S:=fun _=>True) hV) trivial).at.1,(HST.out.Qh (Qf.ext (S:=fun _=>True) hV) trivial).at.2,Zi (by have:=HIS.out.1;omega) (by have:=HIS.out.1;omega),by omega,by omega⟩ (fun hk hn=>by
   rcases(HST.out.Qh (Qf.ext (S:=fun _=>True) hV) trivial).at.1 with e | ⟨_,_,e,_⟩
   ·exact absurd e (HIS.out.2 hk)
   ·rw[hn] at e;cases e)
  rw[hy,hdo, <-hx] at h1
  rw[hy]
  exact h1
 obtain⟨R,S⟩:=y
 unfold Ag.svl Wi.ovl at HCA
 simp only at s0 s1 HCA
 have HS:Hid (∀V,Ext (w.alloc (.cells #[.int .i64 o.k,.int .i64 o.n,.int .i64 o.v,.slice po o.rs.length pc,.slice fo o.fs.length fc] 69)) V->cl V P 9 (.slice (some ⟨sb,0,none⟩) n n)/\cl V sb (s*2) (.slice ro R.length rc)/\cl V sb (s*2+1) (.slice so S.length sc)/\cl V w.heap.size 0 (.int .i64 o.k)/\cl V w.heap.size 1 (.int .i64 o.n)/\cl V w.heap.size 2 (.int .i64 o.v)/\cl V w.heap.size 3 (.slice po o.rs.length pc)/\cl V w.heap.size 4 (.slice fo o.fs.length fc)):=fun V hV=>by
  have l0:w.heap.size<(w.alloc (.cells #[.int .i64 o.k,.int .i64 o.n,.int .i64 o.v,.slice po o.rs.length pc,.slice fo o.fs.length fc] 69)).heap.size:=by simp
  have E0:Ext w V:=((Ext.refl w).alloc _).trans hV
  exact⟨(E0.cells.1 _ _ hP).trans c9,(E0.cells.1 _ _ hsl).trans s0,(E0.cells.1 _ _ hsl).trans s1,(hV.cells.1 _ _ l0).trans (by simp),(hV.cells.1 _ _ l0).trans (by simp),(hV.cells.1 _ _ l0).trans (by simp),(hV.cells.1 _ _ l0).trans (by simp),(hV.cells.1 _ _ l0).trans (by simp)⟩
 clear h hI hv fv hst hsw sz hx hdo hy hbk
 go_enter func23,ntmps23
 go_wp2_with fail
 refine(z4r ob n s _ oc _ w hs cv).mono ?_
 rintro e w1 ⟨rfl,hw1⟩
 have hw1:=hw1.symm
 subst hw1
 have b1:decide (0<r.length+1)=true:=by simp
 go_wp2_with fail
 obtain⟨wa,hwa⟩:=Qy (w.alloc (.cells #[.int .i64 o.k,.int .i64 o.n,.int .i64 o.v,.slice po o.rs.length pc,.slice fo o.fs.length fc] 69))
 have EA:Ext w wa:=by rw[hwa];exact(Ext.refl w).alloc _
 have HAS:Hid (wa.heap.size=w.heap.size+1):=by show _=_;rw[hwa];simp
 rw[<-hwa] at HS ⊢
 clear hwa
 have hd:Ext wa wa.drew:=(Ext.refl wa).drew
 have hda:Ext wa (wa.alloc (.cells #[.slice none 0 0,.slice none 0 0] 64)).drew:=((Ext.refl wa).alloc _).drew
 go_region_held3 (fun V=>cl V P 9 (.slice (some ⟨sb,0,none⟩) n n)/\cl V sb (s*2) (.slice ro R.length rc)/\cl V sb (s*2+1) (.slice so S.length sc)/\cl V w.heap.size 0 (.int .i64 o.k)/\cl V w.heap.size 1 (.int .i64 o.n)/\cl V w.heap.size 2 (.int .i64 o.v)/\cl V w.heap.size 3 (.slice po o.rs.length pc)/\cl V w.heap.size 4 (.slice fo o.fs.length fc))
  (first | (with_reducible exact HS.out _ hd) | (with_reducible exact HS.out _ hda) | (with_reducible exact HS.out _ mk1) | (with_reducible exact HS.out _ mk2) | (with_reducible exact HS.out _ (mk1.alloc _)) | (with_reducible exact HS.out _ mk3) | fail)
  (first
  | (go_at_call 44
     with_reducible refine(HCA.out _ (EA.trans hd)).mono ?_
     rintro e w3 ⟨ao,bo,ac,bc,he,hx3,E9,hn1,hn2⟩
     have he':e=.returned (.tuple #[.agg #[.slice ao x.rs.length ac,.slice bo x.st.length bc],.int .i64 0]):=he
     subst he'
     clear he
     have HX3:=Qa (And.intro hx3 (And.intro hn1 hn2))
     clear hx3 hn1 hn2
     have mk1:=hd.trans E9)
  | (go_at_call 44
     with_reducible refine(HCA.out _ (EA.trans hda)).mono ?_
     rintro e w3 ⟨ao,bo,ac,bc,he,hx3,E9,hn1,hn2⟩
     have he':e=.returned (.tuple #[.agg #[.slice ao x.rs.length ac,.slice bo x.st.length bc],.int .i64 0]):=he
     subst he'
     clear he
     have HX3:=Qa (And.intro hx3 (And.intro hn1 hn2))
     clear hx3 hn1 hn2
     have mk2:=hda.trans E9
     have mk3:=(mk2.setCell (p:=⟨wa.heap.size,0,none⟩) (Ql _) (.slice ao x.rs.length ac)).setCell (p:=⟨wa.heap.size,1,none⟩) (Ql _) (.slice bo x.st.length bc)
     have HB:w3.heap[wa.heap.size]? =some (.cells #[.slice none 0 0,.slice none 0 0] 64):=(Below.block E9 _ (by simp)).trans (blk_alloc_new wa _)
     have u0:=Qb HB 0
     have u1:=Qb HB 1
     have uz:=Qi HB
     have hwl:wa.heap.size<w3.heap.size:=(asi.1 HB).1
     have HHB:=Qa HB
     clear HB))
 focus
  obtain⟨w4,hw4⟩:=Qy (w3.alloc (.cells #[.slice ao x.rs.length ac,.slice bo x.st.length bc] 64))
  have hXw:=mk1.size
  have E4a:Ext wa w4:=by rw[hw4];exact mk1.alloc _
  have HSW4:Hid (Stb (fun b=>tg b=0) w4 (fun U=>Ag.Zn U x ao bo ac)):=by
   rw[hw4]
   exact HW.out.fresh2 EA.size (sw_stb HX3.out.1 (HX3.out.2.1.mono (by simp)) (HX3.out.2.2.mono (by simp))) (by simp) (fun b _ h2=>bal _ _ _ h2)
  have q0:w4.cell? ⟨w3.heap.size,0,none⟩=some (.slice ao x.rs.length ac):=by rw[hw4];simp
  have q1:w4.cell? ⟨w3.heap.size,1,none⟩=some (.slice bo x.st.length bc):=by rw[hw4];simp
  have hXl:w3.heap.size<w4.heap.size:=by rw[hw4];simp
  rw[<-hw4]
  clear hw4 E9 HX3
  generalize w3.heap.size=X at q0 q1 hXw hXl ⊢
  clear mk1
 rotate_left
 focus
  obtain⟨w4,hw4⟩:=Qy ((w3.setCell ⟨wa.heap.size,0,none⟩ (.slice ao x.rs.length ac)).setCell ⟨wa.heap.size,1,none⟩ (.slice bo x.st.length bc))
  have E4a:Ext wa w4:=by rw[hw4];exact mk3
  have HSW4:Hid (Stb (fun b=>tg b=0) w4 (fun U=>Ag.Zn U x ao bo ac)):=by
   rw[hw4]
   refine HW.out.fresh2 (B:=wa.heap.size+1) (ltr EA.size (Nat.le_succ _)) (sw_stb HX3.out.1 (HX3.out.2.1.mono (by simp)) (HX3.out.2.2.mono (by simp))) (by simp) (fun b h1 _=>?_)
   rw[Zm _ _ _ _ (by simp only;omega),Zm _ _ _ _ (by simp only;omega)]
  have hrow:w3.rowIs wa.heap.size 64 2 (fun _=>.slice none 0 0):=⟨_,HHB.out,rfl,fun i hi=>by(obtain rfl | rfl:i=0\/i=1:=by omega) <;> rfl⟩
  have q0:w4.cell? ⟨wa.heap.size,0,none⟩=some (.slice ao x.rs.length ac):=by rw[hw4];exact((hrow.set 0 _).set 1 _).cell (i:=0) (by omega)
  have q1:w4.cell? ⟨wa.heap.size,1,none⟩=some (.slice bo x.st.length bc):=by rw[hw4];exact((hrow.set 0 _).set 1 _).cell (i:=1) (by omega)
  clear hrow
  have hXl:wa.heap.size<w4.heap.size:=by rw[hw4];simpa using hwl
  rw[<-hw4]
  obtain⟨X,hX⟩:=Qy (wa.heap.size)
  rw[<-hX] at q0 q1 hXl ⊢
  have hXw:wa.heap.size<=X:=by omega
  clear hX hda
  clear hw4 mk2 mk3 E9 HX3 u0 u1 uz HHB hwl
 rotate_left
 all_goals(
  have E4:Ext w w4:=EA.trans E4a
  have HW4:=Qa (HW.out.Qm E4)
  have n9:w4.cell? ⟨P,9,none⟩=some (.slice (some ⟨sb,0,none⟩) n n):=(E4.cells.1 _ _ hP).trans c9
  have t0:=(E4.cells.1 _ _ hsl).trans s0
  have t1:=(E4.cells.1 _ _ hsl).trans s1
  have z0:=(E4.cells.2 _ (s*2) hsl).trans (HSZ.out _)
  have z1:=(E4.cells.2 _ (s*2+1) hsl).trans (HSZ.out _)
  have hsl4:sb<w4.heap.size:=Q5 hsl E4.size
  have HNUM:Hid (w4.cell? ⟨w.heap.size,1,none⟩=some (.int .i64 o.n)):=(HS.out _ E4a).2.2.2.2.1
  have HTW:Hid (tg w.heap.size=0):=HW.out.nw _ (Ql _)
  have HWL:Hid (w.heap.size<w4.heap.size):=by show _<_;have:=HAS.out;omega
  clear c9 c10 s0 s1 g0 g1 g2 g3 g4 cv HS HCA
  go_wp2_with fail
  refine Last.LH.start (m:=8) (S:=fun V=>cl V P 9 (.slice (some ⟨sb,0,none⟩) n n)/\cl V X 0 (.slice ao x.rs.length ac)/\cl V X 1 (.slice bo x.st.length bc)) (by kernel_rfl) ?_
  have Qe:(fun V:World=>cl V P 9 (.slice (some ⟨sb,0,none⟩) n n)/\cl V X 0 (.slice ao x.rs.length ac)/\cl V X 1 (.slice bo x.st.length bc)) w4.drew:=⟨n9,q0,q1⟩
  refine ltk 0 Qe ?_
  refine ltk 1 Qe ?_
  refine ltk 2 Qe ?_
  refine ltk 3 Qe ?_
  refine ltk 4 Qe ?_
  refine ltk 5 Qe ?_
  refine ltk 6 Qe ?_
  refine ltk 7 Qe ?_
  refine lon 8 (fun K hK=>?_)
  go_simp
  refine hK _ _ (fun h=>absurd rfl h) ?_
  clear hK K Qe
  refine ldn ?_
  obtain⟨w5,hw5⟩:=Qy (((w4.setCell ⟨sb,s*2,none⟩ (.slice ao x.rs.length ac)).setCell ⟨sb,s*2+1,none⟩ (.slice bo x.st.length bc)).drew)
  have HW5:Hid (Q0 56 tl w0 P n tg w5 ⟨W.co,W.sw.set s x,W.od,W.bk,W.pk,W.pn⟩ a sb ob bb kv lv/\Zv tg tg w4 w5):=by
   rw[hw5]
   have h1:=HW4.out.setSws (x:=x) (ro:=ao) (so:=bo) (rc:=ac) (sc:=bc) hs HI.out.lsw HSW4.out
   exact⟨h1.1.Qm (Ext.refl _).drew,h1.2.trans (Zv.ext (Ext.refl _).drew)⟩
  rw[<-hw5]
  clear hw5 n9 t0 t1 z0 z1 q0 q1 HSW4
  obtain⟨v2,cv2,fv2,hol2,hv2⟩:=HW5.out.1.ors.get hs
  have ho2:(⟨W.co,W.sw.set s x,W.od,W.bk,W.pk,W.pn⟩:Wd).od.getD s []=o::r:=ho
  rw[ho2] at hv2
  obtain⟨g2,off2,oc2,_,_,_,_,rfl,_,hoc2,_,_,_,_,_,_⟩:=hv2.first
  have n10:w5.cell? ⟨P,10,none⟩=some (.slice (some ⟨ob,0,none⟩) n n):=HW5.out.1.row.cell (i:=10) (by omega)
  have HV2:=Qa hv2
  clear hv2 ho2
  obtain⟨ao',hao⟩:=Qy ((if oc2=1 then some (⟨g2,off2,none⟩:Addr) else some ⟨g2,off2+5,none⟩))
  have HAO:=Qa hao
  clear hao
  have HCUT:=Qa (HW5.out.1.cutO hs HI.out.lod (v':=.slice ao' 0 (oc2 - 1)) (os':=r) (by rw[HAO.out];exact HV2.out.tail1 hln))
  go_wp2_with fail
  refine Last.LH.start (m:=16) (S:=fun V=>cl V P 10 (.slice (some ⟨ob,0,none⟩) n n)/\cl V ob s (.slice (some ⟨g2,off2,none⟩) (r.length+1) oc2)) (by kernel_rfl) ?_
  have Qe:(fun V:World=>cl V P 10 (.slice (some ⟨ob,0,none⟩) n n)/\cl V ob s (.slice (some ⟨g2,off2,none⟩) (r.length+1) oc2)) w5.drew:=⟨n10,cv2⟩
  refine ltk 0 Qe ?_
  refine ltk 1 Qe ?_
  refine ltk 2 Qe ?_
  refine ltk 3 Qe ?_
  refine ltk 4 Qe ?_
  refine ltk 5 Qe ?_
  refine ltk 6 Qe ?_
  refine ltk 7 Qe ?_
  refine ltk 8 Qe ?_
  refine ltk 9 Qe ?_
  refine ltk 10 Qe ?_
  refine ltk 11 Qe ?_
  refine ltk 12 Qe ?_
  refine ltk 13 Qe ?_
  refine ltk (v:=.slice ao' 0 (oc2 - 1)) 14 Qe ?_ (hy:=by intro W hSW;(try dsimp only at hSW);go_simp;rw[HAO.out])
  refine ltk 15 Qe ?_
  refine lon 16 (fun K hK=>?_)
  go_simp
  refine hK _ _ (fun h=>absurd rfl h) ?_
  clear hK K Qe
  refine ldn ?_
  obtain⟨w6,hw6⟩:=Qy ((w5.setCell ⟨ob,s,none⟩ (.slice ao' 0 (oc2 - 1))).drew)
  have HW6:Hid (Q0 56 tl w0 P n tg w6 ⟨W.co,W.sw.set s x,W.od.set s r,W.bk,W.pk,W.pn⟩ a sb ob bb kv lv/\Zv tg tg w4 w6):=by
   rw[hw6]
   exact⟨HCUT.out.1.Qm (Ext.refl _).drew,HW5.out.2.trans (HCUT.out.2.trans (Zv.ext (Ext.refl _).drew))⟩
  rw[<-hw6]
  clear hw6 n10 cv2 fv2 HCUT HV2 hoc2 hol2
  obtain⟨vb,cvb,fvb,hbl,hvb⟩:=HW6.out.1.bks.get hs
  have HVB:=Qa hvb
  have n11:w6.cell? ⟨P,11,none⟩=some (.slice (some ⟨bb,0,none⟩) n n):=HW6.out.1.row.cell (i:=11) (by omega)
  have num6:w6.cell? ⟨w.heap.size,1,none⟩=some (.int .i64 o.n):=(cob (a:=⟨w.heap.size,1,none⟩) (HW6.out.2.blk w.heap.size HWL.out (Or.inl HTW.out)).2).trans HNUM.out
  have hwl6:w.heap.size<w6.heap.size:=Q5 HWL.out HW6.out.2.size
  have hP6:=HW6.out.1.row.lt
  clear hvb
  have HSX:Hid (∀V,Ext w6 V->cl V P 11 (.slice (some ⟨bb,0,none⟩) n n)/\cl V bb s vb/\cl V w.heap.size 1 (.int .i64 o.n)):=fun V hV=>⟨(hV.cells.1 _ _ hP6).trans n11,(hV.cells.1 _ _ hbl).trans cvb,(hV.cells.1 _ _ hwl6).trans num6⟩
  go_wp2_with fail
  refine Last.LH.start (m:=19) (S:=fun V=>cl V P 11 (.slice (some ⟨bb,0,none⟩) n n)/\cl V bb s vb/\cl V w.heap.size 1 (.int .i64 o.n)) (by kernel_rfl) ?_
  have Qe:(fun V:World=>cl V P 11 (.slice (some ⟨bb,0,none⟩) n n)/\cl V bb s vb/\cl V w.heap.size 1 (.int .i64 o.n)) w6.drew:=⟨n11,cvb,num6⟩
  refine ltk 0 Qe ?_
  refine ltk 1 Qe ?_
  refine ltk 2 Qe ?_
  refine ltk 3 Qe ?_
  refine ltk 4 Qe ?_
  refine ltk 5 Qe ?_
  refine ltk 6 Qe ?_
  refine ltk 7 Qe ?_
  refine ltk 8 Qe ?_
  refine ltk 9 Qe ?_
  refine ltk 10 Qe ?_
  refine ltk 11 Qe ?_
  refine ltk 12 Qe ?_
  refine ltk 13 Qe ?_
  refine ltk 14 Qe ?_
  refine ltk 15 Qe ?_
  refine lon 16 (fun K hK=>?_)
  go_simp
  refine hK _ _ (fun _=>HSX.out _ ((Ext.refl _).alloc _).drew) ?_
  clear hK K Qe
  have EB:Ext w6 (w6.alloc (.cells #[.int .i64 o.n] 3)).drew:=((Ext.refl w6).alloc _).drew
  refine lon 17 (fun K hK=>?_)
  refine Q4 _ rfl (.tmp 79) (.tmp 82) 30 rfl 3 i0 _ 1 8 underlying30 hi0 hz00 hz01 hz02 rfl (by decide) vb (W.bk.getD s []).length ((W.bk.getD s []).map (Value.int .i64)) rfl (by with_reducible exact(HVB.out.Qh (Qf.ext (S:=fun _=>True) EB) trivial).row) ⟨w6.heap.size,0,none⟩ 1 [.int .i64 o.n] rfl rfl (by with_reducible exact news1 rfl (Ext.refl _).drew) (z1t o.n) (by rw[HBK.out];decide) (by rw[HBK.out];decide) ?_
  intro g7 off7 cap7 w7 hr7 hg7 hat7
  have HPU:=Qa (Q0.pushB (x:=o.n) (HW6.out.1.Qm EB) hs HI.out.lbk (HVB.out.Qh (Qf.ext (S:=fun _=>True) EB) trivial) hr7 hg7 hat7)
  obtain⟨d11,dvb,dn⟩:=HSX.out _ EB
  have t1:=HW6.out.1.tP
  have t4:=HW6.out.1.bks.1
  have gP:=(Qz hg7 HVB.out.tg (b:=P) (by rw[t1];omega) (Q5 hP6 EB.size)).1
  have gB:=Qz hg7 HVB.out.tg (b:=bb) (by rw[t4];omega) (Q5 hbl EB.size)
  have gW:=(Qz hg7 HVB.out.tg (b:=w.heap.size) (by rw[HTW.out];omega) (Q5 hwl6 EB.size)).1
  have fB7:w7.frozen? ⟨bb,s,none⟩=false:=(gB.2 s).trans ((EB.cells.2 _ _ hbl).trans fvb)
  have hB7:bb<w7.heap.size:=Q5 (Q5 hbl EB.size) hg7.size
  have hS7:=And.intro ((gP 11).trans d11) (And.intro ((gB.1 s).trans dvb) ((gW 1).trans dn))
  clear gP gB gW d11 dvb dn hr7 hg7 hat7 t1 t4
  have co7:=hS7.2.1
  refine hK _ _ (fun _=>hS7) ?_
  clear hK K
  refine ltk 18 hS7 ?_
  refine lon 19 (fun K hK=>?_)
  go_simp
  refine hK _ _ (fun h=>absurd rfl h) ?_
  clear hK K
  refine ldn ?_
  clear hS7 co7 fB7
  go_wp2
  go_ret
  rw[HD.out]
  have hWF:=HPU.out.1
  rw[HXE.out] at hWF
  exact⟨rfl,_,a,kv,lv,hWF,((Zv.ext E4).trans HW6.out.2).trans ((Zv.ext EB).trans HPU.out.2)⟩)
end Rm
end Go.Proofs.YthkpbefnkmmaiaaGreat
