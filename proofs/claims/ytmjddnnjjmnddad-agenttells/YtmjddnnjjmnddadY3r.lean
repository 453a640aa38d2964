/- What the document's Does answers where the switch or the order is wrong. -/
import Derived.Test.YtmjddnnjjmnddadY3
import Derived.Test.YtmjddnnjjmnddadY2r
import Derived.Test.YtmjddnnjjmnddadN12a
namespace Go.Proofs.Ytmjddnnjjmnddad.Ag
open Go.RowKit Go.Deep Tb Rul Wi

set_option maxRecDepth 100000 in
set_option maxHeartbeats 1600000 in
theorem refDoes_wrong (s : Agt.Sw) (o : Wir.Od) (ro so po fo : Option Addr) (rc sc pc fc : Nat) (w : World) (h : SwAt w s ro so rc) (hz : Agt.wrongS s ≠ 0) :
    Calls Try.prog 23 #[svl s ro so rc sc, ovl o po fo pc fc] w fun e w' => e = .returned (.tuple #[.agg #[.slice none 0 0, .slice none 0 0], .int .i64 (Agt.wrongS s)]) ∧ Ext w w' := by
  have HC : Hid (∀ W, Ext w W → Calls Try.prog 19 #[svl s ro so rc sc] W fun e w' => e = .returned (.int .i64 (Agt.wrongS s)) ∧ Ext W w') := fun W hW => refWrongSwitch_any s ro so rc sc W (h.ext hW)
  clear h
  obtain ⟨y, hy⟩ : ∃ y, Agt.wrongS s = y := ⟨_, rfl⟩
  rw [hy] at hz HC ⊢
  clear hy
  have b0 : (y != 0) = true := by simpa using hz
  obtain ⟨rs, st⟩ := s
  obtain ⟨k, n, v, ps, fs⟩ := o
  unfold svl ovl at *
  clear hz
  go_enter Try.func23, Try.ntmps23
  go_wp2_with fail
  refine (HC.out _ (Dw_ext w _ _ k n v (.slice po ps.length pc) (.slice fo fs.length fc))).mono ?_
  rintro e w1 ⟨rfl, E1⟩
  have D1 : Hid _ := DAt.of E1
  have r0 := D1.out.r0
  have r1 := D1.out.r1
  have g0 := D1.out.g0
  have g1 := D1.out.g1
  go_wp2
  refine bodyPost_ret (v := .tuple #[.agg #[.slice none 0 0, .slice none 0 0], .int .i64 y]) (by simp [results, Try.results23, go_sem, r0, r1]) rfl ⟨rfl, ?_⟩
  exact (((Dw_ext w _ _ k n v _ _).trans E1).setCell (by simp; omega) _).setCell (by simp; omega) _

set_option maxRecDepth 100000 in
set_option maxHeartbeats 1600000 in
theorem refDoes_order (s : Agt.Sw) (o : Wir.Od) (ro so po fo : Option Addr) (rc sc pc fc : Nat) (w : World) (h : SwAt w s ro so rc) (ho : OAt w o po fo) (hz : Agt.wrongS s = 0) (hy : Wir.wrong o ≠ 0) :
    Calls Try.prog 23 #[svl s ro so rc sc, ovl o po fo pc fc] w fun e w' => e = .returned (.tuple #[.agg #[.slice none 0 0, .slice none 0 0], .int .i64 (Wir.wrong o)]) ∧ Ext w w' := by
  have HC : Hid (∀ W, Ext w W → Calls Try.prog 19 #[svl s ro so rc sc] W fun e w' => e = .returned (.int .i64 0) ∧ Ext W w') := fun W hW => by have := refWrongSwitch_any s ro so rc sc W (h.ext hW); rwa [hz] at this
  have HO : Hid (∀ W, Ext w W → Calls Try.prog 10 #[ovl o po fo pc fc] W fun e w' => e = .returned (.int .i64 (Wir.wrong o)) ∧ Ext W w') := fun W hW => refWrong_any o po fo pc fc W (ho.ext hW)
  clear h ho hz
  obtain ⟨y, hy'⟩ : ∃ y, Wir.wrong o = y := ⟨_, rfl⟩
  rw [hy'] at hy HO ⊢
  clear hy'
  have b0 : (y != 0) = true := by simpa using hy
  obtain ⟨rs, st⟩ := s
  obtain ⟨k, n, v, ps, fs⟩ := o
  unfold svl ovl at *
  clear hy
  go_enter Try.func23, Try.ntmps23
  go_wp2_with fail
  refine (HC.out _ (Dw_ext w _ _ k n v (.slice po ps.length pc) (.slice fo fs.length fc))).mono ?_
  rintro e w1 ⟨rfl, E1⟩
  obtain ⟨s0, s1, o0, o1, o2, o3, o4, r0, r1, f0, f1, g0, g1⟩ := DAt.of E1
  go_wp2_with fail
  refine (HO.out _ ((Dw_ext w _ _ k n v (.slice po ps.length pc) (.slice fo fs.length fc)).trans E1)).mono ?_
  rintro e w2 ⟨rfl, E2⟩
  clear s0 s1 o0 o1 o2 o3 o4 r0 r1 f0 f1 g0 g1
  have D1 : Hid _ := DAt.of (E1.trans E2)
  have r0 := D1.out.r0
  have r1 := D1.out.r1
  have g0 := D1.out.g0
  have g1 := D1.out.g1
  go_wp2
  refine bodyPost_ret (v := .tuple #[.agg #[.slice none 0 0, .slice none 0 0], .int .i64 y]) (by simp [results, Try.results23, go_sem, r0, r1]) rfl ⟨rfl, ?_⟩
  exact (((Dw_ext w _ _ k n v _ _).trans (E1.trans E2)).setCell (by simp; omega) _).setCell (by simp; omega) _

end Go.Proofs.Ytmjddnnjjmnddad.Ag
