/- What the order of two rules answers. -/
import Derived.Test.YtmjddnnjjmnddadV3
import Derived.BigQuiet
import Derived.Deep.RegionHeld3
namespace Go.Proofs.Ytmjddnnjjmnddad.Tb
open Go.RowKit Go.Deep Rul

set_option maxHeartbeats 800000 in
theorem Or_any (x y r : Int) (g : Nat) (w : World) (hr : (if x = 0 then y else x) = r) (h0 : w.cell? ⟨g, 0, none⟩ = some (.int .i64 x)) (h1 : w.cell? ⟨g, 1, none⟩ = some (.int .i64 y)) :
    Calls Try.prog 56 #[.slice (some ⟨g, 0, none⟩) 2 2] w fun e w' => e = .returned (.int .i64 r) ∧ w' = w := by
  subst hr
  go_enter Try.func56, Try.ntmps56
  go_wp2
  go_loopw [8] (fun iv wr => ∃ k : Nat, k ≤ 2 ∧ iv = .int .i64 k ∧ wr = w ∧ (1 ≤ k → x = 0) ∧ (2 ≤ k → y = 0)) (fun iv _ => 2 - (intOf iv).toNat)
  case atStart => exact ⟨0, by omega, rfl, rfl, by omega, by omega⟩
  case round =>
    obtain ⟨k, hk, rfl, rfl, k1, k2⟩ := hrel
    match k, hk with
    | 0, _ =>
      by_cases hx : x = 0
      · subst hx
        go_wp2
        exact ⟨⟨1, by omega, rfl, trivial, fun _ => trivial, by omega⟩, by simp [intOf]⟩
      · go_wp2
        go_ret
        exact ⟨by simp, rfl⟩
    | 1, _ =>
      have hx := k1 (by omega)
      subst hx
      by_cases hy : y = 0
      · subst hy
        go_wp2
        exact ⟨⟨2, by omega, rfl, trivial, fun _ => trivial, fun _ => trivial⟩, by simp [intOf]⟩
      · go_wp2
        go_ret
        exact ⟨by simp, rfl⟩
    | 2, _ =>
      have hx := k1 (by omega)
      have hy := k2 (by omega)
      subst hx hy
      go_wp2
      go_ret
      exact ⟨by simp, rfl⟩

theorem two_cells {W : World} {b : Nat} {x y : Int} {T : TypeId} (h : W.heap.size = b) : (W.alloc (.cells #[.int .i64 x, .int .i64 y] T)).drew.cell? ⟨b, 0, none⟩ = some (.int .i64 x) ∧ (W.alloc (.cells #[.int .i64 x, .int .i64 y] T)).drew.cell? ⟨b, 1, none⟩ = some (.int .i64 y) := by
  subst h
  have e : ∀ (V : World) (a : Addr), V.drew.cell? a = V.cell? a := fun _ _ => rfl
  rw [e, e]
  exact ⟨by simp, by simp⟩

set_option maxRecDepth 100000 in
set_option maxHeartbeats 800000 in
theorem order_any (x y : Ru) (w : World) :
    Calls Try.prog 46 #[.agg #[.int .i64 x.1, .int .i64 x.2.1, .int .i64 x.2.2], .agg #[.int .i64 y.1, .int .i64 y.2.1, .int .i64 y.2.2]] w fun e w' => e = .returned (.int .i64 (cf x y)) ∧ Ext w w' := by
  obtain ⟨x0, x1, x2⟩ := x
  obtain ⟨y0, y1, y2⟩ := y
  obtain ⟨r, hr⟩ : ∃ r, (if c3 x0 y0 = 0 then c3 x1 y1 else c3 x0 y0) = r := ⟨_, rfl⟩
  have e : cf (x0, x1, x2) (y0, y1, y2) = r := hr
  rw [e]
  have HR : Hid _ := hr
  clear hr e
  have hE0 : Ext w ((w.alloc (.cells #[.int .i64 x0, .int .i64 x1, .int .i64 x2] 59)).alloc (.cells #[.int .i64 y0, .int .i64 y1, .int .i64 y2] 59)) := ((Ext.refl w).alloc _).alloc _
  have HS : Hid (∀ W : World, Ext ((w.alloc (.cells #[.int .i64 x0, .int .i64 x1, .int .i64 x2] 59)).alloc (.cells #[.int .i64 y0, .int .i64 y1, .int .i64 y2] 59)) W → W.cell? ⟨w.heap.size, 0, none⟩ = some (.int .i64 x0) ∧ W.cell? ⟨w.heap.size, 1, none⟩ = some (.int .i64 x1) ∧ W.cell? ⟨w.heap.size + 1, 0, none⟩ = some (.int .i64 y0) ∧ W.cell? ⟨w.heap.size + 1, 1, none⟩ = some (.int .i64 y1)) := fun W h =>
    ⟨(h.cells.1 _ _ (by simp; omega)).trans (by simp), (h.cells.1 _ _ (by simp; omega)).trans (by simp), (h.cells.1 _ _ (by simp)).trans (by simp), (h.cells.1 _ _ (by simp)).trans (by simp)⟩
  go_enter Try.func46, Try.ntmps46
  go_wp2_with fail
  obtain ⟨W0, hW0⟩ : ∃ W0, W0 = (w.alloc (.cells #[.int .i64 x0, .int .i64 x1, .int .i64 x2] 59)).alloc (.cells #[.int .i64 y0, .int .i64 y1, .int .i64 y2] 59) := ⟨_, rfl⟩
  rw [← hW0] at HS hE0 ⊢
  clear hW0
  have hR0 := Ext.refl W0
  go_region_held3 (fun W => W.cell? ⟨w.heap.size, 0, none⟩ = some (.int .i64 x0) ∧ W.cell? ⟨w.heap.size, 1, none⟩ = some (.int .i64 x1) ∧ W.cell? ⟨w.heap.size + 1, 0, none⟩ = some (.int .i64 y0) ∧ W.cell? ⟨w.heap.size + 1, 1, none⟩ = some (.int .i64 y1))
    (first | exact HS.out _ hR0.drew | exact HS.out _ (hR0.alloc _).drew)
    (first
      | (go_at_call 57; refine (Compare_any _ _ _).mono ?_; rintro e w1 ⟨rfl, rfl⟩)
      | (go_at_call 56; refine (Or_any (c3 x0 y0) (c3 x1 y1) r _ _ ?_ ?_ ?_).mono ?_; exact HR.out; exact (two_cells rfl).1; exact (two_cells rfl).2; rintro e w1 ⟨rfl, rfl⟩))
  all_goals (
    go_wp2
    go_ret
    exact ⟨rfl, (hE0.alloc _).drew⟩)

end Go.Proofs.Ytmjddnnjjmnddad.Tb
