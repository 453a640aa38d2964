/- What the order of two rules answers; what a rule's numbers must be. -/
import Derived.Test.YtmjddnnjjmnddadN0
import Derived.Lib.QuietBelow
import Derived.Lib.SmallJoins
import Derived.Deep.OwnRows
import Derived.Test.YtmjddnnjjmnddadV2
namespace Go.Proofs.Ytmjddnnjjmnddad.Tb
open Go.RowKit Go.Deep Rul

def c3 (x y : Int) : Int := if x < y then -1 else if y < x then 1 else 0
def cf (x y : Ru) : Int := if c3 x.1 y.1 = 0 then c3 x.2.1 y.2.1 else c3 x.1 y.1
theorem c3_zero {x y : Int} : c3 x y = 0 ↔ x = y := by
  unfold c3
  split
  · omega
  · split <;> omega
theorem c3_neg {x y : Int} : c3 x y < 0 ↔ x < y := by
  unfold c3
  split
  · omega
  · split <;> omega
theorem cf_lt {x y : Ru} : cf x y < 0 ↔ lt x y = true := by
  rw [lt_true]; unfold cf
  have h1 := @c3_zero x.1 y.1
  have h2 := @c3_neg x.1 y.1
  have h3 := @c3_neg x.2.1 y.2.1
  split <;> omega
theorem cf_ge {x y : Ru} : cf x y ≥ 0 ↔ lt x y = false := by
  have := cf_lt (x := x) (y := y)
  cases h : lt x y with
  | true => rw [h] at this; simp at this ⊢; exact this
  | false => rw [h] at this; simp at this ⊢; exact this

set_option maxHeartbeats 400000 in
theorem isNaN_any (x : Int) (w : World) : Calls Try.prog 63 #[.int .i64 x] w fun e w' => e = .returned (.bool false) ∧ w' = w := by
  go_enter Try.func63, Try.ntmps63
  go_wp2
  go_ret
  exact ⟨by simp, rfl⟩

set_option maxHeartbeats 1000000 in
theorem Compare_any (x y : Int) (w : World) : Calls Try.prog 57 #[.int .i64 x, .int .i64 y] w fun e w' => e = .returned (.int .i64 (c3 x y)) ∧ w' = w := by
  go_enter Try.func57, Try.ntmps57
  go_wp2_with fail
  refine (isNaN_any x _).mono ?_
  rintro e w1 ⟨rfl, rfl⟩
  go_wp2_with fail
  refine (isNaN_any y _).mono ?_
  rintro e w2 ⟨rfl, rfl⟩
  rcases Int.lt_trichotomy x y with h | h | h
  · go_wp2
    go_ret
    exact ⟨by simp [c3, h], rfl⟩
  · subst h
    go_wp2
    go_ret
    exact ⟨by simp [c3], rfl⟩
  · have h' : ¬ x < y := by omega
    go_wp2
    go_ret
    exact ⟨by simp [c3, h, h'], rfl⟩

end Go.Proofs.Ytmjddnnjjmnddad.Tb
