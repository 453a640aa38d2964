/- What the document's ahead answers of two rules. -/
import Derived.Test.YtmjddnnjjmnddadV12
namespace Go.Proofs.Ytmjddnnjjmnddad.Tb
open Go.RowKit Go.Deep Rul Go.Sort

set_option maxHeartbeats 1600000 in
theorem ahead_any (x y : Ru) (w : World) :
    Calls Try.prog 47 #[.agg #[.int .i64 x.1, .int .i64 x.2.1, .int .i64 x.2.2], .agg #[.int .i64 y.1, .int .i64 y.2.1, .int .i64 y.2.2]] w fun e w' => e = .returned (.bool (lt x y)) ∧ Ext w w' := by
  obtain ⟨x0, x1, x2⟩ := x
  obtain ⟨y0, y1, y2⟩ := y
  by_cases h1 : x0 < y0
  · rw [show lt (x0, x1, x2) (y0, y1, y2) = true by rw [lt_true]; exact Or.inl h1]
    go_enter Try.func47, Try.ntmps47
    go_wp2
    go_ret
    exact ⟨by first | rfl | simp, ((Ext.refl w).alloc _).alloc _⟩
  · by_cases h2 : x0 = y0
    · by_cases h3 : x1 < y1
      · rw [show lt (x0, x1, x2) (y0, y1, y2) = true by rw [lt_true]; exact Or.inr ⟨h2, h3⟩]
        subst h2
        go_enter Try.func47, Try.ntmps47
        go_wp2
        go_ret
        exact ⟨by first | rfl | simp, ((Ext.refl w).alloc _).alloc _⟩
      · rw [show lt (x0, x1, x2) (y0, y1, y2) = false by rw [lt_false]; simp only; omega]
        subst h2
        go_enter Try.func47, Try.ntmps47
        go_wp2
        go_ret
        exact ⟨by first | rfl | simp, ((Ext.refl w).alloc _).alloc _⟩
    · rw [show lt (x0, x1, x2) (y0, y1, y2) = false by rw [lt_false]; simp only; omega]
      have h2' : (x0 == y0) = false := by simpa using h2
      go_enter Try.func47, Try.ntmps47
      go_wp2
      go_ret
      exact ⟨by first | rfl | simp, ((Ext.refl w).alloc _).alloc _⟩

end Go.Proofs.Ytmjddnnjjmnddad.Tb
