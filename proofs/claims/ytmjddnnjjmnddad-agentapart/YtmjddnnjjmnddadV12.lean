/- What is wrong with a row of rules: what both say of it. -/
import Derived.Test.YtmjddnnjjmnddadV7
namespace Go.Proofs.Ytmjddnnjjmnddad.Tb
open Go.RowKit Go.Deep Rul Go.Sort

/-- A row that is sorted lies as rules do. -/
theorem RW.rs {w : World} {b N : Nat} {d : Array Ru} (h : RW w b N d) : RsAt w (some ⟨b, 0, none⟩) d.toList := by
  refine Or.inr ⟨b, 0, rfl, h.lt, fun k hk => ?_⟩
  have hk' : k < d.size := by simpa using hk
  have e : d.toList.getD k (0, 0, 0) = d[k]! := by rw [getElem!_pos d k hk']; simp [List.getD_eq_getElem?_getD, hk']
  rw [e]
  obtain ⟨c0, c1, c2⟩ := h.cells hk' rfl
  simpa using ⟨c0, c1, c2⟩

set_option maxHeartbeats 1600000 in
theorem inRange_any (r : Ru) (w : World) :
    Calls Try.prog 45 #[.agg #[.int .i64 r.1, .int .i64 r.2.1, .int .i64 r.2.2]] w fun e w' => e = .returned (.bool (inR r)) ∧ Ext w w' := by
  obtain ⟨v, f, n⟩ := r
  by_cases h1 : 1 ≤ v
  · by_cases h2 : v ≤ 1000
    · by_cases h3 : 0 ≤ f
      · by_cases h4 : f < 12
        · by_cases h5 : 0 ≤ n
          · by_cases h6 : n < 8
            · have hv : inR (v, f, n) = true := by simp only [inR]; exact decide_eq_true ⟨h1, h2, h3, h4, h5, h6⟩
              rw [hv]
              go_enter Try.func45, Try.ntmps45
              go_wp2
              go_ret
              exact ⟨by first | rfl | simp, (Ext.refl w).alloc _⟩
            · have hv : inR (v, f, n) = false := by simp only [inR]; exact decide_eq_false (fun h => by omega)
              rw [hv]
              go_enter Try.func45, Try.ntmps45
              go_wp2
              go_ret
              exact ⟨by first | rfl | simp, (Ext.refl w).alloc _⟩
          · have hv : inR (v, f, n) = false := by simp only [inR]; exact decide_eq_false (fun h => by omega)
            rw [hv]
            go_enter Try.func45, Try.ntmps45
            go_wp2
            go_ret
            exact ⟨by first | rfl | simp, (Ext.refl w).alloc _⟩
        · have hv : inR (v, f, n) = false := by simp only [inR]; exact decide_eq_false (fun h => by omega)
          rw [hv]
          go_enter Try.func45, Try.ntmps45
          go_wp2
          go_ret
          exact ⟨by first | rfl | simp, (Ext.refl w).alloc _⟩
      · have hv : inR (v, f, n) = false := by simp only [inR]; exact decide_eq_false (fun h => by omega)
        rw [hv]
        go_enter Try.func45, Try.ntmps45
        go_wp2
        go_ret
        exact ⟨by first | rfl | simp, (Ext.refl w).alloc _⟩
    · have hv : inR (v, f, n) = false := by simp only [inR]; exact decide_eq_false (fun h => by omega)
      rw [hv]
      go_enter Try.func45, Try.ntmps45
      go_wp2
      go_ret
      exact ⟨by first | rfl | simp, (Ext.refl w).alloc _⟩
  · have hv : inR (v, f, n) = false := by simp only [inR]; exact decide_eq_false (fun h => by omega)
    rw [hv]
    go_enter Try.func45, Try.ntmps45
    go_wp2
    go_ret
    exact ⟨by first | rfl | simp, (Ext.refl w).alloc _⟩

end Go.Proofs.Ytmjddnnjjmnddad.Tb
