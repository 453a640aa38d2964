/- What the document's own Add answers, for all rows of rules: the same as Add. -/
import Derived.Test.YtmjddnnjjmnddadV26
import Derived.Test.YtmjddnnjjmnddadV15
import Derived.Deep.RegionLaw
namespace Go.Proofs.Ytmjddnnjjmnddad.Tb
open Go.RowKit Go.Deep Rul Go.Sort

/-- A part of a slice. -/
theorem SlOk.take {w : World} {ao : Option Addr} {len cap : Nat} {rs : List Ru} (h : SlOk w ao len cap rs) {k : Nat} (hk : k ≤ len) : SlOk w ao k cap (rs.take k) := by
  refine ⟨by rw [List.length_take, h.hlen]; omega, ?_, fun e => ⟨by have := (h.hnil e).1; omega, (h.hnil e).2⟩⟩
  rcases h.hat with h0 | ⟨g, off, h1, h2, h3⟩
  · exact Or.inl (by rw [h0]; simp)
  · refine Or.inr ⟨g, off, h1, h2, fun j hj => ?_⟩
    have hj' : j < k ∧ j < rs.length := by rw [List.length_take] at hj; omega
    have e : (rs.take k).getD j (0, 0, 0) = rs.getD j (0, 0, 0) := by simp [List.getD_eq_getElem?_getD, List.getElem?_take_of_lt hj'.1]
    rw [e]; exact h3 j hj'.2
theorem SlOk.drop {w : World} {g off len cap : Nat} {rs : List Ru} (h : SlOk w (some ⟨g, off, none⟩) len cap rs) {k : Nat} (_ : k ≤ len) : SlOk w (some ⟨g, off + k * 3, none⟩) (len - k) (cap - k) (rs.drop k) := by
  refine ⟨by rw [List.length_drop, h.hlen], ?_, fun e => by cases e⟩
  rcases h.hat with h0 | ⟨g', off', h1, h2, h3⟩
  · exact Or.inl (by rw [h0]; simp)
  · cases h1
    refine Or.inr ⟨g, off + k * 3, rfl, h2, fun j hj => ?_⟩
    have hj' : j < rs.length - k := by simpa using hj
    have e : (rs.drop k).getD j (0, 0, 0) = rs.getD (k + j) (0, 0, 0) := by simp [List.getD_eq_getElem?_getD]
    rw [e, show off + k * 3 + j * 3 = off + (k + j) * 3 by omega]
    exact h3 (k + j) (by omega)
theorem pre_of {r : Ru} {o : List Ru} {k : Nat} (hk : k ≤ o.length) (h1 : ∀ t, t < k → lt r (o.getD t r0) = false) (h2 : k = o.length ∨ lt r (o.getD k r0) = true) : pre r o = k := by
  have e : o.takeWhile (fun x => !lt r x) = o.take k := by
    conv => lhs; rw [← List.take_append_drop k o]
    refine tw_all (fun x hx => ?_) (fun x hx => ?_)
    · obtain ⟨i, hi, rfl⟩ := List.getElem_of_mem hx
      have hi' : i < k ∧ i < o.length := by rw [List.length_take] at hi; omega
      have := h1 i hi'.1
      simpa [List.getD_eq_getElem?_getD, hi'.2] using this
    · rcases h2 with h2 | h2
      · rw [List.drop_eq_nil_of_le (by omega)] at hx; cases hx
      · have hkl : k < o.length := by
          rcases Nat.lt_or_ge k o.length with h | h
          · exact h
          · rw [List.drop_eq_nil_of_le h] at hx; cases hx
        rw [List.drop_eq_getElem_cons hkl] at hx
        have hx' : o[k] = x := by injection hx
        rw [← hx']
        simpa [List.getD_eq_getElem?_getD, hkl] using h2
  rw [pre, e, List.length_take]; omega

end Go.Proofs.Ytmjddnnjjmnddad.Tb
