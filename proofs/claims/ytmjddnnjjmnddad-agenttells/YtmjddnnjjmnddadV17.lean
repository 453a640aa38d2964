/- What Compact of a row of rules leaves: one that is just as the one ahead of it is left out. -/
import Derived.Test.YtmjddnnjjmnddadV15
namespace Go.Proofs.Ytmjddnnjjmnddad.Tb
open Go.RowKit Go.Deep Rul Go.Sort

theorem Gb.setCells {a : World} {b : Nat} : ∀ (vs : List Value) (o : Nat) (w : World), a.grownBy w (some b) → a.grownBy (w.setCells b o vs) (some b)
  | [], _, _, h => h
  | v :: r, o, _, h => Gb.setCells r (o + 1) _ (Gb.set h o v)
theorem run_clear_rules (w : World) (ty : TypeId) (b o n c : Nat) (hn : 0 < n) (hc : ∀ j, j < n * 3 → (w.cell? ⟨b, o + j, none⟩).isSome = true) (hf : ∀ j, j < n * 3 → w.frozen? ⟨b, o + j, none⟩ = false) :
    (Builtin.clear_ #[22] ty #[.slice (some ⟨b, o, none⟩) n c]).run Try.prog w = .ok (.tuple #[]) (w.setCells b o (Builtin.zeroCells #[.int .i64 0, .int .i64 0, .int .i64 0] n).toList) := by
  have hsz : (Builtin.zeroCells #[Value.int .i64 0, .int .i64 0, .int .i64 0] n).toList.length = n * 3 := by simp [Builtin.zeroCells]
  have hst := run_storeCells_cells (P := Try.prog) b o (Builtin.zeroCells #[.int .i64 0, .int .i64 0, .int .i64 0] n).toList 0 w (by rw [hsz]; simpa using hc) (by rw [hsz]; simpa using hf) (by
    intro v hv
    simp [Builtin.zeroCells] at hv
    obtain ⟨i, _, rfl⟩ := hv
    have : i % 3 = 0 ∨ i % 3 = 1 ∨ i % 3 = 2 := by omega
    rcases this with e | e | e <;> rw [e] <;> rfl)
  simp only [Nat.add_zero] at hst
  obtain ⟨m, rfl⟩ : ∃ m, n = m + 1 := ⟨n - 1, by omega⟩
  simp [Builtin.clear_, run_underlying Try.underlying22, hst, Value.cells]

/-! ### in words -/
theorem take_get {l : List Ru} {k : Nat} (h : k < l.length) : l.take (k + 1) = l.take k ++ [l.getD k r0] := by
  rw [List.take_succ_eq_append_getElem h]
  simp [List.getD_eq_getElem?_getD, h]
theorem take_last {l : List Ru} {k : Nat} (h : k < l.length) : (l.take (k + 1)).getLast? = some (l.getD k r0) := by rw [take_get h]; simp
theorem dd_next {l : List Ru} {k : Nat} (h : k + 1 < l.length) : dd (l.take (k + 2)) = if l.getD k r0 = l.getD (k + 1) r0 then dd (l.take (k + 1)) else dd (l.take (k + 1)) ++ [l.getD (k + 1) r0] := by
  rw [take_get (k := k + 1) h, dd_snoc, take_last (by omega)]
  simp
theorem arr_get {d : Array Ru} {k : Nat} (h : k < d.size) : d.toList.getD k r0 = d[k]! := by
  rw [getElem!_pos d k h]; simp [List.getD_eq_getElem?_getD, h]
/-- the row while it is made shorter: k of it are done, those from j on are as they were -/
structure Cpt (d dk : Array Ru) (k j : Nat) : Prop where
  size : dk.size = d.size
  le : k < j
  jn : j ≤ d.size
  same : ∀ t, j - 1 ≤ t → dk[t]! = d[t]!
  done : dk.toList.take k = dd (d.toList.take j)
theorem Cpt.skip {d dk : Array Ru} {k j : Nat} (h : Cpt d dk k j) (hj : j < d.size) (e : d[j]! = d[j - 1]!) : Cpt d dk k (j + 1) := by
  have hle := h.le
  refine ⟨h.size, by omega, hj, fun t ht => h.same t (by omega), ?_⟩
  obtain ⟨i, rfl⟩ : ∃ i, j = i + 1 := ⟨j - 1, by omega⟩
  rw [dd_next (by simpa using hj), arr_get (by omega), arr_get hj, if_pos (by simpa using e.symm)]
  exact h.done
theorem take_set {d : Array Ru} {k : Nat} (h : k < d.size) (r : Ru) : (d.setIfInBounds k r).toList.take (k + 1) = d.toList.take k ++ [r] := by
  refine List.ext_getElem (by simp; omega) fun i h1 h2 => ?_
  simp at h1 h2
  by_cases e : i = k
  · subst e
    simp [List.getElem_append]
    omega
  · have : i < k := by omega
    simp [show ¬ k = i by omega, show i < min k d.size by omega]
theorem Cpt.keep {d dk : Array Ru} {k j : Nat} (h : Cpt d dk k j) (hj : j < d.size) (e : ¬ d[j]! = d[j - 1]!) : Cpt d (dk.setIfInBounds k d[j]!) (k + 1) (j + 1) := by
  have hle := h.le
  have hsz := h.size
  refine ⟨by simpa using h.size, by omega, hj, fun t ht => ?_, ?_⟩
  · have : (dk.setIfInBounds k d[j]!)[t]! = dk[t]! := by
      by_cases ht2 : t < dk.size
      · rw [getElem!_pos _ t (by simpa using ht2), getElem!_pos dk t ht2, Array.getElem_setIfInBounds_ne (hj := ht2) (h := by omega)]
      · rw [getElem!_neg _ t (by simpa using ht2), getElem!_neg dk t ht2]
    rw [this, h.same t (by omega)]
  · rw [take_set (by omega)]
    obtain ⟨i, rfl⟩ : ∃ i, j = i + 1 := ⟨j - 1, by omega⟩
    rw [dd_next (by simpa using hj), arr_get (by omega), arr_get hj, if_neg (by intro h; exact e (by simpa using h.symm)), h.done]
theorem Cpt.first {d : Array Ru} {k : Nat} (hk : 0 < k) (hkn : k < d.size) (h : dd (d.toList.take k) = d.toList.take k) (e : d[k]! = d[k - 1]!) : Cpt d d k (k + 1) := by
  refine ⟨rfl, by omega, hkn, fun _ _ => rfl, ?_⟩
  obtain ⟨i, rfl⟩ : ∃ i, k = i + 1 := ⟨k - 1, by omega⟩
  rw [dd_next (by simpa using hkn), arr_get (by omega), arr_get hkn, if_pos (by simpa using e.symm), h]
theorem dd_grow {d : Array Ru} {k : Nat} (hk : 0 < k) (hkn : k < d.size) (h : dd (d.toList.take k) = d.toList.take k) (e : ¬ d[k]! = d[k - 1]!) : dd (d.toList.take (k + 1)) = d.toList.take (k + 1) := by
  obtain ⟨i, rfl⟩ : ∃ i, k = i + 1 := ⟨k - 1, by omega⟩
  rw [dd_next (by simpa using hkn), arr_get (by omega), arr_get hkn, if_neg (by intro h; exact e (by simpa using h.symm)), h, ← arr_get hkn, take_get (k := i + 1) (by simpa using hkn)]
theorem dd_short {l : List Ru} (h : l.length < 2) : dd l = l := by
  match l, h with
  | [], _ => rfl
  | [a], _ => rfl

end Go.Proofs.Ytmjddnnjjmnddad.Tb
