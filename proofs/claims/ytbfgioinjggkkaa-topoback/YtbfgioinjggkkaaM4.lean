/- Paths, plainly: gone back, and cut in two. -/
import Derived.Test.YtbfgioinjggkkaaM2
namespace Stw

theorem getD_lt {l : List Int} {i : Nat} (h : i < l.length) : l.getD i 0 = l[i] := by simp [List.getD_eq_getElem?_getD, h]

/-- A path, by its places. -/
theorem path_iff {n : Int} {ls : List Lk} {ps : List Int} : pathB n ls ps = true ↔ ps ≠ [] ∧ (∀ x ∈ ps, swB n x = true) ∧ ps.Nodup ∧ ∀ i, i + 1 < ps.length → cost ls (ps.getD i 0) (ps.getD (i + 1) 0) ≠ 0 := by
  rw [pathB_true]
  constructor
  · rintro ⟨h0, h1⟩
    have key : ∀ i, i < ps.length → swB n (ps.getD i 0) = true ∧ ¬ ps.getD i 0 ∈ ps.take i ∧ (i = 0 ∨ cost ls (ps.getD (i - 1) 0) (ps.getD i 0) ≠ 0) := by
      intro i hi
      have := h1 i hi
      simp only [okAt, Bool.and_eq_true, Bool.or_eq_true, beq_iff_eq, Bool.not_eq_true', beq_eq_false_iff_ne] at this
      refine ⟨this.1.1, fun hm => ?_, this.2⟩
      rw [List.contains_iff_mem.2 hm] at this
      exact absurd this.1.2 (by decide)
    refine ⟨h0, fun x hx => ?_, ?_, fun i hi => ?_⟩
    · obtain ⟨i, hi, rfl⟩ := List.getElem_of_mem hx
      rw [← getD_lt hi]; exact (key i hi).1
    · rw [List.nodup_iff_pairwise_ne, List.pairwise_iff_getElem]
      intro i j hi hj hij e
      refine (key j hj).2.1 ?_
      rw [getD_lt hj, ← e]
      rw [List.mem_take_iff_getElem]
      exact ⟨i, by omega, rfl⟩
    · have := (key (i + 1) hi).2.2
      simpa using this
  · rintro ⟨h0, h1, h2, h3⟩
    refine ⟨h0, fun i hi => okAt_mk (h1 _ (by rw [getD_lt hi]; exact List.getElem_mem hi)) ?_ ?_⟩
    · intro hm
      rw [List.mem_take_iff_getElem] at hm
      obtain ⟨j, hj, e⟩ := hm
      rw [getD_lt hi] at e
      rw [List.nodup_iff_pairwise_ne, List.pairwise_iff_getElem] at h2
      exact h2 j i (by omega) hi (by omega) e
    · by_cases e : i = 0
      · exact Or.inl e
      · have := h3 (i - 1) (by omega)
        rw [show i - 1 + 1 = i by omega] at this
        exact Or.inr this

theorem path_rev {n : Int} {ls : List Lk} {ps : List Int} (h : pathB n ls ps = true) : pathB n ls ps.reverse = true := by
  rw [path_iff] at h ⊢
  obtain ⟨h0, h1, h2, h3⟩ := h
  refine ⟨by simpa using h0, fun x hx => h1 x (by simpa using hx), (List.reverse_perm ps).nodup_iff.2 h2, fun i hi => ?_⟩
  have hl : ps.reverse.length = ps.length := by simp
  rw [getD_lt (by omega), getD_lt (by omega), List.getElem_reverse, List.getElem_reverse, cost_comm]
  have := h3 (ps.length - 1 - (i + 1)) (by omega)
  rw [getD_lt (by omega), getD_lt (by omega)] at this
  have e : ps.length - 1 - (i + 1) + 1 = ps.length - 1 - i := by omega
  simpa only [e] using this

theorem path_take {n : Int} {ls : List Lk} {ps : List Int} {k : Nat} (h : pathB n ls ps = true) (hk : k < ps.length) : pathB n ls (ps.take (k + 1)) = true := by
  rw [path_iff] at h ⊢
  obtain ⟨h0, h1, h2, h3⟩ := h
  have hl : (ps.take (k + 1)).length = k + 1 := by simp; omega
  refine ⟨by intro e; rw [e] at hl; simp at hl, fun x hx => h1 x (List.mem_of_mem_take hx), h2.sublist (List.take_sublist _ _), fun i hi => ?_⟩
  have := h3 i (by omega)
  rw [getD_lt (by omega), getD_lt (by omega)] at this ⊢
  simpa using this

theorem path_drop {n : Int} {ls : List Lk} {ps : List Int} {k : Nat} (h : pathB n ls ps = true) (hk : k < ps.length) : pathB n ls (ps.drop k) = true := by
  rw [path_iff] at h ⊢
  obtain ⟨h0, h1, h2, h3⟩ := h
  have hl : (ps.drop k).length = ps.length - k := by simp
  refine ⟨by intro e; rw [e] at hl; simp at hl; omega, fun x hx => h1 x (List.mem_of_mem_drop hx), h2.sublist (List.drop_sublist _ _), fun i hi => ?_⟩
  have := h3 (k + i) (by omega)
  rw [getD_lt (by omega), getD_lt (by omega)] at this ⊢
  simpa [Nat.add_assoc] using this

theorem psum_take {ls : List Lk} {ps : List Int} {m : Nat} (hm : m ≤ ps.length) : ∀ k, k ≤ m → psum ls (ps.take m) k = psum ls ps k
  | 0, _ => rfl
  | k + 1, h => by
    simp only [psum]
    rw [psum_take hm k (by omega)]
    by_cases e : k = 0
    · simp [e]
    · rw [if_neg e, if_neg e, getD_lt (by simp; omega), getD_lt (by simp; omega), getD_lt (by omega), getD_lt (by omega)]
      simp

theorem psum_drop {ls : List Lk} {ps : List Int} {k : Nat} : ∀ m, k + (m + 1) ≤ ps.length → psum ls (ps.drop k) (m + 1) + psum ls ps (k + 1) = psum ls ps (k + (m + 1))
  | 0, _ => by simp [psum]
  | m + 1, h => by
    have ih := psum_drop (ls := ls) (ps := ps) (k := k) m (by omega)
    have e1 : psum ls (ps.drop k) (m + 1 + 1) = psum ls (ps.drop k) (m + 1) + cost ls ((ps.drop k).getD m 0) ((ps.drop k).getD (m + 1) 0) := by
      rw [psum]; simp
    have e2 : psum ls ps (k + (m + 1 + 1)) = psum ls ps (k + (m + 1)) + cost ls (ps.getD (k + m) 0) (ps.getD (k + (m + 1)) 0) := by
      rw [show k + (m + 1 + 1) = (k + (m + 1)) + 1 by omega, psum, if_neg (by omega), show k + (m + 1) - 1 = k + m by omega]
    rw [e1, e2, getD_lt (by simp; omega), getD_lt (by simp; omega), getD_lt (by omega), getD_lt (by omega)]
    simp only [List.getElem_drop]
    omega

theorem psum_rev {ls : List Lk} {ps : List Int} : ∀ m, m + 1 ≤ ps.length → psum ls ps.reverse (m + 1) + psum ls ps (ps.length - m) = psum ls ps ps.length
  | 0, _ => by simp [psum]
  | m + 1, h => by
    have ih := psum_rev (ls := ls) (ps := ps) m (by omega)
    have e1 : psum ls ps.reverse (m + 1 + 1) = psum ls ps.reverse (m + 1) + cost ls (ps.reverse.getD m 0) (ps.reverse.getD (m + 1) 0) := by
      rw [psum]; simp
    have e2 : psum ls ps (ps.length - m) = psum ls ps (ps.length - (m + 1)) + cost ls (ps.getD (ps.length - (m + 1) - 1) 0) (ps.getD (ps.length - (m + 1)) 0) := by
      rw [show ps.length - m = (ps.length - (m + 1)) + 1 by omega, psum, if_neg (by omega)]
    rw [getD_lt (by simp; omega), getD_lt (by simp; omega), List.getElem_reverse, List.getElem_reverse, cost_comm] at e1
    rw [getD_lt (by omega), getD_lt (by omega)] at e2
    have e3 : ps.length - 1 - m - 1 = ps.length - 1 - (m + 1) := by omega
    have e4 : ps.length - (m + 1) = ps.length - 1 - m := by omega
    simp only [e4, e3] at e2
    rw [e4]
    omega

/-- There and back. -/
theorem len_rev {n : Int} {ls : List Lk} {ps : List Int} (h : (lengthOf n ls ps).2 = true) : lengthOf n ls ps.reverse = lengthOf n ls ps := by
  unfold lengthOf at h ⊢
  split at h
  · rename_i hc
    have hl : 0 < ps.length := by
      cases ps with
      | nil => simp [pathB] at hc
      | cons a r => simp
    have hr := psum_rev (ls := ls) (ps := ps) (ps.length - 1) (by omega)
    rw [show ps.length - 1 + 1 = ps.length by omega, show ps.length - (ps.length - 1) = 1 by omega] at hr
    have e1 : psum ls ps 1 = 0 := by simp [psum]
    rw [if_pos hc, if_pos ⟨hc.1, path_rev hc.2⟩]
    simp only [List.length_reverse, Prod.mk.injEq, and_true]
    omega
  · cases h
theorem len_parts {n : Int} {ls : List Lk} {ps : List Int} {k : Nat} (h : (lengthOf n ls ps).2 = true) (hk : k < ps.length) :
    (lengthOf n ls (ps.take (k + 1))).2 = true ∧ (lengthOf n ls (ps.drop k)).2 = true ∧ (lengthOf n ls (ps.take (k + 1))).1 + (lengthOf n ls (ps.drop k)).1 = (lengthOf n ls ps).1 := by
  unfold lengthOf at h ⊢
  split at h
  · rename_i hc
    rw [if_pos hc, if_pos ⟨hc.1, path_take hc.2 hk⟩, if_pos ⟨hc.1, path_drop hc.2 hk⟩]
    refine ⟨rfl, rfl, ?_⟩
    have h1 := psum_take (ls := ls) (ps := ps) (m := k + 1) (by omega) (k + 1) (by omega)
    have h2 := psum_drop (ls := ls) (ps := ps) (k := k) (ps.length - k - 1) (by omega)
    rw [show ps.length - k - 1 + 1 = ps.length - k by omega, show k + (ps.length - k) = ps.length by omega] at h2
    simp only [List.length_take, List.length_drop, show min (k + 1) ps.length = k + 1 by omega, h1]
    omega
  · cases h
theorem len_range {n : Int} {ls : List Lk} {ps : List Int} : 0 ≤ (lengthOf n ls ps).1 ∧ (lengthOf n ls ps).1 ≤ 1000 * (ps.length : Int) := by
  unfold lengthOf
  split
  · rename_i hc
    exact psum_range (fun a b => by have := (right_of hc.1).cost a b; omega) _
  · simp; omega
theorem len_right {n : Int} {ls : List Lk} {ps : List Int} (h : (lengthOf n ls ps).2 = true) : (wrong n ls).1 = 0 := by
  unfold lengthOf at h
  split at h
  · rename_i hc; exact hc.1
  · cases h

end Stw
