/- Who is reached, by going over all links as often as there are switches. -/
import Derived.Test.YtbfgioinjggkkaaM3
namespace Stw

/-- A set of switches, behind one link. -/
def upd (S : Int → Bool) (l : Lk) : Int → Bool := fun x => S x || ((S l.a || S l.b) && (x == l.a || x == l.b))
/-- .. behind the first k links. -/
def foldTo (S : Int → Bool) (ls : List Lk) : Nat → Int → Bool
  | 0 => S
  | k + 1 => upd (foldTo S ls k) (ls.getD k lk0)
/-- .. behind r rounds. -/
def rounds' (S : Int → Bool) (ls : List Lk) : Nat → Int → Bool
  | 0 => S
  | r + 1 => foldTo (rounds' S ls r) ls ls.length

theorem upd_mono {S : Int → Bool} {l : Lk} {x : Int} (h : S x = true) : upd S l x = true := by simp [upd, h]
theorem upd_no {S : Int → Bool} {l : Lk} (h : (S l.a || S l.b) = false) (x : Int) : upd S l x = S x := by simp [upd, h]
theorem upd_yes {S : Int → Bool} {l : Lk} (h : (S l.a || S l.b) = true) (x : Int) : upd S l x = (S x || (x == l.a || x == l.b)) := by simp [upd, h]
theorem fold_mono {S : Int → Bool} {ls : List Lk} {x : Int} (h : S x = true) : ∀ k, foldTo S ls k x = true
  | 0 => h
  | k + 1 => upd_mono (fold_mono h k)
theorem fold_le {S : Int → Bool} {ls : List Lk} {x : Int} {j k : Nat} (hjk : j ≤ k) (h : foldTo S ls j x = true) : foldTo S ls k x = true := by
  induction k with
  | zero => have : j = 0 := by omega
            subst this; exact h
  | succ k ih =>
    by_cases e : j = k + 1
    · subst e; exact h
    · exact upd_mono (ih (by omega))

theorem getD_in {ls : List Lk} {k : Nat} (h : k < ls.length) : ls.getD k lk0 ∈ ls := by
  rw [List.getD_eq_getElem?_getD, List.getElem?_eq_getElem h]; exact List.getElem_mem h

theorem link_cost {n : Int} {ls : List Lk} (hr : Right n ls) {l : Lk} (hl : l ∈ ls) : 0 < cost ls l.a l.b := by
  have : anyJ ls l.a l.b = true := by
    unfold anyJ
    rw [List.any_eq_true]
    exact ⟨l, hl, jn_iff.2 (Or.inl ⟨rfl, rfl⟩)⟩
  have := cost_some (fun m hm => (hr.mem hm).2.2.2.2.2.1) this
  omega
theorem cost_link : ∀ {ls : List Lk} {x y : Int}, 0 < cost ls x y → ∃ k, k < ls.length ∧ jn (ls.getD k lk0) x y = true
  | [], _, _, h => by simp [cost] at h
  | l :: r, x, y, h => by
    by_cases hj : jn l x y = true
    · exact ⟨0, by simp, hj⟩
    · simp only [cost, hj, Bool.false_eq_true, if_false] at h
      obtain ⟨k, hk, e⟩ := cost_link h
      exact ⟨k + 1, by simp; omega, e⟩

theorem upd_sound {n : Int} {ls : List Lk} (hr : Right n ls) {fr : Int} {S : Int → Bool} (h : ∀ x, S x = true → Rch ls fr x) {l : Lk} (hl : l ∈ ls) : ∀ x, upd S l x = true → Rch ls fr x := by
  intro x hx
  have hc := link_cost hr hl
  simp only [upd, Bool.or_eq_true, Bool.and_eq_true, beq_iff_eq] at hx
  rcases hx with hx | ⟨h1, h2⟩
  · exact h x hx
  · rcases h1 with h1 | h1 <;> rcases h2 with rfl | rfl
    · exact h _ h1
    · exact (h _ h1).step hc
    · exact (h _ h1).step (by rw [cost_comm]; exact hc)
    · exact h _ h1
theorem fold_sound {n : Int} {ls : List Lk} (hr : Right n ls) {fr : Int} {S : Int → Bool} (h : ∀ x, S x = true → Rch ls fr x) : ∀ k, k ≤ ls.length → ∀ x, foldTo S ls k x = true → Rch ls fr x
  | 0, _ => h
  | k + 1, hk => upd_sound hr (fold_sound hr h k (by omega)) (getD_in (by omega))
theorem rounds_sound {n : Int} {ls : List Lk} (hr : Right n ls) {fr : Int} {S : Int → Bool} (h : ∀ x, S x = true → Rch ls fr x) : ∀ r x, rounds' S ls r x = true → Rch ls fr x
  | 0 => h
  | r + 1 => fold_sound hr (rounds_sound hr h r) _ (Nat.le_refl _)

theorem fold_step {S : Int → Bool} {ls : List Lk} {x y : Int} (hx : S x = true) (hc : 0 < cost ls x y) : foldTo S ls ls.length y = true := by
  obtain ⟨k, hk, hj⟩ := cost_link hc
  have h1 := fold_mono (ls := ls) hx k
  have h2 : foldTo S ls (k + 1) y = true := by
    rw [jn_iff] at hj
    simp only [foldTo, upd, Bool.or_eq_true, Bool.and_eq_true, beq_iff_eq]
    right
    rcases hj with ⟨e1, e2⟩ | ⟨e1, e2⟩
    · exact ⟨Or.inl (by rw [e1]; exact h1), Or.inr e2.symm⟩
    · exact ⟨Or.inr (by rw [e2]; exact h1), Or.inl e1.symm⟩
  exact fold_le (by omega) h2

def Closed (ls : List Lk) (S : Int → Bool) : Prop := ∀ x y, S x = true → 0 < cost ls x y → S y = true
theorem closed_fold {n : Int} {ls : List Lk} (hr : Right n ls) {S : Int → Bool} (h : Closed ls S) : ∀ k, k ≤ ls.length → ∀ x, foldTo S ls k x = S x
  | 0, _, _ => rfl
  | k + 1, hk, x => by
    have ih := closed_fold hr h k (by omega)
    have hc := link_cost hr (getD_in (show k < ls.length by omega))
    simp only [foldTo, upd, ih]
    cases ha : S (ls.getD k lk0).a
    · cases hb : S (ls.getD k lk0).b
      · simp
      · rw [h _ _ hb (by rw [cost_comm]; exact hc)] at ha; cases ha
    · have hb := h _ _ ha hc
      cases hx : S x
      · simp only [Bool.false_or, Bool.true_or, Bool.true_and, Bool.or_eq_false_iff, beq_eq_false_iff_ne]
        exact ⟨fun e => (by rw [e, ha] at hx; cases hx), fun e => (by rw [e, hb] at hx; cases hx)⟩
      · simp

def cnt (S : Int → Bool) : Nat → Nat
  | 0 => 0
  | k + 1 => cnt S k + (if S (k : Int) = true then 1 else 0)
theorem cnt_le (S : Int → Bool) : ∀ k, cnt S k ≤ k
  | 0 => Nat.le_refl _
  | k + 1 => by have := cnt_le S k; simp only [cnt]; split <;> omega
theorem cnt_mono {S T : Int → Bool} (h : ∀ x, S x = true → T x = true) : ∀ k, cnt S k ≤ cnt T k
  | 0 => Nat.le_refl _
  | k + 1 => by
    have := cnt_mono h k
    simp only [cnt]
    cases hs : S (k : Int)
    · simp; omega
    · simp [h _ hs]; omega
theorem cnt_lt {S T : Int → Bool} (h : ∀ x, S x = true → T x = true) {y : Nat} (hs : S (y : Int) = false) (ht : T (y : Int) = true) : ∀ k, y < k → cnt S k < cnt T k
  | 0, hy => by omega
  | k + 1, hy => by
    simp only [cnt]
    by_cases e : y = k
    · subst e
      have := cnt_mono h y
      simp [hs, ht]; omega
    · have := cnt_lt h hs ht k (by omega)
      cases hk : S (k : Int)
      · simp; omega
      · simp [h _ hk]; omega

theorem rounds_grow {nn : Nat} {ls : List Lk} (hr : Right nn ls) {S : Int → Bool} (h1 : 1 ≤ cnt S nn) : ∀ r, Closed ls (rounds' S ls r) ∨ r + 1 ≤ cnt (rounds' S ls r) nn
  | 0 => Or.inr (by simpa [rounds'] using h1)
  | r + 1 => by
    by_cases hc : Closed ls (rounds' S ls r)
    · left
      intro x y hx hxy
      simp only [rounds', closed_fold hr hc _ (Nat.le_refl _)] at hx ⊢
      exact hc x y hx hxy
    · right
      have ih : r + 1 ≤ cnt (rounds' S ls r) nn := (rounds_grow hr h1 r).resolve_left hc
      unfold Closed at hc
      have : ∃ x y, rounds' S ls r x = true ∧ 0 < cost ls x y ∧ rounds' S ls r y = false := by
        apply Classical.byContradiction
        intro hn
        apply hc
        intro x y hx hxy
        cases hy : rounds' S ls r y
        · exact absurd ⟨x, y, hx, hxy, hy⟩ hn
        · rfl
      obtain ⟨x, y, hx, hxy, hy⟩ := this
      have hrg := (hr.cost x y).2.2 (by omega)
      obtain ⟨yn, rfl⟩ := Int.eq_ofNat_of_zero_le hrg.2.2.1
      have := cnt_lt (S := rounds' S ls r) (T := rounds' S ls (r + 1)) (fun z hz => fold_mono hz _) hy (fold_step hx hxy) nn (by omega)
      omega

/-- Behind as many rounds as there are switches: just those that are reached. -/
theorem rounds_all {nn : Nat} {ls : List Lk} (hr : Right nn ls) {fr : Int} (h0 : 0 ≤ fr) (h1 : fr < nn) (x : Int) : rounds' (fun y => y == fr) ls nn x = true ↔ Rch ls fr x := by
  have hs : ∀ y, (fun y => y == fr) y = true → Rch ls fr y := fun y hy => by simp at hy; subst hy; exact Rch.refl _ _
  refine ⟨rounds_sound hr hs nn x, fun h => ?_⟩
  obtain ⟨f, rfl⟩ := Int.eq_ofNat_of_zero_le h0
  have hc1 : 1 ≤ cnt (fun y => y == (f : Int)) nn := by
    have := cnt_lt (S := fun _ => false) (T := fun y => y == (f : Int)) (fun _ h => by cases h) (y := f) rfl (by simp) nn (by omega)
    omega
  have hcl : Closed ls (rounds' (fun y => y == (f : Int)) ls nn) := by
    rcases rounds_grow hr hc1 nn with h | h
    · exact h
    · have := cnt_le (rounds' (fun y => y == (f : Int)) ls nn) nn
      omega
  have hf : ∀ r, rounds' (fun y => y == (f : Int)) ls r f = true := by
    intro r
    induction r with
    | zero => simp [rounds']
    | succ r ih => exact fold_mono ih _
  exact h (fun z => rounds' (fun y => y == (f : Int)) ls nn z = true) (hf nn) (fun a b ha hb => hcl a b ha hb)

/-- Those of the first k that are in the set, rising. -/
def gather (S : Int → Bool) (k : Nat) : List Int := ((List.range k).filter (fun i : Nat => S (i : Int))).map (fun i : Nat => (i : Int))
theorem gather_yes {S : Int → Bool} {k : Nat} (h : S (k : Int) = true) : gather S (k + 1) = gather S k ++ [(k : Int)] := by simp [gather, List.range_succ, h]
theorem gather_no {S : Int → Bool} {k : Nat} (h : S (k : Int) = false) : gather S (k + 1) = gather S k := by simp [gather, List.range_succ, h]
theorem gather_len (S : Int → Bool) (k : Nat) : (gather S k).length ≤ k := by
  unfold gather
  rw [List.length_map]
  exact Nat.le_trans (List.length_filter_le _ _) (by simp)
theorem gather_rl {nn : Nat} {ls : List Lk} {S : Int → Bool} (hr : Right nn ls) {fr : Int} (h0 : 0 ≤ fr) (h1 : fr < nn) (hS : ∀ i : Nat, i < nn → S i = rounds' (fun y => y == fr) ls nn i) : RL nn ls fr (gather S nn) := by
  refine ⟨?_, fun s => ?_⟩
  · unfold gather
    rw [List.pairwise_map]
    exact ((List.pairwise_lt_range (n := nn)).filter _).imp (fun {a b} h => by omega)
  · have hw : (wrong (nn : Int) ls).1 = 0 := by rw [hr.wrong]
    have hs : swB nn fr = true := swB_true.2 ⟨h0, h1⟩
    simp only [hw, hs, true_and]
    unfold gather
    simp only [List.mem_map, List.mem_filter, List.mem_range]
    constructor
    · rintro ⟨i, ⟨hi, hSi⟩, rfl⟩
      rw [hS i hi] at hSi
      exact (rounds_all hr h0 h1 _).1 hSi
    · intro h
      have hrg : 0 ≤ s ∧ s < (nn : Int) := h (fun y => 0 ≤ y ∧ y < (nn : Int)) ⟨h0, h1⟩ (fun a b _ hc => by have := (hr.cost a b).2.2 (by omega); omega)
      obtain ⟨i, rfl⟩ := Int.eq_ofNat_of_zero_le hrg.1
      exact ⟨i, ⟨by omega, by rw [hS i (by omega)]; exact (rounds_all hr h0 h1 _).2 h⟩, rfl⟩

end Stw
