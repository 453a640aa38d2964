/- The plain words for nets: what is wrong with links, what links cost, who reaches whom; and small facts on them. -/
import Derived.WalkKit
namespace Stw

structure Lk where
  a : Int
  b : Int
  c : Int

def lk0 : Lk := ⟨0, 0, 0⟩

def swB (n s : Int) : Bool := decide (0 ≤ s ∧ s < n)
theorem swB_true {n s : Int} : swB n s = true ↔ 0 ≤ s ∧ s < n := by simp [swB]
theorem swB_false {n s : Int} : swB n s = false ↔ ¬ (0 ≤ s ∧ s < n) := by simp [swB]

/-- What is wrong with a link by itself. -/
def wlink (n a b c : Int) : Int := if swB n a = false ∨ swB n b = false then 6 else if a = b then 8 else if c < 1 ∨ 1000 < c then 3 else 0

theorem wlink_zero {n a b c : Int} (h : wlink n a b c = 0) : 0 ≤ a ∧ a < n ∧ 0 ≤ b ∧ b < n ∧ a ≠ b ∧ 1 ≤ c ∧ c ≤ 1000 := by
  unfold wlink at h
  split at h
  · omega
  · rename_i h1
    split at h
    · omega
    · split at h
      · omega
      · simp only [not_or, Bool.not_eq_false, swB_true] at h1
        omega

/-- Does a link join these two? -/
def jn (l : Lk) (a b : Int) : Bool := (l.a == a && l.b == b) || (l.a == b && l.b == a)
theorem jn_iff {l : Lk} {a b : Int} : jn l a b = true ↔ (l.a = a ∧ l.b = b) ∨ (l.a = b ∧ l.b = a) := by simp [jn]
theorem jn_comm (l : Lk) (a b : Int) : jn l a b = jn l b a := by
  rw [Bool.eq_iff_iff, jn_iff, jn_iff]; omega
theorem jn_minmax {l : Lk} {a b : Int} : jn l a b = true ↔ min l.a l.b = min a b ∧ max l.a l.b = max a b := by
  rw [jn_iff]; omega

/-- What the link that joins two costs; 0: there is none. -/
def cost : List Lk → Int → Int → Int
  | [], _, _ => 0
  | l :: r, a, b => if jn l a b = true then l.c else cost r a b

theorem cost_comm : ∀ (ls : List Lk) (a b : Int), cost ls a b = cost ls b a
  | [], _, _ => rfl
  | l :: r, a, b => by simp only [cost, jn_comm l a b, cost_comm r a b]

def anyJ (ls : List Lk) (a b : Int) : Bool := ls.any fun m => jn m a b

theorem cost_none : ∀ {ls : List Lk} {a b : Int}, anyJ ls a b = false → cost ls a b = 0
  | [], _, _, _ => rfl
  | l :: r, a, b, h => by
    simp only [anyJ, List.any_cons, Bool.or_eq_false_iff] at h
    simp only [cost, h.1, Bool.false_eq_true, if_false]
    exact cost_none h.2

theorem cost_some : ∀ {ls : List Lk} {a b : Int}, (∀ l ∈ ls, 1 ≤ l.c) → anyJ ls a b = true → 1 ≤ cost ls a b
  | [], _, _, _, h => by simp [anyJ] at h
  | l :: r, a, b, hc, h => by
    simp only [cost]
    by_cases hj : jn l a b = true
    · rw [if_pos hj]; exact hc l (by simp)
    · rw [if_neg hj]
      refine cost_some (fun m hm => hc m (by simp [hm])) ?_
      simp only [anyJ, List.any_cons, Bool.or_eq_true] at h
      rcases h with h | h
      · exact absurd h hj
      · exact h

theorem cost_snoc : ∀ (ls : List Lk) (l : Lk) (a b : Int), cost (ls ++ [l]) a b = if anyJ ls a b = true then cost ls a b else if jn l a b = true then l.c else 0
  | [], l, a, b => by simp [cost, anyJ]
  | m :: r, l, a, b => by
    simp only [List.cons_append, cost, anyJ, List.any_cons]
    by_cases hj : jn m a b = true
    · simp [hj]
    · simp only [hj, Bool.false_eq_true, if_false, Bool.false_or]
      exact cost_snoc r l a b

/-- What is wrong with the k-th link. -/
def ewl (n : Int) (ls : List Lk) (k : Nat) : Int :=
  if wlink n (ls.getD k lk0).a (ls.getD k lk0).b (ls.getD k lk0).c = 0 then (if anyJ (ls.take k) (ls.getD k lk0).a (ls.getD k lk0).b = true then 7 else 0) else wlink n (ls.getD k lk0).a (ls.getD k lk0).b (ls.getD k lk0).c

theorem ewl_zero {n : Int} {ls : List Lk} {k : Nat} (h : ewl n ls k = 0) : wlink n (ls.getD k lk0).a (ls.getD k lk0).b (ls.getD k lk0).c = 0 ∧ anyJ (ls.take k) (ls.getD k lk0).a (ls.getD k lk0).b = false := by
  unfold ewl at h
  split at h
  · rename_i h1
    refine ⟨h1, ?_⟩
    split at h
    · omega
    · rename_i h2; simpa using h2
  · exact absurd h (by assumption)

/-- The first number from k on, of so many, at which f is not 0. -/
def scan (f : Nat → Int) : Nat → Nat → Int × Int
  | 0, _ => (0, 0)
  | m + 1, k => if f k = 0 then scan f m (k + 1) else (f k, (k : Int))

theorem scan_good (f : Nat → Int) : ∀ (m k : Nat), (∀ j, k ≤ j → j < k + m → f j = 0) → scan f m k = (0, 0)
  | 0, _, _ => rfl
  | m + 1, k, h => by
    simp only [scan, h k (Nat.le_refl _) (by omega), if_true]
    exact scan_good f m (k + 1) (fun j h1 h2 => h j (by omega) (by omega))

theorem scan_bad (f : Nat → Int) : ∀ (m k i : Nat), (∀ j, k ≤ j → j < i → f j = 0) → k ≤ i → i < k + m → f i ≠ 0 → scan f m k = (f i, (i : Int))
  | 0, _, _, _, _, _, _ => by omega
  | m + 1, k, i, h, h1, h2, h3 => by
    by_cases e : k = i
    · subst e; simp [scan, h3]
    · simp only [scan, h k (Nat.le_refl _) (by omega), if_true]
      exact scan_bad f m (k + 1) i (fun j g1 g2 => h j (by omega) g2) (by omega) (by omega) h3

theorem scan_ok {f : Nat → Int} : ∀ {m k : Nat}, (scan f m k).1 = 0 → ∀ j, k ≤ j → j < k + m → f j = 0
  | 0, _, _, _, _, _ => by omega
  | m + 1, k, h, j, h1, h2 => by
    unfold scan at h
    split at h
    · by_cases e : k = j
      · subst e; assumption
      · exact scan_ok h j (by omega) (by omega)
    · exact absurd h (by assumption)

def many (n : Int) (len : Nat) : Bool := decide (n < 1 ∨ 8 < n ∨ 28 < len)

/-- What is wrong with a net, and at which link. -/
def wrong (n : Int) (ls : List Lk) : Int × Int := if many n ls.length = true then (5, 0) else scan (ewl n ls) ls.length 0

theorem wrong_many {n : Int} {ls : List Lk} (h : many n ls.length = true) : wrong n ls = (5, 0) := by simp [wrong, h]
theorem wrong_bad {n : Int} {ls : List Lk} {k : Nat} (h : many n ls.length = false) (hk : k < ls.length) (h0 : ∀ j, j < k → ewl n ls j = 0) (h1 : ewl n ls k ≠ 0) : wrong n ls = (ewl n ls k, (k : Int)) := by
  simp only [wrong, h, Bool.false_eq_true, if_false]
  exact scan_bad _ _ _ _ (fun j _ hj => h0 j hj) (Nat.zero_le _) (by omega) h1
theorem wrong_good {n : Int} {ls : List Lk} (h : many n ls.length = false) (h0 : ∀ j, j < ls.length → ewl n ls j = 0) : wrong n ls = (0, 0) := by
  simp only [wrong, h, Bool.false_eq_true, if_false]
  exact scan_good _ _ _ (fun j _ hj => h0 j (by omega))

/-- A right net. -/
def Right (n : Int) (ls : List Lk) : Prop := many n ls.length = false ∧ ∀ j, j < ls.length → ewl n ls j = 0
theorem right_of {n : Int} {ls : List Lk} (h : (wrong n ls).1 = 0) : Right n ls := by
  unfold wrong at h
  split at h
  · simp at h
  · rename_i hm
    exact ⟨by simpa using hm, fun j hj => scan_ok h j (Nat.zero_le _) (by omega)⟩
theorem Right.wrong {n : Int} {ls : List Lk} (h : Right n ls) : wrong n ls = (0, 0) := wrong_good h.1 h.2
theorem Right.bounds {n : Int} {ls : List Lk} (h : Right n ls) : 1 ≤ n ∧ n ≤ 8 ∧ ls.length ≤ 28 := by
  have := h.1; simp only [many, decide_eq_false_iff_not] at this; omega
theorem Right.mem {n : Int} {ls : List Lk} (h : Right n ls) {l : Lk} (hl : l ∈ ls) : 0 ≤ l.a ∧ l.a < n ∧ 0 ≤ l.b ∧ l.b < n ∧ l.a ≠ l.b ∧ 1 ≤ l.c ∧ l.c ≤ 1000 := by
  obtain ⟨i, hi, rfl⟩ := List.getElem_of_mem hl
  have := wlink_zero (ewl_zero (h.2 i hi)).1
  simpa [List.getD_eq_getElem?_getD, hi] using this

theorem cost_range {n : Int} : ∀ {ls : List Lk}, (∀ l ∈ ls, 0 ≤ l.a ∧ l.a < n ∧ 0 ≤ l.b ∧ l.b < n ∧ l.a ≠ l.b ∧ 1 ≤ l.c ∧ l.c ≤ 1000) → ∀ a b, 0 ≤ cost ls a b ∧ cost ls a b ≤ 1000 ∧ (cost ls a b ≠ 0 → 0 ≤ a ∧ a < n ∧ 0 ≤ b ∧ b < n ∧ a ≠ b)
  | [], _, a, b => by simp [cost]
  | l :: r, h, a, b => by
    simp only [cost]
    have h1 := h l (by simp)
    split
    · rename_i hj
      rw [jn_iff] at hj
      refine ⟨by omega, by omega, fun _ => by omega⟩
    · exact cost_range (fun m hm => h m (by simp [hm])) a b

theorem Right.cost {n : Int} {ls : List Lk} (h : Right n ls) (a b : Int) : 0 ≤ Stw.cost ls a b ∧ Stw.cost ls a b ≤ 1000 ∧ (Stw.cost ls a b ≠ 0 → 0 ≤ a ∧ a < n ∧ 0 ≤ b ∧ b < n ∧ a ≠ b) :=
  cost_range (fun _ hl => h.mem hl) a b

/-- b is in every set that holds a and goes on over links. -/
def Rch (ls : List Lk) (a b : Int) : Prop := ∀ S : Int → Prop, S a → (∀ x y, S x → 0 < cost ls x y → S y) → S b
theorem Rch.refl (ls : List Lk) (a : Int) : Rch ls a a := fun _ h _ => h
theorem Rch.step {ls : List Lk} {a b c : Int} (h : Rch ls a b) (k : 0 < cost ls b c) : Rch ls a c := fun S h0 h1 => h1 b c (h S h0 h1) k
theorem Rch.trans {ls : List Lk} {a b c : Int} (h : Rch ls a b) (k : Rch ls b c) : Rch ls a c := fun S h0 h1 => k S (h S h0 h1) h1
theorem Rch.symm {ls : List Lk} {a b : Int} (h : Rch ls a b) : Rch ls b a :=
  h (fun x => Rch ls x a) (Rch.refl ls a) (fun x y hx hc => Rch.trans ((Rch.refl ls y).step (by rw [cost_comm]; exact hc)) hx)

end Stw
