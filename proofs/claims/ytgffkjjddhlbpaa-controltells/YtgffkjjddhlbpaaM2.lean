/- The plain words for paths: what one is, and what it costs. -/
import Derived.Test.YtgffkjjddhlbpaaM1
namespace Stw

/-- Is the i-th switch of a path one that may stand there? -/
def okAt (n : Int) (ls : List Lk) (ps : List Int) (i : Nat) : Bool :=
  swB n (ps.getD i 0) && !((ps.take i).contains (ps.getD i 0)) && (i == 0 || !(cost ls (ps.getD (i - 1) 0) (ps.getD i 0) == 0))
def okTo (n : Int) (ls : List Lk) (ps : List Int) (k : Nat) : Prop := ∀ i, i < k → okAt n ls ps i = true
/-- What the first k switches of a path cost. -/
def psum (ls : List Lk) (ps : List Int) : Nat → Int
  | 0 => 0
  | k + 1 => psum ls ps k + (if k = 0 then 0 else cost ls (ps.getD (k - 1) 0) (ps.getD k 0))

def pathB (n : Int) (ls : List Lk) (ps : List Int) : Bool := !ps.isEmpty && (List.range ps.length).all (okAt n ls ps)
theorem pathB_true {n : Int} {ls : List Lk} {ps : List Int} : pathB n ls ps = true ↔ ps ≠ [] ∧ okTo n ls ps ps.length := by
  simp [pathB, okTo]
theorem pathB_bad {n : Int} {ls : List Lk} {ps : List Int} {i : Nat} (h : i < ps.length) (hi : okAt n ls ps i = false) : pathB n ls ps = false := by
  cases e : pathB n ls ps
  · rfl
  · rw [pathB_true] at e
    rw [e.2 i h] at hi
    cases hi
theorem psum_range {ls : List Lk} {ps : List Int} (hc : ∀ a b, 0 ≤ cost ls a b ∧ cost ls a b ≤ 1000) : ∀ k : Nat, 0 ≤ psum ls ps k ∧ psum ls ps k ≤ 1000 * (k : Int)
  | 0 => by simp [psum]
  | k + 1 => by
    have h := psum_range (ps := ps) hc k
    have h2 := hc (ps.getD (k - 1) 0) (ps.getD k 0)
    simp only [psum]
    split <;> (constructor <;> omega)

/-- What a path costs, and whether it is one. -/
def lengthOf (n : Int) (ls : List Lk) (ps : List Int) : Int × Bool :=
  if (wrong n ls).1 = 0 ∧ pathB n ls ps = true then (psum ls ps ps.length, true) else (0, false)

theorem okAt_false_sw {n : Int} {ls : List Lk} {ps : List Int} {i : Nat} (h : swB n (ps.getD i 0) = false) : okAt n ls ps i = false := by simp only [okAt, h, Bool.false_and]
theorem okAt_false_met {n : Int} {ls : List Lk} {ps : List Int} {i : Nat} (h : ps.getD i 0 ∈ ps.take i) : okAt n ls ps i = false := by
  have : (ps.take i).contains (ps.getD i 0) = true := List.contains_iff_mem.2 h
  simp only [okAt, this, Bool.not_true, Bool.and_false, Bool.false_and]
theorem okAt_false_cost {n : Int} {ls : List Lk} {ps : List Int} {i : Nat} (h0 : i ≠ 0) (h : cost ls (ps.getD (i - 1) 0) (ps.getD i 0) = 0) : okAt n ls ps i = false := by
  have : (i == 0) = false := by simpa using h0
  simp only [okAt, this, h, beq_self_eq_true, Bool.not_true, Bool.or_self, Bool.and_false]
theorem okAt_mk {n : Int} {ls : List Lk} {ps : List Int} {i : Nat} (h1 : swB n (ps.getD i 0) = true) (h2 : ¬ ps.getD i 0 ∈ ps.take i) (h3 : i = 0 ∨ cost ls (ps.getD (i - 1) 0) (ps.getD i 0) ≠ 0) : okAt n ls ps i = true := by
  have : (ps.take i).contains (ps.getD i 0) = false := by
    cases e : (ps.take i).contains (ps.getD i 0)
    · rfl
    · exact absurd (List.contains_iff_mem.1 e) h2
  simp only [okAt, h1, this, Bool.not_false, Bool.true_and, Bool.or_eq_true, beq_iff_eq, Bool.not_eq_true', beq_eq_false_iff_ne]
  exact h3
theorem okTo_succ {n : Int} {ls : List Lk} {ps : List Int} {k : Nat} (h : okTo n ls ps k) (hk : okAt n ls ps k = true) : okTo n ls ps (k + 1) := by
  intro i hi
  by_cases e : i = k
  · subst e; exact hk
  · exact h i (by omega)

end Stw
