/- Flows in words: numbers, lists and lines of a text, read and written. -/
import Derived.Lib.Split
import Derived.Lib.SplitLaws
import Derived.Lib.ItoaMem
import Derived.Lib.ItoaLen
namespace Stf
open Go.Lib

abbrev Bs := List UInt8
structure Fl where
  fr : Int
  to : Int
  via : List Int
  nt : List Int
def tup (f : Fl) : Int × Int × List Int × List Int := (f.fr, f.to, f.via, f.nt)
theorem tup_inj {f g : Fl} (h : tup f = tup g) : f = g := by
  cases f; cases g
  simp only [tup, Prod.mk.injEq] at h
  obtain ⟨h1, h2, h3, h4⟩ := h
  subst h1 h2 h3 h4
  rfl
/-- are these flows the same? -/
def sameF (fs gs : List Fl) : Bool := decide (fs.map tup = gs.map tup)
theorem map_inj : ∀ {fs gs : List Fl}, fs.map tup = gs.map tup → fs = gs
  | [], [], _ => rfl
  | [], _ :: _, h => by cases h
  | _ :: _, [], h => by cases h
  | f :: fs, g :: gs, h => by
    simp only [List.map_cons, List.cons.injEq] at h
    rw [tup_inj h.1, map_inj h.2]
theorem sameF_true {fs gs : List Fl} (h : fs = gs) : sameF fs gs = true := decide_eq_true (by rw [h])
theorem sameF_false {fs gs : List Fl} (h : fs ≠ gs) : sameF fs gs = false := decide_eq_false (fun e => h (map_inj e))

def dig (c : UInt8) : Bool := decide (48 ≤ c.toNat ∧ c.toNat ≤ 57)
def dstep (x : Nat) (c : UInt8) : Nat := 10 * x + (c.toNat - 48)
def dval (x : Nat) (l : Bs) : Nat := l.foldl dstep x
theorem dval_nil (x : Nat) : dval x [] = x := rfl
theorem dval_cons (x : Nat) (c : UInt8) (l : Bs) : dval x (c :: l) = dval (dstep x c) l := List.foldl_cons
theorem dval_snoc (c : UInt8) (l : Bs) (x : Nat) : dval x (l ++ [c]) = dstep (dval x l) c := by unfold dval; rw [List.foldl_append]; rfl
theorem dval_lt (l : Bs) : ∀ x : Nat, l.all dig = true → dval x l < (x + 1) * 10 ^ l.length := by
  induction l with
  | nil => intro x _; rw [dval_nil, List.length_nil, Nat.pow_zero]; omega
  | cons c l ih =>
    intro x h
    rw [List.all_cons, Bool.and_eq_true] at h
    have h1 : 48 ≤ c.toNat ∧ c.toNat ≤ 57 := of_decide_eq_true h.1
    have ih := ih (dstep x c) h.2
    have : (dstep x c + 1) * 10 ^ l.length ≤ (10 * (x + 1)) * 10 ^ l.length := Nat.mul_le_mul_right _ (by unfold dstep; omega)
    rw [dval_cons, List.length_cons, Nat.pow_succ]
    refine Nat.lt_of_lt_of_le ih (Nat.le_trans this (Nat.le_of_eq ?_))
    rw [Nat.mul_comm 10 (x + 1), Nat.mul_assoc, Nat.mul_comm 10]
def badNum (l : Bs) : Bool := decide (l.length < 1 ∨ 4 < l.length ∨ (1 < l.length ∧ l.head? = some 48))
def num (l : Bs) : Option Int := if badNum l = true ∨ l.all dig = false then none else some (dval 0 l : Nat)
def numV (l : Bs) : Int := (num l).getD 0

/-- cut at each comma -/
def hdc (c : UInt8) : List Bs → List Bs
  | p :: r => (c :: p) :: r
  | [] => [[c]]
def sp : Bs → List Bs
  | [] => [[]]
  | c :: l => if c = 44 then [] :: sp l else hdc c (sp l)
theorem hdc_ne (c : UInt8) (l : List Bs) : hdc c l ≠ [] := by cases l <;> simp [hdc]
theorem sp_ne (l : Bs) : sp l ≠ [] := by
  cases l with
  | nil => simp [sp]
  | cons c l => unfold sp; split
                · simp
                · exact hdc_ne _ _

theorem index_hit (l : Bs) : index (44 :: l) [44] = 0 := by simp [index]
theorem index_cons {c : UInt8} (h : c ≠ 44) (l : Bs) : index (c :: l) [44] = if index l [44] == -1 then -1 else index l [44] + 1 := by
  have : (44 == c) = false := by simpa using fun e => h e.symm
  rw [index]; simp only [List.isPrefixOf, this, Bool.false_and, Bool.false_eq_true, if_false]
theorem splitK_hit (k : Nat) (l : Bs) : splitK [44] 0 (k + 1) (44 :: l) = [] :: splitK [44] 0 k l := by
  rw [splitK, index_hit]; simp
theorem splitK_cons {c : UInt8} (h : c ≠ 44) (k : Nat) (l : Bs) : splitK [44] 0 k (c :: l) = hdc c (splitK [44] 0 k l) := by
  cases k with
  | zero => rfl
  | succ k =>
    have hge := index_ge l [44]
    by_cases h0 : index l [44] = -1
    · have e1 : index (c :: l) [44] = -1 := by rw [index_cons h, h0]; rfl
      rw [splitK, splitK, e1, h0]; rfl
    · have e0 : (index l [44] == -1) = false := by simpa using h0
      have e1 : index (c :: l) [44] = index l [44] + 1 := by rw [index_cons h, e0]; simp
      have e2 : (index (c :: l) [44] == -1) = false := by rw [e1, beq_eq_false_iff_ne]; omega
      rw [splitK, splitK, e2, e0, e1]
      have : (index l [44] + 1).toNat = (index l [44]).toNat + 1 := by omega
      rw [this]
      simp only [Bool.false_eq_true, if_false, List.length_cons, List.length_nil, Nat.add_zero, List.take_succ_cons, List.drop_succ_cons, hdc]
theorem split_sp : ∀ l : Bs, splitK [44] 0 (count l [44]) l = sp l
  | [] => by simp [count_one, sp, splitK]
  | c :: l => by
    have ih := split_sp l
    by_cases h : c = 44
    · subst h
      rw [count_cons_eq, Nat.add_comm, splitK_hit, ih, sp, if_pos rfl]
    · rw [count_cons_ne _ _ _ h, splitK_cons h, ih, sp, if_neg h]

def nums : List Bs → Option (List Int)
  | [] => some []
  | p :: r => match num p, nums r with
    | some x, some xs => some (x :: xs)
    | _, _ => none
theorem nums_cons (p : Bs) (r : List Bs) : nums (p :: r) = match num p, nums r with
    | some x, some xs => some (x :: xs)
    | _, _ => none := by rw [nums]
theorem nums_none {p : Bs} (h : num p = none) : ∀ {L : List Bs}, p ∈ L → nums L = none
  | q :: r, hm => by
    rw [nums_cons]
    rcases List.mem_cons.1 hm with rfl | hm
    · rw [h]
    · rw [nums_none h hm]; cases num q <;> rfl
theorem nums_snoc {p : Bs} {x : Int} (h : num p = some x) : ∀ {L : List Bs} {xs : List Int}, nums L = some xs → nums (L ++ [p]) = some (xs ++ [x])
  | [], xs, hx => by simp [nums] at hx; subst hx; simp [nums, h]
  | q :: r, xs, hx => by
    rw [nums_cons] at hx
    cases hq : num q with
    | none => rw [hq] at hx; cases hx
    | some y =>
      cases hr : nums r with
      | none => rw [hq, hr] at hx; cases hx
      | some ys =>
        rw [hq, hr] at hx
        cases hx
        rw [List.cons_append, nums_cons, hq, nums_snoc h hr]; rfl
theorem nums_len : ∀ {L : List Bs} {xs : List Int}, nums L = some xs → xs.length = L.length
  | [], xs, hx => by simp [nums] at hx; subst hx; rfl
  | q :: r, xs, hx => by
    rw [nums_cons] at hx
    cases hq : num q with
    | none => rw [hq] at hx; cases hx
    | some y =>
      cases hr : nums r with
      | none => rw [hq, hr] at hx; cases hx
      | some ys =>
        rw [hq, hr] at hx
        cases hx
        simp [nums_len hr]
theorem hdc_mem {c : UInt8} {L : List Bs} {p : Bs} (h : p ∈ hdc c L) : (∃ q ∈ L, p = c :: q) ∨ p ∈ L ∨ p = [c] := by
  cases L with
  | nil => simp [hdc] at h; exact Or.inr (Or.inr h)
  | cons q r =>
    simp only [hdc, List.mem_cons] at h
    rcases h with h | h
    · exact Or.inl ⟨q, by simp, h⟩
    · exact Or.inr (Or.inl (by simp [h]))
theorem sp_len : ∀ {l p : Bs}, p ∈ sp l → p.length ≤ l.length
  | [], p, h => by simp [sp] at h; simp [h]
  | c :: l, p, h => by
    rw [sp] at h
    split at h
    · rcases List.mem_cons.1 h with rfl | h
      · simp
      · have := sp_len h; simp; omega
    · rcases hdc_mem h with ⟨q, hq, rfl⟩ | h | rfl
      · have := sp_len hq; simp; omega
      · have := sp_len h; simp; omega
      · simp
theorem sp_count : ∀ l : Bs, (sp l).length ≤ l.length + 1
  | [] => by simp [sp]
  | c :: l => by
    have := sp_count l
    rw [sp]
    split
    · simp; omega
    · cases hs : sp l with
      | nil => simp [hdc]
      | cons q r => rw [hs] at this; simp [hdc] at this ⊢; omega
def lst (there : Bool) (s : Bs) : Option (List Int) := if there then nums (sp s) else some []
def wNot : Bs := [32, 110, 111, 116, 32]
def wVia : Bs := [32, 118, 105, 97, 32]
def c1 (l : Bs) := cut l wNot
def c2 (l : Bs) := cut (c1 l).1 wVia
def c3 (l : Bs) := cut (c2 l).1 [62]
def rl (l : Bs) : Option Fl :=
  match num (c3 l).1, num (c3 l).2.1, lst (c2 l).2.2 (c2 l).2.1, lst (c1 l).2.2 (c1 l).2.1 with
  | some a, some b, some v, some n => some ⟨a, b, v, n⟩
  | _, _, _, _ => none
def pstep (r : Bs) : Option (Fl × Bs) := if (cut r [10]).2.2 then (rl (cut r [10]).1).map (·, (cut r [10]).2.1) else none
def par : Nat → Nat → Bs → Except Nat (List Fl)
  | 0, _, _ => .ok []
  | n + 1, at', r => if r = [] then .ok [] else match pstep r with
    | none => .error at'
    | some (f, rest) => match par n (at' + (cut r [10]).1.length + 1) rest with
      | .ok l => .ok (f :: l)
      | .error p => .error p
def pre (acc : List Fl) : Except Nat (List Fl) → Except Nat (List Fl)
  | .ok l => .ok (acc ++ l)
  | .error p => .error p
def parse (s : Bs) : Except Nat (List Fl) := par s.length 0 s

theorem cut_true {s sep : Bs} (h : (cut s sep).2.2 = true) : s = (cut s sep).1 ++ sep ++ (cut s sep).2.1 := by
  unfold cut at h ⊢
  split at h
  · rename_i h0
    rw [if_pos h0]
    rcases index_spec s sep with ⟨h1, _⟩ | ⟨i, h1, h2, h3, _⟩
    · omega
    · rw [h1]
      simp only [Int.toNat_natCast]
      have h4 : sep <+: s.drop i := by simpa [occAt] using h3
      obtain ⟨t, ht⟩ := h4
      have : s.drop (i + sep.length) = t := by rw [← List.drop_drop, ← ht]; simp
      rw [this, List.append_assoc, ht, List.take_append_drop]
  · cases h
theorem cut_false {s sep : Bs} (h : (cut s sep).2.2 = false) : cut s sep = (s, [], false) := by
  unfold cut at h ⊢
  split at h
  · cases h
  · rename_i h0; rw [if_neg h0]
theorem cut_len (s sep : Bs) : (cut s sep).1.length ≤ s.length := by
  unfold cut; split
  · simp; omega
  · simp
theorem cut_len2 (s sep : Bs) : (cut s sep).2.1.length ≤ s.length := by
  unfold cut; split
  · simp
  · simp

end Stf
