/- Flows in words: what is wrong with them. -/
import Derived.WalkKit
namespace Stf

structure Fl where
  fr : Int
  to : Int
  via : List Int
  nt : List Int

def swB (s n : Int) : Bool := decide (0 ≤ s ∧ s < n)
/-- the fault of one place of a list -/
def ewl (a b n : Int) (L : List Int) (j : Nat) : Int :=
  if swB (L.getD j 0) n = false then 6 else if L.getD j 0 = a ∨ L.getD j 0 = b then 8 else if L.getD j 0 ∈ L.take j then 7 else 0
/-- the first fault of the places from k on -/
def first (e : Nat → Int) (len : Nat) : Nat → Nat → Option Nat
  | 0, _ => none
  | m + 1, k => if len ≤ k then none else if e k ≠ 0 then some k else first e len m (k + 1)
def firstBad (e : Nat → Int) (len : Nat) : Option Nat := (List.range len).find? (fun k => decide (e k ≠ 0))
theorem firstBad_none {e : Nat → Int} {len : Nat} (h : ∀ k, k < len → e k = 0) : firstBad e len = none := by
  rw [firstBad, List.find?_eq_none]
  intro x hx
  simp only [List.mem_range] at hx
  simp [h x hx]
theorem firstBad_some {e : Nat → Int} {len k : Nat} (hk : k < len) (h : ∀ j, j < k → e j = 0) (hb : e k ≠ 0) : firstBad e len = some k := by
  rw [firstBad, List.find?_range_eq_some]
  exact ⟨by simpa using hb, by simpa using hk, fun j hj => by simp [h j hj]⟩
def wlist (a b n : Int) (L : List Int) : Int := match firstBad (ewl a b n L) L.length with
  | some k => ewl a b n L k
  | none => 0
def wflow (f : Fl) (n : Int) : Int :=
  if swB f.fr n = false ∨ swB f.to n = false then 6 else if f.fr = f.to then 8 else if wlist f.fr f.to n f.via ≠ 0 then wlist f.fr f.to n f.via
  else if wlist f.fr f.to n f.nt ≠ 0 then wlist f.fr f.to n f.nt else if f.nt.any (fun s => decide (s ∈ f.via)) then 8 else 0
def wflows (l : List Fl) (n : Int) : Int × Int :=
  if 12 < l.length then (5, 0) else match firstBad (fun k => wflow (l.getD k ⟨0, 0, [], []⟩) n) l.length with
    | some k => (wflow (l.getD k ⟨0, 0, [], []⟩) n, k)
    | none => (0, 0)

theorem wlist_bad {a b n : Int} {L : List Int} {k : Nat} (hk : k < L.length) (h : ∀ j, j < k → ewl a b n L j = 0) (hb : ewl a b n L k ≠ 0) : wlist a b n L = ewl a b n L k := by
  rw [wlist, firstBad_some hk h hb]
theorem wlist_good {a b n : Int} {L : List Int} (h : ∀ j, j < L.length → ewl a b n L j = 0) : wlist a b n L = 0 := by
  rw [wlist, firstBad_none h]
theorem ewl_zero {a b n : Int} {L : List Int} {j : Nat} (h : ewl a b n L j = 0) : swB (L.getD j 0) n = true ∧ L.getD j 0 ≠ a ∧ L.getD j 0 ≠ b ∧ L.getD j 0 ∉ L.take j := by
  unfold ewl at h
  split at h
  · cases h
  · rename_i h1
    split at h
    · cases h
    · rename_i h2
      split at h
      · cases h
      · rename_i h3
        exact ⟨by simpa using h1, fun e => h2 (Or.inl e), fun e => h2 (Or.inr e), h3⟩

end Stf
