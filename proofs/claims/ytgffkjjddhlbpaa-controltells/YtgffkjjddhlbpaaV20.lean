/- A plan's rules in words; tables in memory while they are made. -/
import Derived.Test.YtgffkjjddhlbpaaV1
import Derived.Test.YtgffkjjddhlbpaaN0
import Derived.Test.YtgffkjjddhlbpaaW4
namespace Go.Proofs.Ytgffkjjddhlbpaa.Tb
open Go.RowKit Go.Maps Stw Go.Deep Rul Go.Sort

/-- the rules of a path at a switch, from its first so many steps -/
def stk (v f s : Int) (path : List Int) : Nat → List Ru
  | 0 => []
  | k + 1 => stk v f s path k ++ (if path.getD k 0 = s ∧ k + 1 < path.length then [(v, f, path.getD (k + 1) 0)] else [])
/-- the rules at a switch, of the first so many paths -/
def rof (v s : Int) (ps : List (List Int)) : Nat → List Ru
  | 0 => []
  | k + 1 => rof v s ps k ++ stk v k s (ps.getD k []) (ps.getD k []).length
theorem stk_last {v f s : Int} {path : List Int} {k : Nat} (h : path.length ≤ k + 1) : stk v f s path (k + 1) = stk v f s path k := by rw [stk, if_neg (by omega), List.append_nil]
theorem stk_len {v f s : Int} {path : List Int} : ∀ k, (stk v f s path k).length ≤ k
  | 0 => Nat.le_refl _
  | k + 1 => by
    have := stk_len (v := v) (f := f) (s := s) (path := path) k
    rw [stk, List.length_append]
    split <;> simp <;> omega

/-- Paths lie where a slice says. -/
def PsAt (w : World) (qo : Option Addr) (ps : List (List Int)) : Prop := ps = [] ∨ ∃ g off, qo = some ⟨g, off, none⟩ ∧ g < w.heap.size ∧ ∀ k, k < ps.length → ∃ xo xc, w.cell? ⟨g, off + k, none⟩ = some (.slice xo (ps.getD k []).length xc) ∧ ListAt w xo (ps.getD k [])
theorem PsAt.ext {w w' : World} {qo : Option Addr} {ps : List (List Int)} (h : PsAt w qo ps) (E : Ext w w') : PsAt w' qo ps := by
  rcases h with h | ⟨g, off, h1, h2, h3⟩
  · exact Or.inl h
  · refine Or.inr ⟨g, off, h1, Nat.lt_of_lt_of_le h2 E.size, fun k hk => ?_⟩
    obtain ⟨xo, xc, c, l⟩ := h3 k hk
    exact ⟨xo, xc, (E.cells.1 _ _ h2).trans c, l.ext E⟩

/-- Tables while they are made: a row of slices, each of which has a row of its own. -/
structure TB (w : World) (H n : Nat) (vs : Nat → Value) (ts : Nat → List Ru) : Prop where
  row : w.rowIs H 54 n vs
  own : ∀ s, s < n → RO w (H + 1) (vs s) (ts s)
  apart : ∀ s t, s < n → t < n → s ≠ t → ∀ g, (vs s).ownBlock = some g → (vs t).ownBlock ≠ some g
theorem TB.ext {w w' : World} {H n : Nat} {vs : Nat → Value} {ts : Nat → List Ru} (h : TB w H n vs ts) (E : Ext w w') : TB w' H n vs ts :=
  ⟨h.row.of_block (Below.block E _ h.row.lt), fun s hs => (h.own s hs).ext E, h.apart⟩
theorem TB.congr {w : World} {H n : Nat} {vs : Nat → Value} {ts ts' : Nat → List Ru} (h : TB w H n vs ts) (e : ∀ s, s < n → ts s = ts' s) : TB w H n vs ts' :=
  ⟨h.row, fun s hs => by rw [← e s hs]; exact h.own s hs, h.apart⟩
theorem RO.setBelow {w : World} {base : Nat} {v : Value} {rs : List Ru} (h : RO w base v rs) {a : Addr} (ha : a.block < base) (u : Value) : RO (w.setCell a u) base v rs := by
  refine ⟨h.1, ?_⟩
  rcases h.2 with h2 | ⟨g, cap, cur, h1, h2, h3, h4⟩
  · exact Or.inl h2
  · exact Or.inr ⟨g, cap, cur, h1, h2, (blk_setCell_other _ _ _ _ (by omega)).trans h3, h4⟩
/-- One rule more at a switch: appended to its row, and the slice kept. -/
theorem TB.push {w w' : World} {H n at_ g c : Nat} {vs : Nat → Value} {ts : Nat → List Ru} {o : Obj} {r : Ru} (h : TB w H n vs ts) (ha : at_ < n)
    (hown : w'.ownsRow (H + 1) 116 3 (.slice (some ⟨g, 0, none⟩) ((ts at_).length + 1) c) ((ts at_).length + 1) (rcs (ts at_) ++ [.int .i64 r.1, .int .i64 r.2.1, .int .i64 r.2.2]))
    (hg : (w.alloc o).grownBy w' (vs at_).ownBlock) (hat : (vs at_).ownBlock = some g ∨ g = w.heap.size + 1) :
    TB (w'.setCell ⟨H, at_, none⟩ (.slice (some ⟨g, 0, none⟩) ((ts at_).length + 1) c)) H n (fun s => if s = at_ then .slice (some ⟨g, 0, none⟩) ((ts at_).length + 1) c else vs s) (fun s => if s = at_ then ts s ++ [r] else ts s) := by
  have hH := h.row.lt
  have hne : some H ≠ (vs at_).ownBlock := fun e => by have := ((h.own at_ ha).block H e.symm).1; omega
  have hHb : w'.heap[H]? = w.heap[H]? := (hg.block H (by simp; omega) hne).trans (blk_alloc_lt _ _ _ hH)
  refine ⟨(h.row.of_block hHb).set at_ _, fun s hs => ?_, fun s t hs ht hst b hb => ?_⟩
  · by_cases e : s = at_
    · subst e
      simp only [↓reduceIte]
      refine RO.setBelow ?_ (by simp) _
      unfold RO
      rw [rcs_append, List.length_append]
      simpa [rcs] using hown
    · simp only [if_neg e]
      refine RO.setBelow ?_ (by simp) _
      have h1 := (h.own s hs).ext ((Ext.refl w).alloc o)
      refine World.ownsRow.kept h1 hg ?_
      cases hb : (vs s).ownBlock with
      | none => exact Or.inl rfl
      | some b => exact Or.inr (fun e2 => h.apart s at_ hs ha e b hb e2.symm)
  · have hlt : ∀ q, q < n → ∀ b, (vs q).ownBlock = some b → b < w.heap.size := fun q hq b hb => ((h.own q hq).block b hb).2
    by_cases e : s = at_
    · subst e
      simp only [↓reduceIte, Value.ownBlock, Option.some.injEq] at hb
      subst hb
      simp only [if_neg (Ne.symm hst)]
      rcases hat with h1 | h1
      · exact h.apart s t hs ht hst g h1
      · intro h2; have := hlt t ht _ h2; omega
    · simp only [if_neg e] at hb
      by_cases e2 : t = at_
      · subst e2
        simp only [↓reduceIte, Value.ownBlock, ne_eq, Option.some.injEq]
        rcases hat with h1 | h1
        · intro h2; subst h2; exact h.apart s t hs ht hst _ hb h1
        · intro h2; have := hlt s hs _ hb; omega
      · simp only [if_neg e2]
        exact h.apart s t hs ht hst b hb

end Go.Proofs.Ytgffkjjddhlbpaa.Tb
