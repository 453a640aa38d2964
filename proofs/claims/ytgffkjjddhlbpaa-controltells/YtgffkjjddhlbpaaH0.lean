/- What is kept for flows: lists of numbers as values; flows in memory. -/
import Derived.Test.YtgffkjjddhlbpaaI1
import Derived.Test.YtgffkjjddhlbpaaE1
namespace Go.Proofs.Ytgffkjjddhlbpaa.Fw
open Go.RowKit Stf

theorem hid {p : Prop} (h : p) : Hid p := h
/-- A value that is a list of numbers. -/
def FV (w : World) (xs : List Int) (v : Value) : Prop := ∃ o c, v = .slice o xs.length c ∧ ListAt w o xs ∧ xs.length ≤ c
theorem FV.ext {w w' : World} {xs : List Int} {v : Value} (h : FV w xs v) (k : Ext w w') : FV w' xs v := by
  obtain ⟨o, c, h1, h2, h3⟩ := h
  exact ⟨o, c, h1, h2.ext k, h3⟩
/-- Flows lie at this address. -/
def FlowsAt (w : World) (ao : Option Addr) (fs : List Fl) : Prop :=
  fs = [] ∨ ∃ b off, ao = some ⟨b, off, none⟩ ∧ b < w.heap.size ∧ ∀ k (h : k < fs.length), ∃ v n, w.cell? ⟨b, off + k * 4, none⟩ = some (.int .i64 (fs[k]).fr) ∧ w.cell? ⟨b, off + k * 4 + 1, none⟩ = some (.int .i64 (fs[k]).to) ∧ w.cell? ⟨b, off + k * 4 + 2, none⟩ = some v ∧ w.cell? ⟨b, off + k * 4 + 3, none⟩ = some n ∧ FV w (fs[k]).via v ∧ FV w (fs[k]).nt n
theorem FlowsAt.ext {w w' : World} {ao : Option Addr} {fs : List Fl} (h : FlowsAt w ao fs) (k : Ext w w') : FlowsAt w' ao fs := by
  rcases h with h | ⟨b, off, h1, h2, h3⟩
  · exact Or.inl h
  · refine Or.inr ⟨b, off, h1, Nat.lt_of_lt_of_le h2 k.size, fun i hi => ?_⟩
    obtain ⟨v, n, c0, c1, c2, c3, hv, hn⟩ := h3 i hi
    exact ⟨v, n, (k.cells.1 _ _ h2).trans c0, (k.cells.1 _ _ h2).trans c1, (k.cells.1 _ _ h2).trans c2, (k.cells.1 _ _ h2).trans c3, hv.ext k, hn.ext k⟩
theorem fault_kept {w wr : World} {a b : Value} {T : TypeId} (h : Below (w.heap.size + 1) (w.alloc (.cells #[a, b] T)) wr) : wr.cell? ⟨w.heap.size, 0, none⟩ = some a ∧ wr.cell? ⟨w.heap.size, 1, none⟩ = some b ∧ wr.frozen? ⟨w.heap.size, 0, none⟩ = false ∧ wr.frozen? ⟨w.heap.size, 1, none⟩ = false ∧ w.heap.size < wr.heap.size := by
  have k : w.heap.size < w.heap.size + 1 := by omega
  refine ⟨(h.cell (p := ⟨w.heap.size, 0, none⟩) k).trans (by simp), (h.cell (p := ⟨w.heap.size, 1, none⟩) k).trans (by simp), (h.frozen (p := ⟨w.heap.size, 0, none⟩) k).trans (by simp), (h.frozen (p := ⟨w.heap.size, 1, none⟩) k).trans (by simp), ?_⟩
  have := Below.size h
  simp at this
  omega

end Go.Proofs.Ytgffkjjddhlbpaa.Fw
