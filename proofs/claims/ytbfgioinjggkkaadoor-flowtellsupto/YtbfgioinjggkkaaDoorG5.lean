/- What Parse answers, for every text; nothing that was there is changed. -/
import Derived.Test.YtbfgioinjggkkaaDoorG4
namespace Go.Proofs.YtbfgioinjggkkaaDoor
open Go.RowKit Stf

/-- The cells of flows that the call has made. -/
def FC (B : Nat) (w : World) : List Fl → List Value → Prop
  | [], C => C = []
  | f :: fs, C => ∃ v n C', C = .int .i64 f.fr :: .int .i64 f.to :: v :: n :: C' ∧ LB B w f.via v ∧ LB B w f.nt n ∧ FC B w fs C'
theorem FC.length {B : Nat} {w : World} : ∀ {fs : List Fl} {C : List Value}, FC B w fs C → C.length = fs.length * 4
  | [], C, h => by cases h; rfl
  | f :: fs, C, h => by
    obtain ⟨v, n, C', rfl, _, _, h⟩ := h
    have := FC.length h
    simp; omega
theorem FC.snoc {B : Nat} {w : World} {f : Fl} {v n : Value} (hv : LB B w f.via v) (hn : LB B w f.nt n) : ∀ {fs : List Fl} {C : List Value}, FC B w fs C → FC B w (fs ++ [f]) (C ++ [.int .i64 f.fr, .int .i64 f.to, v, n])
  | [], C, h => by cases h; exact ⟨v, n, [], rfl, hv, hn, rfl⟩
  | g :: fs, C, h => by
    obtain ⟨v', n', C', rfl, h1, h2, h3⟩ := h
    exact ⟨v', n', _, rfl, h1, h2, FC.snoc hv hn h3⟩
theorem FC.map {B B' : Nat} {w w' : World} (H : ∀ xs v, LB B w xs v → LB B' w' xs v) : ∀ {fs : List Fl} {C : List Value}, FC B w fs C → FC B' w' fs C
  | [], C, h => h
  | f :: fs, C, h => by
    obtain ⟨v, n, C', rfl, h1, h2, h3⟩ := h
    exact ⟨v, n, C', rfl, H _ _ h1, H _ _ h2, FC.map H h3⟩
theorem FC.one {B : Nat} {w : World} : ∀ {fs : List Fl} {C : List Value}, FC B w fs C → ∀ u ∈ C, u.oneCell' = true
  | [], C, h => by cases h; intro u hu; cases hu
  | f :: fs, C, h => by
    obtain ⟨v, n, C', rfl, ⟨_, _, rfl, _⟩, ⟨_, _, rfl, _⟩, h3⟩ := h
    intro u hu
    simp only [List.mem_cons] at hu
    rcases hu with rfl | rfl | rfl | rfl | hu
    · rfl
    · rfl
    · rfl
    · rfl
    · exact FC.one h3 u hu
/-- Flows lie at this address. -/
def FlowsAt (w : World) (ao : Option Addr) (fs : List Fl) : Prop :=
  fs = [] ∨ ∃ b off, ao = some ⟨b, off, none⟩ ∧ b < w.heap.size ∧ ∀ k (h : k < fs.length), ∃ v n, w.cell? ⟨b, off + k * 4, none⟩ = some (.int .i64 (fs[k]).fr) ∧ w.cell? ⟨b, off + k * 4 + 1, none⟩ = some (.int .i64 (fs[k]).to) ∧ w.cell? ⟨b, off + k * 4 + 2, none⟩ = some v ∧ w.cell? ⟨b, off + k * 4 + 3, none⟩ = some n ∧ FV w (fs[k]).via v ∧ FV w (fs[k]).nt n
theorem FlowsAt.ext {w w' : World} {ao : Option Addr} {fs : List Fl} (h : FlowsAt w ao fs) (k : Ext w w') : FlowsAt w' ao fs := by
  rcases h with h | ⟨b, off, h1, h2, h3⟩
  · exact Or.inl h
  · refine Or.inr ⟨b, off, h1, Nat.lt_of_lt_of_le h2 k.size, fun i hi => ?_⟩
    obtain ⟨v, n, c0, c1, c2, c3, hv, hn⟩ := h3 i hi
    exact ⟨v, n, (k.cells.1 _ _ h2).trans c0, (k.cells.1 _ _ h2).trans c1, (k.cells.1 _ _ h2).trans c2, (k.cells.1 _ _ h2).trans c3, hv.ext k, hn.ext k⟩
theorem FC.get {B : Nat} {w : World} : ∀ {fs : List Fl} {C : List Value}, FC B w fs C → ∀ k (h : k < fs.length), ∃ v n, C[k * 4]? = some (.int .i64 (fs[k]).fr) ∧ C[k * 4 + 1]? = some (.int .i64 (fs[k]).to) ∧ C[k * 4 + 2]? = some v ∧ C[k * 4 + 3]? = some n ∧ LB B w (fs[k]).via v ∧ LB B w (fs[k]).nt n
  | f :: fs, C, hc, 0, _ => by
    obtain ⟨v, n, C', rfl, h1, h2, h3⟩ := hc
    exact ⟨v, n, rfl, rfl, rfl, rfl, h1, h2⟩
  | f :: fs, C, hc, k + 1, h => by
    obtain ⟨v, n, C', rfl, h1, h2, h3⟩ := hc
    obtain ⟨v', n', c0, c1, c2, c3, hv, hn⟩ := FC.get h3 k (by simpa using h)
    rw [show (k + 1) * 4 = k * 4 + 4 by omega]
    exact ⟨v', n', by simpa using c0, by simpa using c1, by simpa using c2, by simpa using c3, hv, hn⟩
theorem flows_own {w : World} {base B g n cap : Nat} {fs : List Fl} {C : List Value} (h : w.ownsRow base 38 4 (.slice (some ⟨g, 0, none⟩) n cap) n C) (hC : FC B w fs C) : FlowsAt w (some ⟨g, 0, none⟩) fs := by
  refine Or.inr ⟨g, 0, rfl, (h.lt g rfl).2, fun k hk => ?_⟩
  obtain ⟨v, n', c0, c1, c2, c3, hv, hn⟩ := hC.get k hk
  have hl := hC.length
  have hl2 := h.1
  rw [Nat.zero_add]
  exact ⟨v, n', (h.cellAt _ (by omega)).trans c0, (h.cellAt _ (by omega)).trans c1, (h.cellAt _ (by omega)).trans c2, (h.cellAt _ (by omega)).trans c3, hv.fv, hn.fv⟩
theorem Tryd.info38 : (Tryd.prog.info? 38).map (fun i => (i.zero, i.size, i.bytes)) = some (some (.agg #[.int .i64 0, .int .i64 0, .slice none 0 0, .slice none 0 0]), 4, 64) := by kernel_rfl

theorem pre_pre (a b : List Fl) (x : Except Nat (List Fl)) : pre a (pre b x) = pre (a ++ b) x := by cases x <;> simp [pre]
theorem par_nil (n at' : Nat) : par n at' [] = .ok [] := by cases n <;> simp [par]
theorem par_bad {n at' : Nat} {r : Bs} (h : r ≠ []) (hn : r.length ≤ n) (hp : pstep r = none) : par n at' r = .error at' := by
  cases n with
  | zero => exact absurd (List.eq_nil_of_length_eq_zero (by omega)) h
  | succ n => simp [par, h, hp]
theorem par_good {n at' : Nat} {r rest : Bs} {f : Fl} (h : r ≠ []) (hp : pstep r = some (f, rest)) : par (n + 1) at' r = pre [f] (par n (at' + (Lib.cut r [10]).1.length + 1) rest) := by
  simp only [par, h, hp, if_false]
  cases par n (at' + (Lib.cut r [10]).1.length + 1) rest <;> rfl

end Go.Proofs.YtbfgioinjggkkaaDoor
