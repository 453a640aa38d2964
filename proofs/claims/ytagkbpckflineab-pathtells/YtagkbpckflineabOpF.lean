/- How a flow that came in is read. -/
import Derived.Test.YtagkbpckflineabOpnI
import Derived.Test.YtagkbpckflineabH0
namespace Go.Proofs.Ytagkbpckflineab
open Go.ChangeShapes Go.WideShapes Go.ChangeAt Go.RowKit Go.Deep Go.Joins Stw

theorem Try.cells28 : Try.prog.cellsOf 28 = 4 := by kernel_rfl

section
variable {H : Type} {enc : TypeId × Value → H} {W : World}

set_option maxRecDepth 100000 in
/-- A flow that came in. -/
theorem open_flow {b0 : Nat} {v : Value} {d : DataW H} {p : List MemPlace} (hv : Value.okWide Try.prog W .any b0 28 v) (h : DataW.Trod enc Try.prog W 0 (fun _ => true) true 28 v d p)
    (hw : ∀ m ∈ d.weights Try.prog 28, m ≤ reachBytes) :
    ∃ (f : Stf.Fl) (vo no : Option Addr) (vc nc : Nat), v = .agg #[.int .i64 f.fr, .int .i64 f.to, .slice vo f.via.length vc, .slice no f.nt.length nc] ∧ ListAt W vo f.via ∧ ListAt W no f.nt ∧ f.via.length * 8 ≤ 140737488351232 ∧ f.nt.length * 8 ≤ 140737488351232 ∧ f.via.length ≤ vc ∧ f.nt.length ≤ nc ∧ (∀ y ∈ f.via, I64 y) ∧ (∀ y ∈ f.nt, I64 y) := by
  obtain ⟨c0, c1, c2, c3, y0, y1, y2, y3, m, rfl, rfl, rfl, h0, h1, h2, h3⟩ := open_agg4 Try.underlying28 (by kernel_rfl) Try.cells28 hv h
  obtain ⟨a0, e0, _, w0⟩ := DataW.trod_int Try.underlying3 h0
  obtain ⟨a1, e1, _, w1⟩ := DataW.trod_int Try.underlying3 h1
  obtain ⟨vo, vl, vc, X, e2, hX, hvl, hvi, hvb, hvc, _⟩ := open_list Try.underlying26 h2 (fun m hm => hw m (by simp [DataW.weights, DataW.weightsEach, Try.underlying28]; exact Or.inr (Or.inr (Or.inl hm))))
  obtain ⟨no, nl, nc, Y, e3, hY, hnl, hni, hnb, hnc, _⟩ := open_list Try.underlying26 h3 (fun m hm => hw m (by simp [DataW.weights, DataW.weightsEach, Try.underlying28]; exact Or.inr (Or.inr (Or.inr hm))))
  simp at e0 e1 e2 e3
  subst e0 e1 e2 e3 hX hY
  exact ⟨⟨a0, a1, X, Y⟩, vo, no, vc, nc, rfl, hvl, hnl, hvb, hnb, hvc, hnc, hvi, hni⟩

end

end Go.Proofs.Ytagkbpckflineab
