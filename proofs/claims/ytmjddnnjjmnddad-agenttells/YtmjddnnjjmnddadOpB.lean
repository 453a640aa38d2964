/- How rules that came in are read. -/
import Derived.Test.YtmjddnnjjmnddadOpA
import Derived.Test.YtmjddnnjjmnddadN0
namespace Go.Proofs.Ytmjddnnjjmnddad
open Go.ChangeShapes Go.WideShapes Go.ChangeAt Go.RowKit Go.Deep Go.Joins

theorem Try.cellsRu : Try.prog.cellsOf 59 = 3 := by kernel_rfl
theorem Try.bytesRu : Try.prog.bytesOf 59 = 24 := by kernel_rfl

section
variable {H : Type} {enc : TypeId × Value → H} {W : World}

set_option maxRecDepth 100000 in
theorem open_rules0 {fuel : Nat} {cs : List Value} {x : DataW H × List MemPlace} (h : DataW.trod enc Try.prog W 0 (fun _ => true) true fuel 22 cs = some x) :
    ∃ (ao : Option Addr) (len cap : Nat) (rs : List Rul.Ru), cs = [.slice ao len cap] ∧ Tb.SlOk W ao len cap rs ∧ len ≤ 9223372036854775807 ∧ (ao = none ∨ ∃ m, len + (m - len) = cap ∧ (len + (m - len)) * 24 ∈ x.1.weights Try.prog 22) := by
  rcases open_slice Try.underlying22 h with ⟨hcs, _⟩ | ⟨a, len, cap, m, n, D, Pl, hcs, _, hl, hm, hmm, hx, hel⟩
  · exact ⟨none, 0, 0, [], hcs, ⟨rfl, Or.inl rfl, fun _ => ⟨rfl, rfl⟩⟩, by omega, Or.inl rfl⟩
  · have hmc : m = cap := by simpa using hmm
    have hfam : ∀ i, i < len → ∃ l : Int × Int × Int, W.cell? (a.add (i * 3)) = some (.int .i64 l.1) ∧ W.cell? ((a.add (i * 3)).add 1) = some (.int .i64 l.2.1) ∧ W.cell? ((a.add (i * 3)).add 2) = some (.int .i64 l.2.2) := by
      intro i hi
      obtain ⟨cs', hcell, htr⟩ := hel i (by omega)
      rw [Try.cellsRu] at hcell
      obtain ⟨y0, y1, y2, n', _, hlen, t0, t1, t2⟩ := trod_struct3 Try.underlying59 htr
      rw [Try.cellsRu] at hlen
      match cs', hlen with
      | [c0, c1, c2], _ =>
        obtain ⟨a0, e0, _, w0⟩ := DataW.trod_int Try.underlying3 t0
        obtain ⟨a1, e1, _, w1⟩ := DataW.trod_int Try.underlying3 t1
        obtain ⟨a2, e2, _, w2⟩ := DataW.trod_int Try.underlying3 t2
        simp [Try.cells3] at e0 e1 e2
        subst e0 e1 e2
        exact ⟨(a0, a1, a2), cells3_inv hcell rfl⟩
    obtain ⟨F, hF⟩ := choose_lt hfam
    refine ⟨some a, len, cap, (List.range len).map F, hcs, ⟨by simp, ?_, fun h => by cases h⟩, by unfold maxLen at hm; omega, Or.inr ⟨m, by omega, ?_⟩⟩
    · by_cases h0 : len = 0
      · exact Or.inl (by simp [h0])
      · obtain ⟨b, off, spot⟩ := a
        have hc := (hF 0 (by omega)).1
        have hspot : spot = none := by simpa [Addr.add] using World.cell?_spot hc
        subst hspot
        refine Or.inr ⟨b, off, rfl, by have := cell_lt hc; simpa [Addr.add] using this, fun k hk => ?_⟩
        simp only [List.length_map, List.length_range] at hk
        obtain ⟨g0, g1, g2⟩ := hF k hk
        have e0 : (⟨b, off, none⟩ : Addr).add (k * 3) = ⟨b, off + k * 3, none⟩ := by
          unfold Addr.add
          split
          · simp_all
          · rfl
        rw [e0] at g0 g1 g2
        have e1 : ((List.range len).map F).getD k (0, 0, 0) = F k := by simp [List.getD_eq_getElem?_getD, hk]
        rw [e1]
        exact ⟨g0, by simpa [Addr.add] using g1, by simpa [Addr.add] using g2⟩
    · subst hx
      simp [DataW.weights, Try.underlying22, Try.bytesRu]
theorem open_rules {fuel : Nat} {cs : List Value} {x : DataW H × List MemPlace} (h : DataW.trod enc Try.prog W 0 (fun _ => true) true fuel 22 cs = some x) (hw : ∀ m ∈ x.1.weights Try.prog 22, m ≤ reachBytes) :
    ∃ (ao : Option Addr) (len cap : Nat) (rs : List Rul.Ru), cs = [.slice ao len cap] ∧ Tb.SlOk W ao len cap rs ∧ len * 24 ≤ 140737488351232 := by
  obtain ⟨ao, len, cap, rs, h1, h2, _, h4⟩ := open_rules0 h
  refine ⟨ao, len, cap, rs, h1, h2, ?_⟩
  rcases h4 with h4 | ⟨m, _, h4⟩
  · have := (h2.hnil h4).1; omega
  · have := hw _ h4
    simp [reachBytes] at this
    omega

end

end Go.Proofs.Ytmjddnnjjmnddad
