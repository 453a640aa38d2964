/- How flows that came in are read. -/
import Derived.Test.YtagkbpckflineabOpF
import Derived.Test.YtagkbpckflineabH10
namespace Go.Proofs.Ytagkbpckflineab
open Go.ChangeShapes Go.WideShapes Go.ChangeAt Go.RowKit Go.Deep Go.Joins Stw

theorem Try.cells26 : Try.prog.cellsOf 26 = 1 := by kernel_rfl
theorem Try.bytes28 : Try.prog.bytesOf 28 = 64 := by kernel_rfl

section
variable {H : Type} {enc : TypeId × Value → H} {W : World}

theorem weights_all {e : TypeId} {d : DataW H} : ∀ {l : List (DataW H)}, d ∈ l → ∀ m ∈ d.weights Try.prog e, m ∈ DataW.weightsAll Try.prog e l
  | [], h, _, _ => by cases h
  | x :: r, h, m, hm => by
    rw [DataW.weightsAll, List.mem_append]
    rcases List.mem_cons.1 h with rfl | h
    · exact Or.inl hm
    · exact Or.inr (weights_all h m hm)

theorem cells4_inv {w : World} {a : Addr} {cs : List Value} {x y z u : Value} (h : w.cells? 0 a 4 = some cs) (e : cs = [x, y, z, u]) : w.cell? a = some x ∧ w.cell? (a.add 1) = some y ∧ w.cell? (a.add 2) = some z ∧ w.cell? (a.add 3) = some u := by
  obtain ⟨_, _, hc⟩ := World.cells?_some h
  subst e
  exact ⟨by simpa [Addr.add] using hc 0 (by omega), hc 1 (by omega), hc 2 (by omega), hc 3 (by omega)⟩
theorem four_of {cs : List Value} (h : cs.length = 4) : ∃ c0 c1 c2 c3, cs = [c0, c1, c2, c3] := by
  match cs, h with
  | [c0, c1, c2, c3], _ => exact ⟨c0, c1, c2, c3, rfl⟩

set_option maxRecDepth 100000 in
theorem open_flow4 {fuel : Nat} {cs : List Value} {x : DataW H × List MemPlace} (h : DataW.trod enc Try.prog W 0 (fun _ => true) true fuel 28 cs = some x) (hw : ∀ m ∈ x.1.weights Try.prog 28, m ≤ reachBytes) :
    ∃ (f : Stf.Fl) (v n : Value), cs = [.int .i64 f.fr, .int .i64 f.to, v, n] ∧ Fw.FV W f.via v ∧ Fw.FV W f.nt n ∧ f.via.length ≤ 4611686018427387904 ∧ f.nt.length ≤ 4611686018427387904 := by
  obtain ⟨y0, y1, y2, y3, n', rfl, hlen, t0, t1, t2, t3⟩ := trod_struct4 Try.underlying28 h
  rw [Try.cells28] at hlen
  obtain ⟨c0, c1, c2, c3, rfl⟩ : ∃ c0 c1 c2 c3, cs = [c0, c1, c2, c3] := four_of hlen
  obtain ⟨a0, e0, _, w0⟩ := DataW.trod_int Try.underlying3 t0
  obtain ⟨a1, e1, _, w1⟩ := DataW.trod_int Try.underlying3 t1
  obtain ⟨vo, vl, vc, X, e2, hX, hvl, hvi, hvb, hvc, _⟩ := open_list Try.underlying26 t2 (fun m hm => hw m (by simp [DataW.weights, DataW.weightsEach, Try.underlying28]; exact Or.inr (Or.inr (Or.inl hm))))
  obtain ⟨no, nl, nc, Y, e3, hY, hnl, hni, hnb, hnc, _⟩ := open_list Try.underlying26 t3 (fun m hm => hw m (by simp [DataW.weights, DataW.weightsEach, Try.underlying28]; exact Or.inr (Or.inr (Or.inr hm))))
  simp [Try.cells3, Try.cells26] at e0 e1 e2 e3
  subst e0 e1 e2 e3 hX hY
  exact ⟨⟨a0, a1, X, Y⟩, _, _, rfl, ⟨vo, vc, rfl, hvl, hvc⟩, ⟨no, nc, rfl, hnl, hnc⟩, by simp only; omega, by simp only; omega⟩

set_option maxRecDepth 100000 in
theorem open_flows {fuel : Nat} {cs : List Value} {x : DataW H × List MemPlace} (h : DataW.trod enc Try.prog W 0 (fun _ => true) true fuel 25 cs = some x) (hw : ∀ m ∈ x.1.weights Try.prog 25, m ≤ reachBytes) :
    ∃ (ao : Option Addr) (len cap : Nat) (fs : List Stf.Fl), cs = [.slice ao len cap] ∧ fs.length = len ∧ Fw.FlowsAt W ao fs ∧ len ≤ 9223372036854775807 ∧ Fw.Sm fs := by
  rcases open_slice Try.underlying25 h with ⟨hcs, _⟩ | ⟨a, len, cap, m, n, D, Pl, hcs, _, hl, hm, hmm, hx, hel⟩
  · exact ⟨none, 0, 0, [], hcs, rfl, Or.inl rfl, by omega, fun k hk => by simp at hk⟩
  · have hmc : m = cap := by simpa using hmm
    have hwD : ∀ i, i < len → ∀ m ∈ (D i).weights Try.prog 28, m ≤ reachBytes := fun i hi m hm => hw m (by
      rw [hx]
      simp only [DataW.weights, Try.underlying25]
      refine List.mem_cons_of_mem _ (List.mem_append_left _ (weights_all (List.mem_map.2 ⟨i, by simpa using hi, rfl⟩) m hm)))
    have hfam : ∀ i, i < len → ∃ q : (Int × Int × List Int × List Int) × Value × Value, (W.cell? (a.add (i * 4)) = some (.int .i64 q.1.1) ∧ W.cell? ((a.add (i * 4)).add 1) = some (.int .i64 q.1.2.1) ∧ W.cell? ((a.add (i * 4)).add 2) = some q.2.1 ∧ W.cell? ((a.add (i * 4)).add 3) = some q.2.2) ∧
        Fw.FV W q.1.2.2.1 q.2.1 ∧ Fw.FV W q.1.2.2.2 q.2.2 ∧ q.1.2.2.1.length ≤ 4611686018427387904 ∧ q.1.2.2.2.length ≤ 4611686018427387904 := by
      intro i hi
      obtain ⟨cs', hcell, htr⟩ := hel i (by omega)
      rw [Try.cells28] at hcell
      obtain ⟨f, v, nv, hc, h1, h2, h3, h4⟩ := open_flow4 htr (hwD i hi)
      exact ⟨((f.fr, f.to, f.via, f.nt), v, nv), cells4_inv hcell hc, h1, h2, h3, h4⟩
    have : Inhabited ((Int × Int × List Int × List Int) × Value × Value) := ⟨((0, 0, [], []), .int .i64 0, .int .i64 0)⟩
    obtain ⟨F, hF⟩ := choose_lt hfam
    have hget : ∀ k (h : k < ((List.range len).map (fun i => (⟨(F i).1.1, (F i).1.2.1, (F i).1.2.2.1, (F i).1.2.2.2⟩ : Stf.Fl))).length), ((List.range len).map (fun i => (⟨(F i).1.1, (F i).1.2.1, (F i).1.2.2.1, (F i).1.2.2.2⟩ : Stf.Fl)))[k] = ⟨(F k).1.1, (F k).1.2.1, (F k).1.2.2.1, (F k).1.2.2.2⟩ := fun k h => by simp
    refine ⟨some a, len, cap, (List.range len).map (fun i => ⟨(F i).1.1, (F i).1.2.1, (F i).1.2.2.1, (F i).1.2.2.2⟩), hcs, by simp, ?_, by unfold maxLen at hm; omega, fun k hk => ?_⟩
    · by_cases h0 : len = 0
      · exact Or.inl (by simp [h0])
      · obtain ⟨b, off, spot⟩ := a
        have hc := (hF 0 (by omega)).1.1
        have hspot : spot = none := by simpa [Addr.add] using World.cell?_spot hc
        subst hspot
        refine Or.inr ⟨b, off, rfl, by have := cell_lt hc; simpa [Addr.add] using this, fun k hk => ?_⟩
        have hk' : k < len := by simpa using hk
        obtain ⟨⟨g0, g1, g2, g3⟩, hv, hn, _⟩ := hF k hk'
        have e0 : (⟨b, off, none⟩ : Addr).add (k * 4) = ⟨b, off + k * 4, none⟩ := by
          unfold Addr.add
          split
          · simp_all
          · rfl
        rw [e0] at g0 g1 g2 g3
        rw [hget k hk]
        exact ⟨_, _, g0, by simpa [Addr.add] using g1, by simpa [Addr.add] using g2, by simpa [Addr.add] using g3, hv, hn⟩
    · have hk' : k < len := by simpa using hk
      rw [hget k hk]
      exact (hF k hk').2.2.2

end

end Go.Proofs.Ytagkbpckflineab
