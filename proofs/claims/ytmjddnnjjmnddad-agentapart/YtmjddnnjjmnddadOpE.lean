/- How a switch that came in is read; an order, with what an empty list of rules is. -/
import Derived.Test.YtmjddnnjjmnddadOpC
import Derived.Test.YtmjddnnjjmnddadY1
namespace Go.Proofs.Ytmjddnnjjmnddad
open Go.ChangeShapes Go.WideShapes Go.ChangeAt Go.RowKit Go.Deep Go.Joins

theorem Try.cellsSt : Try.prog.cellsOf 70 = 2 := by kernel_rfl
theorem Try.bytesSt : Try.prog.bytesOf 70 = 16 := by kernel_rfl
theorem Try.cellsSw : Try.prog.cellsOf 41 = 2 := by kernel_rfl
theorem cells2_inv' {w : World} {a : Addr} {cs : List Value} {x y : Value} (h : w.cells? 0 a 2 = some cs) (e : cs = [x, y]) : w.cell? a = some x ∧ w.cell? (a.add 1) = some y := by
  obtain ⟨_, _, hc⟩ := World.cells?_some h
  subst e
  exact ⟨by simpa [Addr.add] using hc 0 (by omega), hc 1 (by omega)⟩

section
variable {H : Type} {enc : TypeId × Value → H} {W : World}

set_option maxRecDepth 100000 in
theorem open_stamps {fuel : Nat} {cs : List Value} {x : DataW H × List MemPlace} (h : DataW.trod enc Try.prog W 0 (fun _ => true) true fuel 39 cs = some x) (hw : ∀ m ∈ x.1.weights Try.prog 39, m ≤ reachBytes) :
    ∃ (ao : Option Addr) (len cap : Nat) (st : List (Int × Int)), cs = [.slice ao len cap] ∧ st.length = len ∧ Ag.StAt W ao st ∧ len * 16 ≤ 140737488351232 := by
  rcases open_slice Try.underlying39 h with ⟨hcs, _⟩ | ⟨a, len, cap, m, n, D, Pl, hcs, _, hl, hm, hmm, hx, hel⟩
  · exact ⟨none, 0, 0, [], hcs, rfl, Or.inl rfl, by omega⟩
  · have hmc : m = cap := by simpa using hmm
    have hfam : ∀ i, i < len → ∃ l : Int × Int, W.cell? (a.add (i * 2)) = some (.int .i64 l.1) ∧ W.cell? ((a.add (i * 2)).add 1) = some (.int .i64 l.2) := by
      intro i hi
      obtain ⟨cs', hcell, htr⟩ := hel i (by omega)
      rw [Try.cellsSt] at hcell
      obtain ⟨y0, y1, n', _, hlen, t0, t1⟩ := trod_struct2 Try.underlying70 htr
      rw [Try.cellsSt] at hlen
      match cs', hlen with
      | [c0, c1], _ =>
        obtain ⟨a0, e0, _, w0⟩ := DataW.trod_int Try.underlying3 t0
        obtain ⟨a1, e1, _, w1⟩ := DataW.trod_int Try.underlying3 t1
        simp [Try.cells3] at e0 e1
        subst e0 e1
        exact ⟨(a0, a1), cells2_inv' hcell rfl⟩
    obtain ⟨F, hF⟩ := choose_lt hfam
    refine ⟨some a, len, cap, (List.range len).map F, hcs, by simp, ?_, ?_⟩
    · by_cases h0 : len = 0
      · exact Or.inl (by simp [h0])
      · obtain ⟨b, off, spot⟩ := a
        have hc := (hF 0 (by omega)).1
        have hspot : spot = none := by simpa [Addr.add] using World.cell?_spot hc
        subst hspot
        refine Or.inr ⟨b, off, rfl, by have := cell_lt hc; simpa [Addr.add] using this, fun k hk => ?_⟩
        simp only [List.length_map, List.length_range] at hk
        obtain ⟨g0, g1⟩ := hF k hk
        have e0 : (⟨b, off, none⟩ : Addr).add (k * 2) = ⟨b, off + k * 2, none⟩ := by
          unfold Addr.add
          split
          · simp_all
          · rfl
        rw [e0] at g0 g1
        have e1 : ((List.range len).map F).getD k (0, 0) = F k := by simp [List.getD_eq_getElem?_getD, hk]
        rw [e1]
        exact ⟨g0, by simpa [Addr.add] using g1⟩
    · subst hx
      have := hw ((len + (m - len)) * 16) (by simp [DataW.weights, Try.underlying39, Try.bytesSt])
      simp [reachBytes] at this
      omega

theorem open_rulesC {fuel : Nat} {cs : List Value} {x : DataW H × List MemPlace} (h : DataW.trod enc Try.prog W 0 (fun _ => true) true fuel 22 cs = some x) (hw : ∀ m ∈ x.1.weights Try.prog 22, m ≤ reachBytes) :
    ∃ (ao : Option Addr) (len cap : Nat) (rs : List Rul.Ru), cs = [.slice ao len cap] ∧ Tb.SlOk W ao len cap rs ∧ len * 24 ≤ 140737488351232 ∧ len ≤ cap ∧ cap ≤ 9223372036854775807 := by
  obtain ⟨ao, len, cap, rs, h1, h2, _, h4⟩ := open_rules0 h
  refine ⟨ao, len, cap, rs, h1, h2, ?_⟩
  rcases h4 with h4 | ⟨m, h5, h4⟩
  · have := h2.hnil h4; omega
  · have := hw _ h4
    simp [reachBytes] at this
    omega

set_option maxRecDepth 100000 in
/-- A switch that came in. -/
theorem open_switch {b0 : Nat} {v : Value} {d : DataW H} {p : List MemPlace} (hv : Value.okWide Try.prog W .any b0 41 v) (h : DataW.Trod enc Try.prog W 0 (fun _ => true) true 41 v d p)
    (hw : ∀ m ∈ d.weights Try.prog 41, m ≤ reachBytes) : ∃ (s : Agt.Sw) (ro so : Option Addr) (rc sc : Nat), v = Ag.svl s ro so rc sc ∧ Ag.SwAt W s ro so rc := by
  obtain ⟨c0, c1, y0, y1, m, rfl, rfl, rfl, hy0, hy1⟩ := open_agg2 Try.underlying41 (by kernel_rfl) Try.cellsSw hv h
  obtain ⟨ro, rl, rc, X, e0, hX, hxb, hxc, hxm⟩ := open_rulesC hy0 (fun m hm => hw m (by simp [DataW.weights, DataW.weightsEach, Try.underlying41]; exact Or.inl hm))
  obtain ⟨so, sl, sc, Y, e1, hyl, hY, hyb⟩ := open_stamps hy1 (fun m hm => hw m (by simp [DataW.weights, DataW.weightsEach, Try.underlying41]; exact Or.inr hm))
  have hxl := hX.hlen
  simp at e0 e1
  subst e0 e1
  subst hxl hyl
  exact ⟨⟨X, Y⟩, ro, so, rc, sc, rfl, ⟨hX, hY, hxb, hyb, hxc, hxm⟩⟩

set_option maxRecDepth 100000 in
/-- An order that came in; of no rules' list it is known that it is empty. -/
theorem open_orderN {b0 : Nat} {v : Value} {d : DataW H} {p : List MemPlace} (hv : Value.okWide Try.prog W .any b0 25 v) (h : DataW.Trod enc Try.prog W 0 (fun _ => true) true 25 v d p)
    (hw : ∀ m ∈ d.weights Try.prog 25, m ≤ reachBytes) : ∃ (o : Wir.Od) (ro fo : Option Addr) (rc fc : Nat), v = Wi.ovl o ro fo rc fc ∧ Wi.OAt W o ro fo ∧ (ro = none → o.rs.length = 0 ∧ rc = 0) := by
  obtain ⟨c0, c1, c2, c3, c4, y0, y1, y2, y3, y4, m, rfl, rfl, h0, h1, h2, h3, h4⟩ := open_agg5 Try.underlying25 (by kernel_rfl) Try.cellsOr hv h
  obtain ⟨a0, e0, _, w0⟩ := DataW.trod_int Try.underlying3 h0
  obtain ⟨a1, e1, _, w1⟩ := DataW.trod_int Try.underlying3 h1
  obtain ⟨a2, e2, _, w2⟩ := DataW.trod_int Try.underlying3 h2
  obtain ⟨ro, rl, rc, X, e3, hX, hxb⟩ := open_rules h3 (fun m hm => hw m (by simp [DataW.weights, DataW.weightsEach, Try.underlying25]; exact Or.inr (Or.inr (Or.inr (Or.inl hm)))))
  obtain ⟨fo, fl, fc, Y, e4, hY, hfl, hfi, hfb, hfc, _⟩ := open_list Try.underlying23 h4 (fun m hm => hw m (by simp [DataW.weights, DataW.weightsEach, Try.underlying25]; exact Or.inr (Or.inr (Or.inr (Or.inr hm)))))
  have hxl := hX.hlen
  simp at e0 e1 e2 e3 e4
  subst e0 e1 e2 e3 e4
  subst hxl hY
  exact ⟨⟨a0, a1, a2, X, Y⟩, ro, fo, rc, fc, rfl, ⟨hX.hat, hfl, w0, by show X.length ≤ _; omega, by show Y.length ≤ _; omega⟩, hX.hnil⟩

end

end Go.Proofs.Ytmjddnnjjmnddad
