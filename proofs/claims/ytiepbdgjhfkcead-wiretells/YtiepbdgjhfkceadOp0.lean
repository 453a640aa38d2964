/- How an order and bytes that came in are read. -/
import Derived.Test.YtiepbdgjhfkceadN10
import Derived.ProofKit
import Derived.OpenShut
import Derived.ChangeOld
import Derived.SizedLaws
import Derived.Deep.Slices
import Derived.Deep.Strs
import Derived.Lib.SmallJoins
namespace Go.Proofs.Ytiepbdgjhfkcead
open Go.ChangeShapes Go.WideShapes Go.ChangeAt Go.RowKit Go.Deep Go.Joins

theorem Try.laidOut : laidOutB Try.prog = true := by kernel_rfl
theorem Try.own : ownKnob Try.prog.godebug = none := by kernel_rfl
theorem Try.cells3 : Try.prog.cellsOf 3 = 1 := by kernel_rfl
theorem Try.bytes3 : Try.prog.bytesOf 3 = 8 := by kernel_rfl
theorem Try.cellsBy : Try.prog.cellsOf 5 = 1 := by kernel_rfl
theorem Try.bytesBy : Try.prog.bytesOf 5 = 1 := by kernel_rfl
theorem Try.cellsRu : Try.prog.cellsOf 48 = 3 := by kernel_rfl
theorem Try.bytesRu : Try.prog.bytesOf 48 = 24 := by kernel_rfl
theorem Try.cellsOr : Try.prog.cellsOf 25 = 5 := by kernel_rfl

theorem cell_lt {w : World} {a : Addr} {v : Value} (h : w.cell? a = some v) : a.block < w.heap.size := by
  rcases Nat.lt_or_ge a.block w.heap.size with h1 | h1
  · exact h1
  · have : w.heap[a.block]? = none := by simp [h1]
    simp [World.cell?, this] at h

section
variable {H : Type} {enc : TypeId × Value → H} {W : World}

set_option maxRecDepth 100000 in
theorem open_list {t : TypeId} (ht : Try.prog.underlying t = some (.slice 3)) {fuel : Nat} {cs : List Value} {x : DataW H × List MemPlace} (h : DataW.trod enc Try.prog W 0 (fun _ => true) true fuel t cs = some x)
    (hw : ∀ m ∈ x.1.weights Try.prog t, m ≤ reachBytes) :
    ∃ (ao : Option Addr) (len cap : Nat) (ps : List Int), cs = [.slice ao len cap] ∧ ps.length = len ∧ ListAt W ao ps ∧ (∀ y ∈ ps, I64 y) ∧ len * 8 ≤ 140737488351232 ∧ len ≤ cap ∧ cap ≤ 9223372036854775807 := by
  rcases open_ints ht Try.underlying3 Try.cells3 h with ⟨hcs, _⟩ | ⟨a, len, cap, zs, hcs, _, hl, hm, hz, hx, hcell, hwz⟩
  · exact ⟨none, 0, 0, [], hcs, rfl, Or.inl rfl, fun y hy => (by cases hy), by omega, by omega, by omega⟩
  · have hz' : zs.length = cap := by simpa using hz
    refine ⟨some a, len, cap, zs.take len, hcs, by simp; omega, ?_, fun y hy => hwz y (List.mem_of_mem_take hy), ?_, hl, by unfold maxLen at hm; omega⟩
    · by_cases h0 : len = 0
      · exact Or.inl (by simp [h0])
      · obtain ⟨b, off, spot⟩ := a
        have hc := hcell 0 (by omega)
        have hspot : spot = none := by simpa [Addr.add] using World.cell?_spot hc
        subst hspot
        refine Or.inr ⟨b, off, rfl, by have := cell_lt hc; simpa [Addr.add] using this, fun k hk => ?_⟩
        simp only [List.length_take] at hk
        have := hcell k (by omega)
        have e1 : (⟨b, off, none⟩ : Addr).add k = ⟨b, off + k, none⟩ := by
          unfold Addr.add
          split
          · simp_all
          · rfl
        rw [e1] at this
        rw [this]
        simp [List.getD_eq_getElem?_getD, show k < len by omega]
    · subst hx
      have := hw ((zs.take len).length * 8 + (zs.drop len).length * 8) (by simp [DataW.weights, ht, Try.bytes3, lits]; left; omega)
      simp [reachBytes] at this
      omega

theorem cells3_inv {w : World} {a : Addr} {cs : List Value} {x y z : Value} (h : w.cells? 0 a 3 = some cs) (e : cs = [x, y, z]) : w.cell? a = some x ∧ w.cell? (a.add 1) = some y ∧ w.cell? (a.add 2) = some z := by
  obtain ⟨_, _, hc⟩ := World.cells?_some h
  subst e
  exact ⟨by simpa [Addr.add] using hc 0 (by omega), hc 1 (by omega), hc 2 (by omega)⟩

set_option maxRecDepth 100000 in
theorem open_rules0 {fuel : Nat} {cs : List Value} {x : DataW H × List MemPlace} (h : DataW.trod enc Try.prog W 0 (fun _ => true) true fuel 22 cs = some x) :
    ∃ (ao : Option Addr) (len cap : Nat) (rs : List Rul.Ru), cs = [.slice ao len cap] ∧ Tb.SlOk W ao len cap rs ∧ len ≤ 9223372036854775807 ∧ (ao = none ∨ ∃ m, len + (m - len) = cap ∧ (len + (m - len)) * 24 ∈ x.1.weights Try.prog 22) := by
  rcases open_slice Try.underlying22 h with ⟨hcs, _⟩ | ⟨a, len, cap, m, n, D, Pl, hcs, _, hl, hm, hmm, hx, hel⟩
  · exact ⟨none, 0, 0, [], hcs, ⟨rfl, Or.inl rfl, fun _ => ⟨rfl, rfl⟩⟩, by omega, Or.inl rfl⟩
  · have hmc : m = cap := by simpa using hmm
    have hfam : ∀ i, i < len → ∃ l : Int × Int × Int, W.cell? (a.add (i * 3)) = some (.int .i64 l.1) ∧ W.cell? ((a.add (i * 3)).add 1) = some (.int .i64 l.2.1) ∧ W.cell? ((a.add (i * 3)).add 2) = some (.int .i64 l.2.2) := by
      intro i hi
      obtain ⟨cs', hcell, htr⟩ := hel i (by omega)
      rw [Try.cellsRu] at hcell
      obtain ⟨y0, y1, y2, n', _, hlen, t0, t1, t2⟩ := trod_struct3 Try.underlying48 htr
      rw [Try.cellsRu] at hlen
      match cs', hlen with
      | [c0, c1, c2], _ =>
        obtain ⟨a0, e0, _, w0⟩ := DataW.trod_int Try.underlying3 t0
        obtain ⟨a1, e1, _, w1⟩ := DataW.trod_int Try.underlying3 t1
        obtain ⟨a2, e2, _, w2⟩ := DataW.trod_int Try.underlying3 t2
        simp [Try.cells3] at e0 e1 e2
        subst e0 e1 e2
        exact ⟨(a0, a1, a2), cells3_inv hcell rfl⟩
    obtain ⟨F, hF⟩ := choose_lt hfam
    refine ⟨some a, len, cap, (List.range len).map F, hcs, ⟨by simp, ?_, fun h => by cases h⟩, by unfold maxLen at hm; omega, Or.inr ⟨m, by omega, ?_⟩⟩
    · by_cases h0 : len = 0
      · exact Or.inl (by simp [h0])
      · obtain ⟨b, off, spot⟩ := a
        have hc := (hF 0 (by omega)).1
        have hspot : spot = none := by simpa [Addr.add] using World.cell?_spot hc
        subst hspot
        refine Or.inr ⟨b, off, rfl, by have := cell_lt hc; simpa [Addr.add] using this, fun k hk => ?_⟩
        simp only [List.length_map, List.length_range] at hk
        obtain ⟨g0, g1, g2⟩ := hF k hk
        have e0 : (⟨b, off, none⟩ : Addr).add (k * 3) = ⟨b, off + k * 3, none⟩ := by
          unfold Addr.add
          split
          · simp_all
          · rfl
        rw [e0] at g0 g1 g2
        have e1 : ((List.range len).map F).getD k (0, 0, 0) = F k := by simp [List.getD_eq_getElem?_getD, hk]
        rw [e1]
        exact ⟨g0, by simpa [Addr.add] using g1, by simpa [Addr.add] using g2⟩
    · subst hx
      simp [DataW.weights, Try.underlying22, Try.bytesRu]
theorem open_rules {fuel : Nat} {cs : List Value} {x : DataW H × List MemPlace} (h : DataW.trod enc Try.prog W 0 (fun _ => true) true fuel 22 cs = some x) (hw : ∀ m ∈ x.1.weights Try.prog 22, m ≤ reachBytes) :
    ∃ (ao : Option Addr) (len cap : Nat) (rs : List Rul.Ru), cs = [.slice ao len cap] ∧ Tb.SlOk W ao len cap rs ∧ len * 24 ≤ 140737488351232 := by
  obtain ⟨ao, len, cap, rs, h1, h2, _, h4⟩ := open_rules0 h
  refine ⟨ao, len, cap, rs, h1, h2, ?_⟩
  rcases h4 with h4 | ⟨m, _, h4⟩
  · have := (h2.hnil h4).1; omega
  · have := hw _ h4
    simp [reachBytes] at this
    omega


/-- A struct of five fields of one cell each, by value. -/
theorem open_agg5 {P : Program} {w : World} {base : Nat} {spare : Nat → Bool} {held : Bool} {r : Reach} {b0 : Nat} {t : TypeId} {f0 f1 f2 f3 f4 : Field} {v : Value} {d : DataW H} {p : List MemPlace} (hs : P.underlying t = some (.struct #[f0, f1, f2, f3, f4])) (hone : oneCellFields P #[f0, f1, f2, f3, f4] = true) (hC : P.cellsOf t = 5)
    (hv : Value.okWide P w r b0 t v) (h : DataW.Trod enc P w base spare held t v d p) :
    ∃ (v0 v1 v2 v3 v4 : Value) (y0 y1 y2 y3 y4 : DataW H × List MemPlace) (n : Nat), v = .agg #[v0, v1, v2, v3, v4] ∧ d = .agg [y0.1, y1.1, y2.1, y3.1, y4.1] ∧
      DataW.trod enc P w base spare held n f0.type [v0] = some y0 ∧ DataW.trod enc P w base spare held n f1.type [v1] = some y1 ∧ DataW.trod enc P w base spare held n f2.type [v2] = some y2 ∧ DataW.trod enc P w base spare held n f3.type [v3] = some y3 ∧ DataW.trod enc P w base spare held n f4.type [v4] = some y4 := by
  obtain ⟨cs, rfl, hsz⟩ := okWide_struct hs hv
  have hsz5 : cs.size = 5 := hsz.trans hC
  obtain ⟨c0, c1, c2, c3, c4, rfl⟩ : ∃ c0 c1 c2 c3 c4, cs = #[c0, c1, c2, c3, c4] := by
    obtain ⟨l⟩ := cs
    match l, hsz5 with
    | [c0, c1, c2, c3, c4], _ => exact ⟨c0, c1, c2, c3, c4, rfl⟩
  obtain ⟨fuel, hf⟩ := h
  obtain ⟨xs, n, _, hx, _, hlen, hf⟩ := DataW.trod_struct hs hf
  obtain ⟨y0, y1, y2, y3, y4, rfl⟩ : ∃ y0 y1 y2 y3 y4, xs = [y0, y1, y2, y3, y4] := by
    match xs, hlen with
    | [y0, y1, y2, y3, y4], _ => exact ⟨y0, y1, y2, y3, y4, rfl⟩
  obtain ⟨o0, k0⟩ := hone_of hone 0 f0 rfl
  obtain ⟨o1, k1⟩ := hone_of hone 1 f1 rfl
  obtain ⟨o2, k2⟩ := hone_of hone 2 f2 rfl
  obtain ⟨o3, k3⟩ := hone_of hone 3 f3 rfl
  obtain ⟨o4, k4⟩ := hone_of hone 4 f4 rfl
  simp only [Prod.mk.injEq] at hx
  exact ⟨c0, c1, c2, c3, c4, y0, y1, y2, y3, y4, n, rfl, by simpa using hx.1, by simpa [Value.cells, o0, k0] using hf 0 f0 rfl, by simpa [Value.cells, o1, k1] using hf 1 f1 rfl, by simpa [Value.cells, o2, k2] using hf 2 f2 rfl, by simpa [Value.cells, o3, k3] using hf 3 f3 rfl, by simpa [Value.cells, o4, k4] using hf 4 f4 rfl⟩

set_option maxRecDepth 100000 in
/-- An order that came in. -/
theorem open_order {b0 : Nat} {v : Value} {d : DataW H} {p : List MemPlace} (hv : Value.okWide Try.prog W .any b0 25 v) (h : DataW.Trod enc Try.prog W 0 (fun _ => true) true 25 v d p)
    (hw : ∀ m ∈ d.weights Try.prog 25, m ≤ reachBytes) : ∃ (o : Wir.Od) (ro fo : Option Addr) (rc fc : Nat), v = Wi.ovl o ro fo rc fc ∧ Wi.OAt W o ro fo := by
  obtain ⟨c0, c1, c2, c3, c4, y0, y1, y2, y3, y4, m, rfl, rfl, h0, h1, h2, h3, h4⟩ := open_agg5 Try.underlying25 (by kernel_rfl) Try.cellsOr hv h
  obtain ⟨a0, e0, _, w0⟩ := DataW.trod_int Try.underlying3 h0
  obtain ⟨a1, e1, _, w1⟩ := DataW.trod_int Try.underlying3 h1
  obtain ⟨a2, e2, _, w2⟩ := DataW.trod_int Try.underlying3 h2
  obtain ⟨ro, rl, rc, X, e3, hX, hxb⟩ := open_rules h3 (fun m hm => hw m (by simp [DataW.weights, DataW.weightsEach, Try.underlying25]; exact Or.inr (Or.inr (Or.inr (Or.inl hm)))))
  obtain ⟨fo, fl, fc, Y, e4, hY, hfl, hfi, hfb, hfc, _⟩ := open_list Try.underlying23 h4 (fun m hm => hw m (by simp [DataW.weights, DataW.weightsEach, Try.underlying25]; exact Or.inr (Or.inr (Or.inr (Or.inr hm)))))
  have hxl := hX.hlen
  simp at e0 e1 e2 e3 e4
  subst e0 e1 e2 e3 e4
  exact ⟨⟨a0, a1, a2, X, Y⟩, ro, fo, rc, fc, by unfold Wi.ovl; rw [hxl, hY], ⟨hX.hat, hfl, w0, by show X.length ≤ _; omega, by show Y.length ≤ _; omega⟩⟩

set_option maxRecDepth 100000 in
/-- Bytes that came in. -/
theorem open_bytes {fuel : Nat} {cs : List Value} {x : DataW H × List MemPlace} (h : DataW.trod enc Try.prog W 0 (fun _ => true) true fuel 26 cs = some x)
    (hw : ∀ m ∈ x.1.weights Try.prog 26, m ≤ reachBytes) :
    ∃ (ao : Option Addr) (len cap : Nat) (bs : List Nat), cs = [.slice ao len cap] ∧ bs.length = len ∧ Wi.ByAt W ao bs ∧ (∀ y ∈ bs, y < 256) ∧ len ≤ 140737488351232 ∧ len ≤ cap ∧ cap ≤ 9223372036854775807 ∧ (ao = none → len = 0 ∧ cap = 0) := by
  rcases open_ints Try.underlying26 Try.underlying5 Try.cellsBy h with ⟨hcs, _⟩ | ⟨a, len, cap, zs, hcs, _, hl, hm, hz, hx, hcell, hwz⟩
  · exact ⟨none, 0, 0, [], hcs, rfl, Or.inl rfl, fun y hy => (by cases hy), by omega, by omega, by omega, fun _ => ⟨rfl, rfl⟩⟩
  · have hz' : zs.length = cap := by simpa using hz
    have hr : ∀ z ∈ zs, 0 ≤ z ∧ z < 256 := fun z hzm => by
      have := hwz z hzm
      simp only [Lit.wf, Bool.and_eq_true, decide_eq_true_eq] at this
      have e1 : IntKind.u8.min = 0 := by decide
      have e2 : IntKind.u8.max = 255 := by decide
      rw [e1, e2] at this
      omega
    refine ⟨some a, len, cap, (zs.take len).map Int.toNat, hcs, by simp; omega, ?_, fun y hy => ?_, ?_, hl, by unfold maxLen at hm; omega, fun h => by cases h⟩
    · by_cases h0 : len = 0
      · exact Or.inl (by simp [h0])
      · obtain ⟨b, off, spot⟩ := a
        have hc := hcell 0 (by omega)
        have hspot : spot = none := by simpa [Addr.add] using World.cell?_spot hc
        subst hspot
        refine Or.inr ⟨b, off, rfl, by have := cell_lt hc; simpa [Addr.add] using this, fun k hk => ?_⟩
        simp only [List.length_map, List.length_take] at hk
        have := hcell k (by omega)
        rw [Tb.add_none] at this
        rw [this]
        have e : zs.getD k 0 = zs[k]'(by omega) := by simp [List.getD_eq_getElem?_getD, show k < zs.length by omega]
        have hk' := hr _ (List.getElem_mem (show k < zs.length by omega))
        have e2 : ((zs.take len).map Int.toNat).getD k 0 = (zs[k]'(by omega)).toNat := by simp [List.getD_eq_getElem?_getD, show k < len by omega, show k < zs.length by omega]
        rw [e, e2, Int.toNat_of_nonneg hk'.1]
    · simp only [List.mem_map] at hy
      obtain ⟨z, hzm, rfl⟩ := hy
      have := hr z (List.mem_of_mem_take hzm)
      omega
    · subst hx
      have := hw ((zs.take len).length + (zs.drop len).length) (by simp [DataW.weights, Try.underlying26, Try.bytesBy, lits])
      simp [reachBytes] at this
      omega

theorem weights_arg {ts : List TypeId} {ds : List (DataW H)} (hsz : (DataW.weightsEach Try.prog ts ds).all (· ≤ reachBytes) = true) {j : Nat} {t : TypeId} {d : DataW H} (ht : ts[j]? = some t) (hd : ds[j]? = some d) : ∀ m ∈ d.weights Try.prog t, m ≤ reachBytes :=
  fun m hm => by simpa using List.all_eq_true.1 hsz _ (DataW.weights_mem_each ht hd m hm)

end

end Go.Proofs.Ytiepbdgjhfkcead
