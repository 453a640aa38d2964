/- Ask, Back and Drop make of a control what the document asks, and tell what it asks: the law ControlTells answers true, for every control, net, flows and number, where they are together of bulk at most 1048576, and leaves them as they were. -/
import Derived.Test.YtgffkjjddhlbpaaN0a
import Derived.ProofKit
import Derived.OpenShut
import Derived.ChangeOld
import Derived.SizedLaws
import Derived.Deep.Slices
import Derived.Deep.Strs
import Derived.Lib.SmallJoins
import Derived.Test.YtgffkjjddhlbpaaV21
import Derived.Test.YtgffkjjddhlbpaaRows
import Derived.Test.YtgffkjjddhlbpaaI1
import Derived.Test.YtgffkjjddhlbpaaH0
import Derived.Test.YtgffkjjddhlbpaaH10
import Derived.Test.YtgffkjjddhlbpaaC6
import Derived.Test.YtgffkjjddhlbpaaCTg
import Derived.ChangeMaps5
import Derived.Lay
import Derived.Stop.Joined
import Derived.Stop.LaidErr
import Derived.Deep.DeepHandedRow
/- How a list of numbers that came in is read. -/
namespace Go.Proofs.Ytgffkjjddhlbpaa
open Go.ChangeShapes Go.WideShapes Go.ChangeAt Go.RowKit Go.Deep Go.Joins

theorem cell_lt {w : World} {a : Addr} {v : Value} (h : w.cell? a = some v) : a.block < w.heap.size := by
  rcases Nat.lt_or_ge a.block w.heap.size with h1 | h1
  · exact h1
  · have : w.heap[a.block]? = none := by simp [h1]
    simp [World.cell?, this] at h

section
variable {H : Type} {enc : TypeId × Value → H} {W : World}

set_option maxRecDepth 100000 in
theorem open_list {t : TypeId} (ht : Try.prog.underlying t = some (.slice 3)) {fuel : Nat} {cs : List Value} {x : DataW H × List MemPlace} (h : DataW.trod enc Try.prog W 0 (fun _ => true) true fuel t cs = some x)
    (hw : ∀ m ∈ x.1.weights Try.prog t, m ≤ reachBytes) :
    ∃ (ao : Option Addr) (len cap : Nat) (ps : List Int), cs = [.slice ao len cap] ∧ ps.length = len ∧ ListAt W ao ps ∧ (∀ y ∈ ps, I64 y) ∧ len * 8 ≤ 140737488351232 ∧ len ≤ cap ∧ cap ≤ 9223372036854775807 := by
  rcases open_ints ht Try.underlying3 Try.cells3 h with ⟨hcs, _⟩ | ⟨a, len, cap, zs, hcs, _, hl, hm, hz, hx, hcell, hwz⟩
  · exact ⟨none, 0, 0, [], hcs, rfl, Or.inl rfl, fun y hy => (by cases hy), by omega, by omega, by omega⟩
  · have hz' : zs.length = cap := by simpa using hz
    refine ⟨some a, len, cap, zs.take len, hcs, by simp; omega, ?_, fun y hy => hwz y (List.mem_of_mem_take hy), ?_, hl, by unfold maxLen at hm; omega⟩
    · by_cases h0 : len = 0
      · exact Or.inl (by simp [h0])
      · obtain ⟨b, off, spot⟩ := a
        have hc := hcell 0 (by omega)
        have hspot : spot = none := by simpa [Addr.add] using World.cell?_spot hc
        subst hspot
        refine Or.inr ⟨b, off, rfl, by have := cell_lt hc; simpa [Addr.add] using this, fun k hk => ?_⟩
        simp only [List.length_take] at hk
        have := hcell k (by omega)
        have e1 : (⟨b, off, none⟩ : Addr).add k = ⟨b, off + k, none⟩ := by
          unfold Addr.add
          split
          · simp_all
          · rfl
        rw [e1] at this
        rw [this]
        simp [List.getD_eq_getElem?_getD, show k < len by omega]
    · subst hx
      have := hw ((zs.take len).length * 8 + (zs.drop len).length * 8) (by simp [DataW.weights, ht, Try.bytes3, lits]; left; omega)
      simp [reachBytes] at this
      omega

theorem cells3_inv {w : World} {a : Addr} {cs : List Value} {x y z : Value} (h : w.cells? 0 a 3 = some cs) (e : cs = [x, y, z]) : w.cell? a = some x ∧ w.cell? (a.add 1) = some y ∧ w.cell? (a.add 2) = some z := by
  obtain ⟨_, _, hc⟩ := World.cells?_some h
  subst e
  exact ⟨by simpa [Addr.add] using hc 0 (by omega), hc 1 (by omega), hc 2 (by omega)⟩

theorem weights_arg {ts : List TypeId} {ds : List (DataW H)} (hsz : (DataW.weightsEach Try.prog ts ds).all (· ≤ reachBytes) = true) {j : Nat} {t : TypeId} {d : DataW H} (ht : ts[j]? = some t) (hd : ds[j]? = some d) : ∀ m ∈ d.weights Try.prog t, m ≤ reachBytes :=
  fun m hm => by simpa using List.all_eq_true.1 hsz _ (DataW.weights_mem_each ht hd m hm)

end

end Go.Proofs.Ytgffkjjddhlbpaa

/- How many values a reading holds. -/
namespace Go.Proofs.Ytgffkjjddhlbpaa
open Go.ChangeShapes Go.WideShapes Go.ChangeAt Go.RowKit Go.Deep Go.Joins Stw

theorem Try.cellsPt : Try.prog.cellsOf 105 = 1 := by kernel_rfl
theorem Try.cellsPl : Try.prog.cellsOf 25 = 3 := by kernel_rfl

theorem bulk_one {H : Type} (d : DataW H) : 1 ≤ Rows.uptoBulk d := by
  cases d with
  | lit l => cases l <;> simp [Rows.uptoBulk]
  | nil => simp [Rows.uptoBulk]
  | ptr d => simp [Rows.uptoBulk]
  | slice elems spare => simp [Rows.uptoBulk]
  | agg parts => simp [Rows.uptoBulk]
  | iface t d => simp [Rows.uptoBulk]
  | map entries => simp [Rows.uptoBulk]
  | held h => simp [Rows.uptoBulk]
theorem bulk_part {H : Type} {d : DataW H} {l : List (DataW H)} (h : d ∈ l) : Rows.uptoBulk d ≤ Rows.uptoBulkAll l := by
  induction l with
  | nil => cases h
  | cons x r ih =>
    simp only [Rows.uptoBulkAll]
    rcases List.mem_cons.1 h with e | e
    · subst e; omega
    · have := ih e; omega
theorem bulk_len {H : Type} (l : List (DataW H)) : l.length ≤ Rows.uptoBulkAll l := by
  induction l with
  | nil => simp [Rows.uptoBulkAll]
  | cons x r ih => have := bulk_one x; simp only [Rows.uptoBulkAll, List.length_cons]; omega
theorem bulk_append {H : Type} (x y : List (DataW H)) : Rows.uptoBulkAll (x ++ y) = Rows.uptoBulkAll x + Rows.uptoBulkAll y := by
  induction x with
  | nil => simp [Rows.uptoBulkAll]
  | cons z r ih => simp only [List.cons_append, Rows.uptoBulkAll, ih]; omega
theorem tot_bulk {H : Type} (F : Nat → List Int) (D : Nat → DataW H) (len : Nat) (h : ∀ i, i < len → (F i).length ≤ Rows.uptoBulk (D i)) : ∀ k, k ≤ len → Tb.tot ((List.range len).map F) k ≤ Rows.uptoBulkAll ((List.range k).map D)
  | 0, _ => by simp [Tb.tot]
  | k + 1, hk => by
    have ih := tot_bulk F D len h k (by omega)
    have e : ((List.range len).map F).getD k [] = F k := by simp [List.getD_eq_getElem?_getD, show k < len by omega]
    rw [Tb.tot, List.range_succ, List.map_append, bulk_append, e]
    have := h k (by omega)
    simp only [List.map_cons, List.map_nil, Rows.uptoBulkAll]
    omega

theorem cells1_inv {w : World} {a : Addr} {cs : List Value} {x : Value} (h : w.cells? 0 a 1 = some cs) (e : cs = [x]) : w.cell? a = some x := by
  obtain ⟨_, _, hc⟩ := World.cells?_some h
  subst e
  simpa [Addr.add] using hc 0 (by omega)


end Go.Proofs.Ytgffkjjddhlbpaa

/- How a net and a list of numbers that came in are read. -/
namespace Go.Proofs.Ytgffkjjddhlbpaa
open Go.ChangeShapes Go.WideShapes Go.ChangeAt Go.RowKit Go.Deep Go.Joins Stw

theorem Try.cells24 : Try.prog.cellsOf 31 = 2 := by kernel_rfl
theorem Try.cells43 : Try.prog.cellsOf 123 = 3 := by kernel_rfl
theorem Try.bytes43 : Try.prog.bytesOf 123 = 24 := by kernel_rfl

section
variable {H : Type} {enc : TypeId × Value → H} {W : World}

set_option maxRecDepth 100000 in
theorem open_links {fuel : Nat} {cs : List Value} {x : DataW H × List MemPlace} (h : DataW.trod enc Try.prog W 0 (fun _ => true) true fuel 29 cs = some x) (hw : ∀ m ∈ x.1.weights Try.prog 29, m ≤ reachBytes) :
    ∃ (ao : Option Addr) (len cap : Nat) (ls : List Lk), cs = [.slice ao len cap] ∧ ls.length = len ∧ NetAt W ao ls ∧ (∀ l ∈ ls, I64 l.a ∧ I64 l.b ∧ I64 l.c) ∧ len * 24 ≤ 140737488351232 ∧ len ≤ cap ∧ cap ≤ 9223372036854775807 := by
  rcases open_slice Try.underlying29 h with ⟨hcs, _⟩ | ⟨a, len, cap, m, n, D, Pl, hcs, _, hl, hm, hmm, hx, hel⟩
  · exact ⟨none, 0, 0, [], hcs, rfl, Or.inl rfl, fun y hy => (by cases hy), by omega, by omega, by omega⟩
  · have hmc : m = cap := by simpa using hmm
    have hfam : ∀ i, i < len → ∃ l : Int × Int × Int, (W.cell? (a.add (i * 3)) = some (.int .i64 l.1) ∧ W.cell? ((a.add (i * 3)).add 1) = some (.int .i64 l.2.1) ∧ W.cell? ((a.add (i * 3)).add 2) = some (.int .i64 l.2.2)) ∧ I64 l.1 ∧ I64 l.2.1 ∧ I64 l.2.2 := by
      intro i hi
      obtain ⟨cs', hcell, htr⟩ := hel i (by omega)
      rw [Try.cells43] at hcell
      obtain ⟨y0, y1, y2, n', _, hlen, t0, t1, t2⟩ := trod_struct3 Try.underlying123 htr
      rw [Try.cells43] at hlen
      match cs', hlen with
      | [c0, c1, c2], _ =>
        obtain ⟨a0, e0, _, w0⟩ := DataW.trod_int Try.underlying3 t0
        obtain ⟨a1, e1, _, w1⟩ := DataW.trod_int Try.underlying3 t1
        obtain ⟨a2, e2, _, w2⟩ := DataW.trod_int Try.underlying3 t2
        simp [Try.cells3] at e0 e1 e2
        subst e0 e1 e2
        exact ⟨(a0, a1, a2), cells3_inv hcell rfl, w0, w1, w2⟩
    obtain ⟨F, hF⟩ := choose_lt hfam
    refine ⟨some a, len, cap, (List.range len).map (fun i => ⟨(F i).1, (F i).2.1, (F i).2.2⟩), hcs, by simp, ?_, ?_, ?_, hl, by unfold maxLen at hm; omega⟩
    · by_cases h0 : len = 0
      · exact Or.inl (by simp [h0])
      · obtain ⟨b, off, spot⟩ := a
        have hc := (hF 0 (by omega)).1.1
        have hspot : spot = none := by simpa [Addr.add] using World.cell?_spot hc
        subst hspot
        refine Or.inr ⟨b, off, rfl, by have := cell_lt hc; simpa [Addr.add] using this, fun k hk => ?_⟩
        simp only [List.length_map, List.length_range] at hk
        obtain ⟨⟨g0, g1, g2⟩, _⟩ := hF k hk
        have e0 : (⟨b, off, none⟩ : Addr).add (k * 3) = ⟨b, off + k * 3, none⟩ := by
          unfold Addr.add
          split
          · simp_all
          · rfl
        rw [e0] at g0 g1 g2
        have e1 : ((List.range len).map (fun i => (⟨(F i).1, (F i).2.1, (F i).2.2⟩ : Lk))).getD k lk0 = ⟨(F k).1, (F k).2.1, (F k).2.2⟩ := by simp [List.getD_eq_getElem?_getD, hk]
        rw [e1]
        exact ⟨g0, by simpa [Addr.add] using g1, by simpa [Addr.add] using g2⟩
    · intro l hlm
      simp only [List.mem_map, List.mem_range] at hlm
      obtain ⟨i, hi, rfl⟩ := hlm
      exact (hF i hi).2
    · subst hx
      have := hw ((len + (m - len)) * 24) (by simp [DataW.weights, Try.underlying29, Try.bytes43])
      simp [reachBytes] at this
      omega

set_option maxRecDepth 100000 in
/-- A net that came in. -/
theorem open_topo {b0 : Nat} {v : Value} {d : DataW H} {p : List MemPlace} (hv : Value.okWide Try.prog W .any b0 31 v) (h : DataW.Trod enc Try.prog W 0 (fun _ => true) true 31 v d p)
    (hw : ∀ m ∈ d.weights Try.prog 31, m ≤ reachBytes) :
    ∃ (n : Int) (ao : Option Addr) (len cap : Nat) (ls : List Lk), v = .agg #[.int .i64 n, .slice ao len cap] ∧ I64 n ∧ ls.length = len ∧ NetAt W ao ls ∧ (∀ l ∈ ls, I64 l.a ∧ I64 l.b ∧ I64 l.c) ∧ len * 24 ≤ 140737488351232 ∧ len ≤ cap ∧ cap ≤ 9223372036854775807 := by
  obtain ⟨c0, c1, y0, y1, m, rfl, rfl, rfl, hy0, hy1⟩ := open_agg2 Try.underlying31 (by kernel_rfl) Try.cells24 hv h
  obtain ⟨n, e0, _, w0⟩ := DataW.trod_int Try.underlying3 hy0
  obtain ⟨ao, len, cap, ls, e1, r⟩ := open_links hy1 (fun m hm => hw m (by simp [DataW.weights, DataW.weightsEach, Try.underlying31]; exact Or.inr hm))
  simp at e0 e1
  subst e0 e1
  exact ⟨n, ao, len, cap, ls, rfl, w0, r⟩

end

end Go.Proofs.Ytgffkjjddhlbpaa

/- How a flow that came in is read. -/
namespace Go.Proofs.Ytgffkjjddhlbpaa
open Go.ChangeShapes Go.WideShapes Go.ChangeAt Go.RowKit Go.Deep Go.Joins Stw

theorem Try.cells28 : Try.prog.cellsOf 91 = 4 := by kernel_rfl

section
variable {H : Type} {enc : TypeId × Value → H} {W : World}

set_option maxRecDepth 100000 in
/-- A flow that came in. -/
theorem open_flow {b0 : Nat} {v : Value} {d : DataW H} {p : List MemPlace} (hv : Value.okWide Try.prog W .any b0 91 v) (h : DataW.Trod enc Try.prog W 0 (fun _ => true) true 91 v d p)
    (hw : ∀ m ∈ d.weights Try.prog 91, m ≤ reachBytes) :
    ∃ (f : Stf.Fl) (vo no : Option Addr) (vc nc : Nat), v = .agg #[.int .i64 f.fr, .int .i64 f.to, .slice vo f.via.length vc, .slice no f.nt.length nc] ∧ ListAt W vo f.via ∧ ListAt W no f.nt ∧ f.via.length * 8 ≤ 140737488351232 ∧ f.nt.length * 8 ≤ 140737488351232 ∧ f.via.length ≤ vc ∧ f.nt.length ≤ nc ∧ (∀ y ∈ f.via, I64 y) ∧ (∀ y ∈ f.nt, I64 y) := by
  obtain ⟨c0, c1, c2, c3, y0, y1, y2, y3, m, rfl, rfl, rfl, h0, h1, h2, h3⟩ := open_agg4 Try.underlying91 (by kernel_rfl) Try.cells28 hv h
  obtain ⟨a0, e0, _, w0⟩ := DataW.trod_int Try.underlying3 h0
  obtain ⟨a1, e1, _, w1⟩ := DataW.trod_int Try.underlying3 h1
  obtain ⟨vo, vl, vc, X, e2, hX, hvl, hvi, hvb, hvc, _⟩ := open_list Try.underlying26 h2 (fun m hm => hw m (by simp [DataW.weights, DataW.weightsEach, Try.underlying91]; exact Or.inr (Or.inr (Or.inl hm))))
  obtain ⟨no, nl, nc, Y, e3, hY, hnl, hni, hnb, hnc, _⟩ := open_list Try.underlying26 h3 (fun m hm => hw m (by simp [DataW.weights, DataW.weightsEach, Try.underlying91]; exact Or.inr (Or.inr (Or.inr hm))))
  simp at e0 e1 e2 e3
  subst e0 e1 e2 e3 hX hY
  exact ⟨⟨a0, a1, X, Y⟩, vo, no, vc, nc, rfl, hvl, hnl, hvb, hnb, hvc, hnc, hvi, hni⟩

end

end Go.Proofs.Ytgffkjjddhlbpaa

/- How flows that came in are read. -/
namespace Go.Proofs.Ytgffkjjddhlbpaa
open Go.ChangeShapes Go.WideShapes Go.ChangeAt Go.RowKit Go.Deep Go.Joins Stw

theorem Try.cells26 : Try.prog.cellsOf 26 = 1 := by kernel_rfl
theorem Try.bytes28 : Try.prog.bytesOf 91 = 64 := by kernel_rfl

section
variable {H : Type} {enc : TypeId × Value → H} {W : World}

theorem weights_all {e : TypeId} {d : DataW H} : ∀ {l : List (DataW H)}, d ∈ l → ∀ m ∈ d.weights Try.prog e, m ∈ DataW.weightsAll Try.prog e l
  | [], h, _, _ => by cases h
  | x :: r, h, m, hm => by
    rw [DataW.weightsAll, List.mem_append]
    rcases List.mem_cons.1 h with rfl | h
    · exact Or.inl hm
    · exact Or.inr (weights_all h m hm)

theorem cells4_inv {w : World} {a : Addr} {cs : List Value} {x y z u : Value} (h : w.cells? 0 a 4 = some cs) (e : cs = [x, y, z, u]) : w.cell? a = some x ∧ w.cell? (a.add 1) = some y ∧ w.cell? (a.add 2) = some z ∧ w.cell? (a.add 3) = some u := by
  obtain ⟨_, _, hc⟩ := World.cells?_some h
  subst e
  exact ⟨by simpa [Addr.add] using hc 0 (by omega), hc 1 (by omega), hc 2 (by omega), hc 3 (by omega)⟩
theorem four_of {cs : List Value} (h : cs.length = 4) : ∃ c0 c1 c2 c3, cs = [c0, c1, c2, c3] := by
  match cs, h with
  | [c0, c1, c2, c3], _ => exact ⟨c0, c1, c2, c3, rfl⟩

set_option maxRecDepth 100000 in
theorem open_flow4 {fuel : Nat} {cs : List Value} {x : DataW H × List MemPlace} (h : DataW.trod enc Try.prog W 0 (fun _ => true) true fuel 91 cs = some x) (hw : ∀ m ∈ x.1.weights Try.prog 91, m ≤ reachBytes) :
    ∃ (f : Stf.Fl) (v n : Value), cs = [.int .i64 f.fr, .int .i64 f.to, v, n] ∧ Fw.FV W f.via v ∧ Fw.FV W f.nt n ∧ f.via.length ≤ 4611686018427387904 ∧ f.nt.length ≤ 4611686018427387904 := by
  obtain ⟨y0, y1, y2, y3, n', rfl, hlen, t0, t1, t2, t3⟩ := trod_struct4 Try.underlying91 h
  rw [Try.cells28] at hlen
  obtain ⟨c0, c1, c2, c3, rfl⟩ : ∃ c0 c1 c2 c3, cs = [c0, c1, c2, c3] := four_of hlen
  obtain ⟨a0, e0, _, w0⟩ := DataW.trod_int Try.underlying3 t0
  obtain ⟨a1, e1, _, w1⟩ := DataW.trod_int Try.underlying3 t1
  obtain ⟨vo, vl, vc, X, e2, hX, hvl, hvi, hvb, hvc, _⟩ := open_list Try.underlying26 t2 (fun m hm => hw m (by simp [DataW.weights, DataW.weightsEach, Try.underlying91]; exact Or.inr (Or.inr (Or.inl hm))))
  obtain ⟨no, nl, nc, Y, e3, hY, hnl, hni, hnb, hnc, _⟩ := open_list Try.underlying26 t3 (fun m hm => hw m (by simp [DataW.weights, DataW.weightsEach, Try.underlying91]; exact Or.inr (Or.inr (Or.inr hm))))
  simp [Try.cells3, Try.cells26] at e0 e1 e2 e3
  subst e0 e1 e2 e3 hX hY
  exact ⟨⟨a0, a1, X, Y⟩, _, _, rfl, ⟨vo, vc, rfl, hvl, hvc⟩, ⟨no, nc, rfl, hnl, hnc⟩, by simp only; omega, by simp only; omega⟩

set_option maxRecDepth 100000 in
theorem open_flows {fuel : Nat} {cs : List Value} {x : DataW H × List MemPlace} (h : DataW.trod enc Try.prog W 0 (fun _ => true) true fuel 22 cs = some x) (hw : ∀ m ∈ x.1.weights Try.prog 22, m ≤ reachBytes) :
    ∃ (ao : Option Addr) (len cap : Nat) (fs : List Stf.Fl), cs = [.slice ao len cap] ∧ fs.length = len ∧ Fw.FlowsAt W ao fs ∧ len ≤ 9223372036854775807 ∧ Fw.Sm fs := by
  rcases open_slice Try.underlying22 h with ⟨hcs, _⟩ | ⟨a, len, cap, m, n, D, Pl, hcs, _, hl, hm, hmm, hx, hel⟩
  · exact ⟨none, 0, 0, [], hcs, rfl, Or.inl rfl, by omega, fun k hk => by simp at hk⟩
  · have hmc : m = cap := by simpa using hmm
    have hwD : ∀ i, i < len → ∀ m ∈ (D i).weights Try.prog 91, m ≤ reachBytes := fun i hi m hm => hw m (by
      rw [hx]
      simp only [DataW.weights, Try.underlying22]
      refine List.mem_cons_of_mem _ (List.mem_append_left _ (weights_all (List.mem_map.2 ⟨i, by simpa using hi, rfl⟩) m hm)))
    have hfam : ∀ i, i < len → ∃ q : (Int × Int × List Int × List Int) × Value × Value, (W.cell? (a.add (i * 4)) = some (.int .i64 q.1.1) ∧ W.cell? ((a.add (i * 4)).add 1) = some (.int .i64 q.1.2.1) ∧ W.cell? ((a.add (i * 4)).add 2) = some q.2.1 ∧ W.cell? ((a.add (i * 4)).add 3) = some q.2.2) ∧
        Fw.FV W q.1.2.2.1 q.2.1 ∧ Fw.FV W q.1.2.2.2 q.2.2 ∧ q.1.2.2.1.length ≤ 4611686018427387904 ∧ q.1.2.2.2.length ≤ 4611686018427387904 := by
      intro i hi
      obtain ⟨cs', hcell, htr⟩ := hel i (by omega)
      rw [Try.cells28] at hcell
      obtain ⟨f, v, nv, hc, h1, h2, h3, h4⟩ := open_flow4 htr (hwD i hi)
      exact ⟨((f.fr, f.to, f.via, f.nt), v, nv), cells4_inv hcell hc, h1, h2, h3, h4⟩
    have : Inhabited ((Int × Int × List Int × List Int) × Value × Value) := ⟨((0, 0, [], []), .int .i64 0, .int .i64 0)⟩
    obtain ⟨F, hF⟩ := choose_lt hfam
    have hget : ∀ k (h : k < ((List.range len).map (fun i => (⟨(F i).1.1, (F i).1.2.1, (F i).1.2.2.1, (F i).1.2.2.2⟩ : Stf.Fl))).length), ((List.range len).map (fun i => (⟨(F i).1.1, (F i).1.2.1, (F i).1.2.2.1, (F i).1.2.2.2⟩ : Stf.Fl)))[k] = ⟨(F k).1.1, (F k).1.2.1, (F k).1.2.2.1, (F k).1.2.2.2⟩ := fun k h => by simp
    refine ⟨some a, len, cap, (List.range len).map (fun i => ⟨(F i).1.1, (F i).1.2.1, (F i).1.2.2.1, (F i).1.2.2.2⟩), hcs, by simp, ?_, by unfold maxLen at hm; omega, fun k hk => ?_⟩
    · by_cases h0 : len = 0
      · exact Or.inl (by simp [h0])
      · obtain ⟨b, off, spot⟩ := a
        have hc := (hF 0 (by omega)).1.1
        have hspot : spot = none := by simpa [Addr.add] using World.cell?_spot hc
        subst hspot
        refine Or.inr ⟨b, off, rfl, by have := cell_lt hc; simpa [Addr.add] using this, fun k hk => ?_⟩
        have hk' : k < len := by simpa using hk
        obtain ⟨⟨g0, g1, g2, g3⟩, hv, hn, _⟩ := hF k hk'
        have e0 : (⟨b, off, none⟩ : Addr).add (k * 4) = ⟨b, off + k * 4, none⟩ := by
          unfold Addr.add
          split
          · simp_all
          · rfl
        rw [e0] at g0 g1 g2 g3
        rw [hget k hk]
        exact ⟨_, _, g0, by simpa [Addr.add] using g1, by simpa [Addr.add] using g2, by simpa [Addr.add] using g3, hv, hn⟩
    · have hk' : k < len := by simpa using hk
      rw [hget k hk]
      exact (hF k hk').2.2.2

end

end Go.Proofs.Ytgffkjjddhlbpaa

/- How a control that came in is read, and how many values it has. -/
namespace Go.Proofs.Ytgffkjjddhlbpaa
open Go.ChangeShapes Go.WideShapes Go.ChangeAt Go.RowKit Go.Deep Go.Joins Stw

theorem Try.cellsCo : Try.prog.cellsOf 28 = 9 := by kernel_rfl

section
variable {H : Type} {enc : TypeId × Value → H} {W : World}

theorem bulk_elem {H : Type} {D : Nat → DataW H} {len i : Nat} (rest : List (DataW H)) (hi : i < len) : Rows.uptoBulk (D i) ≤ Rows.uptoBulk (.slice ((List.range len).map D) rest) := by
  have := bulk_part (H := H) (d := D i) (l := (List.range len).map D) (List.mem_map.2 ⟨i, by simpa using hi, rfl⟩)
  simp only [Rows.uptoBulk]
  omega

theorem open_listB {t : TypeId} (ht : Try.prog.underlying t = some (.slice 3)) {fuel : Nat} {cs : List Value} {x : DataW H × List MemPlace} (h : DataW.trod enc Try.prog W 0 (fun _ => true) true fuel t cs = some x) :
    ∃ (ps : List Int) (ao : Option Addr) (cap : Nat), cs = [.slice ao ps.length cap] ∧ ListAt W ao ps ∧ ps.length ≤ Rows.uptoBulk x.1 ∧ ps.length ≤ cap ∧ (ao = none → cap = 0) := by
  rcases open_ints ht Try.underlying3 Try.cells3 h with ⟨hcs, hx⟩ | ⟨a, len, cap, zs, hcs, _, hl, hm, hz, hx, hcell, hwz⟩
  · exact ⟨[], none, 0, hcs, Or.inl rfl, by simp, by simp, fun _ => rfl⟩
  · have hz' : zs.length = cap := by simpa using hz
    have hlen : (zs.take len).length = len := by simp; omega
    refine ⟨zs.take len, some a, cap, by rw [hlen]; exact hcs, ?_, ?_, by rw [hlen]; exact hl, fun e => by cases e⟩
    · by_cases h0 : len = 0
      · exact Or.inl (by simp [h0])
      · obtain ⟨b, off, spot⟩ := a
        have hc := hcell 0 (by omega)
        have hspot : spot = none := by simpa [Addr.add] using World.cell?_spot hc
        subst hspot
        refine Or.inr ⟨b, off, rfl, by have := cell_lt hc; simpa [Addr.add] using this, fun k hk => ?_⟩
        have := hcell k (by omega)
        have e1 : (⟨b, off, none⟩ : Addr).add k = ⟨b, off + k, none⟩ := by
          unfold Addr.add
          split
          · simp_all
          · rfl
        rw [e1] at this
        rw [this]
        simp [List.getD_eq_getElem?_getD, show k < len by omega]
    · subst hx
      have h1 := bulk_len (H := H) (lits .i64 (zs.take len))
      have h2 : (lits (H := H) .i64 (zs.take len)).length = (zs.take len).length := by simp [lits]
      simp only [Rows.uptoBulk]
      omega

set_option maxRecDepth 100000 in
theorem open_flow4B {fuel : Nat} {cs : List Value} {x : DataW H × List MemPlace} (h : DataW.trod enc Try.prog W 0 (fun _ => true) true fuel 91 cs = some x) :
    ∃ (f : Stf.Fl) (v n : Value), cs = [.int .i64 f.fr, .int .i64 f.to, v, n] ∧ Fw.FV W f.via v ∧ Fw.FV W f.nt n ∧ f.via.length ≤ Rows.uptoBulk x.1 ∧ f.nt.length ≤ Rows.uptoBulk x.1 := by
  obtain ⟨y0, y1, y2, y3, n', rfl, hlen, t0, t1, t2, t3⟩ := trod_struct4 Try.underlying91 h
  rw [Try.cells28] at hlen
  obtain ⟨c0, c1, c2, c3, rfl⟩ : ∃ c0 c1 c2 c3, cs = [c0, c1, c2, c3] := four_of hlen
  obtain ⟨a0, e0, _, w0⟩ := DataW.trod_int Try.underlying3 t0
  obtain ⟨a1, e1, _, w1⟩ := DataW.trod_int Try.underlying3 t1
  obtain ⟨X, vo, vc, e2, hvl, hvb, hvc, _⟩ := open_listB Try.underlying26 t2
  obtain ⟨Y, no, nc, e3, hnl, hnb, hnc, _⟩ := open_listB Try.underlying26 t3
  simp [Try.cells3, Try.cells26] at e0 e1 e2 e3
  subst e0 e1 e2 e3
  have p2 := bulk_part (H := H) (d := y2.1) (l := [y0.1, y1.1, y2.1, y3.1]) (by simp)
  have p3 := bulk_part (H := H) (d := y3.1) (l := [y0.1, y1.1, y2.1, y3.1]) (by simp)
  exact ⟨⟨a0, a1, X, Y⟩, _, _, rfl, ⟨vo, vc, rfl, hvl, hvc⟩, ⟨no, nc, rfl, hnl, hnc⟩, by simp only [Rows.uptoBulk]; omega, by simp only [Rows.uptoBulk]; omega⟩

set_option maxRecDepth 100000 in
theorem open_flowsB {fuel : Nat} {cs : List Value} {x : DataW H × List MemPlace} (h : DataW.trod enc Try.prog W 0 (fun _ => true) true fuel 22 cs = some x) :
    ∃ (ao : Option Addr) (cap : Nat) (fs : List Stf.Fl), cs = [.slice ao fs.length cap] ∧ Fw.FlowsAt W ao fs ∧ fs.length ≤ Rows.uptoBulk x.1 ∧ (∀ f ∈ fs, f.via.length ≤ Rows.uptoBulk x.1 ∧ f.nt.length ≤ Rows.uptoBulk x.1) := by
  rcases open_slice Try.underlying22 h with ⟨hcs, _⟩ | ⟨a, len, cap, m, n, D, Pl, hcs, _, hl, hm, hmm, hx, hel⟩
  · exact ⟨none, 0, [], hcs, Or.inl rfl, Nat.zero_le _, fun f hf => by cases hf⟩
  · have hmc : m = cap := by simpa using hmm
    have hfam : ∀ i, i < len → ∃ q : (Int × Int × List Int × List Int) × Value × Value, (W.cell? (a.add (i * 4)) = some (.int .i64 q.1.1) ∧ W.cell? ((a.add (i * 4)).add 1) = some (.int .i64 q.1.2.1) ∧ W.cell? ((a.add (i * 4)).add 2) = some q.2.1 ∧ W.cell? ((a.add (i * 4)).add 3) = some q.2.2) ∧
        Fw.FV W q.1.2.2.1 q.2.1 ∧ Fw.FV W q.1.2.2.2 q.2.2 ∧ q.1.2.2.1.length ≤ Rows.uptoBulk x.1 ∧ q.1.2.2.2.length ≤ Rows.uptoBulk x.1 := by
      intro i hi
      obtain ⟨cs', hcell, htr⟩ := hel i (by omega)
      rw [Try.cells28] at hcell
      obtain ⟨f, v, nv, hc, h1, h2, h3, h4⟩ := open_flow4B htr
      have hb : Rows.uptoBulk (D i) ≤ Rows.uptoBulk x.1 := by rw [hx]; exact bulk_elem _ hi
      exact ⟨((f.fr, f.to, f.via, f.nt), v, nv), cells4_inv hcell hc, h1, h2, Nat.le_trans h3 hb, Nat.le_trans h4 hb⟩
    have : Inhabited ((Int × Int × List Int × List Int) × Value × Value) := ⟨((0, 0, [], []), .int .i64 0, .int .i64 0)⟩
    obtain ⟨F, hF⟩ := choose_lt hfam
    have hget : ∀ k (h : k < ((List.range len).map (fun i => (⟨(F i).1.1, (F i).1.2.1, (F i).1.2.2.1, (F i).1.2.2.2⟩ : Stf.Fl))).length), ((List.range len).map (fun i => (⟨(F i).1.1, (F i).1.2.1, (F i).1.2.2.1, (F i).1.2.2.2⟩ : Stf.Fl)))[k] = ⟨(F k).1.1, (F k).1.2.1, (F k).1.2.2.1, (F k).1.2.2.2⟩ := fun k h => by simp
    refine ⟨some a, cap, (List.range len).map (fun i => ⟨(F i).1.1, (F i).1.2.1, (F i).1.2.2.1, (F i).1.2.2.2⟩), by simpa using hcs, ?_, ?_, fun f hf => ?_⟩
    · by_cases h0 : len = 0
      · exact Or.inl (by simp [h0])
      · obtain ⟨b, off, spot⟩ := a
        have hc := (hF 0 (by omega)).1.1
        have hspot : spot = none := by simpa [Addr.add] using World.cell?_spot hc
        subst hspot
        refine Or.inr ⟨b, off, rfl, by have := cell_lt hc; simpa [Addr.add] using this, fun k hk => ?_⟩
        have hk' : k < len := by simpa using hk
        obtain ⟨⟨g0, g1, g2, g3⟩, hv, hn, _⟩ := hF k hk'
        have e0 : (⟨b, off, none⟩ : Addr).add (k * 4) = ⟨b, off + k * 4, none⟩ := by
          unfold Addr.add
          split
          · simp_all
          · rfl
        rw [e0] at g0 g1 g2 g3
        rw [hget k hk]
        exact ⟨_, _, g0, by simpa [Addr.add] using g1, by simpa [Addr.add] using g2, by simpa [Addr.add] using g3, hv, hn⟩
    · have hb2 := bulk_len (H := H) ((List.range len).map D)
      simp only [List.length_map, List.length_range] at hb2 ⊢
      rw [hx]; simp only [Rows.uptoBulk]; omega
    · obtain ⟨k, hk, rfl⟩ := List.mem_map.1 hf
      have hk' : k < len := by simpa using hk
      exact (hF k hk').2.2.2

set_option maxRecDepth 100000 in
theorem open_pthsB {fuel : Nat} {cs : List Value} {x : DataW H × List MemPlace} (h : DataW.trod enc Try.prog W 0 (fun _ => true) true fuel 23 cs = some x) :
    ∃ (ao : Option Addr) (cap : Nat) (ps : List (List Int)), cs = [.slice ao ps.length cap] ∧ PthsAt W ao ps ∧ ps.length ≤ Rows.uptoBulk x.1 ∧ (ps.map List.length).sum ≤ Rows.uptoBulk x.1 := by
  rcases open_slice Try.underlying23 h with ⟨hcs, _⟩ | ⟨a, len, cap, m, n, D, Pl, hcs, _, hl, hm, hmm, hx, hel⟩
  · exact ⟨none, 0, [], hcs, Or.inl rfl, Nat.zero_le _, Nat.zero_le _⟩
  · have hmc : m = cap := by simpa using hmm
    have hfam : ∀ i, i < len → ∃ ps : List Int, ∃ ao cap, W.cell? (a.add (i * 1)) = some (.slice ao ps.length cap) ∧ ListAt W ao ps ∧ ps.length ≤ cap ∧ ps.length ≤ Rows.uptoBulk (D i) := by
      intro i hi
      obtain ⟨cs', hcell, htr⟩ := hel i (by omega)
      rw [Try.cellsPt] at hcell
      obtain ⟨ps, ao, c', h1, h2, h3, h4, _⟩ := open_listB Try.underlying105 htr
      exact ⟨ps, ao, c', cells1_inv hcell h1, h2, h4, h3⟩
    obtain ⟨F, hF⟩ := choose_lt hfam
    have hb := tot_bulk F D len (fun i hi => by obtain ⟨_, _, _, _, _, h⟩ := hF i hi; exact h) len (Nat.le_refl _)
    have hb2 := bulk_len (H := H) ((List.range len).map D)
    simp only [List.length_map, List.length_range] at hb2
    have htt := Ct.tot_sum ((List.range len).map F)
    simp only [List.length_map, List.length_range] at htt
    rw [htt] at hb
    refine ⟨some a, cap, (List.range len).map F, by simpa using hcs, ?_, ?_, ?_⟩
    · by_cases h0 : len = 0
      · exact Or.inl (by simp [h0])
      · obtain ⟨b, off, spot⟩ := a
        obtain ⟨ao0, c0, hc, _⟩ := hF 0 (by omega)
        have hspot : spot = none := by simpa [Addr.add] using World.cell?_spot hc
        subst hspot
        refine Or.inr ⟨b, off, rfl, by have := cell_lt hc; simpa [Addr.add] using this, fun k hk => ?_⟩
        simp only [List.length_map, List.length_range] at hk
        obtain ⟨ao, c', g0, g1, g2, _⟩ := hF k hk
        have e0 : (⟨b, off, none⟩ : Addr).add (k * 1) = ⟨b, off + k, none⟩ := by
          unfold Addr.add
          split
          · simp_all
          · simp
        rw [e0] at g0
        have e1 : ((List.range len).map F).getD k [] = F k := by simp [List.getD_eq_getElem?_getD, hk]
        rw [e1]
        exact ⟨_, g0, ao, c', rfl, g1, g2⟩
    · rw [hx]; simp only [Rows.uptoBulk, List.length_map, List.length_range]; omega
    · rw [hx]; simp only [Rows.uptoBulk]; omega

set_option maxRecDepth 100000 in
theorem open_planC {fuel : Nat} {cs : List Value} {x : DataW H × List MemPlace} (h : DataW.trod enc Try.prog W 0 (fun _ => true) true fuel 25 cs = some x) (hb : Rows.uptoBulk x.1 ≤ 1048576) :
    ∃ (p : Ct.Pl) (a : Ct.PA), cs = [.int .i64 p.v, .slice a.fo p.fs.length a.fc, .slice a.qo p.ps.length a.qc] ∧ Ct.PlAt W p a ∧ Ct.PlOk p := by
  obtain ⟨y0, y1, y2, n', rfl, hlen, t0, t1, t2⟩ := trod_struct3 Try.underlying25 h
  rw [Try.cellsPl] at hlen
  obtain ⟨c0, c1, c2, rfl⟩ : ∃ c0 c1 c2, cs = [c0, c1, c2] := by
    match cs, hlen with
    | [c0, c1, c2], _ => exact ⟨c0, c1, c2, rfl⟩
  have p1 := bulk_part (H := H) (d := y1.1) (l := [y0.1, y1.1, y2.1]) (by simp)
  have p2 := bulk_part (H := H) (d := y2.1) (l := [y0.1, y1.1, y2.1]) (by simp)
  simp only [Rows.uptoBulk] at hb
  obtain ⟨n, e0, _, _⟩ := DataW.trod_int Try.underlying3 t0
  obtain ⟨fo, fc, fs, e1, hf, hfl, hfx⟩ := open_flowsB t1
  obtain ⟨qo, qc, ps, e2, hq, hql, hqt⟩ := open_pthsB t2
  have k1 : Try.prog.cellsOf 22 = 1 := by kernel_rfl
  have k2 : Try.prog.cellsOf 23 = 1 := by kernel_rfl
  simp [Try.cells3, k1, k2] at e0 e1 e2
  subst e0 e1 e2
  exact ⟨⟨n, fs, ps⟩, ⟨fo, qo, fc, qc⟩, rfl, ⟨hf, hq⟩, ⟨by simp only; omega, fun f h => by obtain ⟨u1, u2⟩ := hfx f h; omega, by simp only; omega, by simp only; omega⟩⟩

set_option maxRecDepth 100000 in
/-- A control that came in. -/
theorem open_control {b0 : Nat} {v : Value} {d : DataW H} {p : List MemPlace} (hv : Value.okWide Try.prog W .any b0 28 v) (h : DataW.Trod enc Try.prog W 0 (fun _ => true) true 28 v d p) (hb : Rows.uptoBulk d ≤ 1048576) :
    ∃ (c : Ct.Co) (a : Ct.CA), v = Ct.cvl c a ∧ Ct.CoAt W c a ∧ Ct.CoOk c ∧ c.wts.length ≤ 1048576 ∧ (a.wo = none → a.wc = 0) := by
  obtain ⟨cs, rfl, hsz⟩ := okWide_struct Try.underlying28 hv
  have hsz9 : cs.size = 9 := hsz.trans Try.cellsCo
  obtain ⟨c0, c1, c2, c3, c4, c5, c6, c7, c8, rfl⟩ : ∃ c0 c1 c2 c3 c4 c5 c6 c7 c8, cs = #[c0, c1, c2, c3, c4, c5, c6, c7, c8] := by
    obtain ⟨l⟩ := cs
    match l, hsz9 with
    | [c0, c1, c2, c3, c4, c5, c6, c7, c8], _ => exact ⟨c0, c1, c2, c3, c4, c5, c6, c7, c8, rfl⟩
  obtain ⟨fuel, hf⟩ := h
  obtain ⟨xs, n, _, hx, _, hlen, hfe⟩ := DataW.trod_struct Try.underlying28 hf
  obtain ⟨y0, y1, y2, y3, y4, rfl⟩ : ∃ y0 y1 y2 y3 y4, xs = [y0, y1, y2, y3, y4] := by
    match xs, hlen with
    | [y0, y1, y2, y3, y4], _ => exact ⟨y0, y1, y2, y3, y4, rfl⟩
  simp only [Prod.mk.injEq] at hx
  have hd : d = .agg [y0.1, y1.1, y2.1, y3.1, y4.1] := by simpa using hx.1
  subst hd
  simp only [Rows.uptoBulk] at hb
  have p1 := bulk_part (H := H) (d := y1.1) (l := [y0.1, y1.1, y2.1, y3.1, y4.1]) (by simp)
  have p2 := bulk_part (H := H) (d := y2.1) (l := [y0.1, y1.1, y2.1, y3.1, y4.1]) (by simp)
  have p4 := bulk_part (H := H) (d := y4.1) (l := [y0.1, y1.1, y2.1, y3.1, y4.1]) (by simp)
  have k := Try.cellsPl
  have t0 := hfe 0 _ rfl
  have t1 := hfe 1 _ rfl
  have t2 := hfe 2 _ rfl
  have t3 := hfe 3 _ rfl
  have t4 := hfe 4 _ rfl
  simp [Value.cells, Try.cells3, Try.cells26, k] at t0 t1 t2 t3 t4
  obtain ⟨st, e0, _, _⟩ := DataW.trod_int Try.underlying3 t0
  obtain ⟨pn, an, e1, hn, hnk⟩ := open_planC t1 (by omega)
  obtain ⟨px, ax, e2, hxx, hxk⟩ := open_planC t2 (by omega)
  obtain ⟨num, e3, _, _⟩ := DataW.trod_int Try.underlying3 t3
  obtain ⟨ws, wo, wc, e4, hw, hwl, _, hwn⟩ := open_listB Try.underlying26 t4
  simp at e0 e1 e2 e3 e4
  obtain ⟨rfl, rfl, rfl⟩ := e1
  obtain ⟨rfl, rfl, rfl⟩ := e2
  subst e0 e3 e4
  exact ⟨⟨st, pn, px, num, ws⟩, ⟨an, ax, wo, wc⟩, rfl, ⟨hn, hxx, hw⟩, ⟨hnk, hxk, by simp only; omega⟩, by simp only; omega, hwn⟩

set_option maxRecDepth 100000 in
theorem open_linksB {fuel : Nat} {cs : List Value} {x : DataW H × List MemPlace} (h : DataW.trod enc Try.prog W 0 (fun _ => true) true fuel 29 cs = some x) :
    ∃ (ao : Option Addr) (len cap : Nat) (ls : List Lk), cs = [.slice ao len cap] ∧ ls.length = len ∧ NetAt W ao ls ∧ (∀ l ∈ ls, I64 l.a ∧ I64 l.b ∧ I64 l.c) ∧ len ≤ cap ∧ cap ≤ 9223372036854775807 := by
  rcases open_slice Try.underlying29 h with ⟨hcs, _⟩ | ⟨a, len, cap, m, n, D, Pl, hcs, _, hl, hm, hmm, hx, hel⟩
  · exact ⟨none, 0, 0, [], hcs, rfl, Or.inl rfl, fun y hy => (by cases hy), by omega, by omega⟩
  · have hmc : m = cap := by simpa using hmm
    have hfam : ∀ i, i < len → ∃ l : Int × Int × Int, (W.cell? (a.add (i * 3)) = some (.int .i64 l.1) ∧ W.cell? ((a.add (i * 3)).add 1) = some (.int .i64 l.2.1) ∧ W.cell? ((a.add (i * 3)).add 2) = some (.int .i64 l.2.2)) ∧ I64 l.1 ∧ I64 l.2.1 ∧ I64 l.2.2 := by
      intro i hi
      obtain ⟨cs', hcell, htr⟩ := hel i (by omega)
      rw [Try.cells43] at hcell
      obtain ⟨y0, y1, y2, n', _, hlen, t0, t1, t2⟩ := trod_struct3 Try.underlying123 htr
      rw [Try.cells43] at hlen
      match cs', hlen with
      | [c0, c1, c2], _ =>
        obtain ⟨a0, e0, _, w0⟩ := DataW.trod_int Try.underlying3 t0
        obtain ⟨a1, e1, _, w1⟩ := DataW.trod_int Try.underlying3 t1
        obtain ⟨a2, e2, _, w2⟩ := DataW.trod_int Try.underlying3 t2
        simp [Try.cells3] at e0 e1 e2
        subst e0 e1 e2
        exact ⟨(a0, a1, a2), cells3_inv hcell rfl, w0, w1, w2⟩
    obtain ⟨F, hF⟩ := choose_lt hfam
    refine ⟨some a, len, cap, (List.range len).map (fun i => ⟨(F i).1, (F i).2.1, (F i).2.2⟩), hcs, by simp, ?_, ?_, hl, by unfold maxLen at hm; omega⟩
    · by_cases h0 : len = 0
      · exact Or.inl (by simp [h0])
      · obtain ⟨b, off, spot⟩ := a
        have hc := (hF 0 (by omega)).1.1
        have hspot : spot = none := by simpa [Addr.add] using World.cell?_spot hc
        subst hspot
        refine Or.inr ⟨b, off, rfl, by have := cell_lt hc; simpa [Addr.add] using this, fun k hk => ?_⟩
        simp only [List.length_map, List.length_range] at hk
        obtain ⟨⟨g0, g1, g2⟩, _⟩ := hF k hk
        have e0 : (⟨b, off, none⟩ : Addr).add (k * 3) = ⟨b, off + k * 3, none⟩ := by
          unfold Addr.add
          split
          · simp_all
          · rfl
        rw [e0] at g0 g1 g2
        have e1 : ((List.range len).map (fun i => (⟨(F i).1, (F i).2.1, (F i).2.2⟩ : Lk))).getD k lk0 = ⟨(F k).1, (F k).2.1, (F k).2.2⟩ := by simp [List.getD_eq_getElem?_getD, hk]
        rw [e1]
        exact ⟨g0, by simpa [Addr.add] using g1, by simpa [Addr.add] using g2⟩
    · intro l hlm
      simp only [List.mem_map, List.mem_range] at hlm
      obtain ⟨i, hi, rfl⟩ := hlm
      exact (hF i hi).2

set_option maxRecDepth 100000 in
/-- A net that came in. -/
theorem open_topoB {b0 : Nat} {v : Value} {d : DataW H} {p : List MemPlace} (hv : Value.okWide Try.prog W .any b0 31 v) (h : DataW.Trod enc Try.prog W 0 (fun _ => true) true 31 v d p) :
    ∃ (n : Int) (ao : Option Addr) (len cap : Nat) (ls : List Lk), v = .agg #[.int .i64 n, .slice ao len cap] ∧ I64 n ∧ ls.length = len ∧ NetAt W ao ls ∧ len ≤ cap ∧ cap ≤ 9223372036854775807 := by
  obtain ⟨c0, c1, y0, y1, m, rfl, rfl, rfl, hy0, hy1⟩ := open_agg2 Try.underlying31 (by kernel_rfl) Try.cells24 hv h
  obtain ⟨n, e0, _, w0⟩ := DataW.trod_int Try.underlying3 hy0
  obtain ⟨ao, len, cap, ls, e1, r1, r2, _, r3⟩ := open_linksB hy1
  simp at e0 e1
  subst e0 e1
  exact ⟨n, ao, len, cap, ls, rfl, w0, r1, r2, r3⟩

end

end Go.Proofs.Ytgffkjjddhlbpaa

namespace Go.Proofs.Ytgffkjjddhlbpaa.controlTells
open Go.ChangeShapes Go.WideShapes Go.ChangeAt Go.RowKit Go.ChangeMaps Stw

set_option maxRecDepth 100000 in
theorem contract (H : Type) (enc : TypeId × Value → H) (W : World) (base : Nat) (args : Array Value) (ds gs : List (DataW H)) (before : List MemPlace)
    (hval : ∀ (j : Nat) t v, Try.f3.params[j]? = some t → args[j]? = some v → Value.okWide Try.prog W .any base t v)
    (hW : DataW.Whole enc Try.prog Try.f3.params.toList Rows.controlTellsSpec.vars false W args.toList ds gs before) (hk : Rows.uptoSmall H (ds ++ gs) = true) :
    Calls Try.prog 3 args W fun e W' => ∃ v, e = .returned v ∧ Rows.controlTellsSpec.post enc Try.prog Try.f3 false true false false W args v W' := by
  have hW' := hW
  obtain ⟨p, q, hA0, hV, rfl, hfz, hnd⟩ := hW
  have hA : DataW.TrodAll enc Try.prog W 0 (fun _ => true) true Try.f3.params.toList args.toList ds p := hA0
  rw [Try.params3] at hA hval
  obtain ⟨v0, vs0, d0, ds0, p0, q0, hargs, rfl, rfl, h0, r0⟩ := trodAll_cons hA
  obtain ⟨v1, vs1, d1, ds1, p1, q1, rfl, rfl, rfl, h1, r1⟩ := trodAll_cons r0
  obtain ⟨v2, vs2, d2, ds2, p2, q2, rfl, rfl, rfl, h2, r2⟩ := trodAll_cons r1
  obtain ⟨v3, vs3, d3, ds3, p3, q3, rfl, rfl, rfl, h3, r3⟩ := trodAll_cons r2
  obtain ⟨rfl, rfl, rfl⟩ := trodAll_nil r3
  obtain rfl : args = #[v0, v1, v2, v3] := by cases args; simp_all
  obtain ⟨rfl, rfl⟩ := trodVars_none hV
  have hb : Rows.uptoBulkAll [d0, d1, d2, d3] ≤ 1048576 := of_decide_eq_true hk
  have hb0 : Rows.uptoBulk d0 ≤ 1048576 := Nat.le_trans (bulk_part (by simp)) hb
  have hb2 : Rows.uptoBulk (d2, p2).1 ≤ 1048576 := Nat.le_trans (bulk_part (by simp)) hb
  have k0 := h0
  have k1 := h1
  have k2 := h2
  have lt0 : ∀ x ∈ p0, x.block < W.heap.size := by obtain ⟨m, hm⟩ := k0; exact DataW.trod_lt m _ _ _ hm
  have lt1 : ∀ x ∈ p1, x.block < W.heap.size := by obtain ⟨m, hm⟩ := k1; exact DataW.trod_lt m _ _ _ hm
  have lt2 : ∀ x ∈ p2, x.block < W.heap.size := by obtain ⟨m, hm⟩ := k2; exact DataW.trod_lt m _ _ _ hm
  obtain ⟨c, a, rfl, hca, hok, hwb, hwn⟩ := open_control (hval 0 28 v0 rfl rfl) h0 hb0
  obtain ⟨n, ao, len, cap, ls, rfl, hI, hlen, hnet, hcap, hcm⟩ := open_topoB (hval 1 31 v1 rfl rfl) h1
  obtain ⟨po2, pl2, pc2, rfl⟩ := okWide_slice Try.underlying22 (hval 2 22 v2 rfl rfl)
  obtain ⟨fuel2, hf2⟩ := h2
  obtain ⟨po2', pc2', fs, ecs2, hfa, hfl, hfx⟩ := open_flowsB hf2
  simp [Value.cells] at ecs2
  obtain ⟨rfl, rfl, rfl⟩ := ecs2
  obtain ⟨u, rfl, rfl, rfl, wu⟩ := open_int Try.underlying3 (hval 3 3 v3 rfl rfl) h3
  clear hA0
  have hS : Fw.Sm fs := fun k hk => by obtain ⟨u1, u2⟩ := hfx _ (List.getElem_mem hk); omega
  refine (Ct.controlTells_any c a n u ao len cap ls po2 pc2 fs W hca hok hwb hwn hlen hnet (by omega) hcap hI hfa hS (by omega)).mono fun e W' ⟨he, bel0⟩ => ?_
  subst he
  have bel : Below W.heap.size W W' := bel0
  exact ⟨_, rfl, _, _, _, [], _, [], hW', trodAll_mk1 (shut_bool Try.underlying4 _), trodAll_cons_mk (Below.trod Try.laidOut (by kernel_rfl) (of_decide_eq_true (by kernel_rfl)) k0 bel lt0) (trodAll_cons_mk (Below.trod Try.laidOut (by kernel_rfl) (of_decide_eq_true (by kernel_rfl)) k1 bel lt1) (trodAll_cons_mk (Below.trod Try.laidOut (by kernel_rfl) (of_decide_eq_true (by kernel_rfl)) k2 bel lt2) (trodAll_cons_mk (shut_int Try.underlying3 wu) trodAll_mk0))), rfl, bel.frame _, fun h => by cases h⟩

theorem laid_met (os : Os) : laidMet Try.prog Rows.controlTellsUptoRow.laid ((World.laidAll Try.prog os Rows.controlTellsUptoRow.laid).forCall (fun _ _ => 0) ⟨#[], #[.agg #[.int .i64 0, .int .i64 0, .slice none 0 0, .slice none 0 0, .int .i64 0, .slice none 0 0, .slice none 0 0, .int .i64 0, .slice none 0 0], .agg #[.int .i64 0, .slice none 0 0], .slice none 0 0, .int .i64 0], []⟩).memory :=
  laidMet_laidAll _ (by kernel_rfl) (by kernel_rfl)
theorem reads (os : Os) {H : Type} (enc : TypeId × Value → H) : ∃ places, DataW.whole enc Try.prog ((World.laidAll Try.prog os Rows.controlTellsUptoRow.laid).forCall (fun _ _ => 0) ⟨#[], #[.agg #[.int .i64 0, .int .i64 0, .slice none 0 0, .slice none 0 0, .int .i64 0, .slice none 0 0, .slice none 0 0, .int .i64 0, .slice none 0 0], .agg #[.int .i64 0, .slice none 0 0], .slice none 0 0, .int .i64 0], []⟩).memory Try.f3.params.toList Rows.controlTellsSpec.vars false #[Value.agg #[.int .i64 0, .int .i64 0, .slice none 0 0, .slice none 0 0, .int .i64 0, .slice none 0 0, .slice none 0 0, .int .i64 0, .slice none 0 0], .agg #[.int .i64 0, .slice none 0 0], .slice none 0 0, .int .i64 0].toList 8 = some ([.agg [.lit (.int .i64 0), .agg [.lit (.int .i64 0), .nil, .nil], .agg [.lit (.int .i64 0), .nil, .nil], .lit (.int .i64 0), .nil], .agg [.lit (.int .i64 0), .nil], .nil, .lit (.int .i64 0)], [], places) :=
  ⟨[], by kernel_rfl⟩

set_option maxRecDepth 100000 in
theorem lifted (os : Os) (started : os.Started) (H : Type) (enc : TypeId × Value → H) (F : Stop.Interp) :
    ReturnsInHanded {} Try.checked os 3 .any ((Rows.OpenSpec.upto Rows.controlTellsSpec).preRow enc Try.prog Try.f3 Rows.controlTellsUptoRow.domain false Rows.controlTellsUptoRow.laid) (((Rows.OpenSpec.upto Rows.controlTellsSpec).at F).post enc Try.prog Try.f3 false true false false) := by
  obtain ⟨places, hx⟩ := reads os enc
  refine returnsInHanded_of_row (C := Try.checked) (s := Rows.OpenSpec.upto Rows.controlTellsSpec) Try.own started (by kernel_rfl) Try.func3
    (witness_row_at (enc := enc) (C := Try.checked) false (World.laidAll Try.prog os Rows.controlTellsUptoRow.laid) #[.agg #[.int .i64 0, .int .i64 0, .slice none 0 0, .slice none 0 0, .int .i64 0, .slice none 0 0, .slice none 0 0, .int .i64 0, .slice none 0 0], .agg #[.int .i64 0, .slice none 0 0], .slice none 0 0, .int .i64 0] (World.laidAll_os _ _ _) (by kernel_rfl) (by kernel_rfl) (by kernel_rfl)
      (OpenSpec.preRow_of_cond 8 hx (by kernel_rfl) (fun k hk => by cases hk; kernel_rfl) (by kernel_rfl) (laid_met os))) ?_
  intro W base args ds gs before hval hW _ hcond _ _ _ _
  exact contract H enc W base args ds gs before hval hW (hcond _ rfl)

end Go.Proofs.Ytgffkjjddhlbpaa.controlTells
namespace Go.Proofs.Ytgffkjjddhlbpaa
open Go.ChangeShapes Go.WideShapes Go.ChangeAt Go.RowKit Go.ChangeMaps Stw

theorem controlTells_holds : Rows.ControlTellsUptoSaid :=
  OpenClaim.holds_of_cond 3 Try.f3 rfl rfl rfl rfl rfl rfl rfl ⟨rfl, rfl, rfl, rfl, rfl⟩ rfl rfl rfl rfl rfl (by kernel_rfl) Try.func3 (by kernel_rfl)
    (of_decide_eq_true (by kernel_rfl)) (by unfold Func.isWrapper; first | (rw [if_pos (by decide +kernel)]; kernel_rfl) | (rw [if_neg (by decide +kernel)]; exact ⟨rfl, rfl⟩))
    (fun os started H enc _ F => by rw [OpenClaim.pre_eq_preRow]; exact controlTells.lifted os started H enc F)

#print axioms controlTells_holds
end Go.Proofs.Ytgffkjjddhlbpaa
