/- How a net and a list of numbers that came in are read. -/
import Derived.Test.YtdiknngmepjncacI1
import Derived.ProofKit
import Derived.OpenShut
import Derived.ChangeOld
import Derived.SizedLaws
import Derived.Deep.Slices
import Derived.Deep.Strs
import Derived.Lib.SmallJoins
namespace Go.Proofs.Ytdiknngmepjncac
open Go.ChangeShapes Go.WideShapes Go.ChangeAt Go.RowKit Go.Deep Go.Joins Stw

theorem Try.own : ownKnob Try.prog.godebug = none := by kernel_rfl
theorem Try.cells24 : Try.prog.cellsOf 24 = 2 := by kernel_rfl
theorem Try.cells43 : Try.prog.cellsOf 85 = 3 := by kernel_rfl
theorem Try.bytes3 : Try.prog.bytesOf 3 = 8 := by kernel_rfl
theorem Try.bytes43 : Try.prog.bytesOf 85 = 24 := by kernel_rfl

theorem cell_lt {w : World} {a : Addr} {v : Value} (h : w.cell? a = some v) : a.block < w.heap.size := by
  rcases Nat.lt_or_ge a.block w.heap.size with h1 | h1
  · exact h1
  · have : w.heap[a.block]? = none := by simp [h1]
    simp [World.cell?, this] at h

section
variable {H : Type} {enc : TypeId × Value → H} {W : World}

set_option maxRecDepth 100000 in
theorem open_list {t : TypeId} (ht : Try.prog.underlying t = some (.slice 3)) {fuel : Nat} {cs : List Value} {x : DataW H × List MemPlace} (h : DataW.trod enc Try.prog W 0 (fun _ => true) true fuel t cs = some x)
    (hw : ∀ m ∈ x.1.weights Try.prog t, m ≤ reachBytes) :
    ∃ (ao : Option Addr) (len cap : Nat) (ps : List Int), cs = [.slice ao len cap] ∧ ps.length = len ∧ ListAt W ao ps ∧ (∀ y ∈ ps, I64 y) ∧ len * 8 ≤ 140737488351232 ∧ len ≤ cap ∧ cap ≤ 9223372036854775807 := by
  rcases open_ints ht Try.underlying3 Try.cells3 h with ⟨hcs, _⟩ | ⟨a, len, cap, zs, hcs, _, hl, hm, hz, hx, hcell, hwz⟩
  · exact ⟨none, 0, 0, [], hcs, rfl, Or.inl rfl, fun y hy => (by cases hy), by omega, by omega, by omega⟩
  · have hz' : zs.length = cap := by simpa using hz
    refine ⟨some a, len, cap, zs.take len, hcs, by simp; omega, ?_, fun y hy => hwz y (List.mem_of_mem_take hy), ?_, hl, by unfold maxLen at hm; omega⟩
    · by_cases h0 : len = 0
      · exact Or.inl (by simp [h0])
      · obtain ⟨b, off, spot⟩ := a
        have hc := hcell 0 (by omega)
        have hspot : spot = none := by simpa [Addr.add] using World.cell?_spot hc
        subst hspot
        refine Or.inr ⟨b, off, rfl, by have := cell_lt hc; simpa [Addr.add] using this, fun k hk => ?_⟩
        simp only [List.length_take] at hk
        have := hcell k (by omega)
        have e1 : (⟨b, off, none⟩ : Addr).add k = ⟨b, off + k, none⟩ := by
          unfold Addr.add
          split
          · simp_all
          · rfl
        rw [e1] at this
        rw [this]
        simp [List.getD_eq_getElem?_getD, show k < len by omega]
    · subst hx
      have := hw ((zs.take len).length * 8 + (zs.drop len).length * 8) (by simp [DataW.weights, ht, Try.bytes3, lits]; left; omega)
      simp [reachBytes] at this
      omega

theorem cells3_inv {w : World} {a : Addr} {cs : List Value} {x y z : Value} (h : w.cells? 0 a 3 = some cs) (e : cs = [x, y, z]) : w.cell? a = some x ∧ w.cell? (a.add 1) = some y ∧ w.cell? (a.add 2) = some z := by
  obtain ⟨_, _, hc⟩ := World.cells?_some h
  subst e
  exact ⟨by simpa [Addr.add] using hc 0 (by omega), hc 1 (by omega), hc 2 (by omega)⟩

set_option maxRecDepth 100000 in
theorem open_links {fuel : Nat} {cs : List Value} {x : DataW H × List MemPlace} (h : DataW.trod enc Try.prog W 0 (fun _ => true) true fuel 22 cs = some x) (hw : ∀ m ∈ x.1.weights Try.prog 22, m ≤ reachBytes) :
    ∃ (ao : Option Addr) (len cap : Nat) (ls : List Lk), cs = [.slice ao len cap] ∧ ls.length = len ∧ NetAt W ao ls ∧ (∀ l ∈ ls, I64 l.a ∧ I64 l.b ∧ I64 l.c) ∧ len * 24 ≤ 140737488351232 ∧ len ≤ cap ∧ cap ≤ 9223372036854775807 := by
  rcases open_slice Try.underlying22 h with ⟨hcs, _⟩ | ⟨a, len, cap, m, n, D, Pl, hcs, _, hl, hm, hmm, hx, hel⟩
  · exact ⟨none, 0, 0, [], hcs, rfl, Or.inl rfl, fun y hy => (by cases hy), by omega, by omega, by omega⟩
  · have hmc : m = cap := by simpa using hmm
    have hfam : ∀ i, i < len → ∃ l : Int × Int × Int, (W.cell? (a.add (i * 3)) = some (.int .i64 l.1) ∧ W.cell? ((a.add (i * 3)).add 1) = some (.int .i64 l.2.1) ∧ W.cell? ((a.add (i * 3)).add 2) = some (.int .i64 l.2.2)) ∧ I64 l.1 ∧ I64 l.2.1 ∧ I64 l.2.2 := by
      intro i hi
      obtain ⟨cs', hcell, htr⟩ := hel i (by omega)
      rw [Try.cells43] at hcell
      obtain ⟨y0, y1, y2, n', _, hlen, t0, t1, t2⟩ := trod_struct3 Try.underlying85 htr
      rw [Try.cells43] at hlen
      match cs', hlen with
      | [c0, c1, c2], _ =>
        obtain ⟨a0, e0, _, w0⟩ := DataW.trod_int Try.underlying3 t0
        obtain ⟨a1, e1, _, w1⟩ := DataW.trod_int Try.underlying3 t1
        obtain ⟨a2, e2, _, w2⟩ := DataW.trod_int Try.underlying3 t2
        simp [Try.cells3] at e0 e1 e2
        subst e0 e1 e2
        exact ⟨(a0, a1, a2), cells3_inv hcell rfl, w0, w1, w2⟩
    obtain ⟨F, hF⟩ := choose_lt hfam
    refine ⟨some a, len, cap, (List.range len).map (fun i => ⟨(F i).1, (F i).2.1, (F i).2.2⟩), hcs, by simp, ?_, ?_, ?_, hl, by unfold maxLen at hm; omega⟩
    · by_cases h0 : len = 0
      · exact Or.inl (by simp [h0])
      · obtain ⟨b, off, spot⟩ := a
        have hc := (hF 0 (by omega)).1.1
        have hspot : spot = none := by simpa [Addr.add] using World.cell?_spot hc
        subst hspot
        refine Or.inr ⟨b, off, rfl, by have := cell_lt hc; simpa [Addr.add] using this, fun k hk => ?_⟩
        simp only [List.length_map, List.length_range] at hk
        obtain ⟨⟨g0, g1, g2⟩, _⟩ := hF k hk
        have e0 : (⟨b, off, none⟩ : Addr).add (k * 3) = ⟨b, off + k * 3, none⟩ := by
          unfold Addr.add
          split
          · simp_all
          · rfl
        rw [e0] at g0 g1 g2
        have e1 : ((List.range len).map (fun i => (⟨(F i).1, (F i).2.1, (F i).2.2⟩ : Lk))).getD k lk0 = ⟨(F k).1, (F k).2.1, (F k).2.2⟩ := by simp [List.getD_eq_getElem?_getD, hk]
        rw [e1]
        exact ⟨g0, by simpa [Addr.add] using g1, by simpa [Addr.add] using g2⟩
    · intro l hlm
      simp only [List.mem_map, List.mem_range] at hlm
      obtain ⟨i, hi, rfl⟩ := hlm
      exact (hF i hi).2
    · subst hx
      have := hw ((len + (m - len)) * 24) (by simp [DataW.weights, Try.underlying22, Try.bytes43])
      simp [reachBytes] at this
      omega

set_option maxRecDepth 100000 in
/-- A net that came in. -/
theorem open_topo {b0 : Nat} {v : Value} {d : DataW H} {p : List MemPlace} (hv : Value.okWide Try.prog W .any b0 24 v) (h : DataW.Trod enc Try.prog W 0 (fun _ => true) true 24 v d p)
    (hw : ∀ m ∈ d.weights Try.prog 24, m ≤ reachBytes) :
    ∃ (n : Int) (ao : Option Addr) (len cap : Nat) (ls : List Lk), v = .agg #[.int .i64 n, .slice ao len cap] ∧ I64 n ∧ ls.length = len ∧ NetAt W ao ls ∧ (∀ l ∈ ls, I64 l.a ∧ I64 l.b ∧ I64 l.c) ∧ len * 24 ≤ 140737488351232 ∧ len ≤ cap ∧ cap ≤ 9223372036854775807 := by
  obtain ⟨c0, c1, y0, y1, m, rfl, rfl, rfl, hy0, hy1⟩ := open_agg2 Try.underlying24 (by kernel_rfl) Try.cells24 hv h
  obtain ⟨n, e0, _, w0⟩ := DataW.trod_int Try.underlying3 hy0
  obtain ⟨ao, len, cap, ls, e1, r⟩ := open_links hy1 (fun m hm => hw m (by simp [DataW.weights, DataW.weightsEach, Try.underlying24]; exact Or.inr hm))
  simp at e0 e1
  subst e0 e1
  exact ⟨n, ao, len, cap, ls, rfl, w0, r⟩

theorem weights_arg {ts : List TypeId} {ds : List (DataW H)} (hsz : (DataW.weightsEach Try.prog ts ds).all (· ≤ reachBytes) = true) {j : Nat} {t : TypeId} {d : DataW H} (ht : ts[j]? = some t) (hd : ds[j]? = some d) : ∀ m ∈ d.weights Try.prog t, m ≤ reachBytes :=
  fun m hm => by simpa using List.all_eq_true.1 hsz _ (DataW.weights_mem_each ht hd m hm)

end

end Go.Proofs.Ytdiknngmepjncac
