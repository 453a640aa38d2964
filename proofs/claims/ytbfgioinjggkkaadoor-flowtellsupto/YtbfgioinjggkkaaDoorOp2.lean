/- How flows that came in are read, and how many there are. -/
import Derived.Test.YtbfgioinjggkkaaDoorG14
import Derived.ProofKit
import Derived.OpenShut
import Derived.ChangeOld
import Derived.SizedLaws
import Derived.Deep.Slices
import Derived.Deep.Strs
import Derived.Lib.SmallJoins
namespace Go.Proofs.YtbfgioinjggkkaaDoor
open Go.ChangeShapes Go.WideShapes Go.ChangeAt Go.RowKit Go.Deep Go.Joins Stf

theorem Tryd.cells3 : Tryd.prog.cellsOf 3 = 1 := by kernel_rfl
theorem Tryd.cells36 : Tryd.prog.cellsOf 36 = 1 := by kernel_rfl
theorem Tryd.cells38 : Tryd.prog.cellsOf 38 = 4 := by kernel_rfl

theorem bulk_one {H : Type} (d : DataW H) : 1 ≤ Rows.uptoBulk d := by
  cases d with
  | lit l => cases l <;> simp [Rows.uptoBulk]
  | nil => simp [Rows.uptoBulk]
  | ptr d => simp [Rows.uptoBulk]
  | slice elems spare => simp [Rows.uptoBulk]
  | agg parts => simp [Rows.uptoBulk]
  | iface t d => simp [Rows.uptoBulk]
  | map entries => simp [Rows.uptoBulk]
  | held h => simp [Rows.uptoBulk]
theorem bulk_part {H : Type} {d : DataW H} {l : List (DataW H)} (h : d ∈ l) : Rows.uptoBulk d ≤ Rows.uptoBulkAll l := by
  induction l with
  | nil => cases h
  | cons x r ih =>
    simp only [Rows.uptoBulkAll]
    rcases List.mem_cons.1 h with e | e
    · subst e; omega
    · have := ih e; omega
theorem bulk_len {H : Type} (l : List (DataW H)) : l.length ≤ Rows.uptoBulkAll l := by
  induction l with
  | nil => simp [Rows.uptoBulkAll]
  | cons x r ih => have := bulk_one x; simp only [Rows.uptoBulkAll, List.length_cons]; omega

section
variable {H : Type} {enc : TypeId × Value → H} {W : World}

theorem open_list {fuel : Nat} {cs : List Value} {x : DataW H × List MemPlace} (h : DataW.trod enc Tryd.prog W 0 (fun _ => true) true fuel 36 cs = some x) :
    ∃ (v : Value) (ps : List Int), cs = [v] ∧ FV W ps v ∧ ps.length ≤ Rows.uptoBulk x.1 := by
  rcases open_ints Tryd.underlying36 Tryd.underlying3 Tryd.cells3 h with ⟨hcs, hx⟩ | ⟨a, len, cap, zs, hcs, _, hl, hm, hz, hx, hcell, hwz⟩
  · exact ⟨.slice none 0 0, [], hcs, ⟨none, 0, rfl, Or.inl rfl, Nat.le_refl _⟩, by simp⟩
  · have hz' : zs.length = cap := by simpa using hz
    have hlen : (zs.take len).length = len := by simp; omega
    refine ⟨.slice (some a) len cap, zs.take len, hcs, ⟨some a, cap, by rw [hlen], ?_, by omega⟩, ?_⟩
    · by_cases h0 : len = 0
      · exact Or.inl (by simp [h0])
      · obtain ⟨b, off, spot⟩ := a
        have hc := hcell 0 (by omega)
        have hspot : spot = none := by simpa [Addr.add] using World.cell?_spot hc
        subst hspot
        refine Or.inr ⟨b, off, rfl, by have := cell_lt hc; simpa [Addr.add] using this, fun k hk => ?_⟩
        have := hcell k (by omega)
        have e1 : (⟨b, off, none⟩ : Addr).add k = ⟨b, off + k, none⟩ := by
          unfold Addr.add
          split
          · simp_all
          · rfl
        rw [e1] at this
        rw [this]
        simp [List.getD_eq_getElem?_getD, show k < len by omega]
    · subst hx
      have h1 := bulk_len (H := H) (lits .i64 (zs.take len))
      have h2 : (lits (H := H) .i64 (zs.take len)).length = (zs.take len).length := by simp [lits]
      simp only [Rows.uptoBulk]
      omega

theorem cells4_inv {w : World} {a : Addr} {cs : List Value} {x y z u : Value} (h : w.cells? 0 a 4 = some cs) (e : cs = [x, y, z, u]) : w.cell? a = some x ∧ w.cell? (a.add 1) = some y ∧ w.cell? (a.add 2) = some z ∧ w.cell? (a.add 3) = some u := by
  obtain ⟨_, _, hc⟩ := World.cells?_some h
  subst e
  exact ⟨by simpa [Addr.add] using hc 0 (by omega), hc 1 (by omega), hc 2 (by omega), hc 3 (by omega)⟩

theorem four_of {cs : List Value} (h : cs.length = 4) : ∃ c0 c1 c2 c3, cs = [c0, c1, c2, c3] := by
  match cs, h with
  | [c0, c1, c2, c3], _ => exact ⟨c0, c1, c2, c3, rfl⟩

set_option maxRecDepth 100000 in
theorem open_flow {fuel : Nat} {cs : List Value} {x : DataW H × List MemPlace} (h : DataW.trod enc Tryd.prog W 0 (fun _ => true) true fuel 38 cs = some x) :
    ∃ (f : Fl) (v n : Value), cs = [.int .i64 f.fr, .int .i64 f.to, v, n] ∧ FV W f.via v ∧ FV W f.nt n ∧ f.via.length ≤ Rows.uptoBulk x.1 ∧ f.nt.length ≤ Rows.uptoBulk x.1 := by
  obtain ⟨y0, y1, y2, y3, n', rfl, hlen, t0, t1, t2, t3⟩ := trod_struct4 Tryd.underlying38 h
  rw [Tryd.cells38] at hlen
  obtain ⟨c0, c1, c2, c3, rfl⟩ : ∃ c0 c1 c2 c3, cs = [c0, c1, c2, c3] := four_of hlen
  · obtain ⟨a0, e0, _, w0⟩ := DataW.trod_int Tryd.underlying3 t0
    obtain ⟨a1, e1, _, w1⟩ := DataW.trod_int Tryd.underlying3 t1
    obtain ⟨v, X, e2, hv, lv⟩ := open_list t2
    obtain ⟨n, Y, e3, hn, ln⟩ := open_list t3
    simp [Tryd.cells3, Tryd.cells36] at e0 e1 e2 e3
    subst e0 e1 e2 e3
    have p2 := bulk_part (H := H) (d := y2.1) (l := [y0.1, y1.1, y2.1, y3.1]) (by simp)
    have p3 := bulk_part (H := H) (d := y3.1) (l := [y0.1, y1.1, y2.1, y3.1]) (by simp)
    refine ⟨⟨a0, a1, X, Y⟩, c2, c3, rfl, hv, hn, ?_, ?_⟩
    · simp only [Rows.uptoBulk]; omega
    · simp only [Rows.uptoBulk]; omega

theorem open_flows {fuel : Nat} {cs : List Value} {x : DataW H × List MemPlace} (h : DataW.trod enc Tryd.prog W 0 (fun _ => true) true fuel 22 cs = some x) :
    ∃ (ao : Option Addr) (len cap : Nat) (fs : List Fl), cs = [.slice ao len cap] ∧ fs.length = len ∧ FlowsAt W ao fs ∧ len ≤ Rows.uptoBulk x.1 ∧ (∀ k (h : k < fs.length), (fs[k]).via.length ≤ Rows.uptoBulk x.1 ∧ (fs[k]).nt.length ≤ Rows.uptoBulk x.1) ∧ len ≤ cap := by
  rcases open_slice Tryd.underlying22 h with ⟨hcs, _⟩ | ⟨a, len, cap, m, n, D, Pl, hcs, _, hl, hm, hmm, hx, hel⟩
  · exact ⟨none, 0, 0, [], hcs, rfl, Or.inl rfl, by omega, fun k hk => by simp at hk, by omega⟩
  · have hmc : m = cap := by simpa using hmm
    have hfam : ∀ i, i < len → ∃ q : (Int × Int × List Int × List Int) × Value × Value, (W.cell? (a.add (i * 4)) = some (.int .i64 q.1.1) ∧ W.cell? ((a.add (i * 4)).add 1) = some (.int .i64 q.1.2.1) ∧ W.cell? ((a.add (i * 4)).add 2) = some q.2.1 ∧ W.cell? ((a.add (i * 4)).add 3) = some q.2.2) ∧
        FV W q.1.2.2.1 q.2.1 ∧ FV W q.1.2.2.2 q.2.2 ∧ q.1.2.2.1.length ≤ Rows.uptoBulk (D i) ∧ q.1.2.2.2.length ≤ Rows.uptoBulk (D i) := by
      intro i hi
      obtain ⟨cs', hcell, htr⟩ := hel i (by omega)
      rw [Tryd.cells38] at hcell
      obtain ⟨f, v, nv, hc, h1, h2, h3, h4⟩ := open_flow htr
      exact ⟨((f.fr, f.to, f.via, f.nt), v, nv), cells4_inv hcell hc, h1, h2, h3, h4⟩
    have : Inhabited ((Int × Int × List Int × List Int) × Value × Value) := ⟨((0, 0, [], []), .int .i64 0, .int .i64 0)⟩
    obtain ⟨F, hF⟩ := choose_lt hfam
    have hbulk : ∀ i, i < len → Rows.uptoBulk (D i) ≤ Rows.uptoBulk x.1 := fun i hi => by
      rw [hx]
      have := bulk_part (H := H) (d := D i) (l := (List.range len).map D) (List.mem_map.2 ⟨i, by simpa using hi, rfl⟩)
      simp only [Rows.uptoBulk]
      omega
    have hget : ∀ k (h : k < ((List.range len).map (fun i => (⟨(F i).1.1, (F i).1.2.1, (F i).1.2.2.1, (F i).1.2.2.2⟩ : Fl))).length), ((List.range len).map (fun i => (⟨(F i).1.1, (F i).1.2.1, (F i).1.2.2.1, (F i).1.2.2.2⟩ : Fl)))[k] = ⟨(F k).1.1, (F k).1.2.1, (F k).1.2.2.1, (F k).1.2.2.2⟩ := fun k h => by simp
    refine ⟨some a, len, cap, (List.range len).map (fun i => ⟨(F i).1.1, (F i).1.2.1, (F i).1.2.2.1, (F i).1.2.2.2⟩), hcs, by simp, ?_, ?_, fun k hk => ?_, hl⟩
    · by_cases h0 : len = 0
      · exact Or.inl (by simp [h0])
      · obtain ⟨b, off, spot⟩ := a
        have hc := (hF 0 (by omega)).1.1
        have hspot : spot = none := by simpa [Addr.add] using World.cell?_spot hc
        subst hspot
        refine Or.inr ⟨b, off, rfl, by have := cell_lt hc; simpa [Addr.add] using this, fun k hk => ?_⟩
        have hk' : k < len := by simpa using hk
        obtain ⟨⟨g0, g1, g2, g3⟩, hv, hn, _⟩ := hF k hk'
        have e0 : (⟨b, off, none⟩ : Addr).add (k * 4) = ⟨b, off + k * 4, none⟩ := by
          unfold Addr.add
          split
          · simp_all
          · rfl
        rw [e0] at g0 g1 g2 g3
        rw [hget k hk]
        exact ⟨_, _, g0, by simpa [Addr.add] using g1, by simpa [Addr.add] using g2, by simpa [Addr.add] using g3, hv, hn⟩
    · rw [hx]
      have h1 := bulk_len (H := H) ((List.range len).map D)
      simp only [List.length_map, List.length_range] at h1
      simp only [Rows.uptoBulk]
      omega
    · have hk' : k < len := by simpa using hk
      rw [hget k hk]
      have h1 := (hF k hk').2.2.2
      have h2 := hbulk k hk'
      exact ⟨Nat.le_trans h1.1 h2, Nat.le_trans h1.2 h2⟩

end

end Go.Proofs.YtbfgioinjggkkaaDoor
