/- How a plan and rules that came in are read, and how many there are. -/
import Derived.Test.YtdiknngmepjncacOpR
import Derived.Test.YtdiknngmepjncacV21
namespace Go.Proofs.Ytdiknngmepjncac
open Go.ChangeShapes Go.WideShapes Go.ChangeAt Go.RowKit Go.Deep Go.Joins Stw

theorem Try.cellsPt : Try.prog.cellsOf 27 = 1 := by kernel_rfl
theorem Try.cellsPl : Try.prog.cellsOf 39 = 3 := by kernel_rfl

theorem bulk_one {H : Type} (d : DataW H) : 1 ≤ Rows.uptoBulk d := by
  cases d with
  | lit l => cases l <;> simp [Rows.uptoBulk]
  | nil => simp [Rows.uptoBulk]
  | ptr d => simp [Rows.uptoBulk]
  | slice elems spare => simp [Rows.uptoBulk]
  | agg parts => simp [Rows.uptoBulk]
  | iface t d => simp [Rows.uptoBulk]
  | map entries => simp [Rows.uptoBulk]
  | held h => simp [Rows.uptoBulk]
theorem bulk_part {H : Type} {d : DataW H} {l : List (DataW H)} (h : d ∈ l) : Rows.uptoBulk d ≤ Rows.uptoBulkAll l := by
  induction l with
  | nil => cases h
  | cons x r ih =>
    simp only [Rows.uptoBulkAll]
    rcases List.mem_cons.1 h with e | e
    · subst e; omega
    · have := ih e; omega
theorem bulk_len {H : Type} (l : List (DataW H)) : l.length ≤ Rows.uptoBulkAll l := by
  induction l with
  | nil => simp [Rows.uptoBulkAll]
  | cons x r ih => have := bulk_one x; simp only [Rows.uptoBulkAll, List.length_cons]; omega
theorem bulk_append {H : Type} (x y : List (DataW H)) : Rows.uptoBulkAll (x ++ y) = Rows.uptoBulkAll x + Rows.uptoBulkAll y := by
  induction x with
  | nil => simp [Rows.uptoBulkAll]
  | cons z r ih => simp only [List.cons_append, Rows.uptoBulkAll, ih]; omega
theorem tot_bulk {H : Type} (F : Nat → List Int) (D : Nat → DataW H) (len : Nat) (h : ∀ i, i < len → (F i).length ≤ Rows.uptoBulk (D i)) : ∀ k, k ≤ len → Tb.tot ((List.range len).map F) k ≤ Rows.uptoBulkAll ((List.range k).map D)
  | 0, _ => by simp [Tb.tot]
  | k + 1, hk => by
    have ih := tot_bulk F D len h k (by omega)
    have e : ((List.range len).map F).getD k [] = F k := by simp [List.getD_eq_getElem?_getD, show k < len by omega]
    rw [Tb.tot, List.range_succ, List.map_append, bulk_append, e]
    have := h k (by omega)
    simp only [List.map_cons, List.map_nil, Rows.uptoBulkAll]
    omega

section
variable {H : Type} {enc : TypeId × Value → H} {W : World}

set_option maxRecDepth 100000 in
theorem open_rulesB {fuel : Nat} {cs : List Value} {x : DataW H × List MemPlace} (h : DataW.trod enc Try.prog W 0 (fun _ => true) true fuel 40 cs = some x) :
    ∃ (ao : Option Addr) (len cap : Nat) (rs : List Rul.Ru), cs = [.slice ao len cap] ∧ Tb.SlOk W ao len cap rs ∧ len ≤ Rows.uptoBulk x.1 ∧ len ≤ cap ∧ cap ≤ 9223372036854775807 := by
  obtain ⟨ao, len, cap, rs, h1, h2, h3, h4⟩ := open_rules0 h
  rcases open_slice Try.underlying40 h with ⟨hcs, _⟩ | ⟨a, len', cap', m, n, D, Pl, hcs, _, hl, hm, hmm, hx, hel⟩
  · rw [hcs] at h1
    cases h1
    exact ⟨none, 0, 0, rs, hcs, h2, Nat.zero_le _, Nat.zero_le _, by omega⟩
  · rw [hcs] at h1
    cases h1
    refine ⟨some a, len, cap, rs, hcs, h2, ?_, hl, by unfold maxLen at hm; omega⟩
    rw [hx]
    have h1 := bulk_len (H := H) ((List.range len).map D)
    simp only [List.length_map, List.length_range] at h1
    simp only [Rows.uptoBulk]
    omega

theorem open_pathB {fuel : Nat} {cs : List Value} {x : DataW H × List MemPlace} (h : DataW.trod enc Try.prog W 0 (fun _ => true) true fuel 27 cs = some x) :
    ∃ (ps : List Int) (ao : Option Addr) (cap : Nat), cs = [.slice ao ps.length cap] ∧ ListAt W ao ps ∧ ps.length ≤ Rows.uptoBulk x.1 := by
  rcases open_ints Try.underlying27 Try.underlying3 Try.cells3 h with ⟨hcs, hx⟩ | ⟨a, len, cap, zs, hcs, _, hl, hm, hz, hx, hcell, hwz⟩
  · exact ⟨[], none, 0, hcs, Or.inl rfl, by simp⟩
  · have hz' : zs.length = cap := by simpa using hz
    have hlen : (zs.take len).length = len := by simp; omega
    refine ⟨zs.take len, some a, cap, by rw [hlen]; exact hcs, ?_, ?_⟩
    · by_cases h0 : len = 0
      · exact Or.inl (by simp [h0])
      · obtain ⟨b, off, spot⟩ := a
        have hc := hcell 0 (by omega)
        have hspot : spot = none := by simpa [Addr.add] using World.cell?_spot hc
        subst hspot
        refine Or.inr ⟨b, off, rfl, by have := cell_lt hc; simpa [Addr.add] using this, fun k hk => ?_⟩
        have := hcell k (by omega)
        have e1 : (⟨b, off, none⟩ : Addr).add k = ⟨b, off + k, none⟩ := by
          unfold Addr.add
          split
          · simp_all
          · rfl
        rw [e1] at this
        rw [this]
        simp [List.getD_eq_getElem?_getD, show k < len by omega]
    · subst hx
      have h1 := bulk_len (H := H) (lits .i64 (zs.take len))
      have h2 : (lits (H := H) .i64 (zs.take len)).length = (zs.take len).length := by simp [lits]
      simp only [Rows.uptoBulk]
      omega

theorem cells1_inv {w : World} {a : Addr} {cs : List Value} {x : Value} (h : w.cells? 0 a 1 = some cs) (e : cs = [x]) : w.cell? a = some x := by
  obtain ⟨_, _, hc⟩ := World.cells?_some h
  subst e
  simpa [Addr.add] using hc 0 (by omega)

set_option maxRecDepth 100000 in
theorem open_pathsB {fuel : Nat} {cs : List Value} {x : DataW H × List MemPlace} (h : DataW.trod enc Try.prog W 0 (fun _ => true) true fuel 37 cs = some x) :
    ∃ (ao : Option Addr) (len cap : Nat) (ps : List (List Int)), cs = [.slice ao len cap] ∧ ps.length = len ∧ Tb.PsAt W ao ps ∧ len ≤ Rows.uptoBulk x.1 ∧ Tb.tot ps len ≤ Rows.uptoBulk x.1 := by
  rcases open_slice Try.underlying37 h with ⟨hcs, _⟩ | ⟨a, len, cap, m, n, D, Pl, hcs, _, hl, hm, hmm, hx, hel⟩
  · exact ⟨none, 0, 0, [], hcs, rfl, Or.inl rfl, Nat.zero_le _, Nat.zero_le _⟩
  · have hmc : m = cap := by simpa using hmm
    have hfam : ∀ i, i < len → ∃ ps : List Int, ∃ ao cap, W.cell? (a.add (i * 1)) = some (.slice ao ps.length cap) ∧ ListAt W ao ps ∧ ps.length ≤ Rows.uptoBulk (D i) := by
      intro i hi
      obtain ⟨cs', hcell, htr⟩ := hel i (by omega)
      rw [Try.cellsPt] at hcell
      obtain ⟨ps, ao, c', h1, h2, h3⟩ := open_pathB htr
      exact ⟨ps, ao, c', cells1_inv hcell h1, h2, h3⟩
    obtain ⟨F, hF⟩ := choose_lt hfam
    have hb := tot_bulk F D len (fun i hi => by obtain ⟨_, _, _, _, h⟩ := hF i hi; exact h) len (Nat.le_refl _)
    have hb2 := bulk_len (H := H) ((List.range len).map D)
    simp only [List.length_map, List.length_range] at hb2
    refine ⟨some a, len, cap, (List.range len).map F, hcs, by simp, ?_, ?_, ?_⟩
    · by_cases h0 : len = 0
      · exact Or.inl (by simp [h0])
      · obtain ⟨b, off, spot⟩ := a
        obtain ⟨ao0, c0, hc, _⟩ := hF 0 (by omega)
        have hspot : spot = none := by simpa [Addr.add] using World.cell?_spot hc
        subst hspot
        refine Or.inr ⟨b, off, rfl, by have := cell_lt hc; simpa [Addr.add] using this, fun k hk => ?_⟩
        simp only [List.length_map, List.length_range] at hk
        obtain ⟨ao, c', g0, g1, _⟩ := hF k hk
        have e0 : (⟨b, off, none⟩ : Addr).add (k * 1) = ⟨b, off + k, none⟩ := by
          unfold Addr.add
          split
          · simp_all
          · simp
        rw [e0] at g0
        have e1 : ((List.range len).map F).getD k [] = F k := by simp [List.getD_eq_getElem?_getD, hk]
        rw [e1]
        exact ⟨ao, c', g0, g1⟩
    · rw [hx]; simp only [Rows.uptoBulk]; omega
    · rw [hx]; simp only [Rows.uptoBulk]; omega

set_option maxRecDepth 100000 in
/-- A plan that came in. -/
theorem open_plan {b0 : Nat} {v : Value} {d : DataW H} {p : List MemPlace} (hv : Value.okWide Try.prog W .any b0 39 v) (h : DataW.Trod enc Try.prog W 0 (fun _ => true) true 39 v d p) :
    ∃ (n : Int) (fo qo : Option Addr) (fl fc ql qc : Nat) (ps : List (List Int)), v = .agg #[.int .i64 n, .slice fo fl fc, .slice qo ql qc] ∧ ps.length = ql ∧ Tb.PsAt W qo ps ∧ ql ≤ Rows.uptoBulk d ∧ Tb.tot ps ql ≤ Rows.uptoBulk d := by
  obtain ⟨c0, c1, c2, y0, y1, y2, m, rfl, rfl, rfl, h0, h1, h2⟩ := open_agg3 Try.underlying39 (by kernel_rfl) Try.cellsPl hv h
  obtain ⟨n, e0, _, _⟩ := DataW.trod_int Try.underlying3 h0
  obtain ⟨fo, fl, fc, e1⟩ : ∃ fo fl fc, [c1] = [Value.slice fo fl fc] := by
    rcases open_slice Try.underlying36 h1 with ⟨hcs, _⟩ | ⟨a, len, cap, m, n, D, Pl, hcs, _⟩
    · exact ⟨_, _, _, hcs⟩
    · exact ⟨_, _, _, hcs⟩
  obtain ⟨qo, ql, qc, ps, e2, g1, g2, g3, g4⟩ := open_pathsB h2
  simp at e0 e1 e2
  subst e0 e1 e2
  have p2 := bulk_part (H := H) (d := y2.1) (l := [y0.1, y1.1, y2.1]) (by simp)
  refine ⟨n, fo, qo, fl, fc, ql, qc, ps, rfl, g1, g2, ?_, ?_⟩
  · simp only [Rows.uptoBulk]; omega
  · simp only [Rows.uptoBulk]; omega

end

end Go.Proofs.Ytdiknngmepjncac
