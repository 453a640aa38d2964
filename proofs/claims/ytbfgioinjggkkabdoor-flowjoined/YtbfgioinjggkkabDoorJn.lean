/- FlowJoined answers true, for all texts; nothing that was there is changed. -/
import Derived.Test.YtbfgioinjggkkabDoorG14
namespace Go.Proofs.YtbfgioinjggkkabDoor
open Go.RowKit Go.Maps Stf Go.Sort

/-- The cells of flows that lie somewhere. -/
def FD (w : World) : List Fl → List Value → Prop
  | [], C => C = []
  | f :: fs, C => ∃ v n C', C = .int .i64 f.fr :: .int .i64 f.to :: v :: n :: C' ∧ FV w f.via v ∧ FV w f.nt n ∧ FD w fs C'
theorem FD.length {w : World} : ∀ {fs : List Fl} {C : List Value}, FD w fs C → C.length = fs.length * 4
  | [], C, h => by cases h; rfl
  | f :: fs, C, h => by
    obtain ⟨v, n, C', rfl, _, _, h⟩ := h
    have := FD.length h
    simp; omega
theorem FD.ext {w w' : World} (k : Ext w w') : ∀ {fs : List Fl} {C : List Value}, FD w fs C → FD w' fs C
  | [], C, h => h
  | f :: fs, C, h => by
    obtain ⟨v, n, C', rfl, h1, h2, h3⟩ := h
    exact ⟨v, n, C', rfl, h1.ext k, h2.ext k, FD.ext k h3⟩
theorem FD.append {w : World} {gs : List Fl} {D : List Value} (hd : FD w gs D) : ∀ {fs : List Fl} {C : List Value}, FD w fs C → FD w (fs ++ gs) (C ++ D)
  | [], C, h => by cases h; exact hd
  | f :: fs, C, h => by
    obtain ⟨v, n, C', rfl, h1, h2, h3⟩ := h
    exact ⟨v, n, _, rfl, h1, h2, FD.append hd h3⟩
theorem FD.one {w : World} : ∀ {fs : List Fl} {C : List Value}, FD w fs C → ∀ u ∈ C, u.oneCell' = true
  | [], C, h => by cases h; intro u hu; cases hu
  | f :: fs, C, h => by
    obtain ⟨v, n, C', rfl, ⟨_, _, rfl, _⟩, ⟨_, _, rfl, _⟩, h3⟩ := h
    intro u hu
    simp only [List.mem_cons] at hu
    rcases hu with rfl | rfl | rfl | rfl | hu
    · rfl
    · rfl
    · rfl
    · rfl
    · exact FD.one h3 u hu
theorem FD.get {w : World} : ∀ {fs : List Fl} {C : List Value}, FD w fs C → ∀ k (h : k < fs.length), ∃ v n, C[k * 4]? = some (.int .i64 (fs[k]).fr) ∧ C[k * 4 + 1]? = some (.int .i64 (fs[k]).to) ∧ C[k * 4 + 2]? = some v ∧ C[k * 4 + 3]? = some n ∧ FV w (fs[k]).via v ∧ FV w (fs[k]).nt n
  | f :: fs, C, hc, 0, _ => by
    obtain ⟨v, n, C', rfl, h1, h2, h3⟩ := hc
    exact ⟨v, n, rfl, rfl, rfl, rfl, h1, h2⟩
  | f :: fs, C, hc, k + 1, h => by
    obtain ⟨v, n, C', rfl, h1, h2, h3⟩ := hc
    obtain ⟨v', n', c0, c1, c2, c3, hv, hn⟩ := FD.get h3 k (by simpa using h)
    rw [show (k + 1) * 4 = k * 4 + 4 by omega]
    exact ⟨v', n', by simpa using c0, by simpa using c1, by simpa using c2, by simpa using c3, hv, hn⟩
theorem flows_ownD {w : World} {base g n cap : Nat} {fs : List Fl} {C : List Value} (h : w.ownsRow base 37 4 (.slice (some ⟨g, 0, none⟩) n cap) n C) (hC : FD w fs C) : FlowsAt w (some ⟨g, 0, none⟩) fs := by
  refine Or.inr ⟨g, 0, rfl, (h.lt g rfl).2, fun k hk => ?_⟩
  obtain ⟨v, n', c0, c1, c2, c3, hv, hn⟩ := hC.get k hk
  have hl := hC.length
  have hl2 := h.1
  rw [Nat.zero_add]
  exact ⟨v, n', (h.cellAt _ (by omega)).trans c0, (h.cellAt _ (by omega)).trans c1, (h.cellAt _ (by omega)).trans c2, (h.cellAt _ (by omega)).trans c3, hv, hn⟩
/-- The cells that lie there, one by one. -/
theorem cells_of {w : World} {b : Nat} : ∀ (fs : List Fl) (off : Nat), (∀ k (h : k < fs.length), ∃ v n, w.cell? ⟨b, off + k * 4, none⟩ = some (.int .i64 (fs[k]).fr) ∧ w.cell? ⟨b, off + k * 4 + 1, none⟩ = some (.int .i64 (fs[k]).to) ∧ w.cell? ⟨b, off + k * 4 + 2, none⟩ = some v ∧ w.cell? ⟨b, off + k * 4 + 3, none⟩ = some n ∧ FV w (fs[k]).via v ∧ FV w (fs[k]).nt n) →
    ∃ C, FD w fs C ∧ ∀ j u, C[j]? = some u → w.cell? ⟨b, off + j, none⟩ = some u
  | [], off, _ => ⟨[], rfl, fun j u h => by simp at h⟩
  | f :: fs, off, H => by
    obtain ⟨v, n, c0, c1, c2, c3, hv, hn⟩ := H 0 (by simp)
    obtain ⟨C, hC, hc⟩ := cells_of fs (off + 4) (fun k hk => by
      have := H (k + 1) (by simpa using hk)
      rw [show off + (k + 1) * 4 = off + 4 + k * 4 by omega] at this
      simpa using this)
    simp only [Nat.zero_mul, Nat.add_zero, List.getElem_cons_zero] at c0 c1 c2 c3 hv hn
    refine ⟨_, ⟨v, n, C, rfl, hv, hn, hC⟩, fun j u hu => ?_⟩
    match j, hu with
    | 0, hu => simp at hu; subst hu; exact c0
    | 1, hu => simp at hu; subst hu; exact c1
    | 2, hu => simp at hu; subst hu; exact c2
    | 3, hu => simp at hu; subst hu; exact c3
    | (j + 4), hu =>
      have := hc j u (by simpa using hu)
      rw [show off + (j + 4) = off + 4 + j by omega]
      exact this
theorem append_run {W0 w : World} {base g n cap : Nat} {C : List Value} (hown : w.ownsRow base 37 4 (.slice (some ⟨g, 0, none⟩) n cap) n C) (ao : Option Addr) (m c : Nat) (gs : List Fl) (hm : gs.length = m) (hf : FlowsAt W0 ao gs) (hE : Ext W0 w) (hsm : n + m ≤ 4000) :
    ∃ g' cap' w' D, (Builtin.append_ #[23, 23] 23 #[.slice (some ⟨g, 0, none⟩) n cap, .slice ao m c]).run Tryd.prog w = .ok (.slice (some ⟨g', 0, none⟩) (n + m) cap') w' ∧ w'.ownsRow base 37 4 (.slice (some ⟨g', 0, none⟩) (n + m) cap') (n + m) (C ++ D) ∧ FD W0 gs D ∧ w.grownBy w' (some g) := by
  have hnc : n ≤ cap ∧ base ≤ w.heap.size := by
    have hlt := hown.lt g rfl
    rcases hown.2 with ⟨hnil, _⟩ | ⟨g', cap', cur, hv, _, _, h, _⟩
    · cases hnil
    · cases hv; exact ⟨h, by omega⟩
  by_cases h0 : m = 0
  · subst h0
    have hg : gs = [] := List.eq_nil_of_length_eq_zero hm
    subst hg
    obtain ⟨i3, hi3, hz0, hz1, hz2⟩ := info_parts Tryd.info38
    refine ⟨g, cap, w, [], ?_, by simpa using hown, rfl, World.grownBy.refl _ _⟩
    cases ao <;> simp [Builtin.append_, run_underlying Tryd.underlying23, sizeOf, typeInfo, hi3, Builtin.lenOf, Builtin.firstCells, storeCells, loadCells, loadCellsFrom, Nat.not_lt.2 hnc.1]
  · rcases hf with rfl | ⟨b, off, rfl, hb, hc⟩
    · simp at hm; omega
    · obtain ⟨D, hD, hcell⟩ := cells_of gs off hc
      obtain ⟨i3, hi3, hz0, hz1, hz2⟩ := info_parts Tryd.info38
      have hDl := hD.length
      obtain ⟨v', w', hrun, hown', hg, hnil⟩ := run_append_own w base 23 23 37 i3 (.agg #[.int .i64 0, .int .i64 0, .slice none 0 0, .slice none 0 0]) 4 64 Tryd.underlying23 hi3 hz0 hz1 hz2 rfl (by decide) _ n C hown ⟨b, off, none⟩ m c D (by omega) (fun j u hu => by
        have := (hE.cells.1 _ _ hb).trans (hcell j u hu)
        rw [show (⟨b, off, none⟩ : Addr).add j = ⟨b, off + j, none⟩ by unfold Addr.add; split <;> simp_all]
        exact this) hD.one (by unfold maxLen; omega) (by omega) hnc.2
      rcases hown'.2 with ⟨rfl, hz⟩ | ⟨g', cap', cur, rfl, _⟩
      · omega
      · exact ⟨g', cap', w', D, hrun, hown', hD, hg⟩

/-- An append whose run is known. -/
theorem wpList_append_by {P : Program} {w w' : World} {ops : Array Oper} {rest : List Oper} {o : Oper} {a : Act} {Q : Exit → Act → World → Prop} {v' : Value} (s x : Operand) (t ty : TypeId) (v y : Value)
    (ho : o.op = .call { callee := .builtin .append, args := #[s, x], argTypes := #[t, t] }) (hty : o.type = ty) (hs : a.eval s = v) (hx : a.eval x = y) (hw : Region.wanted o (yielded ops a.tmps) = true)
    (hrun : (Builtin.append_ #[t, t] ty #[v, y]).run P w = .ok v' w') (h : wpList P ops Q rest (a.put o.dst v') w') : wpList P ops Q (o :: rest) a w :=
  wpList_step fun K hK => by
    simp only [hw, if_true]
    unfold Oper.wp
    simp [execOp, ho, resolve, invoke, builtin, hty, hs, hx, hrun, Result.andThen]
    exact hK _ _ h

end Go.Proofs.YtbfgioinjggkkabDoor
