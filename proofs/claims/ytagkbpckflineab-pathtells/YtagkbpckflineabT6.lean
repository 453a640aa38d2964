/- What the document's own SamePlan answers of two plans that are the same. -/
import Derived.Test.YtagkbpckflineabT1
import Derived.Test.YtagkbpckflineabT3
namespace Go.Proofs.Ytagkbpckflineab
open Go.RowKit Go.Maps Stw Go.Deep Stp Go.Sort

set_option maxRecDepth 100000 in
set_option maxHeartbeats 4000000 in
theorem SamePlan_same (v : Int) (fo go qo ro : Option Addr) (fl ql fc gc qc rc : Nat) (fs : List Stf.Fl) (ps : List (List Int)) (w : World) (hfl : fs.length = fl) (hfx : fl ≤ 4611686018427387904) (hf : Fw.FlowsAt w fo fs) (hg : Fw.FlowsAt w go fs) (hS : Fw.Sm fs)
    (hql : ps.length = ql) (hqx : ql ≤ 4611686018427387904) (hq : PthsAt w qo ps) (hr : PthsAt w ro ps) (hP : ∀ i, i < ps.length → (ps.getD i []).length ≤ 4611686018427387904) :
    Calls Try.prog 13 #[.agg #[.int .i64 v, .slice fo fl fc, .slice qo ql qc], .agg #[.int .i64 v, .slice go fl gc, .slice ro ql rc]] w fun e w' => e = .returned (.bool true) ∧ Ext w w' := by
  have hE0 : Ext w ((w.alloc (.cells #[.int .i64 v, .slice fo fl fc, .slice qo ql qc] 36)).alloc (.cells #[.int .i64 v, .slice go fl gc, .slice ro ql rc] 36)) := ((Ext.refl w).alloc _).alloc _
  go_enter Try.func13, Try.ntmps13
  go_wp2_with fail
  refine (Fw.SameFlows_any fo go fl fl fc gc fs fs _ hfl hfl hfx (hf.ext hE0) (hg.ext hE0) hS).mono ?_
  rintro e w1 ⟨rfl, E1⟩
  rw [Stf.sameF_true rfl]
  have hE1 : Ext w w1 := hE0.trans E1
  have hs1 : w.heap.size + 1 < w1.heap.size := by have := E1.size; simp at this; omega
  have hs0 : w.heap.size < w1.heap.size := by omega
  have q := E1.cells.1
  have a2 : w1.cell? ⟨w.heap.size, 2, none⟩ = some (.slice qo ql qc) := (q _ _ (by simp; omega)).trans (by simp)
  have b2 : w1.cell? ⟨w.heap.size + 1, 2, none⟩ = some (.slice ro ql rc) := (q _ _ (by simp)).trans (by simp)
  clear q
  go_wp2_with fail
  go_loopw [31] (fun iv wr => ∃ k : Nat, k ≤ ql ∧ iv = .int .i64 k ∧ Ext w1 wr) (fun iv _ => ql - (intOf iv).toNat)
  case atStart => exact ⟨0, Nat.zero_le _, rfl, Ext.refl w1⟩
  case round =>
    obtain ⟨k, hk, rfl, hext⟩ := hrel
    have a2r := (hext.cells.1 _ _ hs0).trans a2
    have b2r := (hext.cells.1 _ _ hs1).trans b2
    by_cases hlt : k < ql
    · rcases hq.ext (hE1.trans hext) with h0 | ⟨g1, o1, rfl, hg1, hc1⟩
      · exfalso; rw [h0] at hql; simp at hql; omega
      rcases hr.ext (hE1.trans hext) with h0 | ⟨g2, o2, rfl, hg2, hc2⟩
      · exfalso; rw [h0] at hql; simp at hql; omega
      obtain ⟨v1, d1, x1, y1, rfl, l1, _⟩ := hc1 k (by omega)
      obtain ⟨v2, d2, x2, y2, rfl, l2, _⟩ := hc2 k (by omega)
      have hPk := hP k (by omega)
      obtain ⟨x, hx⟩ : ∃ x, x = ps.getD k [] := ⟨_, rfl⟩
      rw [← hx] at d1 d2 l1 l2 hPk
      clear hx hc1 hc2
      have HQ : Hid (∀ d os, Calls Try.prog 10 #[.slice x1 x.length y1, .slice x2 x.length y2] (grow (redrawn wr d) os) fun e w'' => e = .returned (.bool true) ∧ ∃ p : Regrown, w'' = grow (redrawn wr p.d) p.os) := fun d os => by
        have := Ints_any x1 x2 _ _ y1 y2 x x (grow (redrawn wr d) os) rfl rfl hPk (l1.ext (below_regrown wr d os)) (l2.ext (below_regrown wr d os))
        rw [decide_eq_true rfl] at this
        exact Calls.regrown_of this
      have g1' := Fw.cell_regrown a2r
      have g2' := Fw.cell_regrown b2r
      have g3' := Fw.cell_regrown d1
      have g4' := Fw.cell_regrown d2
      have i1 : (k : Int) < (ql : Int) := by omega
      clear d1 d2 l1 l2
      go_wp2
      refine wp_region_quiet_below (by kernel_rfl) (by kernel_rfl) ?_
      repeat (go_big_quiet_step (with_reducible exact HQ.out _ _))
      refine wpQuiet_nil ?_
      intro _ hw'
      obtain ⟨⟨dq, oq⟩, hw''⟩ := hw'
      subst hw''
      clear g1' g2' g3' g4' HQ
      go_wp2
      refine ⟨⟨k + 1, by omega, by go_num, hext.trans (below_regrown wr dq oq)⟩, by simp [intOf]; omega⟩
    · have i1 : ¬ (k : Int) < (ql : Int) := by omega
      go_wp2
      go_ret
      exact ⟨rfl, hE1.trans hext⟩

end Go.Proofs.Ytagkbpckflineab
