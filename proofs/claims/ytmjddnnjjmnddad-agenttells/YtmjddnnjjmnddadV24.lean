/- What the document's own Wrong of a table says, for every row of rules; nothing that was there is changed. -/
import Derived.Test.YtmjddnnjjmnddadV13
import Derived.Test.YtmjddnnjjmnddadV12r
import Derived.Deep.DeepCutAuto
namespace Go.Proofs.Ytmjddnnjjmnddad.Tb
open Go.RowKit Go.Deep Rul Go.Sort

theorem inR_true {v f n : Int} (h : inR (v, f, n) = true) : ¬ v < 1 ∧ ¬ (1000 : Int) < v ∧ ¬ f < 0 ∧ ¬ (11 : Int) < f ∧ ¬ n < 0 ∧ ¬ (7 : Int) < n := by
  simp only [inR, decide_eq_true_eq] at h; omega
theorem inR_false {v f n : Int} (h : inR (v, f, n) = false) : v < 1 ∨ (¬ v < 1 ∧ (1000 : Int) < v) ∨ (¬ v < 1 ∧ ¬ (1000 : Int) < v ∧ f < 0) ∨ (¬ v < 1 ∧ ¬ (1000 : Int) < v ∧ ¬ f < 0 ∧ (11 : Int) < f) ∨ (¬ v < 1 ∧ ¬ (1000 : Int) < v ∧ ¬ f < 0 ∧ ¬ (11 : Int) < f ∧ n < 0) ∨ (¬ v < 1 ∧ ¬ (1000 : Int) < v ∧ ¬ f < 0 ∧ ¬ (11 : Int) < f ∧ ¬ n < 0 ∧ (7 : Int) < n) := by
  simp only [inR, decide_eq_false_iff_not] at h; omega
theorem ahead_re (x y : Ru) (w : World) : ∀ d os, Calls Try.prog 47 #[.agg #[.int .i64 x.1, .int .i64 x.2.1, .int .i64 x.2.2], .agg #[.int .i64 y.1, .int .i64 y.2.1, .int .i64 y.2.2]] (grow (redrawn w d) os) fun e w'' => e = .returned (.bool (lt x y)) ∧ ∃ p : Regrown, w'' = grow (redrawn w p.d) p.os := fun d os =>
  Calls.regrown_of (ahead_any x y (grow (redrawn w d) os))

set_option maxHeartbeats 1000000 in
theorem refWrong_many (ao : Option Addr) (len cap : Nat) (w : World) (h : 16 < len) (hl : len ≤ 9223372036854775807) :
    Calls Try.prog 38 #[.slice ao len cap] w fun e w' => e = .returned (.agg #[.int .i64 10, .int .i64 0]) ∧ Ext w w' := by
  go_enter Try.func38, Try.ntmps38
  go_wp2
  exact bodyPost_ret (v := .agg #[.int .i64 10, .int .i64 0]) (by simp [results, Try.results38, go_sem]) rfl ⟨rfl, (Ext.refl w).alloc _⟩

set_option maxRecDepth 100000 in
set_option maxHeartbeats 800000 in
theorem refWrong_few (ao : Option Addr) (len cap : Nat) (rs : List Ru) (w : World) (hlen : rs.length = len) (hf : RsAt w ao rs) (h16 : ¬ 16 < len) :
    Calls Try.prog 38 #[.slice ao len cap] w fun e w' => e = .returned (.agg #[.int .i64 (Rul.wrong rs).1, .int .i64 (Rul.wrong rs).2]) ∧ Ext w w' := by
  have hw0 : Rul.wrong rs = Rul.wr 0 (pv rs 0) (rs.drop 0) := by rw [Rul.wrong, if_neg (by omega), List.drop_zero]; rfl
  rw [hw0]
  go_enter Try.func38, Try.ntmps38
  go_wp2
  go_loopw [11] (fun iv wd => ∃ k : Nat, k ≤ len ∧ iv = .int .i64 k ∧ Hid (Rul.wr 0 (pv rs 0) (rs.drop 0) = Rul.wr k (pv rs k) (rs.drop k)) ∧ Below (w.heap.size + 1) (w.alloc (.cells #[.int .i64 0, .int .i64 0] 66)) wd) (fun iv _ => len - (intOf iv).toNat)
  case atStart => exact ⟨0, Nat.zero_le _, rfl, rfl, Below.refl _ _⟩
  case round =>
    obtain ⟨k, hk, rfl, HW, hbel⟩ := hrel
    obtain ⟨z0, z1, y0, y1, hsz⟩ := fault_kept hbel
    have hEw : Ext w wr := Below.trans ((Ext.refl w).alloc _) (hbel.mono (by omega))
    by_cases hlt : k < len
    · obtain ⟨g, off, rfl, hg, hcs⟩ := (hf.ext hEw).get (k := k) (by omega)
      have i1 : (k : Int) < (len : Int) := by omega
      have HST : Hid _ := wr_step (rs := rs) (k := k) (by omega)
      obtain ⟨c0, c1, c2⟩ := hcs k (by omega)
      obtain ⟨r, hr⟩ : ∃ r, rs.getD k r0 = r := ⟨_, rfl⟩
      rw [hr] at c0 c1 c2 HST
      have HR : Hid _ := hr
      clear hr hcs
      obtain ⟨r0', r1', r2'⟩ := r
      have E1 : Ext (wr.alloc (.cells #[.int .i64 r0', .int .i64 r1', .int .i64 r2'] 59)) (wr.alloc (.cells #[.int .i64 r0', .int .i64 r1', .int .i64 r2'] 59)) := Ext.refl _
      obtain ⟨w1, hw1⟩ : ∃ w1, w1 = wr.alloc (.cells #[.int .i64 r0', .int .i64 r1', .int .i64 r2'] 59) := ⟨_, rfl⟩
      have hbel1 : Below (w.heap.size + 1) (w.alloc (.cells #[.int .i64 0, .int .i64 0] 66)) w1 := by rw [hw1]; exact hbel.alloc (by omega) _
      obtain ⟨z0', z1', y0', y1', hsz'⟩ := fault_kept hbel1
      have hE1 : Ext w w1 := by rw [hw1]; exact hEw.alloc _
      have b0 : w1.cell? ⟨wr.heap.size, 0, none⟩ = some (.int .i64 r0') := by rw [hw1]; simp
      have b1 : w1.cell? ⟨wr.heap.size, 1, none⟩ = some (.int .i64 r1') := by rw [hw1]; simp
      have b2 : w1.cell? ⟨wr.heap.size, 2, none⟩ = some (.int .i64 r2') := by rw [hw1]; simp
      have hf1 := hf.ext hE1
      have hbx : wr.heap.size < w1.heap.size := by rw [hw1]; simp
      clear E1 z0 z1 y0 y1
      go_upto_region 6 with fail
      rw [← hw1]
      clear c0 c1 c2 hw1
      cases hin : inR (r0', r1', r2') with
      | false =>
        have hfin : Rul.wr 0 (pv rs 0) (rs.drop 0) = (3, (k : Int)) := by rw [HW.out, HST.out, if_pos hin]
        have HF : Hid _ := hfin
        clear hfin
        rcases inR_false hin with e1 | ⟨e1, e2⟩ | ⟨e1, e2, e3⟩ | ⟨e1, e2, e3, e4⟩ | ⟨e1, e2, e3, e4, e5⟩ | ⟨e1, e2, e3, e4, e5, e6⟩
        all_goals (
          clear hin
          go_wp2
          refine bodyPost_ret (v := .agg #[.int .i64 3, .int .i64 k]) (by simp [results, Try.results38, go_sem, z0', z1']) rfl ⟨by first | rw [HF.out] | (have hq := HF.out; rw [List.drop_zero] at hq; rw [hq]), ?_⟩
          exact (hE1.setCell (Nat.le_refl _) _).setCell (Nat.le_refl _) _)
      | true =>
        obtain ⟨f1, f2, f3, f4, f5, f6⟩ := inR_true hin
        have HST2 : Hid _ := HST.out.trans (if_neg (by rw [hin]; simp))
        clear HST hin
        by_cases hk0 : k = 0
        · subst hk0
          have HW2 : Hid (Rul.wr 0 (pv rs 0) (rs.drop 0) = Rul.wr 1 (pv rs 1) (rs.drop 1)) := HW.out.trans (HST2.out.trans (if_neg (by simp [pv])))
          clear HST2 HW
          go_wp2_with fail
          refine wp_region_quiet_below (by kernel_rfl) (by kernel_rfl) ?_
          repeat (go_big_quiet_step (fail))
          refine wpQuiet_nil ?_
          intro _ hw'
          obtain ⟨⟨dq, oq⟩, hw''⟩ := hw'
          subst hw''
          go_wp2
          exact ⟨⟨1, by omega, by go_num, HW2, hbel1.trans (Below.mono (below_regrown w1 dq oq) (by omega))⟩, by simp [intOf]; omega⟩
        · obtain ⟨k, rfl⟩ : ∃ j, k = j + 1 := ⟨k - 1, by omega⟩
          obtain ⟨g, off, e, hg, hcs⟩ := hf1.get (k := k) (by omega)
          cases e
          obtain ⟨c0, c1, c2⟩ := hcs k (by omega)
          obtain ⟨q, hq⟩ : ∃ q, rs.getD k r0 = q := ⟨_, rfl⟩
          rw [hq] at c0 c1 c2
          have HP : Hid (pv rs (k + 1) = some q) := by show some (rs.getD k r0) = _; rw [hq]
          have HQ : Hid _ := ahead_re q (r0', r1', r2') w1
          have x0' := cell_regrown c0
          have x1' := cell_regrown c1
          have x2' := cell_regrown c2
          have v0' := cell_regrown b0
          have v1' := cell_regrown b1
          have v2' := cell_regrown b2
          have bk : (k : Int) < (len : Int) := by omega
          have i0 : (0 : Int) < (k : Int) + 1 := by omega
          clear c0 c1 c2 hcs hq hk0
          cases hlq : lt q (r0', r1', r2') with
          | true =>
            have HW2 : Hid (Rul.wr 0 (pv rs 0) (rs.drop 0) = Rul.wr (k + 1 + 1) (pv rs (k + 1 + 1)) (rs.drop (k + 1 + 1))) := HW.out.trans (HST2.out.trans (if_neg (by rw [HP.out]; simp [hlq])))
            rw [hlq] at HQ
            clear HST2 HW HP hlq
            go_wp2_with fail
            refine wp_region_quiet_below (by kernel_rfl) (by kernel_rfl) ?_
            repeat (go_big_quiet_step (with_reducible exact HQ.out _ _))
            refine wpQuiet_nil ?_
            intro _ hw'
            obtain ⟨⟨dq, oq⟩, hw''⟩ := hw'
            subst hw''
            clear x0' x1' x2' v0' v1' v2' HQ
            go_wp2
            exact ⟨⟨k + 1 + 1, by omega, by go_num, HW2, hbel1.trans (Below.mono (below_regrown w1 dq oq) (by omega))⟩, by simp [intOf]; omega⟩
          | false =>
            have hfin : Rul.wr 0 (pv rs 0) (rs.drop 0) = (2, ((k + 1 : Nat) : Int)) := HW.out.trans (HST2.out.trans (if_pos (by rw [HP.out]; simp [hlq])))
            have HF : Hid _ := hfin
            rw [hlq] at HQ
            clear HST2 HW HP hlq hfin
            go_wp2_with fail
            refine wp_region_quiet_below (by kernel_rfl) (by kernel_rfl) ?_
            repeat (go_big_quiet_step (with_reducible exact HQ.out _ _))
            refine wpQuiet_nil ?_
            intro _ hw'
            obtain ⟨⟨dq, oq⟩, hw''⟩ := hw'
            subst hw''
            clear x0' x1' x2' v0' v1' v2' HQ
            have hbel2 := hbel1.trans (Below.mono (below_regrown w1 dq oq) (by omega))
            obtain ⟨z0, z1, y0, y1, hsz2⟩ := fault_kept hbel2
            have hE2 : Ext w (grow (redrawn w1 dq) oq) := hE1.trans (below_regrown w1 dq oq)
            clear z0' z1' y0' y1'
            generalize grow (redrawn w1 dq) oq = wq at z0 z1 y0 y1 hE2 ⊢
            go_wp2
            refine bodyPost_ret (v := .agg #[.int .i64 2, .int .i64 ((k + 1 : Nat) : Int)]) (by simp [results, Try.results38, go_sem, z0, z1]) rfl ⟨by first | rw [HF.out] | (have hq := HF.out; rw [List.drop_zero] at hq; rw [hq]), ?_⟩
            exact (hE2.setCell (Nat.le_refl _) _).setCell (Nat.le_refl _) _
    · have hfin : Rul.wr 0 (pv rs 0) (rs.drop 0) = (0, 0) := by rw [HW.out, wr_end (by omega)]
      have HF : Hid _ := hfin
      clear hfin
      go_wp2
      refine bodyPost_ret (v := .agg #[.int .i64 0, .int .i64 0]) (by simp [results, Try.results38, go_sem, z0, z1]) rfl ⟨by first | rw [HF.out] | (have hq := HF.out; rw [List.drop_zero] at hq; rw [hq]), ?_⟩
      exact (hEw.setCell (Nat.le_refl _) _).setCell (Nat.le_refl _) _

theorem refWrong_any (ao : Option Addr) (len cap : Nat) (rs : List Ru) (w : World) (hlen : rs.length = len) (hf : RsAt w ao rs) (hl : len ≤ 9223372036854775807) :
    Calls Try.prog 38 #[.slice ao len cap] w fun e w' => e = .returned (.agg #[.int .i64 (Rul.wrong rs).1, .int .i64 (Rul.wrong rs).2]) ∧ Ext w w' := by
  by_cases h : 16 < len
  · rw [wrong_many (by omega)]
    exact refWrong_many ao len cap w h hl
  · exact refWrong_few ao len cap rs w hlen hf h

end Go.Proofs.Ytmjddnnjjmnddad.Tb
