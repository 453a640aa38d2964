/- What Wrong says of rules, for every row of them; nothing that was there is changed. -/
import Derived.Test.YtmjddnnjjmnddadV12
namespace Go.Proofs.Ytmjddnnjjmnddad.Tb
open Go.RowKit Go.Deep Rul Go.Sort

theorem fldF (a b : Int) (w : World) : (Instr.field 66 (.agg #[.int .i64 a, .int .i64 b]) 0).run Try.prog w = .ok (.int .i64 a) w := by kernel_rfl
def pv (rs : List Ru) : Nat → Option Ru
  | 0 => none
  | k + 1 => some (rs.getD k r0)
theorem wr_step {rs : List Ru} {k : Nat} (hk : k < rs.length) : wr k (pv rs k) (rs.drop k) = if inR (rs.getD k r0) = false then (3, (k : Int)) else if (pv rs k).any (fun q => !lt q (rs.getD k r0)) then (2, (k : Int)) else wr (k + 1) (pv rs (k + 1)) (rs.drop (k + 1)) := by
  have e : rs.getD k r0 = rs[k] := by simp [List.getD_eq_getElem?_getD, hk]
  rw [List.drop_eq_getElem_cons hk, wr, pv, e]
theorem wr_end {rs : List Ru} {k : Nat} (hk : rs.length ≤ k) : wr k (pv rs k) (rs.drop k) = (0, 0) := by rw [List.drop_eq_nil_of_le hk, wr]
theorem fault_kept {w wr : World} {a b : Value} {T : TypeId} (h : Below (w.heap.size + 1) (w.alloc (.cells #[a, b] T)) wr) : wr.cell? ⟨w.heap.size, 0, none⟩ = some a ∧ wr.cell? ⟨w.heap.size, 1, none⟩ = some b ∧ wr.frozen? ⟨w.heap.size, 0, none⟩ = false ∧ wr.frozen? ⟨w.heap.size, 1, none⟩ = false ∧ w.heap.size < wr.heap.size := by
  have k : w.heap.size < w.heap.size + 1 := by omega
  refine ⟨(h.cell (p := ⟨w.heap.size, 0, none⟩) k).trans (by simp), (h.cell (p := ⟨w.heap.size, 1, none⟩) k).trans (by simp), (h.frozen (p := ⟨w.heap.size, 0, none⟩) k).trans (by simp), (h.frozen (p := ⟨w.heap.size, 1, none⟩) k).trans (by simp), ?_⟩
  have := Below.size h
  simp at this
  omega

set_option maxHeartbeats 1000000 in
theorem Wrong_many (ao : Option Addr) (len cap : Nat) (w : World) (h : 16 < len) (hl : len ≤ 9223372036854775807) :
    Calls Try.prog 36 #[.slice ao len cap] w fun e w' => e = .returned (.agg #[.int .i64 10, .int .i64 0]) ∧ Ext w w' := by
  go_enter Try.func36, Try.ntmps36
  go_wp2
  exact bodyPost_ret (v := .agg #[.int .i64 10, .int .i64 0]) (by simp [results, Try.results36, go_sem]) rfl ⟨rfl, (Ext.refl w).alloc _⟩

set_option maxRecDepth 100000 in
set_option maxHeartbeats 400000 in
theorem Wrong_few (ao : Option Addr) (len cap : Nat) (rs : List Ru) (w : World) (hlen : rs.length = len) (hf : RsAt w ao rs) (h16 : ¬ 16 < len) :
    Calls Try.prog 36 #[.slice ao len cap] w fun e w' => e = .returned (.agg #[.int .i64 (Rul.wrong rs).1, .int .i64 (Rul.wrong rs).2]) ∧ Ext w w' := by
  have hw0 : Rul.wrong rs = Rul.wr 0 (pv rs 0) (rs.drop 0) := by rw [Rul.wrong, if_neg (by omega), List.drop_zero]; rfl
  rw [hw0]
  go_enter Try.func36, Try.ntmps36
  go_wp2
  go_loopw [11] (fun iv wd => ∃ k : Nat, k ≤ len ∧ iv = .int .i64 k ∧ Hid (Rul.wr 0 (pv rs 0) (rs.drop 0) = Rul.wr k (pv rs k) (rs.drop k)) ∧ Below (w.heap.size + 1) (w.alloc (.cells #[.int .i64 0, .int .i64 0] 66)) wd) (fun iv _ => len - (intOf iv).toNat)
  case atStart => exact ⟨0, Nat.zero_le _, rfl, rfl, Below.refl _ _⟩
  case round =>
    obtain ⟨k, hk, rfl, HW, hbel⟩ := hrel
    obtain ⟨z0, z1, y0, y1, hsz⟩ := fault_kept hbel
    have hEw : Ext w wr := Below.trans ((Ext.refl w).alloc _) (hbel.mono (by omega))
    by_cases hlt : k < len
    · obtain ⟨g, off, rfl, hg, hcs⟩ := (hf.ext hEw).get (k := k) (by omega)
      have i1 : (k : Int) < (len : Int) := by omega
      have HST : Hid _ := wr_step (rs := rs) (k := k) (by omega)
      obtain ⟨c0, c1, c2⟩ := hcs k (by omega)
      obtain ⟨r, hr⟩ : ∃ r, rs.getD k r0 = r := ⟨_, rfl⟩
      rw [hr] at c0 c1 c2 HST
      have HR : Hid _ := hr
      clear hr hcs
      go_wp2_with fail
      refine (inRange_any r _).mono ?_
      rintro e w1 ⟨he, E1⟩
      have hbel1 : Below (w.heap.size + 1) (w.alloc (.cells #[.int .i64 0, .int .i64 0] 66)) w1 := (hbel.alloc (by omega) _).trans (Below.mono E1 (by simp; omega))
      obtain ⟨z0', z1', y0', y1', hsz'⟩ := fault_kept hbel1
      have hE1 : Ext w w1 := (hEw.alloc _).trans E1
      have b0 : w1.cell? ⟨wr.heap.size, 0, none⟩ = some (.int .i64 r.1) := (E1.cells.1 _ _ (by simp)).trans (by simp)
      have b1 : w1.cell? ⟨wr.heap.size, 1, none⟩ = some (.int .i64 r.2.1) := (E1.cells.1 _ _ (by simp)).trans (by simp)
      have b2 : w1.cell? ⟨wr.heap.size, 2, none⟩ = some (.int .i64 r.2.2) := (E1.cells.1 _ _ (by simp)).trans (by simp)
      have hf1 := hf.ext hE1
      clear z0 z1 y0 y1 c0 c1 c2
      cases hin : inR r with
      | false =>
        rw [hin] at he
        subst he
        have hfin : Rul.wr 0 (pv rs 0) (rs.drop 0) = (3, (k : Int)) := by rw [HW.out, HST.out, if_pos hin]
        have HF : Hid _ := hfin
        clear hfin hin
        go_wp2
        refine bodyPost_ret (v := .agg #[.int .i64 3, .int .i64 k]) (by simp [results, Try.results36, go_sem, z0', z1']) rfl ⟨by rw [HF.out], ?_⟩
        exact (hE1.setCell (Nat.le_refl _) _).setCell (Nat.le_refl _) _
      | true =>
        rw [hin] at he
        subst he
        have HST2 : Hid _ := HST.out.trans (if_neg (by rw [hin]; simp))
        clear HST hin
        by_cases hk0 : k = 0
        · subst hk0
          have HW2 : Hid (Rul.wr 0 (pv rs 0) (rs.drop 0) = Rul.wr 1 (pv rs 1) (rs.drop 1)) := HW.out.trans (HST2.out.trans (if_neg (by simp [pv])))
          clear HST2 HW
          go_wp2_with fail
          refine wp_region_quiet_below (by kernel_rfl) (by kernel_rfl) ?_
          repeat (go_big_quiet_step (fail))
          refine wpQuiet_nil ?_
          intro _ hw'
          obtain ⟨⟨dq, oq⟩, hw''⟩ := hw'
          subst hw''
          go_wp2
          exact ⟨⟨1, by omega, by go_num, HW2, hbel1.trans (Below.mono (below_regrown w1 dq oq) (by omega))⟩, by simp [intOf]; omega⟩
        · obtain ⟨k, rfl⟩ : ∃ j, k = j + 1 := ⟨k - 1, by omega⟩
          obtain ⟨g, off, e, hg, hcs⟩ := hf1.get (k := k) (by omega)
          cases e
          obtain ⟨c0, c1, c2⟩ := hcs k (by omega)
          obtain ⟨q, hq⟩ : ∃ q, rs.getD k r0 = q := ⟨_, rfl⟩
          rw [hq] at c0 c1 c2
          have HP : Hid (pv rs (k + 1) = some q) := by show some (rs.getD k r0) = _; rw [hq]
          have HQ : Hid _ := order_re q r w1
          have x0' := cell_regrown c0
          have x1' := cell_regrown c1
          have x2' := cell_regrown c2
          have v0' := cell_regrown b0
          have v1' := cell_regrown b1
          have v2' := cell_regrown b2
          have bk : (k : Int) < (len : Int) := by omega
          have i0 : (0 : Int) < (k : Int) + 1 := by omega
          clear c0 c1 c2 hcs hq b0 b1 b2 hk0
          cases hlq : lt q r with
          | true =>
            have HW2 : Hid (Rul.wr 0 (pv rs 0) (rs.drop 0) = Rul.wr (k + 1 + 1) (pv rs (k + 1 + 1)) (rs.drop (k + 1 + 1))) := HW.out.trans (HST2.out.trans (if_neg (by rw [HP.out]; simp [hlq])))
            have hl : ¬ cf q r ≥ 0 := by rw [cf_ge, hlq]; simp
            clear HST2 HW HP hlq
            have hl2 : decide (cf q r ≥ 0) = false := decide_eq_false hl
            go_wp2_with fail
            refine wp_region_quiet_below (by kernel_rfl) (by kernel_rfl) ?_
            repeat (go_big_quiet_step (with_reducible exact HQ.out _ _))
            refine wpQuiet_nil ?_
            intro _ hw'
            obtain ⟨⟨dq, oq⟩, hw''⟩ := hw'
            subst hw''
            clear x0' x1' x2' v0' v1' v2' HQ
            go_wp2
            exact ⟨⟨k + 1 + 1, by omega, by go_num, HW2, hbel1.trans (Below.mono (below_regrown w1 dq oq) (by omega))⟩, by simp [intOf]; omega⟩
          | false =>
            have hfin : Rul.wr 0 (pv rs 0) (rs.drop 0) = (2, ((k + 1 : Nat) : Int)) := HW.out.trans (HST2.out.trans (if_pos (by rw [HP.out]; simp [hlq])))
            have HF : Hid _ := hfin
            have hl : cf q r ≥ 0 := cf_ge.2 hlq
            clear HST2 HW HP hlq hfin
            go_wp2_with fail
            refine wp_region_quiet_below (by kernel_rfl) (by kernel_rfl) ?_
            repeat (go_big_quiet_step (with_reducible exact HQ.out _ _))
            refine wpQuiet_nil ?_
            intro _ hw'
            obtain ⟨⟨dq, oq⟩, hw''⟩ := hw'
            subst hw''
            clear x0' x1' x2' v0' v1' v2' HQ
            have hbel2 := hbel1.trans (Below.mono (below_regrown w1 dq oq) (by omega))
            obtain ⟨z0, z1, y0, y1, hsz2⟩ := fault_kept hbel2
            have hE2 : Ext w (grow (redrawn w1 dq) oq) := hE1.trans (below_regrown w1 dq oq)
            clear z0' z1' y0' y1'
            generalize grow (redrawn w1 dq) oq = wq at z0 z1 y0 y1 hE2 ⊢
            go_wp2
            refine bodyPost_ret (v := .agg #[.int .i64 2, .int .i64 ((k + 1 : Nat) : Int)]) (by simp [results, Try.results36, go_sem, z0, z1]) rfl ⟨by rw [HF.out], ?_⟩
            exact (hE2.setCell (Nat.le_refl _) _).setCell (Nat.le_refl _) _
    · have hfin : Rul.wr 0 (pv rs 0) (rs.drop 0) = (0, 0) := by rw [HW.out, wr_end (by omega)]
      have HF : Hid _ := hfin
      clear hfin
      go_wp2
      refine bodyPost_ret (v := .agg #[.int .i64 0, .int .i64 0]) (by simp [results, Try.results36, go_sem, z0, z1]) rfl ⟨by rw [HF.out], ?_⟩
      exact (hEw.setCell (Nat.le_refl _) _).setCell (Nat.le_refl _) _

theorem wrong_many {rs : List Ru} (h : 16 < rs.length) : Rul.wrong rs = (10, 0) := by rw [Rul.wrong, if_pos h]
theorem Wrong_any (ao : Option Addr) (len cap : Nat) (rs : List Ru) (w : World) (hlen : rs.length = len) (hf : RsAt w ao rs) (hl : len ≤ 9223372036854775807) :
    Calls Try.prog 36 #[.slice ao len cap] w fun e w' => e = .returned (.agg #[.int .i64 (Rul.wrong rs).1, .int .i64 (Rul.wrong rs).2]) ∧ Ext w w' := by
  by_cases h : 16 < len
  · rw [wrong_many (by omega)]
    exact Wrong_many ao len cap w h hl
  · exact Wrong_few ao len cap rs w hlen hf h

end Go.Proofs.Ytmjddnnjjmnddad.Tb
