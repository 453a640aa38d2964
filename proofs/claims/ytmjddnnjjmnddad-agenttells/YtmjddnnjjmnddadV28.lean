/- The walk of the document's own Add. -/
import Derived.Test.YtmjddnnjjmnddadV27
import Derived.BigQuiet
import Derived.Deep.DeepCutAuto
import Derived.Deep.LoopGhost
import Derived.Deep.CutBlock
import Derived.Deep.RegionHeld3
namespace Go.Proofs.Ytmjddnnjjmnddad.Tb
open Go.RowKit Go.Deep Rul Go.Sort

set_option maxRecDepth 100000 in
set_option maxHeartbeats 8000000 in
theorem refAdd_cap (ao bo : Option Addr) (la ca lb cb : Nat) (ra rb : List Ru) (w : World) (ha : SlOk w ao la ca ra) (hb : SlOk w bo lb cb rb) (hla : la ≤ 9223372036854775807) (hlb : lb * 24 ≤ 140737488351232) (hca : la ≤ ca) (hcx : ca ≤ 9223372036854775807) :
    Calls Try.prog 42 #[.slice ao la ca, .slice bo lb cb] w fun e w' => ∃ vo vc, e = .returned (.tuple #[.slice vo (add ra rb).1.length vc, .int .i64 (add ra rb).2]) ∧ SlOk w' vo (add ra rb).1.length vc (add ra rb).1 ∧ ((add ra rb).1.length ≤ vc ∧ vc ≤ 9223372036854775807) ∧ Ext w w' := by
  obtain ⟨x, hx⟩ : ∃ x, x = (Rul.wrong ra).1 := ⟨_, rfl⟩
  go_enter Try.func42, Try.ntmps42
  go_wp2_with fail
  refine (refWrong_any ao la ca ra _ ha.hlen ha.hat hla).mono ?_
  rintro e w1 ⟨he, E1⟩
  obtain ⟨xat, rfl⟩ : ∃ xat, e = .returned (.agg #[.int .i64 x, .int .i64 xat]) := ⟨_, by rw [hx]; exact he⟩
  clear he
  by_cases h0 : x = 0
  · have ht : tab ra := by unfold tab; rw [← hx, h0]
    have HT : Hid (tab ra) := ht
    have hl16 := (tab_iff.1 ht).1
    have hlen := ha.hlen
    have hO0 : dd (sst (ra ++ rb.take 0)) = ra := by rw [List.take_zero]; exact addD_zero (tab_iff.1 ht).2.2
    have HO0 : Hid _ := hO0
    clear ht hx hO0
    subst h0
    obtain ⟨W, hW⟩ : ∃ W, W = w1.alloc (.cells #[.int .i64 0, .int .i64 xat] 66) := ⟨_, rfl⟩
    have hEW : Ext w W := by rw [hW]; exact E1.alloc _
    have hlenb := hb.hlen
    go_wp2
    rw [← hW]
    clear hW
    go_loopg [7, 24] lb (fun gg ov iv wd => ∃ (i : Nat) (vo : Option Addr) (vc : Nat) (O : List Ru), lb - i ≤ gg ∧ i ≤ lb ∧ iv = .int .i64 i ∧ ov = .slice vo O.length vc ∧ O.length ≤ vc ∧ vc ≤ 9223372036854775807 ∧ Hid (O = dd (sst (ra ++ rb.take i))) ∧ SlOk wd vo O.length vc O ∧ Ext W wd)
    case atStart => exact ⟨0, ao, ca, ra, by omega, Nat.zero_le _, rfl, by rw [hlen], by omega, hcx, HO0.out.symm, by rw [hlen]; exact ha.ext hEW, Ext.refl W⟩
    case round =>
      obtain ⟨i, vo, vc, O, hgg, hi, rfl, rfl, hOc, hvx, HO, okO, hE⟩ := hrel
      have hOl : O.length ≤ 16 + i := by
        rw [HO.out]
        refine Nat.le_trans (dd_len _) ?_
        rw [sst_len, List.length_append, List.length_take]; omega
      by_cases hil : i < lb
      · have i1 : (i : Int) < (lb : Int) := by omega
        obtain ⟨g, off, rfl, hg, hcs⟩ := ((hb.ext (hEW.trans hE)).hat).get (k := i) (by omega)
        obtain ⟨c0, c1, c2⟩ := hcs i (by omega)
        obtain ⟨r, hr⟩ : ∃ r, rb.getD i r0 = r := ⟨_, rfl⟩
        rw [hr] at c0 c1 c2
        have hstep := addD_step (l := ra) (more := rb) (k := i) (by omega)
        rw [hr, ← HO.out] at hstep
        have HS : Hid _ := hstep
        clear hr hcs hstep
        obtain ⟨B, hB⟩ : ∃ B, B = wr.alloc (.cells #[.int .i64 r.1, .int .i64 r.2.1, .int .i64 r.2.2] 59) := ⟨_, rfl⟩
        have hEB : Ext wr B := by rw [hB]; exact (Ext.refl wr).alloc _
        have hsB : wr.heap.size < B.heap.size := by rw [hB]; simp
        have r0' : B.cell? ⟨wr.heap.size, 0, none⟩ = some (.int .i64 r.1) := by rw [hB]; simp
        have r1' : B.cell? ⟨wr.heap.size, 1, none⟩ = some (.int .i64 r.2.1) := by rw [hB]; simp
        have r2' : B.cell? ⟨wr.heap.size, 2, none⟩ = some (.int .i64 r.2.2) := by rw [hB]; simp
        obtain ⟨bx, hbx⟩ : ∃ bx, bx = wr.heap.size := ⟨_, rfl⟩
        go_upto_block 2 with fail
        rw [← hB]
        rw [← hbx] at r0' r1' r2' hsB ⊢
        have okB := okO.ext hEB
        have hEB2 := hE.trans hEB
        clear hB hbx c0 c1 c2 okO hE hEB
        have HR : Hid (∀ X, Ext B X → X.cell? ⟨bx, 0, none⟩ = some (.int .i64 r.1) ∧ X.cell? ⟨bx, 1, none⟩ = some (.int .i64 r.2.1) ∧ X.cell? ⟨bx, 2, none⟩ = some (.int .i64 r.2.2)) := fun X hX => ⟨(hX.cells.1 _ _ hsB).trans r0', (hX.cells.1 _ _ hsB).trans r1', (hX.cells.1 _ _ hsB).trans r2'⟩
        clear r0' r1' r2'
        go_cut [10] (fun kv wc => kv = .int .i64 (pre r O : Nat) ∧ Ext B wc)
        case first => as_aux_lemma =>
          go_wp2_with fail
          go_loopw [10] (fun kv wd => ∃ k : Nat, k ≤ O.length ∧ kv = .int .i64 k ∧ Hid (∀ t, t < k → lt r (O.getD t r0) = false) ∧ Ext B wd) (fun kv _ => O.length - (intOf kv).toNat)
          case atStart => exact ⟨0, Nat.zero_le _, rfl, fun t h => absurd h (by omega), Ext.refl B⟩
          case round =>
            obtain ⟨k, hk, rfl, HK, hE⟩ := hrel
            by_cases hkl : k < O.length
            · have i2 : (k : Int) < (O.length : Int) := by omega
              obtain ⟨g', off', rfl, hg', hcs'⟩ := ((okB.ext hE).hat).get (k := k) hkl
              obtain ⟨d0, d1, d2⟩ := hcs' k hkl
              obtain ⟨y, hy⟩ : ∃ y, O.getD k r0 = y := ⟨_, rfl⟩
              rw [hy] at d0 d1 d2
              obtain ⟨q0, q1, q2⟩ := HR.out wr hE
              have HQ : Hid _ := ahead_re r y wr
              have x0' := cell_regrown q0
              have x1' := cell_regrown q1
              have x2' := cell_regrown q2
              have y0' := cell_regrown d0
              have y1' := cell_regrown d1
              have y2' := cell_regrown d2
              have HY : Hid _ := hy
              clear q0 q1 q2 d0 d1 d2 hcs' hy
              cases hl : lt r y with
              | false =>
                rw [hl] at HQ
                have HK2 : Hid (∀ t, t < k + 1 → lt r (O.getD t r0) = false) := fun t ht => by
                  by_cases e : t = k
                  · subst e; rw [HY.out]; exact hl
                  · exact HK.out t (by omega)
                clear hl
                go_wp2_with fail
                refine wp_region_quiet_below (by kernel_rfl) (by kernel_rfl) ?_
                repeat (go_big_quiet_step (with_reducible exact HQ.out _ _))
                refine wpQuiet_nil ?_
                intro _ hw'
                obtain ⟨⟨dq, oq⟩, hw''⟩ := hw'
                subst hw''
                clear x0' x1' x2' y0' y1' y2' HQ
                go_wp2
                exact ⟨⟨k + 1, by omega, by go_num, HK2, hE.trans (below_regrown wr dq oq)⟩, by simp [intOf]; omega⟩
              | true =>
                rw [hl] at HQ
                have HP : Hid (pre r O = k) := pre_of hk HK.out (Or.inr (by rw [HY.out]; exact hl))
                clear hl
                go_wp2_with fail
                refine wp_region_quiet_below (by kernel_rfl) (by kernel_rfl) ?_
                repeat (go_big_quiet_step (with_reducible exact HQ.out _ _))
                refine wpQuiet_nil ?_
                intro _ hw'
                obtain ⟨⟨dq, oq⟩, hw''⟩ := hw'
                subst hw''
                clear x0' x1' x2' y0' y1' y2' HQ
                go_wp2
                go_meet
                case rel => exact ⟨by rw [HP.out], hE.trans (below_regrown wr dq oq)⟩
            · have HP : Hid (pre r O = k) := pre_of hk HK.out (Or.inl (by omega))
              have i2 : decide ((k : Int) < (O.length : Int)) = false := decide_eq_false (by omega)
              have i3 : ¬ (k : Int) < (O.length : Int) := by omega
              go_wp2_with fail
              refine wp_region_quiet_below (by kernel_rfl) (by kernel_rfl) ?_
              repeat (go_big_quiet_step (fail))
              refine wpQuiet_nil ?_
              intro _ hw'
              obtain ⟨⟨dq, oq⟩, hw''⟩ := hw'
              subst hw''
              go_wp2
              go_meet
              case rel => exact ⟨by rw [HP.out], hE.trans (below_regrown wr dq oq)⟩
        case rest => as_aux_lemma =>
          obtain ⟨rfl, hE⟩ := hcut
          obtain ⟨k, hkp⟩ : ∃ k, pre r O = k := ⟨_, rfl⟩
          have hkl : k ≤ O.length := by rw [← hkp, pre]; exact (List.takeWhile_prefix _).length_le
          rw [hkp]
          have HP : Hid (pre r O = k) := hkp
          clear hkp
          obtain ⟨wb, hwb⟩ : ∃ wb, wb = wc := ⟨_, rfl⟩
          subst hwb
          have w0 : IntKind.i64.wrap ((k : Int) - 1) = (k : Int) - 1 := by rw [IntKind.wrap_i64]; omega
          go_upto_block 4 with fail
          go_cut [11] (fun sv wc => ∃ sb : Bool, sv = .bool sb ∧ Hid ((sb = true → 0 < k) ∧ (0 < k → O.getD (k - 1) r0 = r → sb = true)) ∧ Ext B wc)
          case first => as_aux_lemma =>
            go_wp2_with fail
            go_loopw [11, 12] (fun sv jv wd => ∃ (jn : Nat) (sb : Bool), jn ≤ k ∧ sv = .bool sb ∧ jv = .int .i64 ((jn : Int) - 1) ∧ Hid ((sb = true → 0 < k) ∧ (jn < k → O.getD (k - 1) r0 = r → sb = true)) ∧ Ext B wd) (fun _ jv _ => (intOf jv + 1).toNat)
            case atStart => exact ⟨k, false, Nat.le_refl _, rfl, rfl, ⟨(fun h => by cases h), fun h => absurd h (Nat.lt_irrefl _)⟩, hE⟩
            case round =>
              clear hE
              obtain ⟨jn, sb, hjk, rfl, rfl, HSB, hE⟩ := hrel
              by_cases hj0 : jn = 0
              · subst hj0
                have i2 : decide ((-1 : Int) ≥ 0) = false := by decide
                rw [show ((0 : Nat) : Int) - 1 = -1 by omega]
                go_wp2_with fail
                refine wp_region_quiet_below (by kernel_rfl) (by kernel_rfl) ?_
                repeat (go_big_quiet_step (fail))
                refine wpQuiet_nil ?_
                intro _ hw'
                obtain ⟨⟨dq, oq⟩, hw''⟩ := hw'
                subst hw''
                go_wp2
                go_meet
                case rel => exact ⟨sb, rfl, ⟨HSB.out.1, fun h0 => HSB.out.2 h0⟩, hE.trans (below_regrown wr dq oq)⟩
              · obtain ⟨j, rfl⟩ : ∃ j, jn = j + 1 := ⟨jn - 1, by omega⟩
                rw [show ((j + 1 : Nat) : Int) - 1 = (j : Int) by omega]
                have hjl : j < O.length := by omega
                have i2 : (j : Int) < (O.length : Int) := by omega
                obtain ⟨g', off', rfl, hg', hcs'⟩ := ((okB.ext hE).hat).get (k := j) hjl
                obtain ⟨d0, d1, d2⟩ := hcs' j hjl
                obtain ⟨y, hy⟩ : ∃ y, O.getD j r0 = y := ⟨_, rfl⟩
                rw [hy] at d0 d1 d2
                obtain ⟨q0, q1, q2⟩ := HR.out wr hE
                have HQ : Hid _ := ahead_re y r wr
                have x0' := cell_regrown q0
                have x1' := cell_regrown q1
                have x2' := cell_regrown q2
                have y0' := cell_regrown d0
                have y1' := cell_regrown d1
                have y2' := cell_regrown d2
                have HY : Hid _ := hy
                clear q0 q1 q2 d0 d1 d2 hcs' hy hj0
                cases hl : lt y r with
                | true =>
                  rw [hl] at HQ
                  have HS2 : Hid (0 < k → O.getD (k - 1) r0 = r → sb = true) := fun h0 h1 => by
                    by_cases e : j + 1 < k
                    · exact HSB.out.2 e h1
                    · rw [show k - 1 = j by omega, HY.out] at h1
                      rw [h1, swo.irrefl] at hl
                      cases hl
                  clear hl
                  go_wp2_with fail
                  refine wp_region_quiet_below (by kernel_rfl) (by kernel_rfl) ?_
                  repeat (go_big_quiet_step (with_reducible exact HQ.out _ _))
                  refine wpQuiet_nil ?_
                  intro _ hw'
                  obtain ⟨⟨dq, oq⟩, hw''⟩ := hw'
                  subst hw''
                  clear x0' x1' x2' y0' y1' y2' HQ
                  go_wp2
                  go_meet
                  case rel => exact ⟨sb, rfl, ⟨HSB.out.1, HS2.out⟩, hE.trans (below_regrown wr dq oq)⟩
                | false =>
                  rw [hl] at HQ
                  clear hl
                  go_wp2_with fail
                  refine wp_region_quiet_below (by kernel_rfl) (by kernel_rfl) ?_
                  repeat (go_big_quiet_step (with_reducible exact HQ.out _ _))
                  refine wpQuiet_nil ?_
                  intro _ hw'
                  obtain ⟨⟨dq, oq⟩, hw''⟩ := hw'
                  subst hw''
                  have EQ := below_regrown wr dq oq
                  have hE2 := hE.trans EQ
                  clear x0' x1' x2' y0' y1' y2' HQ
                  generalize grow (redrawn wr dq) oq = wq at hE2 EQ ⊢
                  obtain ⟨g2, off2, eg, _, hcs2⟩ := ((okB.ext hE2).hat).get (k := j) hjl
                  cases eg
                  obtain ⟨d0, d1, d2⟩ := hcs2 j hjl
                  rw [HY.out] at d0 d1 d2
                  obtain ⟨q0, q1, q2⟩ := HR.out wq hE2
                  clear hcs2 EQ
                  have w1 : IntKind.i64.wrap ((j : Int) - 1) = (j : Int) - 1 := by rw [IntKind.wrap_i64]; omega
                  cases sb with
                  | true =>
                    go_wp2_with fail
                    go_region
                    go_wp2
                    exact ⟨⟨j, true, by omega, rfl, by go_num, ⟨fun _ => by omega, fun _ _ => rfl⟩, hE2.drew⟩, by simp [intOf]⟩
                  | false =>
                    by_cases hyr : y = r
                    · subst hyr
                      go_wp2_with fail
                      go_region
                      go_wp2
                      exact ⟨⟨j, true, by omega, rfl, by go_num, ⟨fun _ => by omega, fun _ _ => rfl⟩, hE2.drew⟩, by simp [intOf]⟩
                    · have HS2 : Hid ((false = true → 0 < k) ∧ (j < k → O.getD (k - 1) r0 = r → false = true)) := ⟨(fun h => by cases h), fun _ h1 => by
                        by_cases e : j + 1 < k
                        · exact HSB.out.2 e h1
                        · rw [show k - 1 = j by omega, HY.out] at h1
                          exact absurd h1 hyr⟩
                      rcases ne_cases hyr with e1 | ⟨e1, e2⟩ | ⟨e1, e2, e3⟩
                      all_goals (
                        clear hyr
                        go_wp2_with fail
                        go_region
                        go_wp2
                        exact ⟨⟨j, false, by omega, rfl, by go_num, HS2, hE2.drew⟩, by simp [intOf]⟩)
          case rest => as_aux_lemma =>
            obtain ⟨sb, rfl, HSB, hE3⟩ := hcut
            obtain ⟨wd0, hwd0⟩ : ∃ wd0, wd0 = wc := ⟨_, rfl⟩
            subst hwd0
            go_upto_region 16 with fail
            go_cut [76] (fun v wc => v = .bool (decide (0 < k ∧ O.getD (k - 1) r0 = r)) ∧ Ext B wc)
            case first => as_aux_lemma =>
              cases sb with
              | false =>
                have hc : decide (0 < k ∧ O.getD (k - 1) r0 = r) = false := decide_eq_false (fun h => by have := HSB.out.2 h.1 h.2; cases this)
                have HC : Hid _ := hc
                clear hc
                go_region
                go_wp2
                go_meet
                case rel => exact ⟨by rw [HC.out], hE3.drew⟩
              | true =>
                have hk0 : 0 < k := HSB.out.1 rfl
                obtain ⟨k', rfl⟩ : ∃ k', k = k' + 1 := ⟨k - 1, by omega⟩
                have i2 : (k' : Int) < (O.length : Int) := by omega
                obtain ⟨g', off', rfl, hg', hcs'⟩ := ((okB.ext hE3).hat).get (k := k') (by omega)
                obtain ⟨d0, d1, d2⟩ := hcs' k' (by omega)
                obtain ⟨y, hy⟩ : ∃ y, O.getD k' r0 = y := ⟨_, rfl⟩
                rw [hy] at d0 d1 d2
                obtain ⟨q0, q1, q2⟩ := HR.out _ hE3
                have HY : Hid _ := hy
                clear hcs' hy
                by_cases hyr : y = r
                · subst hyr
                  have hc : decide (0 < k' + 1 ∧ O.getD (k' + 1 - 1) r0 = y) = true := decide_eq_true ⟨hk0, HY.out⟩
                  have HC : Hid _ := hc
                  clear hc
                  go_region
                  go_wp2
                  go_meet
                  case rel => exact ⟨by rw [HC.out], hE3.drew⟩
                · have hc : decide (0 < k' + 1 ∧ O.getD (k' + 1 - 1) r0 = r) = false := decide_eq_false (fun h => hyr (HY.out.symm.trans h.2))
                  have HC : Hid _ := hc
                  clear hc
                  rcases ne_cases hyr with e1 | ⟨e1, e2⟩ | ⟨e1, e2, e3⟩
                  all_goals (
                    clear hyr
                    go_region
                    go_wp2
                    go_meet
                    case rel => exact ⟨by rw [HC.out], hE3.drew⟩)
            case rest => as_aux_lemma =>
              clear hE3 HSB hE
              obtain ⟨rfl, hE⟩ := hcut
              by_cases hcond : 0 < k ∧ O.getD (k - 1) r0 = r
              · have hO2 : O = dd (sst (ra ++ rb.take (i + 1))) := by rw [HS.out, insD, HP.out, if_pos hcond]
                have HO2 : Hid _ := hO2
                have hc : decide (0 < k ∧ O.getD (k - 1) r0 = r) = true := decide_eq_true hcond
                rw [hc]
                clear hO2 hc hcond
                go_wp2
                go_roundg (lb - (i + 1))
                case measure => omega
                case rel => exact ⟨i + 1, vo, vc, O, by omega, by omega, by go_num, rfl, hOc, hvx, HO2, okB.ext hE, hEB2.trans hE⟩
              · have hO2 : O.take k ++ [r] ++ O.drop k = dd (sst (ra ++ rb.take (i + 1))) := by rw [HS.out, insD, HP.out, if_neg hcond]
                have HO2 : Hid _ := hO2
                have hc : decide (0 < k ∧ O.getD (k - 1) r0 = r) = false := decide_eq_false hcond
                rw [hc]
                clear hO2 hc hcond
                obtain ⟨X, hX⟩ : ∃ X, X = wc := ⟨_, rfl⟩
                subst hX
                obtain ⟨q0, q1, q2⟩ := HR.out X hE
                have hbxX : bx < X.heap.size := World.block_lt_of_cell? X _ q0
                have okX : Hid _ := okB.ext hE
                have okT : Hid _ := okX.out.take hkl
                have HO3 : Hid ([] ++ O.take k ++ [r] ++ O.drop k = dd (sst (ra ++ rb.take (i + 1)))) := HO2.out
                have hnl : (O.take k).length = k := by rw [List.length_take]; omega
                have okNew : Hid (∀ Y : World, SlOk (Y.alloc (.cells #[.int .i64 r.1, .int .i64 r.2.1, .int .i64 r.2.2] 59)) (some ⟨Y.heap.size, 0, none⟩) 1 1 [r]) := fun Y =>
                  ⟨rfl, Or.inr ⟨_, 0, rfl, by simp, fun k hk => by
                    have hk0 : k = 0 := by simpa using hk
                    subst hk0
                    simp⟩, fun h => by cases h⟩
                have roA : Hid (RO (X.alloc (.cells #[] 59)).drew X.heap.size (.slice (some ⟨X.heap.size, 0, none⟩) 0 0) []) := own_emptyR (Nat.le_refl _) (heap_alloc_new X _)
                have roB : Hid (RO ((X.alloc (.cells #[] 59)).alloc (.cells #[.int .i64 r.1, .int .i64 r.2.1, .int .i64 r.2.2] 59)).drew X.heap.size (.slice (some ⟨X.heap.size, 0, none⟩) 0 0) []) := RO.ext roA.out ((Ext.refl (X.alloc (.cells #[] 59)).drew).alloc _)
                have roC : Hid (RO ((X.alloc (.cells #[.int .i64 r.1, .int .i64 r.2.1, .int .i64 r.2.2] 59)).alloc (.cells #[] 59)).drew X.heap.size (.slice (some ⟨X.heap.size + 1, 0, none⟩) 0 0) []) := own_emptyR (by omega) (by
                  have := heap_alloc_new (X.alloc (.cells #[.int .i64 r.1, .int .i64 r.2.1, .int .i64 r.2.2] 59)) (.cells #[] 59)
                  rwa [World.size_alloc] at this)
                have okOf : ∀ (Y : World) (b : Nat), Y.heap[b]? = some (.cells #[.int .i64 r.1, .int .i64 r.2.1, .int .i64 r.2.2] 59 (0, 0)) → SlOk Y (some ⟨b, 0, none⟩) 1 1 [r] := fun Y b hY =>
                  ⟨rfl, Or.inr ⟨b, 0, rfl, (Array.getElem?_eq_some_iff.1 hY).1, fun k hk => by
                    have hk0 : k = 0 := by simpa using hk
                    subst hk0
                    simp [World.cell?, hY]⟩, fun h => by cases h⟩
                have okrB : Hid (∀ Y : World, ((X.alloc (.cells #[] 59)).alloc (.cells #[.int .i64 r.1, .int .i64 r.2.1, .int .i64 r.2.2] 59)).drew.grownBy Y (some X.heap.size) → SlOk Y (some ⟨X.heap.size + 1, 0, none⟩) 1 1 [r]) := fun Y hY => okOf Y _ (by
                  rw [hY.block (X.heap.size + 1) (by simp) (by simp)]
                  have := heap_alloc_new (X.alloc (.cells #[] 59)) (.cells #[.int .i64 r.1, .int .i64 r.2.1, .int .i64 r.2.2] 59)
                  rw [World.size_alloc] at this
                  exact this)
                have okrC : Hid (∀ Y : World, ((X.alloc (.cells #[.int .i64 r.1, .int .i64 r.2.1, .int .i64 r.2.2] 59)).alloc (.cells #[] 59)).drew.grownBy Y (some (X.heap.size + 1)) → SlOk Y (some ⟨X.heap.size, 0, none⟩) 1 1 [r]) := fun Y hY => okOf Y _ (by
                  rw [hY.block X.heap.size (by simp; omega) (by simp)]
                  exact (Below.heap_alloc _ _ _ (by simp)).trans (heap_alloc_new X _))
                clear okOf
                have HLL : Hid (k + (O.length - k + 1) = ([] ++ O.take k ++ [r] ++ O.drop k).length) := by show _ = _; simp; omega
                have hkc : (k : Int) ≤ (vc : Int) := by omega
                have hkO : (k : Int) ≤ (O.length : Int) := by omega
                have hOv : (O.length : Int) ≤ (vc : Int) := by omega
                by_cases hpos : 0 < O.length
                · obtain ⟨g', off', rfl, _, _⟩ := okX.out.hat.get hpos
                  by_cases hvk : vc = k
                  · have okD : Hid (∀ c', SlOk X (some ⟨g', off', none⟩) 0 c' (O.drop k)) := fun c' => ⟨by rw [List.length_drop]; omega, Or.inl (List.drop_eq_nil_of_le (by omega)), fun h => by cases h⟩
                    subst hvk
                    go_wp2_with fail
                    go_region_held3 (fun W => W.cell? ⟨bx, 0, none⟩ = some (.int .i64 r.1) ∧ W.cell? ⟨bx, 1, none⟩ = some (.int .i64 r.2.1) ∧ W.cell? ⟨bx, 2, none⟩ = some (.int .i64 r.2.2))
                      (first | exact HR.out _ hE.drew | exact HR.out _ (hE.alloc _).drew | exact HR.out _ ((hE.alloc _).alloc _).drew | exact HR.out _ (hE.trans mk3) | exact HR.out _ ((hE.trans mk3).alloc _) | exact HR.out _ (hE.trans mk4) | exact HR.out _ (hE.trans mk5))
                      (first
                      | (have _t := mkB
                         refine step_append_rules (base := X.heap.size) (rs := [] ++ O.take vc) (rb := [r]) rfl (.tmp 81) (.tmp 83) rfl rfl rfl ?_ ?_ ?_ ?_ ?_
                         · exact hO3
                         · exact okR3
                         · exact mk3.size
                         · first | (simp; done) | (simp; omega)
                         intro v4 w4 hO4 hg4
                         have mk4 : Ext X w4 := Below.grown mk3 hg4 mk3.size (fun j hj => (RO.block hO3 j hj).1)
                         clear hO3 hg4)
                      | (have _t := mkA
                         refine step_append_rules (base := X.heap.size) (rs := [] ++ O.take vc) (rb := [r]) rfl (.tmp 81) (.tmp 83) rfl rfl rfl ?_ ?_ ?_ ?_ ?_
                         · exact RO.ext hO3 ((Ext.refl w3).alloc _)
                         · exact okNew.out w3
                         · have := mk3.size; simp; omega
                         · first | (simp; done) | (simp; omega)
                         intro v4 w4 hO4 hg4
                         have mk4 : Ext X w4 := Below.grown (mk3.alloc _) hg4 (by have := mk3.size; simp; omega) (fun j hj => (RO.block hO3 j hj).1)
                         clear hO3 hg4)
                      | (refine step_append_rules (W := (X.alloc (.cells #[] 59)).drew) (base := X.heap.size) (rs := []) (rb := O.take vc) rfl (.tmp 77) (.tmp 80) rfl rfl rfl ?_ ?_ ?_ ?_ ?_
                         · exact roA.out
                         · exact okT.out.ext ((Ext.refl X).alloc _).drew
                         · simp
                         · first | (simp; done) | (simp; omega)
                         intro v3 w3 hO3 hg3
                         have mk3 : Ext X w3 := Below.grown ((Ext.refl X).alloc _).drew hg3 (by simp) (fun j hj => (RO.block roA.out j hj).1)
                         have mkA : True := trivial
                         clear hg3)
                      | (refine step_append_rules (W := ((X.alloc (.cells #[] 59)).alloc (.cells #[.int .i64 r.1, .int .i64 r.2.1, .int .i64 r.2.2] 59)).drew) (base := X.heap.size) (rs := []) (rb := O.take vc) rfl (.tmp 77) (.tmp 80) rfl rfl rfl ?_ ?_ ?_ ?_ ?_
                         · exact roB.out
                         · exact okT.out.ext (((Ext.refl X).alloc _).alloc _).drew
                         · first | (simp; done) | (simp; omega)
                         · first | (simp; done) | (simp; omega)
                         intro v3 w3 hO3 hg3
                         have mk3 : Ext X w3 := Below.grown (((Ext.refl X).alloc _).alloc _).drew hg3 (by simp; omega) (fun j hj => (RO.block roB.out j hj).1)
                         have okR3 : SlOk w3 (some ⟨X.heap.size + 1, 0, none⟩) 1 1 [r] := okrB.out w3 hg3
                         have mkB : True := trivial
                         clear hg3)
                      | (refine step_append_rules (W := ((X.alloc (.cells #[.int .i64 r.1, .int .i64 r.2.1, .int .i64 r.2.2] 59)).alloc (.cells #[] 59)).drew) (base := X.heap.size) (rs := []) (rb := O.take vc) rfl (.tmp 77) (.tmp 80) rfl rfl rfl ?_ ?_ ?_ ?_ ?_
                         · exact roC.out
                         · exact okT.out.ext (((Ext.refl X).alloc _).alloc _).drew
                         · first | (simp; done) | (simp; omega)
                         · first | (simp; done) | (simp; omega)
                         intro v3 w3 hO3 hg3
                         have mk3 : Ext X w3 := Below.grown (((Ext.refl X).alloc _).alloc _).drew hg3 (by simp; omega) (fun j hj => (RO.block roC.out j hj).1)
                         have okR3 : SlOk w3 (some ⟨X.heap.size, 0, none⟩) 1 1 [r] := okrC.out w3 hg3
                         have mkB : True := trivial
                         clear hg3)
                      | (have _t := mk4
                         refine step_append_rules (base := X.heap.size) (rs := [] ++ O.take vc ++ [r]) (rb := O.drop vc) rfl (.tmp 84) (.tmp 87) rfl rfl rfl ?_ ?_ ?_ ?_ ?_
                         · exact hO4
                         · exact (okD.out _).ext mk4
                         · exact mk4.size
                         · first | (simp; done) | (simp; omega)
                         intro v5 w5 hO5 hg5
                         have mk5 : Ext X w5 := Below.grown mk4 hg5 mk4.size (fun j hj => (RO.block hO4 j hj).1)
                         obtain ⟨ao5, c5, rfl, hat5, hnil5, hle5, hmx5⟩ := RO.form hO5
                         have okF : SlOk w5 ao5 ([] ++ O.take vc ++ [r] ++ O.drop vc).length c5 ([] ++ O.take vc ++ [r] ++ O.drop vc) := ⟨rfl, hat5, fun h => ⟨by rw [(hnil5 h).1]; rfl, (hnil5 h).2⟩⟩
                         clear hO5 hg5 hat5 hnil5 hO4))
                    all_goals (
                      go_wp2
                      go_roundg (lb - (i + 1))
                      case measure => omega
                      case rel => exact ⟨i + 1, ao5, c5, _, by omega, by omega, by go_num, (by have hq := HLL.out; rw [← hq]; first | done | (congr 1; omega)), hle5, by unfold maxLen at hmx5; omega, HO3, okF, (hEB2.trans hE).trans mk5⟩)
                  · have okD : Hid _ := okX.out.drop hkl
                    go_wp2_with fail
                    go_region_held3 (fun W => W.cell? ⟨bx, 0, none⟩ = some (.int .i64 r.1) ∧ W.cell? ⟨bx, 1, none⟩ = some (.int .i64 r.2.1) ∧ W.cell? ⟨bx, 2, none⟩ = some (.int .i64 r.2.2))
                      (first | exact HR.out _ hE.drew | exact HR.out _ (hE.alloc _).drew | exact HR.out _ ((hE.alloc _).alloc _).drew | exact HR.out _ (hE.trans mk3) | exact HR.out _ ((hE.trans mk3).alloc _) | exact HR.out _ (hE.trans mk4) | exact HR.out _ (hE.trans mk5))
                      (first
                      | (have _t := mkB
                         refine step_append_rules (base := X.heap.size) (rs := [] ++ O.take k) (rb := [r]) rfl (.tmp 81) (.tmp 83) rfl rfl rfl ?_ ?_ ?_ ?_ ?_
                         · exact hO3
                         · exact okR3
                         · exact mk3.size
                         · first | (simp; done) | (simp; omega)
                         intro v4 w4 hO4 hg4
                         have mk4 : Ext X w4 := Below.grown mk3 hg4 mk3.size (fun j hj => (RO.block hO3 j hj).1)
                         clear hO3 hg4)
                      | (have _t := mkA
                         refine step_append_rules (base := X.heap.size) (rs := [] ++ O.take k) (rb := [r]) rfl (.tmp 81) (.tmp 83) rfl rfl rfl ?_ ?_ ?_ ?_ ?_
                         · exact RO.ext hO3 ((Ext.refl w3).alloc _)
                         · exact okNew.out w3
                         · have := mk3.size; simp; omega
                         · first | (simp; done) | (simp; omega)
                         intro v4 w4 hO4 hg4
                         have mk4 : Ext X w4 := Below.grown (mk3.alloc _) hg4 (by have := mk3.size; simp; omega) (fun j hj => (RO.block hO3 j hj).1)
                         clear hO3 hg4)
                      | (refine step_append_rules (W := (X.alloc (.cells #[] 59)).drew) (base := X.heap.size) (rs := []) (rb := O.take k) rfl (.tmp 77) (.tmp 80) rfl rfl rfl ?_ ?_ ?_ ?_ ?_
                         · exact roA.out
                         · exact okT.out.ext ((Ext.refl X).alloc _).drew
                         · simp
                         · first | (simp; done) | (simp; omega)
                         intro v3 w3 hO3 hg3
                         have mk3 : Ext X w3 := Below.grown ((Ext.refl X).alloc _).drew hg3 (by simp) (fun j hj => (RO.block roA.out j hj).1)
                         have mkA : True := trivial
                         clear hg3)
                      | (refine step_append_rules (W := ((X.alloc (.cells #[] 59)).alloc (.cells #[.int .i64 r.1, .int .i64 r.2.1, .int .i64 r.2.2] 59)).drew) (base := X.heap.size) (rs := []) (rb := O.take k) rfl (.tmp 77) (.tmp 80) rfl rfl rfl ?_ ?_ ?_ ?_ ?_
                         · exact roB.out
                         · exact okT.out.ext (((Ext.refl X).alloc _).alloc _).drew
                         · first | (simp; done) | (simp; omega)
                         · first | (simp; done) | (simp; omega)
                         intro v3 w3 hO3 hg3
                         have mk3 : Ext X w3 := Below.grown (((Ext.refl X).alloc _).alloc _).drew hg3 (by simp; omega) (fun j hj => (RO.block roB.out j hj).1)
                         have okR3 : SlOk w3 (some ⟨X.heap.size + 1, 0, none⟩) 1 1 [r] := okrB.out w3 hg3
                         have mkB : True := trivial
                         clear hg3)
                      | (refine step_append_rules (W := ((X.alloc (.cells #[.int .i64 r.1, .int .i64 r.2.1, .int .i64 r.2.2] 59)).alloc (.cells #[] 59)).drew) (base := X.heap.size) (rs := []) (rb := O.take k) rfl (.tmp 77) (.tmp 80) rfl rfl rfl ?_ ?_ ?_ ?_ ?_
                         · exact roC.out
                         · exact okT.out.ext (((Ext.refl X).alloc _).alloc _).drew
                         · first | (simp; done) | (simp; omega)
                         · first | (simp; done) | (simp; omega)
                         intro v3 w3 hO3 hg3
                         have mk3 : Ext X w3 := Below.grown (((Ext.refl X).alloc _).alloc _).drew hg3 (by simp; omega) (fun j hj => (RO.block roC.out j hj).1)
                         have okR3 : SlOk w3 (some ⟨X.heap.size, 0, none⟩) 1 1 [r] := okrC.out w3 hg3
                         have mkB : True := trivial
                         clear hg3)
                      | (have _t := mk4
                         refine step_append_rules (base := X.heap.size) (rs := [] ++ O.take k ++ [r]) (rb := O.drop k) rfl (.tmp 84) (.tmp 87) rfl rfl rfl ?_ ?_ ?_ ?_ ?_
                         · exact hO4
                         · exact okD.out.ext mk4
                         · exact mk4.size
                         · first | (simp; done) | (simp; omega)
                         intro v5 w5 hO5 hg5
                         have mk5 : Ext X w5 := Below.grown mk4 hg5 mk4.size (fun j hj => (RO.block hO4 j hj).1)
                         obtain ⟨ao5, c5, rfl, hat5, hnil5, hle5, hmx5⟩ := RO.form hO5
                         have okF : SlOk w5 ao5 ([] ++ O.take k ++ [r] ++ O.drop k).length c5 ([] ++ O.take k ++ [r] ++ O.drop k) := ⟨rfl, hat5, fun h => ⟨by rw [(hnil5 h).1]; rfl, (hnil5 h).2⟩⟩
                         clear hO5 hg5 hat5 hnil5 hO4))
                    all_goals (
                      go_wp2
                      go_roundg (lb - (i + 1))
                      case measure => omega
                      case rel => exact ⟨i + 1, ao5, c5, _, by omega, by omega, by go_num, (by have hq := HLL.out; rw [← hq]; first | done | (congr 1; omega)), hle5, by unfold maxLen at hmx5; omega, HO3, okF, (hEB2.trans hE).trans mk5⟩)
                · have hOe : O = [] := List.eq_nil_of_length_eq_zero (by omega)
                  subst hOe
                  have hk0 : k = 0 := by simpa using hkl
                  subst hk0
                  have HO4 : Hid ([] ++ [] ++ [r] ++ [] = dd (sst (ra ++ rb.take (i + 1)))) := HO3.out
                  have okE : Hid (∀ (Y : World) (a' : Addr) (c' : Nat), SlOk Y (some a') 0 c' []) := fun Y a' c' => ⟨rfl, Or.inl rfl, fun h => by cases h⟩
                  have okN : Hid (∀ (Y : World), SlOk Y none 0 0 []) := fun Y => ⟨rfl, Or.inl rfl, fun _ => ⟨rfl, rfl⟩⟩
                  cases vo with
                  | none =>
                    have hv0 : vc = 0 := (okX.out.hnil rfl).2
                    subst hv0
                    clear HLL HO2 HO3
                    go_wp2_with fail
                    go_region_held3 (fun W => W.cell? ⟨bx, 0, none⟩ = some (.int .i64 r.1) ∧ W.cell? ⟨bx, 1, none⟩ = some (.int .i64 r.2.1) ∧ W.cell? ⟨bx, 2, none⟩ = some (.int .i64 r.2.2))
                        (first | exact HR.out _ hE.drew | exact HR.out _ (hE.alloc _).drew | exact HR.out _ ((hE.alloc _).alloc _).drew | exact HR.out _ (hE.trans mk3) | exact HR.out _ ((hE.trans mk3).alloc _) | exact HR.out _ (hE.trans mk4) | exact HR.out _ (hE.trans mk5))
                        (first
                        | (have _t := mkB
                           refine step_append_rules (base := X.heap.size) (rs := [] ++ []) (rb := [r]) rfl (.tmp 81) (.tmp 83) rfl rfl rfl ?_ ?_ ?_ ?_ ?_
                           · exact hO3
                           · exact okR3
                           · exact mk3.size
                           · first | (simp; done) | (simp; omega)
                           intro v4 w4 hO4 hg4
                           have mk4 : Ext X w4 := Below.grown mk3 hg4 mk3.size (fun j hj => (RO.block hO3 j hj).1)
                           clear hO3 hg4)
                        | (have _t := mkA
                           refine step_append_rules (base := X.heap.size) (rs := [] ++ []) (rb := [r]) rfl (.tmp 81) (.tmp 83) rfl rfl rfl ?_ ?_ ?_ ?_ ?_
                           · exact RO.ext hO3 ((Ext.refl w3).alloc _)
                           · exact okNew.out w3
                           · have := mk3.size; simp; omega
                           · first | (simp; done) | (simp; omega)
                           intro v4 w4 hO4 hg4
                           have mk4 : Ext X w4 := Below.grown (mk3.alloc _) hg4 (by have := mk3.size; simp; omega) (fun j hj => (RO.block hO3 j hj).1)
                           clear hO3 hg4)
                        | (refine step_append_rules (W := (X.alloc (.cells #[] 59)).drew) (base := X.heap.size) (rs := []) (rb := []) rfl (.tmp 77) (.tmp 80) rfl rfl rfl ?_ ?_ ?_ ?_ ?_
                           · exact roA.out
                           · exact okN.out _
                           · simp
                           · first | (simp; done) | (simp; omega)
                           intro v3 w3 hO3 hg3
                           have mk3 : Ext X w3 := Below.grown ((Ext.refl X).alloc _).drew hg3 (by simp) (fun j hj => (RO.block roA.out j hj).1)
                           have mkA : True := trivial
                           clear hg3)
                        | (refine step_append_rules (W := ((X.alloc (.cells #[] 59)).alloc (.cells #[.int .i64 r.1, .int .i64 r.2.1, .int .i64 r.2.2] 59)).drew) (base := X.heap.size) (rs := []) (rb := []) rfl (.tmp 77) (.tmp 80) rfl rfl rfl ?_ ?_ ?_ ?_ ?_
                           · exact roB.out
                           · exact okN.out _
                           · first | (simp; done) | (simp; omega)
                           · first | (simp; done) | (simp; omega)
                           intro v3 w3 hO3 hg3
                           have mk3 : Ext X w3 := Below.grown (((Ext.refl X).alloc _).alloc _).drew hg3 (by simp; omega) (fun j hj => (RO.block roB.out j hj).1)
                           have okR3 : SlOk w3 (some ⟨X.heap.size + 1, 0, none⟩) 1 1 [r] := okrB.out w3 hg3
                           have mkB : True := trivial
                           clear hg3)
                        | (refine step_append_rules (W := ((X.alloc (.cells #[.int .i64 r.1, .int .i64 r.2.1, .int .i64 r.2.2] 59)).alloc (.cells #[] 59)).drew) (base := X.heap.size) (rs := []) (rb := []) rfl (.tmp 77) (.tmp 80) rfl rfl rfl ?_ ?_ ?_ ?_ ?_
                           · exact roC.out
                           · exact okN.out _
                           · first | (simp; done) | (simp; omega)
                           · first | (simp; done) | (simp; omega)
                           intro v3 w3 hO3 hg3
                           have mk3 : Ext X w3 := Below.grown (((Ext.refl X).alloc _).alloc _).drew hg3 (by simp; omega) (fun j hj => (RO.block roC.out j hj).1)
                           have okR3 : SlOk w3 (some ⟨X.heap.size, 0, none⟩) 1 1 [r] := okrC.out w3 hg3
                           have mkB : True := trivial
                           clear hg3)
                        | (have _t := mk4
                           refine step_append_rules (base := X.heap.size) (rs := [] ++ [] ++ [r]) (rb := []) rfl (.tmp 84) (.tmp 87) rfl rfl rfl ?_ ?_ ?_ ?_ ?_
                           · exact hO4
                           · exact okN.out _
                           · exact mk4.size
                           · first | (simp; done) | (simp; omega)
                           intro v5 w5 hO5 hg5
                           have mk5 : Ext X w5 := Below.grown mk4 hg5 mk4.size (fun j hj => (RO.block hO4 j hj).1)
                           obtain ⟨ao5, c5, rfl, hat5, hnil5, hle5, hmx5⟩ := RO.form hO5
                           have okF : SlOk w5 ao5 ([] ++ [] ++ [r] ++ []).length c5 ([] ++ [] ++ [r] ++ []) := ⟨rfl, hat5, fun h => ⟨by rw [(hnil5 h).1]; rfl, (hnil5 h).2⟩⟩
                           clear hO5 hg5 hat5 hnil5 hO4))
                    all_goals (
                      go_wp2
                      go_roundg (lb - (i + 1))
                      case measure => omega
                      case rel => exact ⟨i + 1, ao5, c5, _, by omega, by omega, by go_num, by rfl, hle5, by unfold maxLen at hmx5; omega, HO4, okF, (hEB2.trans hE).trans mk5⟩)
                  | some ad =>
                    clear HLL HO2 HO3
                    go_wp2_with fail
                    go_region_held3 (fun W => W.cell? ⟨bx, 0, none⟩ = some (.int .i64 r.1) ∧ W.cell? ⟨bx, 1, none⟩ = some (.int .i64 r.2.1) ∧ W.cell? ⟨bx, 2, none⟩ = some (.int .i64 r.2.2))
                        (first | exact HR.out _ hE.drew | exact HR.out _ (hE.alloc _).drew | exact HR.out _ ((hE.alloc _).alloc _).drew | exact HR.out _ (hE.trans mk3) | exact HR.out _ ((hE.trans mk3).alloc _) | exact HR.out _ (hE.trans mk4) | exact HR.out _ (hE.trans mk5))
                        (first
                        | (have _t := mkB
                           refine step_append_rules (base := X.heap.size) (rs := [] ++ []) (rb := [r]) rfl (.tmp 81) (.tmp 83) rfl rfl rfl ?_ ?_ ?_ ?_ ?_
                           · exact hO3
                           · exact okR3
                           · exact mk3.size
                           · first | (simp; done) | (simp; omega)
                           intro v4 w4 hO4 hg4
                           have mk4 : Ext X w4 := Below.grown mk3 hg4 mk3.size (fun j hj => (RO.block hO3 j hj).1)
                           clear hO3 hg4)
                        | (have _t := mkA
                           refine step_append_rules (base := X.heap.size) (rs := [] ++ []) (rb := [r]) rfl (.tmp 81) (.tmp 83) rfl rfl rfl ?_ ?_ ?_ ?_ ?_
                           · exact RO.ext hO3 ((Ext.refl w3).alloc _)
                           · exact okNew.out w3
                           · have := mk3.size; simp; omega
                           · first | (simp; done) | (simp; omega)
                           intro v4 w4 hO4 hg4
                           have mk4 : Ext X w4 := Below.grown (mk3.alloc _) hg4 (by have := mk3.size; simp; omega) (fun j hj => (RO.block hO3 j hj).1)
                           clear hO3 hg4)
                        | (refine step_append_rules (W := (X.alloc (.cells #[] 59)).drew) (base := X.heap.size) (rs := []) (rb := []) rfl (.tmp 77) (.tmp 80) rfl rfl rfl ?_ ?_ ?_ ?_ ?_
                           · exact roA.out
                           · exact okE.out _ _ _
                           · simp
                           · first | (simp; done) | (simp; omega)
                           intro v3 w3 hO3 hg3
                           have mk3 : Ext X w3 := Below.grown ((Ext.refl X).alloc _).drew hg3 (by simp) (fun j hj => (RO.block roA.out j hj).1)
                           have mkA : True := trivial
                           clear hg3)
                        | (refine step_append_rules (W := ((X.alloc (.cells #[] 59)).alloc (.cells #[.int .i64 r.1, .int .i64 r.2.1, .int .i64 r.2.2] 59)).drew) (base := X.heap.size) (rs := []) (rb := []) rfl (.tmp 77) (.tmp 80) rfl rfl rfl ?_ ?_ ?_ ?_ ?_
                           · exact roB.out
                           · exact okE.out _ _ _
                           · first | (simp; done) | (simp; omega)
                           · first | (simp; done) | (simp; omega)
                           intro v3 w3 hO3 hg3
                           have mk3 : Ext X w3 := Below.grown (((Ext.refl X).alloc _).alloc _).drew hg3 (by simp; omega) (fun j hj => (RO.block roB.out j hj).1)
                           have okR3 : SlOk w3 (some ⟨X.heap.size + 1, 0, none⟩) 1 1 [r] := okrB.out w3 hg3
                           have mkB : True := trivial
                           clear hg3)
                        | (refine step_append_rules (W := ((X.alloc (.cells #[.int .i64 r.1, .int .i64 r.2.1, .int .i64 r.2.2] 59)).alloc (.cells #[] 59)).drew) (base := X.heap.size) (rs := []) (rb := []) rfl (.tmp 77) (.tmp 80) rfl rfl rfl ?_ ?_ ?_ ?_ ?_
                           · exact roC.out
                           · exact okE.out _ _ _
                           · first | (simp; done) | (simp; omega)
                           · first | (simp; done) | (simp; omega)
                           intro v3 w3 hO3 hg3
                           have mk3 : Ext X w3 := Below.grown (((Ext.refl X).alloc _).alloc _).drew hg3 (by simp; omega) (fun j hj => (RO.block roC.out j hj).1)
                           have okR3 : SlOk w3 (some ⟨X.heap.size, 0, none⟩) 1 1 [r] := okrC.out w3 hg3
                           have mkB : True := trivial
                           clear hg3)
                        | (have _t := mk4
                           refine step_append_rules (base := X.heap.size) (rs := [] ++ [] ++ [r]) (rb := []) rfl (.tmp 84) (.tmp 87) rfl rfl rfl ?_ ?_ ?_ ?_ ?_
                           · exact hO4
                           · exact okE.out _ _ _
                           · exact mk4.size
                           · first | (simp; done) | (simp; omega)
                           intro v5 w5 hO5 hg5
                           have mk5 : Ext X w5 := Below.grown mk4 hg5 mk4.size (fun j hj => (RO.block hO4 j hj).1)
                           obtain ⟨ao5, c5, rfl, hat5, hnil5, hle5, hmx5⟩ := RO.form hO5
                           have okF : SlOk w5 ao5 ([] ++ [] ++ [r] ++ []).length c5 ([] ++ [] ++ [r] ++ []) := ⟨rfl, hat5, fun h => ⟨by rw [(hnil5 h).1]; rfl, (hnil5 h).2⟩⟩
                           clear hO5 hg5 hat5 hnil5 hO4))
                    all_goals (
                      go_wp2
                      go_roundg (lb - (i + 1))
                      case measure => omega
                      case rel => exact ⟨i + 1, ao5, c5, _, by omega, by omega, by go_num, by rfl, hle5, by unfold maxLen at hmx5; omega, HO4, okF, (hEB2.trans hE).trans mk5⟩)
      · have hil2 : i = lb := by omega
        have i1 : ¬ (i : Int) < (lb : Int) := by omega
        have hOz : O = dd (sst (ra ++ rb)) := by rw [HO.out, hil2, List.take_of_length_le (by omega)]
        have HZ : Hid _ := hOz
        clear hOz hil2
        have hEo := hEW.trans hE
        go_wp2_with fail
        refine (refWrong_any vo O.length vc O _ rfl okO.hat (by omega)).mono ?_
        rintro e w5 ⟨he, E5⟩
        obtain ⟨y, hy⟩ : ∃ y, y = (Rul.wrong O).1 := ⟨_, rfl⟩
        obtain ⟨yat, rfl⟩ : ∃ yat, e = .returned (.agg #[.int .i64 y, .int .i64 yat]) := ⟨_, by rw [hy]; exact he⟩
        clear he
        have h1 : (Rul.wrong ra).1 = 0 := HT.out
        by_cases h3 : y = 0
        · have hadd : add ra rb = (O, 0) := by unfold add; rw [if_neg (by rw [h1]; simp), ← HZ.out, if_neg (by rw [← hy, h3]; simp)]
          have HA : Hid _ := hadd
          clear hadd hy h1
          subst h3
          go_wp2
          go_ret2
          rw [HA.out]
          exact ⟨vo, vc, rfl, okO.ext (E5.alloc _), ⟨hOc, hvx⟩, (hEo.trans E5).alloc _⟩
        · have hadd : add ra rb = ([], y) := by unfold add; rw [if_neg (by rw [h1]; simp), ← HZ.out, if_pos (by rw [← hy]; exact h3), ← hy]
          have HA : Hid _ := hadd
          have h0' : (y != 0) = true := by simpa using h3
          clear hadd hy h3 h1
          go_wp2
          go_region
          go_wp2
          go_ret2
          rw [HA.out]
          exact ⟨none, 0, rfl, ⟨rfl, Or.inl rfl, fun _ => ⟨rfl, rfl⟩⟩, ⟨Nat.le_refl _, by omega⟩, ((hEo.trans E5).alloc _).drew⟩
  · have hadd : add ra rb = ([], x) := by unfold add; rw [if_pos (by rw [← hx]; exact h0), ← hx]
    have HA : Hid _ := hadd
    have h0' : (x != 0) = true := by simpa using h0
    clear hadd hx h0
    go_wp2
    go_region
    go_wp2
    go_ret2
    rw [HA.out]
    exact ⟨none, 0, rfl, ⟨rfl, Or.inl rfl, fun _ => ⟨rfl, rfl⟩⟩, ⟨Nat.le_refl _, by omega⟩, (E1.alloc _).drew⟩

theorem refAdd_any (ao bo : Option Addr) (la ca lb cb : Nat) (ra rb : List Ru) (w : World) (ha : SlOk w ao la ca ra) (hb : SlOk w bo lb cb rb) (hla : la ≤ 9223372036854775807) (hlb : lb * 24 ≤ 140737488351232) (hca : la ≤ ca) (hcx : ca ≤ 9223372036854775807) :
    Calls Try.prog 42 #[.slice ao la ca, .slice bo lb cb] w fun e w' => ∃ vo vc, e = .returned (.tuple #[.slice vo (add ra rb).1.length vc, .int .i64 (add ra rb).2]) ∧ SlOk w' vo (add ra rb).1.length vc (add ra rb).1 ∧ Ext w w' :=
  (refAdd_cap ao bo la ca lb cb ra rb w ha hb hla hlb hca hcx).mono (fun _ _ ⟨vo, vc, he, ok, _, E⟩ => ⟨vo, vc, he, ok, E⟩)

end Go.Proofs.Ytmjddnnjjmnddad.Tb
