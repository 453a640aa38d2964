/- What Copy answers: the same plan, in lists of its own. -/
import Derived.Test.YtgffkjjddhlbpaaC2
import Derived.Deep.RegionHeld3
namespace Go.Proofs.Ytgffkjjddhlbpaa.Ct
open Go.RowKit Go.Deep Stw Stp Tb Rul

set_option maxRecDepth 100000 in
set_option maxHeartbeats 4000000 in
theorem Copy_any (p : Pl) (a : PA) (w : World) (h : PlAt w p a) (hok : PlOk p) :
    Calls Try.prog 49 #[pvl p a] w fun e w' => ∃ a', e = .returned (pvl p a') ∧ PlNew w.heap.size w' p a' ∧ Ext w w' := by
  obtain ⟨pv, fs, ps⟩ := p
  obtain ⟨fo, qo, fc, qc⟩ := a
  obtain ⟨hf, hq⟩ := h
  simp only at hf hq
  have HOK := hidp hok
  have hfl : fs.length ≤ 16777216 := hok.fl
  have hql : ps.length ≤ 16777216 := hok.ql
  clear hok
  unfold pvl
  show Calls _ _ #[.agg #[.int .i64 pv, .slice fo fs.length fc, .slice qo ps.length qc]] _ _
  obtain ⟨i0, hi0, hz00, hz01, hz02⟩ := info_parts infoFl
  obtain ⟨j0, hj0, hy0, hy1, hy2⟩ := info_parts infoP
  go_enter Try.func49, Try.ntmps49
  go_wp2
  obtain ⟨W2, hW2⟩ : ∃ W2, W2 = (w.alloc (.cells #[.int .i64 pv, .slice fo fs.length fc, .slice qo ps.length qc] 25)).alloc (.cells #[.int .i64 0, .slice none 0 0, .slice none 0 0] 25) := ⟨_, rfl⟩
  have hE2 : Ext w W2 := by rw [hW2]; exact Cw_ext w pv _ _
  have HS2 : Hid (W2.heap.size = w.heap.size + 1 + 1) := by show _ = _; rw [hW2]; exact Cw_size w pv _ _
  have HCB : Hid (∀ W, Below (w.heap.size + 1 + 1) W2 W → CB W w.heap.size pv (.slice fo fs.length fc) (.slice qo ps.length qc)) := fun W hW => CB.of (w := w) (by show Below _ _ _; rw [Cw_size]; rw [hW2] at hW; exact hW)
  rw [← hW2]
  clear hW2
  go_loopw [14] (fun iv wr => ∃ (k : Nat) (fv : Value) (FV : List Value), k ≤ fs.length ∧ iv = .int .i64 k ∧ Hid (PSt (w.heap.size + 1 + 1) W2 wr (.int .i64 pv) fv (.slice none 0 0) k 0 FV [] (fs.take k) [])) (fun iv _ => fs.length - (intOf iv).toNat)
  case atStart => exact ⟨0, .slice none 0 0, [], Nat.zero_le _, rfl, pst_start HS2.out _⟩
  case round =>
    obtain ⟨k, fv, FV, hk, rfl, HPS⟩ := hrel
    have hEr : Ext w wr := Below.trans hE2 (HPS.out.bel.mono (by omega))
    obtain ⟨b0, b1, b2, r0, r1, r2, rz, hbs⟩ := (HCB.out _ HPS.out.bel).all
    have hPl := HPS.out.row.lt
    by_cases hlt : k < fs.length
    · obtain ⟨b, off, vo, vc, no, nc, a, t, X, Y, rfl, hb, hg, c0, c1, c2, c3, ⟨_, _, e1, hv, hvc⟩, ⟨_, _, e2, hn, hnc⟩⟩ := (hf.ext hEr).get (k := k) (by omega)
      cases e1
      cases e2
      have hsm := HOK.out.sm _ (mem_fl hlt)
      rw [hg] at hsm
      have HG := hidp hg
      have i1 : (k : Int) < (fs.length : Int) := by omega
      clear hg
      obtain ⟨hX, hY⟩ := hsm
      simp only at hX hY
      have q1 : wr.cell? ⟨w.heap.size + 1 + 1, 1, none⟩ = some fv := HPS.out.row.cell (i := 1) (by omega)
      have HB : Hid (∀ W, Ext (wr.alloc (.cells #[.int .i64 a, .int .i64 t, .slice vo X.length vc, .slice no Y.length nc] 91)) W → W.cell? ⟨w.heap.size + 1 + 1, 1, none⟩ = some fv ∧ W.cell? ⟨wr.heap.size, 0, none⟩ = some (.int .i64 a) ∧ W.cell? ⟨wr.heap.size, 1, none⟩ = some (.int .i64 t) ∧ W.cell? ⟨wr.heap.size, 2, none⟩ = some (.slice vo X.length vc) ∧ W.cell? ⟨wr.heap.size, 3, none⟩ = some (.slice no Y.length nc)) := fun W h => by
        have l0 : wr.heap.size < (wr.alloc (.cells #[.int .i64 a, .int .i64 t, .slice vo X.length vc, .slice no Y.length nc] 91)).heap.size := by simp
        have l1 : w.heap.size + 1 + 1 < (wr.alloc (.cells #[.int .i64 a, .int .i64 t, .slice vo X.length vc, .slice no Y.length nc] 91)).heap.size := by simp; omega
        exact ⟨(h.cells.1 _ _ l1).trans ((World.cell?_alloc_past _ _ _ hPl).trans q1), (h.cells.1 _ _ l0).trans (by simp), (h.cells.1 _ _ l0).trans (by simp), (h.cells.1 _ _ l0).trans (by simp), (h.cells.1 _ _ l0).trans (by simp)⟩
      go_wp2
      obtain ⟨w5, hw5⟩ : ∃ w5, w5 = wr.alloc (.cells #[.int .i64 a, .int .i64 t, .slice vo X.length vc, .slice no Y.length nc] 91) := ⟨_, rfl⟩
      have E5 : Ext wr w5 := by rw [hw5]; exact (Ext.refl wr).alloc _
      rw [← hw5] at HB ⊢
      clear hw5 c0 c1 c2 c3 b0 b1 b2 r0 r1 r2 rz q1
      have HPS5 := hidp (HPS.out.ext E5)
      have l5 := HPS5.out.row.lt
      obtain ⟨q1, f0, f1, f2, f3⟩ := HB.out w5 (Ext.refl w5)
      have l50 : wr.heap.size ≤ w5.heap.size := E5.size
      go_region_law
        (first
        | (have _t := mk6
           refine step_append_lies _ ?_ (.tmp 19) (.tmp 22) 22 ?_ (w.heap.size + 1 + 1 + 1) 91 i0 (.agg #[.int .i64 0, .int .i64 0, .slice none 0 0, .slice none 0 0]) 4 64 Try.underlying22 hi0 hz00 hz01 hz02 rfl (by decide) fv k FV ?_ ?_ ⟨w6.heap.size, 0, none⟩ 1 1 [.int .i64 a, .int .i64 t, .slice vo' X.length vc', .slice no' Y.length nc'] ?_ ?_ ?_ (one4s _ _ _ _ _ _ _ _) ?_ ?_ ?_ ?_ _ rfl ?_
           · rfl
           · rfl
           · rfl
           · with_reducible exact (HPS5.out.ext mk6).ownF.alloc _
           · rfl
           · rfl
           · exact World.news_of_block (cs := #[.int .i64 a, .int .i64 t, .slice vo' X.length vc', .slice no' Y.length nc']) (blk_alloc_new w6 _)
           · omega
           · unfold maxLen; omega
           · omega
           · have := mk6.size; simp; omega
           intro g7 gc7 w7 hown7 hgr7 hat7 hlt7
           have H7 := hidp (copy7 (f := ⟨a, t, X, Y⟩) (HPS5.out.ext mk6) (HPS5.out.fresh hv6) (HPS5.out.fresh hn6) hown7 hgr7 (hat7.imp id (fun h => by simpa using h)))
           have q7 := H7.out.1
           have q7z := H7.out.2.1
           clear hown7 hgr7 hat7)
        | (go_simp
           go_at_call 47
           refine (copyOf_any ⟨a, t, X, Y⟩ vo no vc nc _ (hv.ext E5.drew) hX (hn.ext E5.drew) hY).mono ?_
           rintro e w6 ⟨v', n', rfl, hv6, hn6, E6⟩
           have mk6 : Ext w5 w6 := (Ext.refl w5).drew.trans E6
           obtain ⟨r0, r1, r2, r3, r4⟩ := HB.out w6 mk6
           have l6 : w.heap.size + 1 + 1 < w6.heap.size := Nat.lt_of_lt_of_le l5 mk6.size
           obtain ⟨vo', vc', rfl, hv6'⟩ := hv6
           obtain ⟨no', nc', rfl, hn6'⟩ := hn6
           have hv6 : FN w5.heap.size w6 X (.slice vo' X.length vc') := ⟨_, _, rfl, hv6'⟩
           have hn6 : FN w5.heap.size w6 Y (.slice no' Y.length nc') := ⟨_, _, rfl, hn6'⟩
           clear hv6' hn6' E6))
      all_goals
        clear q1 f0 f1 f2 f3
        go_wp2
        go_roundw
        case rel =>
          have ef : fs.take (k + 1) = fs.take k ++ [⟨a, t, X, Y⟩] := by rw [take_fl (by omega), HG.out]
          have hq := H7.out.2.2
          rw [← ef] at hq
          exact ⟨k + 1, _, _, by omega, by go_num, hq⟩
        case measure => simp [intOf]; omega
    · have hkl : k = fs.length := by omega
      have HPS0 : Hid (PSt (w.heap.size + 1 + 1) W2 wr (.int .i64 pv) fv (.slice none 0 0) fs.length 0 FV [] fs ([] : List (List Int))) := by
        have := HPS.out
        rw [hkl, List.take_of_length_le (Nat.le_refl _)] at this
        exact this
      have HKL := hidp hkl
      have i1 : ¬ (k : Int) < (fs.length : Int) := by omega
      clear HPS hkl
      go_wp2
      clear b0 b1 b2 r0 r1 r2 rz
      go_loopw [29] (fun iv wx => ∃ (m : Nat) (qv : Value) (V : List Value), m ≤ ps.length ∧ iv = .int .i64 m ∧ Hid (PSt (w.heap.size + 1 + 1) W2 wx (.int .i64 pv) fv qv fs.length m FV V fs (ps.take m))) (fun iv _ => ps.length - (intOf iv).toNat)
      case atStart => exact ⟨0, .slice none 0 0, [], Nat.zero_le _, rfl, by rw [List.take_zero]; exact HPS0⟩
      case round =>
        clear HPS0
        obtain ⟨m, qv, V, hm, rfl, HPS⟩ := hrel
        have hEr : Ext w wr := Below.trans hE2 (HPS.out.bel.mono (by omega))
        obtain ⟨b0, b1, b2, r0, r1, r2, rz, hbs⟩ := (HCB.out _ HPS.out.bel).all
        have hPl := HPS.out.row.lt
        by_cases hlt : m < ps.length
        · rcases hq.ext hEr with h0 | ⟨g1, o1, rfl, hg1, hc1⟩
          · exfalso; rw [h0] at hlt; simp at hlt
          obtain ⟨v1, d1, x1, y1, rfl, l1, _⟩ := hc1 m hlt
          have hxl : (ps.getD m []).length ≤ 16777216 := Nat.le_trans getD_sum HOK.out.tt
          obtain ⟨x, hx⟩ : ∃ x, x = ps.getD m [] := ⟨_, rfl⟩
          rw [← hx] at d1 l1 hxl
          have HX := hidp hx
          have i1 : (m : Int) < (ps.length : Int) := by omega
          clear hx hc1
          have q2 : wr.cell? ⟨w.heap.size + 1 + 1, 2, none⟩ = some qv := HPS.out.row.cell (i := 2) (by omega)
          have HB : Hid (∀ W, Ext wr W → W.cell? ⟨w.heap.size + 1 + 1, 2, none⟩ = some qv) := fun W h => (h.cells.1 _ _ hPl).trans q2
          clear b0 b1 b2 r0 r1 r2 rz
          go_wp2
          go_region_law
            (first
            | (have _t := mk6
               refine step_append_lies _ ?_ (.tmp 34) (.tmp 37) 23 ?_ (w.heap.size + 1 + 1 + 1) 105 j0 (.slice none 0 0) 1 24 Try.underlying23 hj0 hy0 hy1 hy2 rfl (by decide) qv m V ?_ ?_ ⟨w6.heap.size, 0, none⟩ 1 1 [.slice vo' x.length vc'] ?_ ?_ ?_ (one1s _ _ _) ?_ ?_ ?_ ?_ _ rfl ?_
               · rfl
               · rfl
               · rfl
               · with_reducible exact (HPS.out.ext mk6).ownQ.alloc _
               · rfl
               · rfl
               · exact World.news_of_block (cs := #[.slice vo' x.length vc']) (blk_alloc_new w6 _)
               · omega
               · unfold maxLen; omega
               · omega
               · have := mk6.size; simp; omega
               intro g7 gc7 w7 hown7 hgr7 hat7 hlt7
               have H7 := hidp (copy9 (HPS.out.ext mk6) (HPS.out.fresh hv6) hown7 hgr7 (hat7.imp id (fun h => by simpa using h)))
               have q7 := H7.out.1
               have q7z := H7.out.2.1
               clear hown7 hgr7 hat7)
            | (go_simp
               go_at_call 63
               refine (clonePt_any x1 y1 x _ (by omega) (l1.ext (Ext.refl wr).drew)).mono ?_
               rintro e w6 ⟨v', rfl, hv6, E6⟩
               have mk6 : Ext wr w6 := (Ext.refl wr).drew.trans E6
               have r0 := HB.out w6 mk6
               have l6 : w.heap.size + 1 + 1 < w6.heap.size := Nat.lt_of_lt_of_le hPl mk6.size
               obtain ⟨vo', vc', rfl, hv6'⟩ := hv6
               have hv6 : FN wr.heap.size w6 x (.slice vo' x.length vc') := ⟨_, _, rfl, hv6'⟩
               clear hv6' E6))
          all_goals
            clear q2
            go_wp2
            go_roundw
            case rel =>
              have ef : ps.take (m + 1) = ps.take m ++ [x] := by rw [take_pt (by omega), HX.out]
              have hq := H7.out.2.2
              rw [← ef] at hq
              exact ⟨m + 1, _, _, by omega, by go_num, hq⟩
            case measure => simp [intOf]; omega
        · have hkl : m = ps.length := by omega
          have i1 : ¬ (m : Int) < (ps.length : Int) := by omega
          have HPSm : Hid (PSt (w.heap.size + 1 + 1) W2 wr (.int .i64 pv) fv qv fs.length ps.length FV V fs ps) := by
            have := HPS.out
            rw [hkl, List.take_of_length_le (Nat.le_refl _)] at this
            exact this
          obtain ⟨fo', fc', qo', qc', rfl, rfl, hfa⟩ := HPSm.out.fin3
          have HT := hidp hfa
          have q0 : wr.cell? ⟨w.heap.size + 1 + 1, 0, none⟩ = some (.int .i64 pv) := HPSm.out.row.cell (i := 0) (by omega)
          have q1 : wr.cell? ⟨w.heap.size + 1 + 1, 1, none⟩ = some (.slice fo' fs.length fc') := HPSm.out.row.cell (i := 1) (by omega)
          have q2 : wr.cell? ⟨w.heap.size + 1 + 1, 2, none⟩ = some (.slice qo' ps.length qc') := HPSm.out.row.cell (i := 2) (by omega)
          have z0 := rz 0
          have z1 := rz 1
          have z2 := rz 2
          clear hfa HPS HPSm hkl HKL b0 b1 b2 rz
          go_wp2
          refine bodyPost_ret (v := .agg #[.int .i64 pv, .slice fo' fs.length fc', .slice qo' ps.length qc']) (by simp [results, Try.results49, go_sem, r0, r1, r2]) rfl ?_
          exact ⟨⟨fo', qo', fc', qc'⟩, rfl, fun U hs hU => (fun x => ⟨x.1, x.2⟩) (HT.out U (by simpa using hs) (fun b hb hlt => by rw [hU b (by omega) (by simpa using hlt), blk_setCell_other _ _ _ _ (by simp; omega), blk_setCell_other _ _ _ _ (by simp; omega), blk_setCell_other _ _ _ _ (by simp; omega)])), ((hEr.setCell (by simp) _).setCell (by simp) _).setCell (by simp) _⟩

end Go.Proofs.Ytgffkjjddhlbpaa.Ct
