/- What the document's own Wrong answers: the same. -/
import Derived.Test.YtmjddnnjjmnddadN3
namespace Go.Proofs.Ytmjddnnjjmnddad.Wi
open Go.RowKit Go.Maps Go.Deep Tb Rul

set_option maxRecDepth 100000 in
set_option maxHeartbeats 1000000 in
theorem refWrong_range (k n v : Int) (rs : List Ru) (fs : List Int) (ro fo : Option Addr) (rc fc : Nat) (w : World) (h : inB n 1 100000 = false ∨ inB v 1 1000 = false) :
    Calls Try.prog 10 #[.agg #[.int .i64 k, .int .i64 n, .int .i64 v, .slice ro rs.length rc, .slice fo fs.length fc]] w fun e w' => e = .returned (.int .i64 3) ∧ Ext w w' := by
  rw [inB_false, inB_false] at h
  by_cases h1 : n < 1
  · clear h
    go_enter Try.func10, Try.ntmps10
    go_wp2
    go_ret
    exact ⟨rfl, (Ext.refl w).alloc _⟩
  · by_cases h2 : 100000 < n
    · clear h
      go_enter Try.func10, Try.ntmps10
      go_wp2
      go_ret
      exact ⟨rfl, (Ext.refl w).alloc _⟩
    · by_cases h3 : v < 1
      · clear h
        go_enter Try.func10, Try.ntmps10
        go_wp2
        go_ret
        exact ⟨rfl, (Ext.refl w).alloc _⟩
      · have h4 : 1000 < v := by omega
        clear h
        go_enter Try.func10, Try.ntmps10
        go_wp2
        go_ret
        exact ⟨rfl, (Ext.refl w).alloc _⟩

set_option maxRecDepth 100000 in
set_option maxHeartbeats 1600000 in
theorem refWrong_any (o : Wir.Od) (ro fo : Option Addr) (rc fc : Nat) (w : World) (h : OAt w o ro fo) :
    Calls Try.prog 10 #[ovl o ro fo rc fc] w fun e w' => e = .returned (.int .i64 (Wir.wrong o)) ∧ Ext w w' := by
  obtain ⟨k, n, v, rs, fs⟩ := o
  unfold ovl
  by_cases hr : inB n 1 100000 = false ∨ inB v 1 1000 = false
  · rw [wrong_range (o := ⟨k, n, v, rs, fs⟩) hr]
    exact refWrong_range k n v rs fs ro fo rc fc w hr
  · have b1 : inB n 1 100000 = true := by cases hb : inB n 1 100000 with
      | true => rfl
      | false => exact absurd (Or.inl hb) hr
    have b2 : inB v 1 1000 = true := by cases hb : inB v 1 1000 with
      | true => rfl
      | false => exact absurd (Or.inr hb) hr
    have HF : Hid _ := wrong_rest (o := ⟨k, n, v, rs, fs⟩) b1 b2
    rw [inB_true] at b1 b2
    obtain ⟨n1, n2⟩ := b1
    obtain ⟨v1, v2⟩ := b2
    have n3 : ¬ n < 1 := by omega
    have n4 : ¬ 100000 < n := by omega
    have v3 : ¬ v < 1 := by omega
    have v4 : ¬ 1000 < v := by omega
    have HO : Hid _ := h
    obtain ⟨B, hB⟩ : ∃ B, B = w.alloc (.cells #[.int .i64 k, .int .i64 n, .int .i64 v, .slice ro rs.length rc, .slice fo fs.length fc] 25) := ⟨_, rfl⟩
    have hE0 : Ext w B := by rw [hB]; exact (Ext.refl w).alloc _
    have HK : Hid (∀ W, Ext B W → W.cell? ⟨w.heap.size, 0, none⟩ = some (.int .i64 k) ∧ W.cell? ⟨w.heap.size, 2, none⟩ = some (.int .i64 v) ∧ W.cell? ⟨w.heap.size, 3, none⟩ = some (.slice ro rs.length rc) ∧ W.cell? ⟨w.heap.size, 4, none⟩ = some (.slice fo fs.length fc)) := fun W hW => by
      have hlt : w.heap.size < B.heap.size := by rw [hB]; simp
      refine ⟨(hW.cells.1 _ _ hlt).trans ?_, (hW.cells.1 _ _ hlt).trans ?_, (hW.cells.1 _ _ hlt).trans ?_, (hW.cells.1 _ _ hlt).trans ?_⟩ <;> (rw [hB]; simp)
    have hrl : rs.length ≤ 4611686018427387904 := h.rl
    have hfl : fs.length ≤ 4611686018427387904 := h.fl
    clear h hr
    by_cases k1 : k = 1
    · subst k1
      have HF1 : Hid (Wir.wrong ⟨1, n, v, rs, fs⟩ = wrR v 16 rs) := HF.out
      clear HF
      by_cases hm : 16 < rs.length
      · have HW5 : Hid (wrR v 16 rs = 5) := by show _ = _; rw [wrR, if_pos (by omega)]
        have m1 : (16 : Int) < (rs.length : Int) := by omega
        go_enter Try.func10, Try.ntmps10
        go_wp2
        go_ret
        exact ⟨by rw [HF1.out, HW5.out]; first | done | rfl, (Ext.refl w).alloc _⟩
      · have HM : Hid ((rs.length : Int) ≤ 16) := by show _ ≤ _; omega
        have m1 : ¬ (16 : Int) < (rs.length : Int) := by omega
        go_enter Try.func10, Try.ntmps10
        go_wp2
        rw [← hB]
        go_loopw [37] (fun iv wd => ∃ j : Nat, j ≤ rs.length ∧ iv = .int .i64 j ∧ Hid (rs.any (Wir.badR v) = (rs.drop j).any (Wir.badR v)) ∧ Ext B wd) (fun iv _ => rs.length - (intOf iv).toNat)
        case atStart => exact ⟨0, Nat.zero_le _, rfl, by rw [List.drop_zero]; exact rfl, Ext.refl B⟩
        case round =>
          obtain ⟨j, hj, rfl, HW, hE⟩ := hrel
          have hEw := hE0.trans hE
          by_cases hlt : j < rs.length
          · obtain ⟨g, off, hro, hg, hcs⟩ := (HO.out.hr.ext hEw).get (k := j) hlt
            have hro' : ro = some ⟨g, off, none⟩ := hro
            subst hro'
            have i1 : (j : Int) < (rs.length : Int) := by omega
            have HST : Hid _ := any_step (f := Wir.badR v) (rs := rs) (k := j) hlt
            have HT : Hid (Wir.badR v (rs.getD j r0) = true → wrR v 16 rs = 3) := fun hb => wrR_three HM.out HW.out hlt hb
            obtain ⟨c0, c1, c2⟩ := hcs j hlt
            obtain ⟨r, hr⟩ : ∃ r, rs.getD j r0 = r := ⟨_, rfl⟩
            rw [hr] at c0 c1 c2 HST HT
            obtain ⟨q0, q2, q3, q4⟩ := HK.out _ hE
            have hbl : w.heap.size < wr.heap.size := Nat.lt_of_lt_of_le (by rw [hB]; simp) hE.size
            clear hr hcs hro
            obtain ⟨r1, r2, r3⟩ := r
            simp only at c0 c1 c2
            cases z1 : (r1 != v) with
            | true =>
              have z1' : r1 ≠ v := by simpa using z1
              have HF3 : Hid (wrR v 16 rs = 3) := HT.out (decide_eq_true (Or.inl z1'))
              clear HST HT HW
              go_wp2
              go_ret
              exact ⟨by rw [HF1.out, HF3.out]; first | done | rfl, hEw.alloc _⟩
            | false =>
              have z1' : r1 = v := by simpa using z1
              have HZ1 : Hid (r1 = v) := z1'
              clear z1'
              by_cases z2 : r2 < 0
              · have HF3 : Hid (wrR v 16 rs = 3) := HT.out (decide_eq_true (Or.inr (by show _; simp only; omega)))
                clear HST HT HW
                go_wp2
                go_ret
                exact ⟨by rw [HF1.out, HF3.out]; first | done | rfl, hEw.alloc _⟩
              · have z2' : True := trivial
                by_cases z3 : 11 < r2
                · have HF3 : Hid (wrR v 16 rs = 3) := HT.out (decide_eq_true (Or.inr (by show _; simp only; omega)))
                  clear HST HT HW
                  go_wp2
                  go_ret
                  exact ⟨by rw [HF1.out, HF3.out]; first | done | rfl, hEw.alloc _⟩
                · have z3' : True := trivial
                  by_cases z4 : r3 < 0
                  · have HF3 : Hid (wrR v 16 rs = 3) := HT.out (decide_eq_true (Or.inr (by show _; simp only; omega)))
                    clear HST HT HW
                    go_wp2
                    go_ret
                    exact ⟨by rw [HF1.out, HF3.out]; first | done | rfl, hEw.alloc _⟩
                  · have z4' : True := trivial
                    by_cases z5 : 7 < r3
                    · have HF3 : Hid (wrR v 16 rs = 3) := HT.out (decide_eq_true (Or.inr (by show _; simp only; omega)))
                      clear HST HT HW
                      go_wp2
                      go_ret
                      exact ⟨by rw [HF1.out, HF3.out]; first | done | rfl, hEw.alloc _⟩
                    · have z5' : True := trivial
                      have HW2 : Hid (rs.any (Wir.badR v) = (rs.drop (j + 1)).any (Wir.badR v)) := by
                        show _ = _
                        have hbf : Wir.badR v (r1, r2, r3) = false := decide_eq_false (by have := HZ1.out; simp only; omega)
                        rw [HW.out, HST.out, hbf]; rfl
                      clear HST HT HW z2' z3' z4' z5'
                      go_wp2
                      exact ⟨⟨j + 1, by omega, by go_num, HW2, hE.alloc _⟩, by simp [intOf]; omega⟩
          · have HF0 : Hid (wrR v 16 rs = 0) := wrR_zero HM.out HW.out (by omega : rs.length ≤ j)
            clear HW
            go_wp2
            go_ret
            exact ⟨by rw [HF1.out, HF0.out]; first | done | rfl, hEw⟩
    · by_cases k2 : k = 2
      · subst k2
        have HF1 : Hid (Wir.wrong ⟨2, n, v, rs, fs⟩ = wrF 12 fs) := HF.out
        clear HF k1
        by_cases hm : 12 < fs.length
        · have HW5 : Hid (wrF 12 fs = 5) := by show _ = _; rw [wrF, if_pos (by omega)]
          have m1 : (12 : Int) < (fs.length : Int) := by omega
          go_enter Try.func10, Try.ntmps10
          go_wp2
          go_ret
          exact ⟨by rw [HF1.out, HW5.out]; first | done | rfl, (Ext.refl w).alloc _⟩
        · have HM : Hid ((fs.length : Int) ≤ 12) := by show _ ≤ _; omega
          have m1 : ¬ (12 : Int) < (fs.length : Int) := by omega
          go_enter Try.func10, Try.ntmps10
          go_wp2
          rw [← hB]
          go_loopw [5, 76] (fun lv iv wd => ∃ j : Nat, j ≤ fs.length ∧ iv = .int .i64 j ∧ lv = .int .i64 (pvF fs j) ∧ Hid (Wir.badF (-1) fs = Wir.badF (pvF fs j) (fs.drop j)) ∧ Ext B wd) (fun _ iv _ => fs.length - (intOf iv).toNat)
          case atStart => exact ⟨0, Nat.zero_le _, rfl, rfl, by rw [List.drop_zero]; exact rfl, Ext.refl B⟩
          case round =>
            obtain ⟨j, hj, rfl, rfl, HW, hE⟩ := hrel
            have hEw := hE0.trans hE
            by_cases hlt : j < fs.length
            · obtain ⟨g, off, hfo, hg, hcs⟩ := (HO.out.hf.ext hEw).get (k := j) hlt
              have hfo' : fo = some ⟨g, off, none⟩ := hfo
              subst hfo'
              have i1 : (j : Int) < (fs.length : Int) := by omega
              have HST : Hid _ := badF_step (fs := fs) (k := j) hlt
              have HT : Hid ((fs.getD j 0 ≤ pvF fs j ∨ 11 < fs.getD j 0) → wrF 12 fs = 3) := fun hb => by have := HM.out; rw [wrF, if_neg (by omega), if_pos]; rw [HW.out, HST.out, if_pos hb]
              have c0 := hcs j hlt
              have HNX : Hid (pvF fs (j + 1) = fs.getD j 0) := rfl
              obtain ⟨f, hfe⟩ : ∃ f, fs.getD j 0 = f := ⟨_, rfl⟩
              rw [hfe] at c0 HST HT HNX
              obtain ⟨q, hq⟩ : ∃ q, q = pvF fs j := ⟨_, rfl⟩
              rw [← hq] at HST HT HW ⊢
              clear hfe hcs hfo hq
              by_cases z1 : f ≤ q
              · have HF3 : Hid (wrF 12 fs = 3) := HT.out (Or.inl z1)
                clear HST HT HW HNX
                go_wp2
                go_ret
                exact ⟨by rw [HF1.out, HF3.out]; first | done | rfl, hEw⟩
              · by_cases z2 : 11 < f
                · have HF3 : Hid (wrF 12 fs = 3) := HT.out (Or.inr z2)
                  clear HST HT HW HNX
                  go_wp2
                  go_ret
                  exact ⟨by rw [HF1.out, HF3.out]; first | done | rfl, hEw⟩
                · have HW2 : Hid (Wir.badF (-1) fs = Wir.badF (pvF fs (j + 1)) (fs.drop (j + 1))) := HW.out.trans (HST.out.trans (if_neg (by omega)))
                  clear HST HT HW
                  go_wp2
                  exact ⟨⟨j + 1, by omega, by go_num, by rw [HNX.out], HW2, hE⟩, by simp [intOf]; omega⟩
            · have HF0 : Hid (wrF 12 fs = 0) := by show wrF 12 fs = 0; have := HM.out; rw [wrF, if_neg (by omega), HW.out, badF_end (by omega)]; rfl
              clear HW
              go_wp2
              go_ret
              exact ⟨by rw [HF1.out, HF0.out]; first | done | rfl, hEw⟩
      · by_cases k3 : k = 3
        · subst k3
          have HF1 : Hid (Wir.wrong ⟨3, n, v, rs, fs⟩ = 0) := HF.out
          clear HF k1 k2
          go_enter Try.func10, Try.ntmps10
          go_wp2
          go_ret
          exact ⟨by rw [HF1.out]; first | done | rfl, (Ext.refl w).alloc _⟩
        · have HF1 : Hid (Wir.wrong ⟨k, n, v, rs, fs⟩ = 1) := HF.out.trans (by rw [if_neg k1, if_neg k2, if_neg k3])
          have e1 : (k == 1) = false := by simpa using k1
          have e2 : (k == 2) = false := by simpa using k2
          have e3 : (k == 3) = false := by simpa using k3
          clear HF k1 k2 k3
          go_enter Try.func10, Try.ntmps10
          go_wp2
          go_ret
          exact ⟨by rw [HF1.out]; first | done | rfl, (Ext.refl w).alloc _⟩

end Go.Proofs.Ytmjddnnjjmnddad.Wi
