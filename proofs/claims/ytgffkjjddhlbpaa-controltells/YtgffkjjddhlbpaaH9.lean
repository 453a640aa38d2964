/- What wrongFlow answers, for every flow and number; nothing that was there is changed. -/
import Derived.Test.YtgffkjjddhlbpaaH8
namespace Go.Proofs.Ytgffkjjddhlbpaa.Fw
open Go.RowKit Go.Maps Stf

theorem ext_box {w w1 : World} {o : Obj} (E : Ext (w.alloc o) w1) : Below (w.heap.size + 1) (w.alloc o) w1 := by
  have h : (w.alloc o).heap.size = w.heap.size + 1 := by simp
  rw [← h]; exact E

theorem wlist_zero {a b n : Int} {L : List Int} (h : wlist a b n L = 0) : ∀ j, j < L.length → ewl a b n L j = 0 := by
  unfold wlist at h
  cases hf : firstBad (ewl a b n L) L.length with
  | none =>
    rw [firstBad, List.find?_eq_none] at hf
    intro j hj
    have := hf j (by simpa using hj)
    simpa using this
  | some k =>
    rw [hf] at h
    rw [firstBad] at hf
    have := List.find?_some hf
    simp at this
    exact absurd h this

set_option maxHeartbeats 2000000 in
theorem wrongFlow_any (a b n : Int) (X Y : List Int) (v nv : Value) (w : World) (hv : FV w X v) (hn : FV w Y nv) (hI : I64 n) (hX : X.length ≤ 4611686018427387904) (hY : Y.length ≤ 4611686018427387904) :
    Calls Try.prog 60 #[.agg #[.int .i64 a, .int .i64 b, v, nv], .int .i64 n] w fun e w' => e = .returned (.int .i64 (wflow ⟨a, b, X, Y⟩ n)) ∧ Ext w w' := by
  obtain ⟨vo, vc, rfl, hvl, _⟩ := hv
  obtain ⟨no, nc, rfl, hnl, _⟩ := hn
  cases h1 : swB a n
  · have hw : wflow ⟨a, b, X, Y⟩ n = 6 := by simp [wflow, h1]
    rw [hw]
    go_enter Try.func60, Try.ntmps60
    go_wp2_with (go_at_call 72; refine (isSwitch_any _ _ _).mono ?_; rintro e w1 ⟨rfl, rfl⟩; rw [h1])
    go_ret
    exact ⟨rfl, (Ext.refl _).alloc _⟩
  · cases h2 : swB b n
    · have hw : wflow ⟨a, b, X, Y⟩ n = 6 := by simp [wflow, h2]
      rw [hw]
      go_enter Try.func60, Try.ntmps60
      go_wp2_with fail
      refine (isSwitch_any _ _ _).mono ?_; rintro e w1 ⟨rfl, rfl⟩; rw [h1]
      go_wp2_with fail
      refine (isSwitch_any _ _ _).mono ?_; rintro e w1 ⟨rfl, rfl⟩; rw [h2]
      go_wp2
      go_ret
      exact ⟨rfl, (Ext.refl _).alloc _⟩
    · cases h3 : (a == b)
      · have h3' : a ≠ b := by simpa using h3
        obtain ⟨r1, hr1⟩ : ∃ r1, r1 = wlist a b n X := ⟨_, rfl⟩
        obtain ⟨r2, hr2⟩ : ∃ r2, r2 = wlist a b n Y := ⟨_, rfl⟩
        have hw : wflow ⟨a, b, X, Y⟩ n = if r1 ≠ 0 then r1 else if r2 ≠ 0 then r2 else if Y.any (fun s => decide (s ∈ X)) then 8 else 0 := by simp [wflow, h1, h2, h3', hr1, hr2]
        have HW := hid hw
        have HR1 := hid hr1
        have HR2 := hid hr2
        clear hw hr1 hr2 h3'
        go_enter Try.func60, Try.ntmps60
        go_wp2_with fail
        refine (isSwitch_any _ _ _).mono ?_; rintro e w1 ⟨rfl, rfl⟩; rw [h1]
        go_wp2_with fail
        refine (isSwitch_any _ _ _).mono ?_; rintro e w1 ⟨rfl, rfl⟩; rw [h2]
        go_wp2_with fail
        refine (wrongList_any a b n _ _ vo vc X.length X _ rfl (hvl.ext ((Ext.refl _).alloc _)) hI hX).mono ?_
        rintro e w1 ⟨E1, ho⟩
        obtain ⟨c0, c1, c2, c3, hs1, hE1⟩ := box_kept (ext_box E1)
        rw [← HR1.out] at ho
        rcases ho with ⟨hz, m, rfl, hset⟩ | ⟨hz, rfl⟩
        · subst hz
          go_wp2_with fail
          refine (wrongList_any a b n _ _ no nc Y.length Y _ rfl (hnl.ext hE1) hI hY).mono ?_
          rintro e w2 ⟨E2, ho⟩
          obtain ⟨d0, d1, d2, d3, hs2, hE2⟩ := box_kept ((ext_box E1).trans (Below.mono E2 (by omega)))
          rw [← HR2.out] at ho
          have hset2 := hset.ext E2
          clear c0 c1 c2 c3 hset
          rcases ho with ⟨hz2, m2, rfl, hset3⟩ | ⟨hz, rfl⟩
          · subst hz2
            have hY0 := wlist_zero HR2.out.symm
            have HY := hid hY0
            clear hset3 hY0
            go_wp2
            go_loopw [55] (fun iv wr => ∃ k : Nat, k ≤ Y.length ∧ iv = .int .i64 k ∧ (∀ j, j < k → Y.getD j 0 ∉ X) ∧ Ext w2 wr) (fun iv _ => Y.length - (intOf iv).toNat)
            case atStart => exact ⟨0, Nat.zero_le _, rfl, fun j hj => by omega, Ext.refl _⟩
            case round =>
              obtain ⟨k, hk, rfl, hpre, hext⟩ := hrel
              by_cases hlt : k < Y.length
              · obtain ⟨bk, off, rfl, hbk, hat⟩ : ∃ bk off, no = some ⟨bk, off, none⟩ ∧ bk < w.heap.size ∧ IntsAt w bk off Y := by
                  rcases hnl with rfl | h
                  · simp at hlt
                  · exact h
                have ce := ((hE2.trans hext).cells.1 _ _ hbk).trans (hat k hlt)
                have hbr : bk < wr.heap.size := by have := (hE2.trans hext).size; omega
                have hsw := (ewl_zero (HY.out k hlt)).1
                obtain ⟨x, hxx⟩ : ∃ x, x = Y.getD k 0 := ⟨_, rfl⟩
                rw [← hxx] at ce hsw
                have HX := hid hxx
                have HP := hid hpre
                have i1 : (k : Int) < (Y.length : Int) := by omega
                have hxi := i64_sw hI hsw
                have hrun := (hset2.ext hext).look hxi
                clear hxx hpre hat hsw
                by_cases hmem : x ∈ X
                · rw [decide_eq_true hmem] at hrun
                  have hany : Y.any (fun s => decide (s ∈ X)) = true := by
                    rw [List.any_eq_true]
                    refine ⟨x, ?_, decide_eq_true hmem⟩
                    rw [HX.out]
                    simp [List.getD_eq_getElem?_getD, hlt]
                  have HA := hid hany
                  clear hmem hany
                  go_wp2
                  go_ret
                  exact ⟨by rw [HW.out, HA.out]; rfl, (hE2.trans hext).alloc _⟩
                · rw [decide_eq_false hmem] at hrun
                  have HM := hid hmem
                  clear hmem
                  go_wp2
                  refine ⟨⟨k + 1, by omega, by go_num, fun j hj => ?_, hext.alloc _⟩, by simp [intOf]; omega⟩
                  by_cases e : j = k
                  · subst e; rw [← HX.out]; exact HM.out
                  · exact HP.out j (by omega)
              · have hany : Y.any (fun s => decide (s ∈ X)) = false := by
                  rw [List.any_eq_false]
                  intro y hy
                  obtain ⟨i, hi, rfl⟩ := List.getElem_of_mem hy
                  have := hpre i (by omega)
                  simpa [List.getD_eq_getElem?_getD, hi] using this
                have HA := hid hany
                clear hany hpre
                go_wp2
                go_ret
                exact ⟨by rw [HW.out, HA.out]; rfl, hE2.trans hext⟩
          · have hz' : (r2 != 0) = true := by simpa using hz
            go_wp2
            go_ret
            exact ⟨by rw [HW.out]; simp [hz], hE2⟩
        · have hz' : (r1 != 0) = true := by simpa using hz
          go_wp2
          go_ret
          exact ⟨by rw [HW.out, if_pos hz]; rfl, hE1⟩
      · have h3' : a = b := by simpa using h3
        have hw : wflow ⟨a, b, X, Y⟩ n = 8 := by simp [wflow, h2, h3']
        have HW := hid hw
        clear hw h3'
        go_enter Try.func60, Try.ntmps60
        go_wp2_with fail
        refine (isSwitch_any _ _ _).mono ?_; rintro e w1 ⟨rfl, rfl⟩; rw [h1]
        go_wp2_with fail
        refine (isSwitch_any _ _ _).mono ?_; rintro e w1 ⟨rfl, rfl⟩; rw [h2]
        go_wp2
        go_ret
        exact ⟨by rw [HW.out]; rfl, (Ext.refl _).alloc _⟩

end Go.Proofs.Ytgffkjjddhlbpaa.Fw
