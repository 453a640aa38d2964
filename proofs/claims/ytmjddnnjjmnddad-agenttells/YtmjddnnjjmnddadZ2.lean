/- What wrongStamps and Wrong answer of stamps, and of a switch. -/
import Derived.Test.YtmjddnnjjmnddadY2
import Derived.Test.YtmjddnnjjmnddadV13
namespace Go.Proofs.Ytmjddnnjjmnddad.Ag
open Go.RowKit Go.Deep Tb Rul

set_option maxRecDepth 100000 in
set_option maxHeartbeats 1600000 in
theorem wrongStamps_any (so : Option Addr) (sc : Nat) (st : List (Int × Int)) (w : World) (HS0 : StAt w so st) (hsl : st.length * 16 ≤ 140737488351232) :
    Calls Try.prog 37 #[.slice so st.length sc] w fun e w' => e = .returned (.int .i64 (Agt.wst none st)) ∧ Ext w w' := by
  have HS : Hid (StAt w so st) := HS0
  clear HS0
  have HX : Hid (Agt.wst none st = Agt.wst (pvS st 0) (st.drop 0)) := by show _ = _; rw [List.drop_zero]; rfl
  go_enter Try.func37, Try.ntmps37
  go_wp2
  go_loopw [7] (fun iv wd => ∃ k : Nat, k ≤ st.length ∧ iv = .int .i64 k ∧ Hid (Agt.wst none st = Agt.wst (pvS st k) (st.drop k)) ∧ Ext w wd) (fun iv _ => st.length - (intOf iv).toNat)
  case atStart => exact ⟨0, Nat.zero_le _, rfl, HX, Ext.refl w⟩
  case round =>
    obtain ⟨k, hk, rfl, HW, hE⟩ := hrel
    clear HX
    by_cases hlt : k < st.length
    · obtain ⟨g, off, rfl, hg, hcs⟩ := (StAt.ext HS.out hE).get hlt
      have i1 : (k : Int) < (st.length : Int) := by omega
      have HST : Hid _ := HW.out.trans (wst_step (st := st) (p := pvS st k) (k := k) hlt)
      have HNX : Hid (pvS st (k + 1) = some (st.getD k s0).1) := rfl
      obtain ⟨c0, c1⟩ := hcs k hlt
      obtain ⟨x, hx⟩ : ∃ x, st.getD k s0 = x := ⟨_, rfl⟩
      rw [hx] at c0 c1 HST HNX
      obtain ⟨x1, x2⟩ := x
      simp only at c0 c1
      have HCS : Hid _ := hcs
      clear hx hcs HW
      by_cases z1 : x1 < 0
      · have HF : Hid (Agt.wst none st = 3) := HST.out.trans (if_pos (decide_eq_true (Or.inl z1)))
        clear HST HNX
        go_wp2
        go_ret
        exact ⟨by rw [HF.out]; first | done | rfl, hE.alloc _⟩
      · by_cases z2 : 11 < x1
        · have HF : Hid (Agt.wst none st = 3) := HST.out.trans (if_pos (decide_eq_true (Or.inr (Or.inl z2))))
          have z2' : 12 ≤ x1 := by omega
          clear HST HNX z2
          go_wp2
          go_ret
          exact ⟨by rw [HF.out]; first | done | rfl, hE.alloc _⟩
        · have z2' : ¬ 12 ≤ x1 := by omega
          by_cases z3 : x2 < 1
          · have HF : Hid (Agt.wst none st = 3) := HST.out.trans (if_pos (decide_eq_true (Or.inr (Or.inr (Or.inl z3)))))
            clear HST HNX z2
            go_wp2
            go_ret
            exact ⟨by rw [HF.out]; first | done | rfl, hE.alloc _⟩
          · by_cases z4 : 1000 < x2
            · have HF : Hid (Agt.wst none st = 3) := HST.out.trans (if_pos (decide_eq_true (Or.inr (Or.inr (Or.inr z4)))))
              clear HST HNX z2
              go_wp2
              go_ret
              exact ⟨by rw [HF.out]; first | done | rfl, hE.alloc _⟩
            · have HS2 : Hid (Agt.wst none st = if (pvS st k).any (fun q => decide (x1 ≤ q)) = true then 2 else Agt.wst (some x1) (st.drop (k + 1))) := HST.out.trans (if_neg (by rw [show Agt.badS (x1, x2) = false from decide_eq_false (by simp only; omega)]; exact Bool.false_ne_true))
              clear HST z2
              by_cases k0 : k = 0
              · subst k0
                have HW2 : Hid (Agt.wst none st = Agt.wst (pvS st 1) (st.drop 1)) := by
                  show _ = _
                  rw [HS2.out, if_neg (by simp [pvS])]
                  rw [show pvS st 1 = some x1 from HNX.out]
                simp only [Nat.zero_mul, Nat.add_zero] at c0 c1
                clear HS2 HNX HCS
                go_wp2_with fail
                go_quiet (fail)
                go_wp2
                exact ⟨⟨1, by omega, by go_num, HW2, (hE.alloc _).drewN _⟩, by simp [intOf]; omega⟩
              · obtain ⟨j, rfl⟩ : ∃ j, k = j + 1 := ⟨k - 1, by omega⟩
                obtain ⟨d0, d1⟩ := HCS.out j (by omega)
                have HP : Hid (pvS st (j + 1) = some (st.getD j s0).1) := rfl
                obtain ⟨q, hq⟩ : ∃ q, (st.getD j s0).1 = q := ⟨_, rfl⟩
                rw [hq] at d0 HP
                have i2 : (j : Int) < (st.length : Int) := by omega
                have i0 : (0 : Int) < (j : Int) + 1 := by omega
                clear HCS hq d1
                by_cases z5 : x1 ≤ q
                · have HF : Hid (Agt.wst none st = 2) := HS2.out.trans (if_pos (by rw [HP.out]; simpa using z5))
                  clear HS2 HP HNX
                  go_wp2_with fail
                  go_quiet (fail)
                  go_wp2
                  go_ret
                  exact ⟨by rw [HF.out]; first | done | rfl, (hE.alloc _).drewN _⟩
                · have HW2 : Hid (Agt.wst none st = Agt.wst (pvS st (j + 1 + 1)) (st.drop (j + 1 + 1))) := by show _ = _; rw [HNX.out]; exact HS2.out.trans (if_neg (by rw [HP.out]; simpa using z5))
                  clear HS2 HP HNX
                  go_wp2_with fail
                  go_quiet (fail)
                  go_wp2
                  exact ⟨⟨j + 1 + 1, by omega, by go_num, HW2, (hE.alloc _).drewN _⟩, by simp [intOf]; omega⟩
    · have HF : Hid (Agt.wst none st = 0) := HW.out.trans (wst_end (by omega))
      have i1 : ¬ (k : Int) < (st.length : Int) := by omega
      clear HW
      go_wp2
      go_ret
      exact ⟨by rw [HF.out]; first | done | rfl, hE⟩

set_option maxRecDepth 100000 in
set_option maxHeartbeats 1600000 in
theorem Wrong_any (s : Agt.Sw) (ro so : Option Addr) (rc sc : Nat) (w : World) (h : SwAt w s ro so rc) :
    Calls Try.prog 18 #[svl s ro so rc sc] w fun e w' => e = .returned (.int .i64 (Agt.wrongS s)) ∧ Ext w w' := by
  obtain ⟨rs, st⟩ := s
  unfold svl
  have hsl : st.length * 16 ≤ 140737488351232 := h.sl
  have hrl : rs.length * 24 ≤ 140737488351232 := h.rl
  have HS : Hid (StAt w so st) := h.hs
  have HR : Hid (RsAt w ro rs) := h.hr.hat
  clear h
  have HX : Hid (Agt.wrongS ⟨rs, st⟩ = if (Rul.wrong rs).1 ≠ 0 then (Rul.wrong rs).1 else Agt.wst none st) := rfl
  go_enter Try.func18, Try.ntmps18
  go_wp2_with fail
  obtain ⟨B, hB⟩ : ∃ B, B = w.alloc (.cells #[.slice ro rs.length rc, .slice so st.length sc] 41) := ⟨_, rfl⟩
  have hE0 : Ext w B := by rw [hB]; exact (Ext.refl w).alloc _
  have HK : Hid (∀ W, Ext B W → W.cell? ⟨w.heap.size, 1, none⟩ = some (.slice so st.length sc)) := fun W hW => by
    have l0 : w.heap.size < B.heap.size := by rw [hB]; simp
    exact (hW.cells.1 _ _ l0).trans (by rw [hB]; simp)
  rw [← hB]
  clear hB
  refine (Tb.Wrong_any ro rs.length rc rs _ rfl (RsAt.ext HR.out hE0) (by omega)).mono ?_
  rintro e w1 ⟨rfl, E1⟩
  obtain ⟨y, hy⟩ : ∃ y, Rul.wrong rs = y := ⟨_, rfl⟩
  rw [hy] at HX ⊢
  obtain ⟨y1, y2⟩ := y
  clear hy
  have q0 := HK.out _ (E1.alloc (.cells #[.int .i64 y1, .int .i64 y2] 66))
  by_cases hz : y1 = 0
  · have HX2 : Hid (Agt.wrongS ⟨rs, st⟩ = Agt.wst none st) := HX.out.trans (if_neg (by simpa using hz))
    have b0 : (y1 != 0) = false := by simpa using hz
    clear HX hz
    go_wp2_with fail
    refine (wrongStamps_any so sc st _ (StAt.ext HS.out (hE0.trans (E1.alloc _))) hsl).mono ?_
    rintro e w2 ⟨rfl, E2⟩
    go_wp2
    go_ret
    exact ⟨by rw [HX2.out]; first | done | rfl, (hE0.trans (E1.alloc _)).trans E2⟩
  · have HX2 : Hid (Agt.wrongS ⟨rs, st⟩ = y1) := HX.out.trans (if_pos hz)
    have b0 : (y1 != 0) = true := by simpa using hz
    clear HX hz
    go_wp2
    go_ret
    exact ⟨by rw [HX2.out]; first | done | rfl, (hE0.trans E1).alloc _⟩

end Go.Proofs.Ytmjddnnjjmnddad.Ag
