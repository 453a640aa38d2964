/- What the document's WrongSwitch answers. -/
import Derived.Test.YtmjddnnjjmnddadY2
import Derived.Test.YtmjddnnjjmnddadV24
namespace Go.Proofs.Ytmjddnnjjmnddad.Ag
open Go.RowKit Go.Deep Tb Rul

set_option maxRecDepth 100000 in
set_option maxHeartbeats 1600000 in
theorem refWrongSwitch_any (s : Agt.Sw) (ro so : Option Addr) (rc sc : Nat) (w : World) (h : SwAt w s ro so rc) :
    Calls Try.prog 19 #[svl s ro so rc sc] w fun e w' => e = .returned (.int .i64 (Agt.wrongS s)) ∧ Ext w w' := by
  obtain ⟨rs, st⟩ := s
  unfold svl
  have hsl : st.length * 16 ≤ 140737488351232 := h.sl
  have hrl : rs.length * 24 ≤ 140737488351232 := h.rl
  have HS : Hid (StAt w so st) := h.hs
  have HR : Hid (RsAt w ro rs) := h.hr.hat
  clear h
  have HX : Hid (Agt.wrongS ⟨rs, st⟩ = if (Rul.wrong rs).1 ≠ 0 then (Rul.wrong rs).1 else Agt.wst none st) := rfl
  go_enter Try.func19, Try.ntmps19
  go_wp2_with fail
  obtain ⟨B, hB⟩ : ∃ B, B = w.alloc (.cells #[.slice ro rs.length rc, .slice so st.length sc] 41) := ⟨_, rfl⟩
  have hE0 : Ext w B := by rw [hB]; exact (Ext.refl w).alloc _
  have HK : Hid (∀ W, Ext B W → W.cell? ⟨w.heap.size, 1, none⟩ = some (.slice so st.length sc)) := fun W hW => by
    have l0 : w.heap.size < B.heap.size := by rw [hB]; simp
    exact (hW.cells.1 _ _ l0).trans (by rw [hB]; simp)
  rw [← hB]
  clear hB
  refine (refWrong_any ro rs.length rc rs _ rfl (RsAt.ext HR.out hE0) (by omega)).mono ?_
  rintro e w1 ⟨rfl, E1⟩
  obtain ⟨y, hy⟩ : ∃ y, Rul.wrong rs = y := ⟨_, rfl⟩
  rw [hy] at HX ⊢
  obtain ⟨y1, y2⟩ := y
  clear hy
  have q0 := HK.out _ (E1.alloc (.cells #[.int .i64 y1, .int .i64 y2] 66))
  by_cases hz : y1 = 0
  · have HX2 : Hid (Agt.wrongS ⟨rs, st⟩ = Agt.wst (pvS st 0) (st.drop 0)) := by show _ = _; rw [HX.out, List.drop_zero]; exact if_neg (by simpa using hz)
    have b0 : (y1 != 0) = false := by simpa using hz
    clear HX hz
    go_wp2
    go_loopw [4, 18] (fun lv iv wd => ∃ k : Nat, k ≤ st.length ∧ iv = .int .i64 k ∧ lv = .int .i64 (lsS st k) ∧ Hid (Agt.wrongS ⟨rs, st⟩ = Agt.wst (pvS st k) (st.drop k)) ∧ Ext B wd) (fun _ iv _ => st.length - (intOf iv).toNat)
    case atStart => exact ⟨0, Nat.zero_le _, rfl, rfl, HX2, E1.alloc _⟩
    case round =>
      obtain ⟨k, hk, rfl, rfl, HW, hE⟩ := hrel
      clear q0 HX2
      have hEw := hE0.trans hE
      by_cases hlt : k < st.length
      · obtain ⟨g, off, rfl, hg, hcs⟩ := (StAt.ext HS.out hEw).get hlt
        have i1 : (k : Int) < (st.length : Int) := by omega
        have HST : Hid _ := HW.out.trans (wst_step (st := st) (p := pvS st k) (k := k) hlt)
        have HP : Hid (k ≠ 0 → pvS st k = some (lsS st k)) := pvS_pos
        have HP0 : Hid (k = 0 → pvS st k = none) := fun h => by rw [h]; rfl
        have HNX : Hid (lsS st (k + 1) = (st.getD k s0).1 ∧ pvS st (k + 1) = some (st.getD k s0).1) := ⟨rfl, rfl⟩
        obtain ⟨c0, c1⟩ := hcs k hlt
        obtain ⟨x, hx⟩ : ∃ x, st.getD k s0 = x := ⟨_, rfl⟩
        obtain ⟨q, hq⟩ : ∃ q, q = lsS st k := ⟨_, rfl⟩
        obtain ⟨p, hp⟩ : ∃ p, p = pvS st k := ⟨_, rfl⟩
        rw [hx] at c0 c1 HST HNX
        rw [← hq] at HP ⊢
        rw [← hp] at HP HP0 HST
        obtain ⟨x1, x2⟩ := x
        simp only at c0 c1
        clear hx hcs hq hp HW
        by_cases z1 : x1 < 0
        · have HF : Hid (Agt.wrongS ⟨rs, st⟩ = 3) := HST.out.trans (if_pos (decide_eq_true (Or.inl z1)))
          clear HST HP HP0 HNX
          go_wp2
          go_ret
          exact ⟨by rw [HF.out]; first | done | rfl, hEw.alloc _⟩
        · by_cases z2 : 11 < x1
          · have HF : Hid (Agt.wrongS ⟨rs, st⟩ = 3) := HST.out.trans (if_pos (decide_eq_true (Or.inr (Or.inl z2))))
            clear HST HP HP0 HNX
            go_wp2
            go_ret
            exact ⟨by rw [HF.out]; first | done | rfl, hEw.alloc _⟩
          · by_cases z3 : x2 < 1
            · have HF : Hid (Agt.wrongS ⟨rs, st⟩ = 3) := HST.out.trans (if_pos (decide_eq_true (Or.inr (Or.inr (Or.inl z3)))))
              clear HST HP HP0 HNX
              go_wp2
              go_ret
              exact ⟨by rw [HF.out]; first | done | rfl, hEw.alloc _⟩
            · by_cases z4 : 1000 < x2
              · have HF : Hid (Agt.wrongS ⟨rs, st⟩ = 3) := HST.out.trans (if_pos (decide_eq_true (Or.inr (Or.inr (Or.inr z4)))))
                clear HST HP HP0 HNX
                go_wp2
                go_ret
                exact ⟨by rw [HF.out]; first | done | rfl, hEw.alloc _⟩
              · have HS2 : Hid (Agt.wrongS ⟨rs, st⟩ = if p.any (fun q => decide (x1 ≤ q)) = true then 2 else Agt.wst (some x1) (st.drop (k + 1))) := HST.out.trans (if_neg (by rw [show Agt.badS (x1, x2) = false from decide_eq_false (by simp only; omega)]; exact Bool.false_ne_true))
                clear HST
                by_cases k0 : k = 0
                · have HW2 : Hid (Agt.wrongS ⟨rs, st⟩ = Agt.wst (some x1) (st.drop (k + 1))) := HS2.out.trans (if_neg (by rw [HP0.out k0]; exact Bool.false_ne_true))
                  have k1 : ¬ (0 : Int) < (k : Int) := by omega
                  clear HS2 HP HP0 k0
                  go_wp2
                  exact ⟨⟨k + 1, by omega, by go_num, by rw [HNX.out.1], by rw [HNX.out.2]; exact HW2, hE.alloc _⟩, by simp [intOf]; omega⟩
                · have k1 : (0 : Int) < (k : Int) := by omega
                  have HP1 : Hid (p = some q) := HP.out k0
                  clear HP HP0 k0
                  by_cases z5 : x1 ≤ q
                  · have HF : Hid (Agt.wrongS ⟨rs, st⟩ = 2) := HS2.out.trans (if_pos (by rw [HP1.out]; simpa using z5))
                    clear HS2 HP1 HNX
                    go_wp2
                    go_ret
                    exact ⟨by rw [HF.out]; first | done | rfl, hEw.alloc _⟩
                  · have HW2 : Hid (Agt.wrongS ⟨rs, st⟩ = Agt.wst (some x1) (st.drop (k + 1))) := HS2.out.trans (if_neg (by rw [HP1.out]; simpa using z5))
                    clear HS2 HP1
                    go_wp2
                    exact ⟨⟨k + 1, by omega, by go_num, by rw [HNX.out.1], by rw [HNX.out.2]; exact HW2, hE.alloc _⟩, by simp [intOf]; omega⟩
      · have HF : Hid (Agt.wrongS ⟨rs, st⟩ = 0) := HW.out.trans (wst_end (by omega))
        have i1 : ¬ (k : Int) < (st.length : Int) := by omega
        clear HW
        go_wp2
        go_ret
        exact ⟨by rw [HF.out]; first | done | rfl, hEw⟩
  · have HX2 : Hid (Agt.wrongS ⟨rs, st⟩ = y1) := HX.out.trans (if_pos hz)
    have b0 : (y1 != 0) = true := by simpa using hz
    clear HX hz
    go_wp2
    go_ret
    exact ⟨by rw [HX2.out]; first | done | rfl, (hE0.trans E1).alloc _⟩

end Go.Proofs.Ytmjddnnjjmnddad.Ag
