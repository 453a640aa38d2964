/- What the law AgentGone answers, for every switch, order and number: true; nothing that was there is changed. -/
import Derived.Test.YtmjddnnjjmnddaeZ7
namespace Go.Proofs.Ytmjddnnjjmnddae.Ag
open Go.RowKit Go.Deep Tb Rul Wi

/-- An order to drop a version. -/
def dro (num v : Int) : Wir.Od := ⟨3, num, v, [], []⟩
theorem dro_at (num v : Int) (W : World) : OAt W (dro num v) none none := ⟨Or.inl rfl, Or.inl rfl, i64_small (by simp [dro]) (by simp [dro]), by simp [dro], by simp [dro]⟩

set_option maxRecDepth 100000 in
set_option maxHeartbeats 1600000 in
theorem agentGone_any (s : Agt.Sw) (o : Wir.Od) (ro so po fo : Option Addr) (rc sc pc fc : Nat) (num : Int) (w : World) (h : SwAt w s ro so rc) (ho : OAt w o po fo) (hpn : po = none → o.rs.length = 0 ∧ pc = 0) :
    Calls Try.prog 4 #[svl s ro so rc sc, ovl o po fo pc fc, .int .i64 num] w fun e w' => e = .returned (.bool true) ∧ Ext w w' := by
  have HD : Hid (∀ W, Ext w W → Calls Try.prog 7 #[svl s ro so rc sc, ovl o po fo pc fc] W fun e w' => SwOut W (Agt.doS s o) e w') := fun W hW => Do_any s o ro so po fo rc sc pc fc W (h.ext hW) (ho.ext hW) hpn
  obtain ⟨x, hx⟩ : ∃ x, Agt.doS s o = x := ⟨_, rfl⟩
  obtain ⟨⟨tr, tt⟩, te⟩ := x
  obtain ⟨y, hy⟩ : ∃ y, Agt.doS ⟨tr, tt⟩ (dro num o.v) = y := ⟨_, rfl⟩
  obtain ⟨⟨ur, ut⟩, ue⟩ := y
  have HD2 : Hid (∀ ao bo ac bc W, SwAt W ⟨tr, tt⟩ ao bo ac → Calls Try.prog 7 #[svl ⟨tr, tt⟩ ao bo ac bc, .agg #[.int .i64 3, .int .i64 num, .int .i64 o.v, .slice none 0 0, .slice none 0 0]] W fun e w' => SwOut W (⟨ur, ut⟩, ue) e w') := fun ao bo ac bc W hS => by
    have h1 := Do_any ⟨tr, tt⟩ (dro num o.v) ao bo none none ac bc 0 0 W hS (dro_at num o.v W) (fun _ => ⟨rfl, rfl⟩)
    rw [hy] at h1
    exact h1
  have HW : Hid (∀ W, Calls Try.prog 9 #[.agg #[.int .i64 3, .int .i64 num, .int .i64 o.v, .slice none 0 0, .slice none 0 0]] W fun e w' => e = .returned (.int .i64 (Wir.wrong (dro num o.v))) ∧ Ext W w') := fun W => Wi.Wrong_any (dro num o.v) none none 0 0 W (dro_at num o.v W)
  have HG : Hid (o.k = 1 → Wir.wrong (dro num o.v) = 0 → te = 0 → ue = 0 ∧ ur = drp s.rs o.v) := fun hk hd hz => by
    have h2 := Agt.gone (s := s) (o := o) (d := dro num o.v) hd rfl rfl hk (by rw [hx]; exact hz)
    rw [hx] at h2
    simp only at h2
    rw [hy] at h2
    exact h2
  have HS : Hid _ := h
  rw [hx] at HD
  have hrl : s.rs.length * 24 ≤ 140737488351232 := h.rl
  clear h ho hpn hx hy
  obtain ⟨wd, hwd⟩ : ∃ wd, Wir.wrong (dro num o.v) = wd := ⟨_, rfl⟩
  rw [hwd] at HW HG
  clear hwd
  obtain ⟨rs, st⟩ := s
  obtain ⟨k, n, v, ps, fs⟩ := o
  unfold svl ovl at *
  simp only at hrl HG HD2 HW
  go_enter Try.func4, Try.ntmps4
  go_wp2_with fail
  obtain ⟨B, hB⟩ : ∃ B, B = Dv w (.slice ro rs.length rc) (.slice so st.length sc) k n v (.slice po ps.length pc) (.slice fo fs.length fc) := ⟨_, rfl⟩
  have hE0 : Ext w B := by rw [hB]; exact ((Ext.refl w).alloc _).alloc _
  have HK : Hid (∀ W, Ext B W → SOAt W w.heap.size (.slice ro rs.length rc) (.slice so st.length sc) k n v (.slice po ps.length pc) (.slice fo fs.length fc)) := fun W hW => SOAt.of (by rw [← hB]; exact hW)
  change Calls _ _ _ (Dv w (.slice ro rs.length rc) (.slice so st.length sc) k n v (.slice po ps.length pc) (.slice fo fs.length fc)) _
  rw [← hB]
  clear hB
  refine (alive_any _).mono ?_
  rintro e w1 ⟨rfl, E1⟩
  obtain ⟨C, hC⟩ : ∃ C, C = w1.alloc (.cells #[.int .i64 3, .int .i64 num, .int .i64 v, .slice none 0 0, .slice none 0 0] 28) := ⟨_, rfl⟩
  have hEC : Ext B C := by rw [hC]; exact E1.alloc _
  have HQ : Hid (∀ W, Ext C W → _) := fun W hW => blk5 (w := w1) (W := W) (a := .int .i64 3) (b := .int .i64 num) (c := .int .i64 v) (d := .slice none 0 0) (e := .slice none 0 0) (T := 28) (by rw [← hC]; exact hW)
  obtain ⟨b0, b1, b2, b3, b4, b5, b6⟩ := (HK.out _ E1).all
  obtain ⟨a0, a1, a2, a3, a4, a5, a6⟩ := (HK.out _ hEC).all
  rw [hC] at a0 a1 a2 a3 a4 a5 a6
  by_cases hk : k = 1
  · subst hk
    have HG1 : Hid (wd = 0 → te = 0 → ue = 0 ∧ ur = drp rs v) := HG.out rfl
    clear HG
    go_wp2_with fail
    rw [← hC]
    clear hC a0 a1 a2 a3 a4 a5 a6 b0 b1 b2 b3 b4 b5 b6
    refine Calls.mono (HW.out C) ?_
    rintro e w2 ⟨rfl, E2⟩
    by_cases hd : wd = 0
    · have HG2 : Hid (te = 0 → ue = 0 ∧ ur = drp rs v) := HG1.out hd
      have d0 : (wd != 0) = false := by simpa using hd
      clear HG1 hd HW
      obtain ⟨b0, b1, b2, b3, b4, b5, b6⟩ := (HK.out _ (hEC.trans E2)).all
      go_wp2_with fail
      refine Calls.mono (HD.out _ (hE0.trans (hEC.trans E2))) ?_
      rintro e w3 ⟨ao, bo, ac, bc, he, hX, E3⟩
      have he' : e = .returned (.tuple #[.agg #[.slice ao tr.length ac, .slice bo tt.length bc], .int .i64 te]) := he
      subst he'
      have HX : Hid _ := hX
      clear he hX HD b0 b1 b2 b3 b4 b5 b6
      by_cases hz : te = 0
      · subst hz
        have HG3 : Hid _ := HG2.out rfl
        clear HG2
        obtain ⟨D, hD⟩ : ∃ D, D = w3.alloc (.cells #[.slice ao tr.length ac, .slice bo tt.length bc] 25) := ⟨_, rfl⟩
        have hED : Ext C D := by rw [hD]; exact (E2.trans E3).alloc _
        have HXD : Hid (SwAt D ⟨tr, tt⟩ ao bo ac) := HX.out.ext (by rw [hD]; exact (Ext.refl _).alloc _)
        obtain ⟨q0, q1, q2, q3, q4, _⟩ := HQ.out _ hED
        rw [hD] at q0 q1 q2 q3 q4
        go_wp2_with fail
        rw [← hD]
        clear q0 q1 q2 q3 q4 hD
        refine Calls.mono (HD2.out ao bo ac bc D HXD.out) ?_
        rintro e w4 ⟨ao', bo', ac', bc', he, hX, E4⟩
        obtain ⟨rfl, hur⟩ := HG3.out
        have he' : e = .returned (.tuple #[.agg #[.slice ao' ur.length ac', .slice bo' ut.length bc'], .int .i64 0]) := he
        subst he'
        have HX4 : Hid _ := hX
        have HU : Hid _ := hur
        clear he hX HD2 HG3 hur
        obtain ⟨X, hXX⟩ : ∃ X, X = w4.alloc (.cells #[.slice ao' ur.length ac', .slice bo' ut.length bc'] 25) := ⟨_, rfl⟩
        have hE4X : Ext w4 X := by rw [hXX]; exact (Ext.refl _).alloc _
        have hEX : Ext B X := (hEC.trans hED).trans (E4.trans hE4X)
        have HSS : Hid (∀ W, Ext X W → W.cell? ⟨w4.heap.size, 0, none⟩ = some (.slice ao' ur.length ac') ∧ W.cell? ⟨w.heap.size, 0, none⟩ = some (.slice ro rs.length rc) ∧ W.cell? ⟨w.heap.size + 1, 2, none⟩ = some (.int .i64 v)) := fun W hW => by
          obtain ⟨c0, _⟩ := blk2 (w := w4) (W := W) (a := .slice ao' ur.length ac') (b := .slice bo' ut.length bc') (T := 25) (by rw [← hXX]; exact hW)
          obtain ⟨b0, _, _, _, b4, _⟩ := (HK.out _ (hEX.trans hW)).all
          exact ⟨c0, b0, b4⟩
        have HDR : Hid (∀ W, Ext X W → Calls Try.prog 11 #[.slice ro rs.length rc, .int .i64 v] W fun e w' => ∃ vo vc, e = .returned (.slice vo (drp rs v).length vc) ∧ Hid (RsAt w' vo (drp rs v)) ∧ Ext W w') := fun W hW => by
          refine (Drop_any ro rs.length rc rs v W rfl (RsAt.ext HS.out.hr.hat (hE0.trans (hEX.trans hW))) hrl).mono ?_
          rintro e w1 ⟨v', rfl, hO, E⟩
          obtain ⟨vo, vc, rfl, hat, _⟩ := RO.form hO
          exact ⟨vo, vc, rfl, hat, E⟩
        have HSR : Hid (∀ vo vc W, Ext X W → RsAt W vo (drp rs v) → Calls Try.prog 10 #[.slice ao' ur.length ac', .slice vo (drp rs v).length vc] W fun e w' => e = .returned (.bool true) ∧ Ext W w') := fun vo vc W hW hat => by
          have h1 : RsAt X ao' ur := RsAt.ext HX4.out.hr.hat hE4X
          have h2 := drp_le rs v
          rw [HU.out] at h1 ⊢
          exact SameRules_same ao' vo (drp rs v).length ac' vc (drp rs v) _ rfl (RsAt.ext h1 hW) hat (by omega)
        have hXd : Ext X X.drew := (Ext.refl X).drew
        clear HU HX4 HS hrl HQ
        go_wp2_with fail
        rw [← hXX]
        clear hXX
        go_region_held3 (fun W => W.cell? ⟨w4.heap.size, 0, none⟩ = some (.slice ao' ur.length ac') ∧ W.cell? ⟨w.heap.size, 0, none⟩ = some (.slice ro rs.length rc) ∧ W.cell? ⟨w.heap.size + 1, 2, none⟩ = some (.int .i64 v))
          (first | exact HSS.out _ hXd | exact HSS.out _ mk1 | exact HSS.out _ mk2)
          (first
          | (have _t := mk1
             go_at_call 10
             refine (HSR.out _ _ _ mk1 HV.out).mono ?_
             rintro e w6 ⟨rfl, E6⟩
             have mk2 := mk1.trans E6)
          | (go_at_call 11
             refine (HDR.out _ hXd).mono ?_
             rintro e w5 ⟨vo, vc, rfl, HV, E5⟩
             have mk1 := hXd.trans E5))
        all_goals
          go_wp2
          go_ret
          exact ⟨rfl, hE0.trans (hEX.trans mk2)⟩
      · have z0 : (te != 0) = true := by simpa using hz
        clear hz HD2 HG2
        go_wp2
        go_ret
        exact ⟨rfl, (hE0.trans (hEC.trans (E2.trans E3))).alloc _⟩
    · have d0 : (wd != 0) = true := by simpa using hd
      clear HG1 hd HW HD HD2
      go_wp2
      go_ret
      exact ⟨rfl, hE0.trans (hEC.trans E2)⟩
  · have k0 : (k != 1) = true := by simpa using hk
    clear hk HG HD HD2 HW
    go_wp2
    go_ret
    exact ⟨rfl, (hE0.trans E1).alloc _⟩

end Go.Proofs.Ytmjddnnjjmnddae.Ag
