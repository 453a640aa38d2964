/- What the law AgentApart answers, for every switch and order: true; nothing that was there is changed. -/
import Derived.Test.YtmjddnnjjmnddadZ7
namespace Go.Proofs.Ytmjddnnjjmnddad.Ag
open Go.RowKit Go.Deep Tb Rul Wi

set_option maxRecDepth 100000 in
set_option maxHeartbeats 1600000 in
theorem agentApart_any (s : Agt.Sw) (o : Wir.Od) (ro so po fo : Option Addr) (rc sc pc fc : Nat) (w : World) (h : SwAt w s ro so rc) (ho : OAt w o po fo) (hpn : po = none → o.rs.length = 0 ∧ pc = 0) :
    Calls Try.prog 8 #[svl s ro so rc sc, ovl o po fo pc fc] w fun e w' => e = .returned (.bool true) ∧ Ext w w' := by
  have HD : Hid (∀ W, Ext w W → Calls Try.prog 22 #[svl s ro so rc sc, ovl o po fo pc fc] W fun e w' => SwOut W (Agt.doS s o) e w') := fun W hW => Do_any s o ro so po fo rc sc pc fc W (h.ext hW) (ho.ext hW) hpn
  obtain ⟨x, hx⟩ : ∃ x, Agt.doS s o = x := ⟨_, rfl⟩
  obtain ⟨⟨tr, tt⟩, te⟩ := x
  have HA : Hid (te = 0 → Agt.wrongS ⟨tr, tt⟩ = 0 ∧ (o.k = 2 → tr = s.rs) ∧ (o.k ≠ 2 → tt = s.st)) := fun hz => by
    have h2 := Agt.apart (s := s) (o := o) (by rw [hx]; exact hz)
    rw [hx] at h2
    exact h2
  have HN : Hid (te ≠ 0 → tr = [] ∧ tt = []) := fun hz => by
    have h2 := Agt.do_fail (s := s) (o := o) (by rw [hx]; exact hz)
    rw [hx] at h2
    simp only [Agt.sw0, Agt.Sw.mk.injEq] at h2
    exact h2
  have HS : Hid _ := h
  rw [hx] at HD
  have hrl : s.rs.length * 24 ≤ 140737488351232 := h.rl
  clear h ho hpn hx
  obtain ⟨rs, st⟩ := s
  obtain ⟨k, n, v, ps, fs⟩ := o
  unfold svl ovl at *
  simp only at hrl HA
  go_enter Try.func8, Try.ntmps8
  go_wp2_with fail
  obtain ⟨B, hB⟩ : ∃ B, B = Dv w (.slice ro rs.length rc) (.slice so st.length sc) k n v (.slice po ps.length pc) (.slice fo fs.length fc) := ⟨_, rfl⟩
  have hE0 : Ext w B := by rw [hB]; exact ((Ext.refl w).alloc _).alloc _
  have HK : Hid (∀ W, Ext B W → SOAt W w.heap.size (.slice ro rs.length rc) (.slice so st.length sc) k n v (.slice po ps.length pc) (.slice fo fs.length fc)) := fun W hW => SOAt.of (by rw [← hB]; exact hW)
  have HBS : Hid (B.heap.size = w.heap.size + 1 + 1) := by show _ = _; rw [hB]; exact Dv_size _ _ _ _ _ _ _ _
  change Calls _ _ _ (Dv w (.slice ro rs.length rc) (.slice so st.length sc) k n v (.slice po ps.length pc) (.slice fo fs.length fc)) _
  rw [← hB]
  clear hB
  refine (alive_any _).mono ?_
  rintro e w1 ⟨rfl, E1⟩
  obtain ⟨b0, b1, b2, b3, b4, b5, b6⟩ := (HK.out _ E1).all
  go_wp2_with fail
  refine Calls.mono (HD.out _ (hE0.trans E1)) ?_
  rintro e w2 ⟨ao, bo, ac, bc, he, hX, E2⟩
  have he' : e = .returned (.tuple #[.agg #[.slice ao tr.length ac, .slice bo tt.length bc], .int .i64 te]) := he
  subst he'
  have HX : Hid _ := hX
  clear he hX HD b0 b1 b2 b3 b4 b5 b6
  by_cases hz : te = 0
  · subst hz
    have HA2 : Hid _ := HA.out rfl
    clear HA HN
    obtain ⟨C, hC⟩ : ∃ C, C = w2.alloc (.cells #[.slice ao tr.length ac, .slice bo tt.length bc] 41) := ⟨_, rfl⟩
    have hE2 : Ext B C := by rw [hC]; exact (E1.trans E2).alloc _
    have HXC : Hid (SwAt C ⟨tr, tt⟩ ao bo ac) := HX.out.ext (by rw [hC]; exact (Ext.refl _).alloc _)
    have HT : Hid (∀ W, Ext C W → W.cell? ⟨w2.heap.size, 0, none⟩ = some (.slice ao tr.length ac) ∧ W.cell? ⟨w2.heap.size, 1, none⟩ = some (.slice bo tt.length bc) ∧ W.frozen? ⟨w2.heap.size, 0, none⟩ = false ∧ W.frozen? ⟨w2.heap.size, 1, none⟩ = false ∧ _) := fun W hW => blk2 (by rw [← hC]; exact hW)
    go_wp2_with fail
    rw [← hC]
    have hBw2 : B.heap.size ≤ w2.heap.size := (E1.trans E2).size
    clear hC
    refine Calls.mono (Wrong_any ⟨tr, tt⟩ ao bo ac bc C HXC.out) ?_
    rintro e w3 ⟨he, E3⟩
    have he' : e = .returned (.int .i64 0) := by rw [he, HA2.out.1]
    subst he'
    clear he
    obtain ⟨b0, b1, b2, b3, b4, b5, b6⟩ := (HK.out _ (hE2.trans E3)).all
    obtain ⟨t0, t1, f0, f1, _⟩ := HT.out _ E3
    have hEw := hE0.trans (hE2.trans E3)
    by_cases hk : k = 2
    · subst hk
      have HR16 : Hid (∀ W, Ext w3 W → Calls Try.prog 26 #[.slice ro rs.length rc, .slice ao tr.length ac] W fun e w' => e = .returned (.bool true) ∧ Ext W w') := fun W hW => by
        have hrs : tr = rs := HA2.out.2.1 rfl
        have h1 := HXC.out.hr.hat
        rw [hrs] at h1 ⊢
        exact SameRules_same ro ao rs.length rc ac rs _ rfl (RsAt.ext HS.out.hr.hat (hEw.trans hW)) (RsAt.ext h1 (E3.trans hW)) (by omega)
      clear HA2
      go_wp2_with fail
      refine Calls.mono (HR16.out _ (Ext.refl _)) ?_
      rintro e w4 ⟨rfl, E4⟩
      go_wp2
      go_ret
      exact ⟨rfl, hEw.trans E4⟩
    · have HST : Hid (tt = st) := HA2.out.2.2 hk
      have HX3 : Hid (SwAt w3 ⟨tr, tt⟩ ao bo ac) := HXC.out.ext E3
      rw [HST.out] at t1 HX3
      have c0 : (k == 2) = false := by simpa using hk
      have hS3 : SwAt w3 ⟨rs, st⟩ ro so rc := HS.out.ext hEw
      have HP : Hid (∀ u, SwAt (w3.setCell ⟨w2.heap.size, 0, none⟩ u) ⟨rs, st⟩ ro so rc ∧ SwAt (w3.setCell ⟨w2.heap.size, 0, none⟩ u) ⟨rs, st⟩ ro bo rc) := fun u =>
        ⟨⟨⟨hS3.hr.hlen, RsAt_put hS3.hr.hat t0 u, hS3.hr.hnil⟩, StAt_put hS3.hs t0 u, hS3.rl, hS3.sl, hS3.rq⟩, ⟨⟨hS3.hr.hlen, RsAt_put hS3.hr.hat t0 u, hS3.hr.hnil⟩, StAt_put HX3.out.hs t0 u, hS3.rl, hS3.sl, hS3.rq⟩⟩
      have hne : w.heap.size ≠ w2.heap.size := by
        have := HBS.out
        omega
      clear HA2 hk hS3 HX3
      go_wp2_with fail
      refine Calls.mono (SameSwitch_same ⟨rs, st⟩ ro so ro bo rc sc rc bc _ (HP.out _).1 (HP.out _).2) ?_
      rintro e w4 ⟨rfl, E4⟩
      go_wp2
      go_ret
      exact ⟨rfl, (hEw.setCell (by have := HBS.out; show w.heap.size ≤ w2.heap.size; omega) _).trans E4⟩
  · obtain ⟨rfl, rfl⟩ := HN.out hz
    have b0 : (te != 0) = true := by simpa using hz
    clear hz HA HN
    go_wp2_with fail
    refine Calls.mono (SameSwitch_same Agt.sw0 ao bo none none ac bc 0 0 _ (SwAt.ext HX.out ((Ext.refl _).alloc _)) (SwAt_none _)) ?_
    rintro e w4 ⟨rfl, E4⟩
    go_wp2
    go_ret
    exact ⟨rfl, (hE0.trans ((E1.trans E2).alloc _)).trans E4⟩

end Go.Proofs.Ytmjddnnjjmnddad.Ag
