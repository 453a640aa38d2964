/- What the law AgentTwice answers, for every switch and order: true; nothing that was there is changed. -/
import Derived.Test.YtmjddnnjjmnddaeZ7
namespace Go.Proofs.Ytmjddnnjjmnddae.Ag
open Go.RowKit Go.Deep Tb Rul Wi

set_option maxRecDepth 100000 in
set_option maxHeartbeats 1600000 in
theorem agentTwice_any (s : Agt.Sw) (o : Wir.Od) (ro so po fo : Option Addr) (rc sc pc fc : Nat) (w : World) (h : SwAt w s ro so rc) (ho : OAt w o po fo) (hpn : po = none → o.rs.length = 0 ∧ pc = 0) :
    Calls Try.prog 3 #[svl s ro so rc sc, ovl o po fo pc fc] w fun e w' => e = .returned (.bool true) ∧ Ext w w' := by
  have HD : Hid (∀ W, Ext w W → Calls Try.prog 7 #[svl s ro so rc sc, ovl o po fo pc fc] W fun e w' => SwOut W (Agt.doS s o) e w') := fun W hW => Do_any s o ro so po fo rc sc pc fc W (h.ext hW) (ho.ext hW) hpn
  obtain ⟨x, hx⟩ : ∃ x, Agt.doS s o = x := ⟨_, rfl⟩
  obtain ⟨⟨tr, tt⟩, te⟩ := x
  have HD2 : Hid (te = 0 → ∀ ao bo ac bc W, Ext w W → SwAt W ⟨tr, tt⟩ ao bo ac → Calls Try.prog 7 #[svl ⟨tr, tt⟩ ao bo ac bc, ovl o po fo pc fc] W fun e w' => SwOut W (⟨tr, tt⟩, 0) e w') := fun hz ao bo ac bc W hW hS => by
    have h1 := Do_any ⟨tr, tt⟩ o ao bo po fo ac bc pc fc W hS (ho.ext hW) hpn
    have h2 := Agt.twice (s := s) (o := o) (by rw [hx]; exact hz)
    rw [hx] at h2
    rw [h2] at h1
    exact h1
  rw [hx] at HD
  clear h ho hpn hx
  obtain ⟨rs, st⟩ := s
  obtain ⟨k, n, v, ps, fs⟩ := o
  unfold svl ovl at *
  go_enter Try.func3, Try.ntmps3
  go_wp2_with fail
  obtain ⟨B, hB⟩ : ∃ B, B = Dv w (.slice ro rs.length rc) (.slice so st.length sc) k n v (.slice po ps.length pc) (.slice fo fs.length fc) := ⟨_, rfl⟩
  have hE0 : Ext w B := by rw [hB]; exact ((Ext.refl w).alloc _).alloc _
  have HK : Hid (∀ W, Ext B W → SOAt W w.heap.size (.slice ro rs.length rc) (.slice so st.length sc) k n v (.slice po ps.length pc) (.slice fo fs.length fc)) := fun W hW => SOAt.of (by rw [← hB]; exact hW)
  change Calls _ _ _ (Dv w (.slice ro rs.length rc) (.slice so st.length sc) k n v (.slice po ps.length pc) (.slice fo fs.length fc)) _
  rw [← hB]
  clear hB
  refine (alive_any _).mono ?_
  rintro e w1 ⟨rfl, E1⟩
  obtain ⟨b0, b1, b2, b3, b4, b5, b6⟩ := (HK.out _ E1).all
  go_wp2_with fail
  refine Calls.mono (HD.out _ (hE0.trans E1)) ?_
  rintro e w2 ⟨ao, bo, ac, bc, he, hX, E2⟩
  have he' : e = .returned (.tuple #[.agg #[.slice ao tr.length ac, .slice bo tt.length bc], .int .i64 te]) := he
  subst he'
  have HX : Hid _ := hX
  clear he hX HD b0 b1 b2 b3 b4 b5 b6
  by_cases hz : te = 0
  · subst hz
    have HD3 : Hid _ := HD2.out rfl
    clear HD2
    obtain ⟨C, hC⟩ : ∃ C, C = w2.alloc (.cells #[.slice ao tr.length ac, .slice bo tt.length bc] 25) := ⟨_, rfl⟩
    have hE2 : Ext B C := by rw [hC]; exact (E1.trans E2).alloc _
    have HXC : Hid (SwAt C ⟨tr, tt⟩ ao bo ac) := HX.out.ext (by rw [hC]; exact (Ext.refl _).alloc _)
    have HT : Hid (∀ W, Ext C W → W.cell? ⟨w2.heap.size, 0, none⟩ = some (.slice ao tr.length ac) ∧ W.cell? ⟨w2.heap.size, 1, none⟩ = some (.slice bo tt.length bc) ∧ _) := fun W hW => blk2 (by rw [← hC]; exact hW)
    obtain ⟨b0, b1, b2, b3, b4, b5, b6⟩ := (HK.out _ hE2).all
    obtain ⟨t0, t1, _, _, _⟩ := HT.out _ (Ext.refl C)
    rw [hC] at b0 b1 b2 b3 b4 b5 b6 t0 t1
    go_wp2_with fail
    rw [← hC]
    clear b0 b1 b2 b3 b4 b5 b6 t0 t1 hC
    refine Calls.mono (HD3.out ao bo ac bc C (hE0.trans hE2) HXC.out) ?_
    rintro e w3 ⟨ao', bo', ac', bc', he, hX, E3⟩
    have he' : e = .returned (.tuple #[.agg #[.slice ao' tr.length ac', .slice bo' tt.length bc'], .int .i64 0]) := he
    subst he'
    have HX3 : Hid _ := hX
    clear he hX HD3
    have hE4 : Ext C (w3.alloc (.cells #[.slice ao' tr.length ac', .slice bo' tt.length bc'] 25)) := E3.alloc _
    obtain ⟨t0, t1, _, _, _⟩ := HT.out _ hE4
    go_wp2_with fail
    refine Calls.mono (SameSwitch_same ⟨tr, tt⟩ ao bo ao' bo' ac bc ac' bc' _ (HXC.out.ext hE4) (HX3.out.ext ((Ext.refl _).alloc _))) ?_
    rintro e w4 ⟨rfl, E4⟩
    go_wp2
    go_ret
    exact ⟨rfl, (hE0.trans (hE2.trans hE4)).trans E4⟩
  · have b0 : (te != 0) = true := by simpa using hz
    clear hz HD2
    go_wp2
    go_ret
    exact ⟨rfl, (hE0.trans (E1.trans E2)).alloc _⟩

end Go.Proofs.Ytmjddnnjjmnddae.Ag
