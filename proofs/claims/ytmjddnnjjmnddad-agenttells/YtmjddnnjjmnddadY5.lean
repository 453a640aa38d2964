/- What the document's Does answers where it adds. -/
import Derived.Test.YtmjddnnjjmnddadY4
namespace Go.Proofs.Ytmjddnnjjmnddad.Ag
open Go.RowKit Go.Deep Tb Rul Wi

set_option maxRecDepth 100000 in
set_option maxHeartbeats 1600000 in
theorem refDoes_add (s : Agt.Sw) (o : Wir.Od) (ro so po fo : Option Addr) (rc sc pc fc : Nat) (w : World) (h : SwAt w s ro so rc) (ho : OAt w o po fo) (hz : Agt.wrongS s = 0) (hy : Wir.wrong o = 0) (hk : o.k = 1) (hpn : po = none → o.rs.length = 0 ∧ pc = 0) (hpl : o.rs.length ≤ 16) :
    Calls Try.prog 23 #[svl s ro so rc sc, ovl o po fo pc fc] w fun e w' => ∃ ao bo ac bc, e = .returned (.tuple #[svl (Agt.doS s o).1 ao bo ac bc, .int .i64 (Agt.doS s o).2]) ∧ SwAt w' (Agt.doS s o).1 ao bo ac ∧ Ext w w' := by
  have HC : Hid (∀ W, Ext w W → Calls Try.prog 19 #[svl s ro so rc sc] W fun e w' => e = .returned (.int .i64 0) ∧ Ext W w') := fun W hW => by have := refWrongSwitch_any s ro so rc sc W (h.ext hW); rwa [hz] at this
  have HO : Hid (∀ W, Ext w W → Calls Try.prog 10 #[ovl o po fo pc fc] W fun e w' => e = .returned (.int .i64 0) ∧ Ext W w') := fun W hW => by have := refWrong_any o po fo pc fc W (ho.ext hW); rwa [hy] at this
  have HS : Hid _ := h
  have HB : Hid _ := ho
  have HDO : Hid (Agt.doS s o = if (add s.rs o.rs).2 ≠ 0 then (Agt.sw0, (add s.rs o.rs).2) else (⟨(add s.rs o.rs).1, s.st⟩, 0)) := by show _ = _; unfold Agt.doS; rw [if_neg (by simpa using hz), if_neg (by simpa using hy), if_pos hk]
  clear h ho hz hy
  obtain ⟨rs, st⟩ := s
  obtain ⟨k, n, v, ps, fs⟩ := o
  have hk' : k = 1 := hk
  subst hk'
  unfold svl ovl at *
  clear hk
  go_enter Try.func23, Try.ntmps23
  go_wp2_with fail
  refine (HC.out _ (Dw_ext w _ _ 1 n v (.slice po ps.length pc) (.slice fo fs.length fc))).mono ?_
  rintro e w1 ⟨rfl, E1⟩
  obtain ⟨s0, s1, o0, o1, o2, o3, o4, r0, r1, f0, f1, g0, g1⟩ := DAt.of E1
  go_wp2_with fail
  have hE1 := (Dw_ext w _ _ 1 n v (.slice po ps.length pc) (.slice fo fs.length fc)).trans E1
  refine (HO.out _ hE1).mono ?_
  rintro e w2 ⟨rfl, E2⟩
  clear s0 s1 o0 o1 o2 o3 o4 r0 r1 f0 f1 g0 g1
  obtain ⟨s0, s1, o0, o1, o2, o3, o4, r0, r1, f0, f1, g0, g1⟩ := DAt.of (E1.trans E2)
  have hE2 := hE1.trans E2
  go_wp2_with fail
  have hrl : rs.length * 24 ≤ 140737488351232 := HS.out.rl
  have hpl' : ps.length ≤ 16 := hpl
  have hrq : rs.length ≤ rc ∧ rc ≤ 9223372036854775807 := HS.out.rq
  refine (refAdd_cap ro po rs.length rc ps.length pc rs ps _ (HS.out.hr.ext hE2) ⟨rfl, RsAt.ext HB.out.hr hE2, hpn⟩ (by omega) (by omega) hrq.1 hrq.2).mono ?_
  rintro e w3 ⟨vo, vc, rfl, okv, hvc, E3⟩
  clear s0 s1 o0 o1 o2 o3 o4 r0 r1 f0 f1 g0 g1 hpn hpl hpl' hrq
  obtain ⟨s0, s1, o0, o1, o2, o3, o4, r0, r1, f0, f1, g0, g1⟩ := DAt.of ((E1.trans E2).trans E3)
  have hE3 := hE2.trans E3
  have HDO2 : Hid (Agt.doS ⟨rs, st⟩ ⟨1, n, v, ps, fs⟩ = if (add rs ps).2 ≠ 0 then (Agt.sw0, (add rs ps).2) else (⟨(add rs ps).1, st⟩, 0)) := HDO.out
  have HLN : Hid ((add rs ps).2 = 0 → (add rs ps).1.length ≤ 16) := fun h0 => (tab_iff.1 (add_zero h0).2.1).1
  clear HDO
  obtain ⟨al, hal⟩ : ∃ al, (add rs ps).1 = al := ⟨_, rfl⟩
  obtain ⟨ae, hae⟩ : ∃ ae, (add rs ps).2 = ae := ⟨_, rfl⟩
  rw [hal, hae] at HDO2 HLN ⊢
  rw [hal] at okv hvc
  clear hal hae
  have HV : Hid _ := okv
  have HVC : Hid _ := hvc
  clear okv hvc
  by_cases hz : ae = 0
  · subst hz
    have HDO3 : Hid (Agt.doS ⟨rs, st⟩ ⟨1, n, v, ps, fs⟩ = (⟨al, st⟩, 0)) := HDO2.out.trans (if_neg (by simp))
    have HL16 : Hid (al.length ≤ 16) := HLN.out rfl
    clear HDO2 HLN
    go_wp2
    refine bodyPost_ret (v := .tuple #[.agg #[.slice vo al.length vc, .slice so st.length sc], .int .i64 0]) (by simp [results, Try.results23, go_sem, r0, r1]) rfl ?_
    have hEF := ((hE3.setCell (p := ⟨w.heap.size, 0, none⟩) (Nat.le_refl _) (.slice vo al.length vc)).setCell (p := ⟨w.heap.size + 1 + 1, 0, none⟩) (by simp; omega) (.slice vo al.length vc)).setCell (p := ⟨w.heap.size + 1 + 1, 1, none⟩) (by simp; omega) (.slice so st.length sc)
    have hat2 := RsAt_set (RsAt_set (RsAt_set HV.out.hat s0 (.slice vo al.length vc)) (p := ⟨w.heap.size + 1 + 1, 0, none⟩) (x := none) (n := 0) (c := 0) (by simp [go_sem, r0]) (.slice vo al.length vc)) (p := ⟨w.heap.size + 1 + 1, 1, none⟩) (x := none) (n := 0) (c := 0) (by simp [go_sem, r1]) (.slice so st.length sc)
    refine ⟨vo, so, vc, sc, ?_, ?_, hEF⟩
    · rw [HDO3.out]
    · rw [HDO3.out]
      have hdl : al.length ≤ 16 := HL16.out
      exact ⟨⟨rfl, hat2, HV.out.hnil⟩, HS.out.hs.ext hEF, by simp only; omega, HS.out.sl, HVC.out.1, HVC.out.2⟩
  · have HDO3 : Hid (Agt.doS ⟨rs, st⟩ ⟨1, n, v, ps, fs⟩ = (Agt.sw0, ae)) := HDO2.out.trans (if_pos hz)
    have b0 : (ae != 0) = true := by simpa using hz
    clear HDO2 HLN hz
    go_wp2
    refine bodyPost_ret (v := .tuple #[.agg #[.slice none 0 0, .slice none 0 0], .int .i64 ae]) (by simp [results, Try.results23, go_sem, r0, r1]) rfl ?_
    refine ⟨none, none, 0, 0, ?_, ?_, (hE3.setCell (by simp; omega) _).setCell (by simp; omega) _⟩
    · rw [HDO3.out]; rfl
    · rw [HDO3.out]
      exact ⟨⟨rfl, Or.inl rfl, fun _ => ⟨rfl, rfl⟩⟩, Or.inl rfl, by simp [Agt.sw0], by simp [Agt.sw0], by simp [Agt.sw0], by omega⟩

end Go.Proofs.Ytmjddnnjjmnddad.Ag
