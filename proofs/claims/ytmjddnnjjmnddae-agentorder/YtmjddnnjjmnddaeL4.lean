/- What the law AgentOrder answers, for every switch and two orders: true; nothing that was there is changed. -/
import Derived.Test.YtmjddnnjjmnddaeZ7
namespace Go.Proofs.Ytmjddnnjjmnddae.Ag
open Go.RowKit Go.Deep Tb Rul Wi

/-- A switch is written into two cells that held one: all others stay where they are. -/
theorem SwAt_write {w : World} {s : Agt.Sw} {ro so : Option Addr} {rc : Nat} {b : Nat} (h : SwAt w s ro so rc) {x y : Option Addr} {n m c d : Nat} (r0 : w.cell? ⟨b, 0, none⟩ = some (.slice x n c)) (r1 : w.cell? ⟨b, 1, none⟩ = some (.slice y m d)) (u v : Value) :
    SwAt ((w.setCell ⟨b, 0, none⟩ u).setCell ⟨b, 1, none⟩ v) s ro so rc := by
  have r1' : (w.setCell ⟨b, 0, none⟩ u).cell? ⟨b, 1, none⟩ = some (.slice y m d) := by simp [go_sem, r1]
  exact ⟨⟨h.hr.hlen, RsAt_put (RsAt_put h.hr.hat r0 u) r1' v, h.hr.hnil⟩, StAt_put (StAt_put h.hs r0 u) r1' v, h.rl, h.sl, h.rq⟩
/-- What the cells are then. -/
theorem wr2_same {w : World} {b : Nat} {a0 a1 : Value} (r0 : w.cell? ⟨b, 0, none⟩ = some a0) (r1 : w.cell? ⟨b, 1, none⟩ = some a1) (u v : Value) :
    ((w.setCell ⟨b, 0, none⟩ u).setCell ⟨b, 1, none⟩ v).cell? ⟨b, 0, none⟩ = some u ∧ ((w.setCell ⟨b, 0, none⟩ u).setCell ⟨b, 1, none⟩ v).cell? ⟨b, 1, none⟩ = some v := by
  have r1' : (w.setCell ⟨b, 0, none⟩ u).cell? ⟨b, 1, none⟩ = some a1 := (World.cell?_setCell_other _ _ _ _ (by simp)).trans r1
  exact ⟨(World.cell?_setCell_other _ _ _ _ (by simp)).trans (World.cell?_setCell_same _ _ _ r0), World.cell?_setCell_same _ _ _ r1'⟩
theorem wr2_other {w : World} {b c : Nat} (h : c ≠ b) (i : Nat) (u v : Value) : ((w.setCell ⟨b, 0, none⟩ u).setCell ⟨b, 1, none⟩ v).cell? ⟨c, i, none⟩ = w.cell? ⟨c, i, none⟩ :=
  (World.cell?_setCell_other _ _ _ _ (fun e => h (by cases e; rfl))).trans (World.cell?_setCell_other _ _ _ _ (fun e => h (by cases e; rfl)))
theorem wr2_frz {w : World} {b c : Nat} (i : Nat) (u v : Value) : ((w.setCell ⟨b, 0, none⟩ u).setCell ⟨b, 1, none⟩ v).frozen? ⟨c, i, none⟩ = w.frozen? ⟨c, i, none⟩ := by simp

/-- A switch and two orders, in three blocks. -/
def Du (w : World) (rv sv : Value) (k n v : Int) (pv fv : Value) (k' n' v' : Int) (pv' fv' : Value) : World :=
  (Dv w rv sv k n v pv fv).alloc (.cells #[.int .i64 k', .int .i64 n', .int .i64 v', pv', fv'] 28)
theorem Du_of {w W : World} {rv sv : Value} {k n v : Int} {pv fv : Value} {k' n' v' : Int} {pv' fv' : Value} (E : Ext (Du w rv sv k n v pv fv k' n' v' pv' fv') W) :
    SOAt W w.heap.size rv sv k n v pv fv ∧ W.cell? ⟨w.heap.size + 1 + 1, 0, none⟩ = some (.int .i64 k') ∧ W.cell? ⟨w.heap.size + 1 + 1, 1, none⟩ = some (.int .i64 n') ∧ W.cell? ⟨w.heap.size + 1 + 1, 2, none⟩ = some (.int .i64 v') ∧ W.cell? ⟨w.heap.size + 1 + 1, 3, none⟩ = some pv' ∧ W.cell? ⟨w.heap.size + 1 + 1, 4, none⟩ = some fv' := by
  obtain ⟨c0, c1, c2, c3, c4, _⟩ := blk5 (w := Dv w rv sv k n v pv fv) E
  rw [Dv_size] at c0 c1 c2 c3 c4
  exact ⟨SOAt.of (((Ext.refl _).alloc _).trans E), c0, c1, c2, c3, c4⟩

set_option maxRecDepth 100000 in
set_option maxHeartbeats 3200000 in
theorem agentOrder_any (s : Agt.Sw) (a b : Wir.Od) (ro so po fo po' fo' : Option Addr) (rc sc pc fc pc' fc' : Nat) (w : World) (h : SwAt w s ro so rc) (ha : OAt w a po fo) (hpn : po = none → a.rs.length = 0 ∧ pc = 0) (hb : OAt w b po' fo') (hpn' : po' = none → b.rs.length = 0 ∧ pc' = 0) :
    Calls Try.prog 5 #[svl s ro so rc sc, ovl a po fo pc fc, ovl b po' fo' pc' fc'] w fun e w' => e = .returned (.bool true) ∧ Ext w w' := by
  have HDa : Hid (∀ s ro so rc sc W, Ext w W → SwAt W s ro so rc → Calls Try.prog 7 #[svl s ro so rc sc, ovl a po fo pc fc] W fun e w' => SwOut W (Agt.doS s a) e w') := fun s ro so rc sc W hW hS => Do_any s a ro so po fo rc sc pc fc W hS (ha.ext hW) hpn
  have HDb : Hid (∀ s ro so rc sc W, Ext w W → SwAt W s ro so rc → Calls Try.prog 7 #[svl s ro so rc sc, ovl b po' fo' pc' fc'] W fun e w' => SwOut W (Agt.doS s b) e w') := fun s ro so rc sc W hW hS => Do_any s b ro so po' fo' rc sc pc' fc' W hS (hb.ext hW) hpn'
  obtain ⟨x, hx⟩ : ∃ x, Agt.doS s a = x := ⟨_, rfl⟩
  obtain ⟨⟨xr, xt⟩, xe⟩ := x
  obtain ⟨y, hy⟩ : ∃ y, Agt.doS s b = y := ⟨_, rfl⟩
  obtain ⟨⟨yr, yt⟩, ye⟩ := y
  obtain ⟨p, hp⟩ : ∃ p, Agt.doS ⟨xr, xt⟩ b = p := ⟨_, rfl⟩
  obtain ⟨⟨pr, pt⟩, pe⟩ := p
  obtain ⟨q, hq⟩ : ∃ q, Agt.doS ⟨yr, yt⟩ a = q := ⟨_, rfl⟩
  obtain ⟨⟨qr, qt⟩, qe⟩ := q
  have HSM : Hid (a.k ≠ 2 → b.k ≠ 2 → a.v ≠ b.v → xe = 0 → ye = 0 → pe = 0 → qe = 0 → pr = qr ∧ pt = qt) := fun h1 h2 h3 e1 e2 e3 e4 => by
    have h := Agt.order (s := s) (a := a) (b := b) h1 h2 h3 (by rw [hx]; exact e1) (by rw [hy]; exact e2) (by rw [hx]; simp only; rw [hp]; exact e3) (by rw [hy]; simp only; rw [hq]; exact e4)
    rw [hx, hy] at h
    simp only at h
    rw [hp, hq] at h
    simp only [Agt.Sw.mk.injEq] at h
    exact h
  have HX1 : Hid (∀ W, Ext w W → Calls Try.prog 7 #[svl s ro so rc sc, ovl a po fo pc fc] W fun e w' => SwOut W (⟨xr, xt⟩, xe) e w') := fun W hW => by have h1 := HDa.out s ro so rc sc W hW (h.ext hW); rw [hx] at h1; exact h1
  have HY1 : Hid (∀ W, Ext w W → Calls Try.prog 7 #[svl s ro so rc sc, ovl b po' fo' pc' fc'] W fun e w' => SwOut W (⟨yr, yt⟩, ye) e w') := fun W hW => by have h1 := HDb.out s ro so rc sc W hW (h.ext hW); rw [hy] at h1; exact h1
  have HP1 : Hid (∀ ao bo ac bc W, Ext w W → SwAt W ⟨xr, xt⟩ ao bo ac → Calls Try.prog 7 #[svl ⟨xr, xt⟩ ao bo ac bc, ovl b po' fo' pc' fc'] W fun e w' => SwOut W (⟨pr, pt⟩, pe) e w') := fun ao bo ac bc W hW hS => by have h1 := HDb.out ⟨xr, xt⟩ ao bo ac bc W hW hS; rw [hp] at h1; exact h1
  have HQ1 : Hid (∀ ao bo ac bc W, Ext w W → SwAt W ⟨yr, yt⟩ ao bo ac → Calls Try.prog 7 #[svl ⟨yr, yt⟩ ao bo ac bc, ovl a po fo pc fc] W fun e w' => SwOut W (⟨qr, qt⟩, qe) e w') := fun ao bo ac bc W hW hS => by have h1 := HDa.out ⟨yr, yt⟩ ao bo ac bc W hW hS; rw [hq] at h1; exact h1
  clear h ha hb hpn hpn' hx hy hp hq HDa HDb
  obtain ⟨rs, st⟩ := s
  obtain ⟨k, n, v, ps, fs⟩ := a
  obtain ⟨k', n', v', ps', fs'⟩ := b
  unfold svl ovl at *
  simp only at HSM
  go_enter Try.func5, Try.ntmps5
  go_wp2_with fail
  obtain ⟨B, hB⟩ : ∃ B, B = Du w (.slice ro rs.length rc) (.slice so st.length sc) k n v (.slice po ps.length pc) (.slice fo fs.length fc) k' n' v' (.slice po' ps'.length pc') (.slice fo' fs'.length fc') := ⟨_, rfl⟩
  have hE0 : Ext w B := by rw [hB]; exact (((Ext.refl w).alloc _).alloc _).alloc _
  have HK : Hid (∀ W, Ext B W → SOAt W w.heap.size (.slice ro rs.length rc) (.slice so st.length sc) k n v (.slice po ps.length pc) (.slice fo fs.length fc) ∧ W.cell? ⟨w.heap.size + 1 + 1, 0, none⟩ = some (.int .i64 k') ∧ W.cell? ⟨w.heap.size + 1 + 1, 1, none⟩ = some (.int .i64 n') ∧ W.cell? ⟨w.heap.size + 1 + 1, 2, none⟩ = some (.int .i64 v') ∧ W.cell? ⟨w.heap.size + 1 + 1, 3, none⟩ = some (.slice po' ps'.length pc') ∧ W.cell? ⟨w.heap.size + 1 + 1, 4, none⟩ = some (.slice fo' fs'.length fc')) := fun W hW => Du_of (by rw [← hB]; exact hW)
  change Calls _ _ _ (Du w (.slice ro rs.length rc) (.slice so st.length sc) k n v (.slice po ps.length pc) (.slice fo fs.length fc) k' n' v' (.slice po' ps'.length pc') (.slice fo' fs'.length fc')) _
  rw [← hB]
  clear hB
  refine (alive_any _).mono ?_
  rintro e w1 ⟨rfl, E1⟩
  obtain ⟨hso, c0, c1, c2, c3, c4⟩ := HK.out _ E1
  obtain ⟨b0, b1, b2, b3, b4, b5, b6⟩ := hso.all
  clear hso
  by_cases hk : k = 2
  · have z0 : (k == 2) = true := by simpa using hk
    clear hk HSM HX1 HY1 HP1 HQ1
    go_wp2
    go_ret
    exact ⟨rfl, hE0.trans E1⟩
  have z0 : (k == 2) = false := by simpa using hk
  by_cases hk' : k' = 2
  · have z1 : (k' == 2) = true := by simpa using hk'
    clear hk hk' HSM HX1 HY1 HP1 HQ1
    go_wp2
    go_ret
    exact ⟨rfl, hE0.trans E1⟩
  have z1 : (k' == 2) = false := by simpa using hk'
  by_cases hv : v = v'
  · have z2 : (v == v') = true := by simpa using hv
    clear hk hk' hv HSM HX1 HY1 HP1 HQ1
    go_wp2
    go_ret
    exact ⟨rfl, hE0.trans E1⟩
  have z2 : (v == v') = false := by simpa using hv
  have HSM2 : Hid (xe = 0 → ye = 0 → pe = 0 → qe = 0 → pr = qr ∧ pt = qt) := HSM.out hk hk' hv
  clear HSM hk hk' hv
  go_wp2_with fail
  refine Calls.mono (HX1.out _ (hE0.trans E1)) ?_
  rintro e w2 ⟨ao, bo, ac, bc, he, hX, E2⟩
  have he' : e = .returned (.tuple #[.agg #[.slice ao xr.length ac, .slice bo xt.length bc], .int .i64 xe]) := he
  subst he'
  have HX : Hid _ := hX
  clear he hX HX1 b0 b1 b2 b3 b4 b5 b6 c0 c1 c2 c3 c4
  obtain ⟨C, hC⟩ : ∃ C, C = w2.alloc (.cells #[.slice ao xr.length ac, .slice bo xt.length bc] 25) := ⟨_, rfl⟩
  have hEC : Ext B C := by rw [hC]; exact (E1.trans E2).alloc _
  have HXC : Hid (SwAt C ⟨xr, xt⟩ ao bo ac) := HX.out.ext (by rw [hC]; exact (Ext.refl _).alloc _)
  have HT : Hid (∀ W, Ext C W → W.cell? ⟨w2.heap.size, 0, none⟩ = some (.slice ao xr.length ac) ∧ W.cell? ⟨w2.heap.size, 1, none⟩ = some (.slice bo xt.length bc) ∧ W.frozen? ⟨w2.heap.size, 0, none⟩ = false ∧ W.frozen? ⟨w2.heap.size, 1, none⟩ = false ∧ w2.heap.size < W.heap.size) := fun W hW => blk2 (by rw [← hC]; exact hW)
  have hB2 : B.heap.size ≤ w2.heap.size := (E1.trans E2).size
  obtain ⟨hso, c0, c1, c2, c3, c4⟩ := HK.out _ hEC
  obtain ⟨b0, b1, b2, b3, b4, b5, b6⟩ := hso.all
  rw [hC] at b0 b1 b2 b3 b4 b5 b6 c0 c1 c2 c3 c4
  clear hso
  go_wp2_with fail
  rw [← hC]
  clear hC b0 b1 b2 b3 b4 b5 b6 c0 c1 c2 c3 c4
  refine Calls.mono (HY1.out _ (hE0.trans hEC)) ?_
  rintro e w3 ⟨ao', bo', ac', bc', he, hX, E3⟩
  have he' : e = .returned (.tuple #[.agg #[.slice ao' yr.length ac', .slice bo' yt.length bc'], .int .i64 ye]) := he
  subst he'
  have HY : Hid _ := hX
  clear he hX HY1
  obtain ⟨D, hD⟩ : ∃ D, D = w3.alloc (.cells #[.slice ao' yr.length ac', .slice bo' yt.length bc'] 25) := ⟨_, rfl⟩
  have hCD : Ext C D := by rw [hD]; exact E3.alloc _
  have HXD : Hid (SwAt D ⟨xr, xt⟩ ao bo ac) := HXC.out.ext hCD
  have HYD : Hid (SwAt D ⟨yr, yt⟩ ao' bo' ac') := HY.out.ext (by rw [hD]; exact (Ext.refl _).alloc _)
  have HU : Hid (∀ W, Ext D W → W.cell? ⟨w3.heap.size, 0, none⟩ = some (.slice ao' yr.length ac') ∧ W.cell? ⟨w3.heap.size, 1, none⟩ = some (.slice bo' yt.length bc') ∧ W.frozen? ⟨w3.heap.size, 0, none⟩ = false ∧ W.frozen? ⟨w3.heap.size, 1, none⟩ = false ∧ w3.heap.size < W.heap.size) := fun W hW => blk2 (by rw [← hD]; exact hW)
  have hne : w2.heap.size < w3.heap.size := Nat.lt_of_lt_of_le (HT.out C (Ext.refl C)).2.2.2.2 E3.size
  have hED : Ext B D := hEC.trans hCD
  by_cases hxe : xe = 0
  rotate_left
  · have x0 : (xe != 0) = true := by simpa using hxe
    clear hxe HSM2 HP1 HQ1
    go_wp2
    go_ret
    exact ⟨rfl, (hE0.trans (hEC.trans E3)).alloc _⟩
  by_cases hye : ye = 0
  rotate_left
  · have x0 : (xe != 0) = false := by simpa using hxe
    have y0 : (ye != 0) = true := by simpa using hye
    clear hxe hye HSM2 HP1 HQ1
    go_wp2
    go_ret
    exact ⟨rfl, (hE0.trans (hEC.trans E3)).alloc _⟩
  subst hxe
  subst hye
  have HSM3 : Hid (pe = 0 → qe = 0 → pr = qr ∧ pt = qt) := HSM2.out rfl rfl
  clear HSM2
  obtain ⟨hso, c0, c1, c2, c3, c4⟩ := HK.out _ hED
  obtain ⟨t0, t1, _, _, _⟩ := HT.out _ hCD
  rw [hD] at c0 c1 c2 c3 c4 t0 t1
  clear hso
  go_wp2_with fail
  rw [← hD]
  clear hD c0 c1 c2 c3 c4 t0 t1
  refine Calls.mono (HP1.out ao bo ac bc D (hE0.trans hED) HXD.out) ?_
  rintro e w4 ⟨ap, bp, apc, bpc, he, hX, E4⟩
  have he' : e = .returned (.tuple #[.agg #[.slice ap pr.length apc, .slice bp pt.length bpc], .int .i64 pe]) := he
  subst he'
  have HP : Hid _ := hX
  clear he hX HP1
  obtain ⟨t0, t1, f0, f1, _⟩ := HT.out _ (hCD.trans E4)
  obtain ⟨G, hG⟩ : ∃ G, G = (w4.setCell ⟨w2.heap.size, 0, none⟩ (.slice ap pr.length apc)).setCell ⟨w2.heap.size, 1, none⟩ (.slice bp pt.length bpc) := ⟨_, rfl⟩
  have hEG : Ext B G := by rw [hG]; exact ((hED.trans E4).setCell (by simpa using hB2) _).setCell (by simpa using hB2) _
  have HPG : Hid (SwAt G ⟨pr, pt⟩ ap bp apc) := by show SwAt _ _ _ _ _; rw [hG]; exact SwAt_write HP.out t0 t1 _ _
  have HYG : Hid (SwAt G ⟨yr, yt⟩ ao' bo' ac') := by show SwAt _ _ _ _ _; rw [hG]; exact SwAt_write (HYD.out.ext E4) t0 t1 _ _
  have HTG : Hid (G.cell? ⟨w2.heap.size, 0, none⟩ = some (.slice ap pr.length apc) ∧ G.cell? ⟨w2.heap.size, 1, none⟩ = some (.slice bp pt.length bpc)) := by show _ ∧ _; rw [hG]; exact wr2_same t0 t1 _ _
  have HUG : Hid (G.cell? ⟨w3.heap.size, 0, none⟩ = some (.slice ao' yr.length ac') ∧ G.cell? ⟨w3.heap.size, 1, none⟩ = some (.slice bo' yt.length bc') ∧ G.frozen? ⟨w3.heap.size, 0, none⟩ = false ∧ G.frozen? ⟨w3.heap.size, 1, none⟩ = false ∧ w3.heap.size < G.heap.size) := by
    obtain ⟨u0, u1, u2, u3, u4⟩ := HU.out _ E4
    show _ ∧ _
    rw [hG, wr2_other (by omega), wr2_other (by omega), wr2_frz, wr2_frz]
    exact ⟨u0, u1, u2, u3, by simpa using u4⟩
  obtain ⟨hso, _⟩ := HK.out _ hEG
  obtain ⟨_, _, b2, b3, b4, b5, b6⟩ := hso.all
  obtain ⟨u0, u1, _⟩ := HUG.out
  rw [hG] at b2 b3 b4 b5 b6 u0 u1
  clear hso
  go_wp2_with fail
  rw [← hG]
  have hGs : w2.heap.size < G.heap.size := by rw [hG]; simpa using (HT.out _ (hCD.trans E4)).2.2.2.2
  clear hG b2 b3 b4 b5 b6 u0 u1 t0 t1 f0 f1
  refine Calls.mono (HQ1.out ao' bo' ac' bc' G (hE0.trans hEG) HYG.out) ?_
  rintro e w5 ⟨aq, bq, aqc, bqc, he, hX, E5⟩
  have he' : e = .returned (.tuple #[.agg #[.slice aq qr.length aqc, .slice bq qt.length bqc], .int .i64 qe]) := he
  subst he'
  have HQ : Hid _ := hX
  clear he hX HQ1
  obtain ⟨v0, v1, g0, g1, v4⟩ := HUG.out
  have u0 := (E5.cells.1 _ _ v4).trans v0
  have u1 := (E5.cells.1 _ _ v4).trans v1
  have f0 := (E5.cells.2 _ _ v4).trans g0
  have f1 := (E5.cells.2 _ _ v4).trans g1
  obtain ⟨s0, s1⟩ := HTG.out
  have t0 := (E5.cells.1 _ _ hGs).trans s0
  have t1 := (E5.cells.1 _ _ hGs).trans s1
  clear v0 v1 g0 g1 s0 s1
  obtain ⟨J, hJ⟩ : ∃ J, J = (w5.setCell ⟨w3.heap.size, 0, none⟩ (.slice aq qr.length aqc)).setCell ⟨w3.heap.size, 1, none⟩ (.slice bq qt.length bqc) := ⟨_, rfl⟩
  have hEJ : Ext B J := by rw [hJ]; exact ((hEG.trans E5).setCell (by simp; omega) _).setCell (by simp; omega) _
  have HSA : Hid (pe = 0 → qe = 0 → ∀ W, Ext J W → Calls Try.prog 8 #[.agg #[.slice ap pr.length apc, .slice bp pt.length bpc], .agg #[.slice aq qr.length aqc, .slice bq qt.length bqc]] W fun e w' => e = .returned (.bool true) ∧ Ext W w') := fun h1 h2 W hW => by
    obtain ⟨e1, e2⟩ := HSM3.out h1 h2
    have s1 : SwAt J ⟨pr, pt⟩ ap bp apc := by rw [hJ]; exact SwAt_write (HPG.out.ext E5) u0 u1 _ _
    have s2 : SwAt J ⟨qr, qt⟩ aq bq aqc := by rw [hJ]; exact SwAt_write HQ.out u0 u1 _ _
    rw [← e1, ← e2] at s2 ⊢
    exact SameSwitch_same ⟨pr, pt⟩ ap bp aq bq apc bpc aqc bqc W (s1.ext hW) (s2.ext hW)
  have x0 : J.cell? ⟨w2.heap.size, 0, none⟩ = some (.slice ap pr.length apc) := by rw [hJ, wr2_other (by omega)]; exact t0
  have x1 : J.cell? ⟨w2.heap.size, 1, none⟩ = some (.slice bp pt.length bpc) := by rw [hJ, wr2_other (by omega)]; exact t1
  have y0 : J.cell? ⟨w3.heap.size, 0, none⟩ = some (.slice aq qr.length aqc) := by rw [hJ]; exact (wr2_same u0 u1 _ _).1
  have y1 : J.cell? ⟨w3.heap.size, 1, none⟩ = some (.slice bq qt.length bqc) := by rw [hJ]; exact (wr2_same u0 u1 _ _).2
  rw [hJ] at x0 x1 y0 y1
  clear t0 t1
  by_cases hpe : pe = 0
  rotate_left
  · have p0 : (pe != 0) = true := by simpa using hpe
    clear hpe HSA
    go_wp2
    go_ret
    exact ⟨rfl, by rw [← hJ]; exact hE0.trans hEJ⟩
  by_cases hqe : qe = 0
  rotate_left
  · have p0 : (pe != 0) = false := by simpa using hpe
    have q0 : (qe != 0) = true := by simpa using hqe
    clear hpe hqe HSA
    go_wp2
    go_ret
    exact ⟨rfl, by rw [← hJ]; exact hE0.trans hEJ⟩
  have HSB : Hid _ := HSA.out hpe hqe
  have p0 : (pe != 0) = false := by simpa using hpe
  have q0 : (qe != 0) = false := by simpa using hqe
  clear hpe hqe HSA
  go_wp2_with fail
  rw [← hJ]
  refine Calls.mono (HSB.out _ (Ext.refl J)) ?_
  rintro e w6 ⟨rfl, E6⟩
  clear hJ x0 x1 y0 y1
  go_wp2
  go_ret
  exact ⟨rfl, hE0.trans (hEJ.trans E6)⟩

end Go.Proofs.Ytmjddnnjjmnddae.Ag
