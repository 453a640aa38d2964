/- What the law WireTurns answers, for every order and all bytes: true; nothing that was there is changed. -/
import Derived.Test.YtiepbdgjhfkceadWS
import Derived.Test.YtiepbdgjhfkceadN11
namespace Go.Proofs.Ytiepbdgjhfkcead.Wi
open Go.RowKit Go.Maps Go.Deep Go.Sort Tb Rul

theorem Bare_re (o : Wir.Od) (ro fo : Option Addr) (rc fc : Nat) (W : World) : ∀ d os, Calls Try.prog 15 #[ovl o ro fo rc fc] (grow (redrawn W d) os) fun e w'' => e = .returned (bval o ro fo rc fc) ∧ ∃ p : Regrown, w'' = grow (redrawn W p.d) p.os := fun d os =>
  Calls.regrown_of (Bare_any o ro fo rc fc (grow (redrawn W d) os))
theorem SameOrder_re (o : Wir.Od) (ro fo ro' fo' : Option Addr) (rc fc rc' fc' : Nat) (W : World) (h : OAt W o ro fo) (h' : OAt W o ro' fo') : ∀ d os, Calls Try.prog 13 #[ovl o ro fo rc fc, ovl o ro' fo' rc' fc'] (grow (redrawn W d) os) fun e w'' => e = .returned (.bool true) ∧ ∃ p : Regrown, w'' = grow (redrawn W p.d) p.os := fun d os =>
  Calls.regrown_of (SameOrder_same o ro fo ro' fo' rc fc rc' fc' (grow (redrawn W d) os) (h.ext (below_regrown W d os)) (h'.ext (below_regrown W d os)))
theorem full_small {o : Wir.Od} (hw : Wir.wrong o = 0) : (Wir.full o).length ≤ 1000 := by
  obtain ⟨_, hk⟩ := Wir.right_cases hw
  rw [Wir.full_len]
  rcases hk with ⟨e, h1, _⟩ | ⟨e, h1, _⟩ | e
  · rw [if_pos e]; omega
  · rw [if_neg (by omega), if_pos e]; omega
  · rw [if_neg (by omega), if_neg (by omega)]; omega

set_option maxRecDepth 100000 in
set_option maxHeartbeats 1600000 in
theorem wireTurns_any (o : Wir.Od) (ro fo : Option Addr) (rc fc : Nat) (ao : Option Addr) (len cap : Nat) (bs : List Nat) (w : World) (h : OAt w o ro fo) (hlen : bs.length = len) (hat : ByAt w ao bs) (hb : ∀ x ∈ bs, x < 256) (hl : len ≤ 140737488351232) (hcap : len ≤ cap) (hcm : cap ≤ 9223372036854775807) :
    Calls Try.prog 4 #[ovl o ro fo rc fc, .slice ao len cap] w fun e w' => e = .returned (.bool true) ∧ Ext w w' := by
  have HY : Hid _ := Bytes_any o ro fo rc fc
  have HBR : Hid _ := Bare_re o ro fo rc fc
  have HSR : Hid (∀ (W : World) (ro' fo' : Option Addr) (rc' fc' : Nat), OAt W o ro fo → OAt W (Wir.bare o) ro' fo' → ∀ d os, Calls Try.prog 13 #[ovl (Wir.bare o) ro' fo' rc' fc', bval o ro fo rc fc] (grow (redrawn W d) os) fun e w'' => e = .returned (.bool true) ∧ ∃ p : Regrown, w'' = grow (redrawn W p.d) p.os) := fun W ro' fo' rc' fc' h1 h2 =>
    SameOrder_re (Wir.bare o) ro' fo' _ _ rc' fc' _ _ W h2 (bare_at h1)
  obtain ⟨B, hB⟩ : ∃ B, B = w.alloc (.cells #[.int .i64 o.k, .int .i64 o.n, .int .i64 o.v, .slice ro o.rs.length rc, .slice fo o.fs.length fc] 25) := ⟨_, rfl⟩
  have hE0 : Ext w B := by rw [hB]; exact (Ext.refl w).alloc _
  obtain ⟨xs, hxs⟩ : ∃ xs, xs = (Wir.bts o).1 := ⟨_, rfl⟩
  rw [← hxs] at HY
  obtain ⟨x, hx⟩ : ∃ x, x = Wir.wrong o := ⟨_, rfl⟩
  rw [← hx] at HY
  obtain ⟨bo, hbo⟩ : ∃ bo, bo = Wir.bare o := ⟨_, rfl⟩
  rw [← hbo] at HSR
  have HT : Hid (x = 0 → xs.length ≤ 1000 ∧ (∀ z ∈ xs, z < 256) ∧ Wir.parse xs = (bo, 0)) := fun h0 => by
    have hw : Wir.wrong o = 0 := by rw [← hx]; exact h0
    rw [hxs, bts_right hw, hbo]
    exact ⟨full_small hw, Wir.full_lt hw, Wir.parse_full hw⟩
  have HO : Hid _ := h
  have HA : Hid _ := hat
  have HB8 : Hid _ := hb
  have HLN : Hid _ := hlen
  clear hxs hx h hat hb hlen hbo
  obtain ⟨bv, hbv⟩ : ∃ bv, bv = bval o ro fo rc fc := ⟨_, rfl⟩
  rw [← hbv] at HBR HSR
  have HBV : Hid _ := hbv
  clear hbv
  obtain ⟨k, n, v, rs, fs⟩ := o
  unfold ovl at HY HBR ⊢
  have HK : Hid (∀ W, Ext B W → BoxAt w.heap.size W k n v (.slice ro rs.length rc) (.slice fo fs.length fc)) := fun W hW => box_kept hB hW
  simp only at hB
  go_enter Try.func4, Try.ntmps4
  go_wp2_with fail
  rw [← hB]
  refine (alive_any _).mono ?_
  rintro e w1 ⟨rfl, E1⟩
  obtain ⟨b0, b1, b2, b3, b4⟩ := HK.out _ E1
  clear hB
  go_wp2_with fail
  refine (HY.out _ (HO.out.ext (hE0.trans E1))).mono ?_
  rintro e w2 ⟨v', rfl, hBO, E2⟩
  obtain ⟨L, hL⟩ : ∃ L, xs.length = L := ⟨_, rfl⟩
  obtain ⟨vo, vc, rfl, hvat, _, hvle, hvmx⟩ := BO.slice hBO hL
  have HL : Hid _ := hL
  have hB2 := E1.trans E2
  have hE2 := hE0.trans hB2
  clear b0 b1 b2 b3 b4 hL hBO HY
  go_upto_if 20 with fail
  go_cut [7, 8] (fun _ _ wx => Ext w2 wx)
  case first => as_aux_lemma =>
    by_cases hx0 : x = 0
    · obtain ⟨hl1, hb8, hps⟩ := HT.out hx0
      subst hx0
      rw [HL.out] at hl1
      have HPS : Hid _ := hps
      have HX8 : Hid _ := hb8
      clear HT hps hb8
      go_wp2_with fail
      refine (Parse_any vo L vc xs _ HL.out hvat HX8.out (by omega) hvle hvmx).mono ?_
      intro e w3 h3
      rw [HPS.out] at h3
      obtain ⟨ro3, fo3, rc3, fc3, rfl, hO3, E3⟩ := h3
      have HO3 : Hid _ := hO3
      clear hO3
      have HSQ : Hid _ := HSR.out (w3.alloc (.cells #[.int .i64 bo.k, .int .i64 bo.n, .int .i64 bo.v, .slice ro3 bo.rs.length rc3, .slice fo3 bo.fs.length fc3] 25)) ro3 fo3 rc3 fc3 (HO.out.ext ((hE2.trans E3).alloc _)) (HO3.out.ext ((Ext.refl _).alloc _))
      have HBQ : Hid _ := HBR.out (w3.alloc (.cells #[.int .i64 bo.k, .int .i64 bo.n, .int .i64 bo.v, .slice ro3 bo.rs.length rc3, .slice fo3 bo.fs.length fc3] 25))
      obtain ⟨c0, c1, c2, c3, c4⟩ := HK.out _ ((hB2.trans E3).alloc (.cells #[.int .i64 bo.k, .int .i64 bo.n, .int .i64 bo.v, .slice ro3 bo.rs.length rc3, .slice fo3 bo.fs.length fc3] 25))
      have k0 : (w3.alloc (.cells #[.int .i64 bo.k, .int .i64 bo.n, .int .i64 bo.v, .slice ro3 bo.rs.length rc3, .slice fo3 bo.fs.length fc3] 25)).cell? ⟨w3.heap.size, 0, none⟩ = some (.int .i64 bo.k) := by simp
      have k1 : (w3.alloc (.cells #[.int .i64 bo.k, .int .i64 bo.n, .int .i64 bo.v, .slice ro3 bo.rs.length rc3, .slice fo3 bo.fs.length fc3] 25)).cell? ⟨w3.heap.size, 1, none⟩ = some (.int .i64 bo.n) := by simp
      have k2 : (w3.alloc (.cells #[.int .i64 bo.k, .int .i64 bo.n, .int .i64 bo.v, .slice ro3 bo.rs.length rc3, .slice fo3 bo.fs.length fc3] 25)).cell? ⟨w3.heap.size, 2, none⟩ = some (.int .i64 bo.v) := by simp
      have k3 : (w3.alloc (.cells #[.int .i64 bo.k, .int .i64 bo.n, .int .i64 bo.v, .slice ro3 bo.rs.length rc3, .slice fo3 bo.fs.length fc3] 25)).cell? ⟨w3.heap.size, 3, none⟩ = some (.slice ro3 bo.rs.length rc3) := by simp
      have k4 : (w3.alloc (.cells #[.int .i64 bo.k, .int .i64 bo.n, .int .i64 bo.v, .slice ro3 bo.rs.length rc3, .slice fo3 bo.fs.length fc3] 25)).cell? ⟨w3.heap.size, 4, none⟩ = some (.slice fo3 bo.fs.length fc3) := by simp
      have hE3 : Ext w2 (w3.alloc (.cells #[.int .i64 bo.k, .int .i64 bo.n, .int .i64 bo.v, .slice ro3 bo.rs.length rc3, .slice fo3 bo.fs.length fc3] 25)) := E3.alloc _
      unfold ovl at HSQ ⊢
      obtain ⟨Y, hY⟩ : ∃ Y, Y = w3.alloc (.cells #[.int .i64 bo.k, .int .i64 bo.n, .int .i64 bo.v, .slice ro3 bo.rs.length rc3, .slice fo3 bo.fs.length fc3] 25) := ⟨_, rfl⟩
      rw [← hY] at HSQ HBQ c0 c1 c2 c3 c4 k0 k1 k2 k3 k4 hE3
      go_wp2_with fail
      rw [← hY]
      clear hY
      have x0 := cell_regrown c0
      have x1 := cell_regrown c1
      have x2 := cell_regrown c2
      have x3 := cell_regrown c3
      have x4 := cell_regrown c4
      have y0 := cell_regrown k0
      have y1 := cell_regrown k1
      have y2 := cell_regrown k2
      have y3 := cell_regrown k3
      have y4 := cell_regrown k4
      clear c0 c1 c2 c3 c4 k0 k1 k2 k3 k4
      refine wp_region_quiet_below (by kernel_rfl) (by kernel_rfl) ?_
      repeat (go_big_quiet_step (first | (with_reducible exact HBQ.out _ _) | (with_reducible exact HSQ.out _ _)))
      refine wpQuiet_nil ?_
      intro _ hw'
      obtain ⟨⟨dq, oq⟩, hw''⟩ := hw'
      subst hw''
      clear x0 x1 x2 x3 x4 y0 y1 y2 y3 y4 HBQ HSQ
      go_wp2_with fail
      go_meet
      case rel => exact hE3.trans (below_regrown Y dq oq)
    · have hx1 : (x == 0) = false := by simpa using hx0
      clear HT hx0
      go_wp2_with fail
      go_meet
      case rel => exact Ext.refl w2
  case rest => as_aux_lemma =>
    have hEw : Ext w wc := hE2.trans hcut
    clear HT HSR HBR HBV HK HO
    have HP2 : Hid ((Wir.parse bs).2 = 0 → Wir.wrong (Wir.parse bs).1 = 0 ∧ Wir.full (Wir.parse bs).1 = bs) := fun h0 => by
      obtain ⟨f1, f2, _⟩ := Wir.full_parse HB8.out h0
      exact ⟨f1, f2⟩
    have HP3 : Hid ((Wir.parse bs).2 ≠ 0 → (Wir.parse bs).1 = Wir.od0) := fun h0 => Wir.parse_fail h0
    go_wp2_with fail
    refine (Parse_any ao len cap bs _ HLN.out (ByAt.ext HA.out hEw) HB8.out (by omega) hcap hcm).mono ?_
    rintro e w4 ⟨ro4, fo4, rc4, fc4, rfl, hO4, E4⟩
    obtain ⟨o4, ho4⟩ : ∃ o4, o4 = (Wir.parse bs).1 := ⟨_, rfl⟩
    obtain ⟨y, hy⟩ : ∃ y, y = (Wir.parse bs).2 := ⟨_, rfl⟩
    rw [← ho4] at HP2 HP3 hO4 ⊢
    rw [← hy] at HP2 HP3 ⊢
    clear ho4 hy
    have HO4 : Hid _ := hO4
    clear hO4
    have hE4 := hEw.trans E4
    by_cases hy0 : y = 0
    · obtain ⟨hw4, hf4⟩ := HP2.out hy0
      subst hy0
      have HBY : Hid _ := Bytes_any o4 ro4 fo4 rc4 fc4
      rw [bts_right hw4, hf4, hw4] at HBY
      have hl1 : len ≤ 1000 := by rw [← HLN.out, ← hf4]; exact full_small hw4
      clear HP2 HP3 hw4 hf4
      unfold ovl at HBY ⊢
      go_wp2_with fail
      refine (HBY.out _ (HO4.out.ext ((Ext.refl w4).alloc _))).mono ?_
      rintro e w5 ⟨v5, rfl, hBO5, E5⟩
      obtain ⟨vo5, vc5, rfl, hat5, _, _, _⟩ := BO.slice hBO5 HLN.out
      have hE5 := (hE4.alloc _).trans E5
      have s1 := conv_str hat5 HLN.out vc5
      have s2 := conv_str (ByAt.ext HA.out hE5) HLN.out cap
      clear hBO5 hat5
      go_wp2
      go_ret
      exact ⟨rfl, hE5⟩
    · have hod := HP3.out hy0
      have hy1 : (y != 0) = true := by simpa using hy0
      subst hod
      clear HP2 HP3 hy0
      have HSZ : Hid _ := SameOrder_same Wir.od0 ro4 fo4 none none rc4 fc4 0 0 (w4.alloc (.cells #[.int .i64 0, .int .i64 0, .int .i64 0, .slice ro4 0 rc4, .slice fo4 0 fc4] 25)) (HO4.out.ext ((Ext.refl w4).alloc _)) (OAt.zero _)
      unfold ovl at HSZ ⊢
      simp only [Wir.od0, List.length_nil] at HSZ ⊢
      go_wp2_with fail
      refine Calls.mono HSZ.out ?_
      rintro e w5 ⟨rfl, E5⟩
      go_wp2
      go_ret
      exact ⟨rfl, (hE4.alloc _).trans E5⟩

end Go.Proofs.Ytiepbdgjhfkcead.Wi
