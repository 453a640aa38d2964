/- What the law WireTells answers, for every order and all bytes: true; nothing that was there is changed. -/
import Derived.Test.YtiepbdgjhfkceadWS
import Derived.Test.YtiepbdgjhfkceadN14
namespace Go.Proofs.Ytiepbdgjhfkcead.Wi
open Go.RowKit Go.Maps Go.Deep Go.Sort Tb Rul

theorem Wrong_re (o : Wir.Od) (ro fo : Option Addr) (rc fc : Nat) (W : World) (h : OAt W o ro fo) : ∀ d os, Calls Try.prog 7 #[ovl o ro fo rc fc] (grow (redrawn W d) os) fun e w'' => e = .returned (.int .i64 (Wir.wrong o)) ∧ ∃ p : Regrown, w'' = grow (redrawn W p.d) p.os := fun d os =>
  Calls.regrown_of (Wrong_any o ro fo rc fc (grow (redrawn W d) os) (h.ext (below_regrown W d os)))
theorem refWrong_re (o : Wir.Od) (ro fo : Option Addr) (rc fc : Nat) (W : World) (h : OAt W o ro fo) : ∀ d os, Calls Try.prog 8 #[ovl o ro fo rc fc] (grow (redrawn W d) os) fun e w'' => e = .returned (.int .i64 (Wir.wrong o)) ∧ ∃ p : Regrown, w'' = grow (redrawn W p.d) p.os := fun d os =>
  Calls.regrown_of (refWrong_any o ro fo rc fc (grow (redrawn W d) os) (h.ext (below_regrown W d os)))

set_option maxRecDepth 100000 in
set_option maxHeartbeats 1600000 in
theorem wireTells_any (o : Wir.Od) (ro fo : Option Addr) (rc fc : Nat) (ao : Option Addr) (len cap : Nat) (bs : List Nat) (w : World) (h : OAt w o ro fo) (hlen : bs.length = len) (hat : ByAt w ao bs) (hb : ∀ x ∈ bs, x < 256) (hl : len ≤ 140737488351232) (hcap : len ≤ cap) (hcm : cap ≤ 9223372036854775807) :
    Calls Try.prog 3 #[ovl o ro fo rc fc, .slice ao len cap] w fun e w' => e = .returned (.bool true) ∧ Ext w w' := by
  obtain ⟨B, hB⟩ : ∃ B, B = w.alloc (.cells #[.int .i64 o.k, .int .i64 o.n, .int .i64 o.v, .slice ro o.rs.length rc, .slice fo o.fs.length fc] 25) := ⟨_, rfl⟩
  have hE0 : Ext w B := by rw [hB]; exact (Ext.refl w).alloc _
  have HQ1 : Hid _ := Wrong_re o ro fo rc fc B (h.ext hE0)
  have HQ2 : Hid _ := refWrong_re o ro fo rc fc B (h.ext hE0)
  have HY : Hid _ := Bytes_any o ro fo rc fc
  have HZ : Hid _ := refBytes_any o ro fo rc fc
  obtain ⟨xs, hxs⟩ : ∃ xs, xs = (Wir.bts o).1 := ⟨_, rfl⟩
  rw [← hxs] at HY HZ
  obtain ⟨x, hx⟩ : ∃ x, x = Wir.wrong o := ⟨_, rfl⟩
  rw [← hx] at HY HZ HQ1 HQ2
  have HO : Hid _ := h
  have HA : Hid _ := hat
  have HB8 : Hid _ := hb
  have HLN : Hid _ := hlen
  clear hxs hx h hat hb hlen
  obtain ⟨k, n, v, rs, fs⟩ := o
  unfold ovl at HY HZ HQ1 HQ2 ⊢
  have HK : Hid (∀ W, Ext B W → BoxAt w.heap.size W k n v (.slice ro rs.length rc) (.slice fo fs.length fc)) := fun W hW => box_kept hB hW
  obtain ⟨c0, c1, c2, c3, c4⟩ := HK.out _ (Ext.refl B)
  have x0 := cell_regrown c0
  have x1 := cell_regrown c1
  have x2 := cell_regrown c2
  have x3 := cell_regrown c3
  have x4 := cell_regrown c4
  clear c0 c1 c2 c3 c4
  simp only at hB
  go_enter Try.func3, Try.ntmps3
  go_wp2_with fail
  rw [← hB]
  clear hB
  refine wp_region_quiet_below (by kernel_rfl) (by kernel_rfl) ?_
  repeat (go_big_quiet_step (first | (with_reducible exact HQ1.out _ _) | (with_reducible exact HQ2.out _ _)))
  refine wpQuiet_nil ?_
  intro _ hw'
  obtain ⟨⟨dq, oq⟩, hw''⟩ := hw'
  subst hw''
  have hEX : Ext B (grow (redrawn B dq) oq) := below_regrown B dq oq
  clear HQ1 HQ2 x0 x1 x2 x3 x4
  generalize grow (redrawn B dq) oq = X at hEX ⊢
  obtain ⟨b0, b1, b2, b3, b4⟩ := HK.out _ hEX
  go_wp2_with fail
  refine (HY.out _ (HO.out.ext (hE0.trans hEX))).mono ?_
  rintro e w2 ⟨v2, rfl, hBO2, E2⟩
  obtain ⟨L, hL⟩ : ∃ L, xs.length = L := ⟨_, rfl⟩
  obtain ⟨vo2, vc2, rfl, hat2, _, _, _⟩ := BO.slice hBO2 hL
  have hB2 := hEX.trans E2
  clear b0 b1 b2 b3 b4 hBO2 HY
  obtain ⟨b0, b1, b2, b3, b4⟩ := HK.out _ hB2
  have HL : Hid _ := hL
  have HA2 : Hid (ByAt w2 vo2 xs) := hat2
  clear hL hat2
  go_wp2_with fail
  refine (HZ.out _ (HO.out.ext (hE0.trans hB2))).mono ?_
  rintro e w3 ⟨v3, rfl, hBO3, E3⟩
  obtain ⟨vo3, vc3, rfl, hat3, _, _, _⟩ := BO.slice hBO3 HL.out
  have hB3 := hB2.trans E3
  have s1 := conv_str (ByAt.ext HA2.out E3) HL.out vc2
  have s2 := conv_str hat3 HL.out vc3
  have hE3 := hE0.trans hB3
  clear b0 b1 b2 b3 b4 hBO3 HZ hat3
  go_wp2_with fail
  clear s1 s2 HA2 HL HK HO
  refine (Parse_any ao len cap bs _ HLN.out (ByAt.ext HA.out hE3) HB8.out (by omega) hcap hcm).mono ?_
  rintro e w4 ⟨ro4, fo4, rc4, fc4, rfl, hO4, E4⟩
  have HRP : Hid _ := refParse_any ao len cap bs
  obtain ⟨o4, ho4⟩ : ∃ o4, o4 = (Wir.parse bs).1 := ⟨_, rfl⟩
  obtain ⟨y, hy⟩ : ∃ y, y = (Wir.parse bs).2 := ⟨_, rfl⟩
  have hpe : Wir.parse bs = (o4, y) := by rw [ho4, hy]
  rw [hpe] at HRP
  rw [← ho4] at hO4 ⊢
  rw [← hy]
  have HO4 : Hid (OAt w4 o4 ro4 fo4) := hO4
  clear hO4 hpe ho4 hy
  have hE4 := hE3.trans E4
  unfold ovl
  go_wp2_with fail
  refine (HRP.out _ HLN.out (ByAt.ext HA.out (hE4.alloc _)) HB8.out (by omega) hcap hcm).mono ?_
  rintro e w5 ⟨ro5, fo5, rc5, fc5, rfl, hO5, E5⟩
  have HO5 : Hid (OAt w5 o4 ro5 fo5) := hO5
  clear hO5
  have E45 : Ext w4 w5 := ((Ext.refl w4).alloc _).trans E5
  have k0 : w5.cell? ⟨w4.heap.size, 0, none⟩ = some (.int .i64 o4.k) := (E5.cells.1 _ _ (by simp)).trans (by simp)
  have k1 : w5.cell? ⟨w4.heap.size, 1, none⟩ = some (.int .i64 o4.n) := (E5.cells.1 _ _ (by simp)).trans (by simp)
  have k2 : w5.cell? ⟨w4.heap.size, 2, none⟩ = some (.int .i64 o4.v) := (E5.cells.1 _ _ (by simp)).trans (by simp)
  have k3 : w5.cell? ⟨w4.heap.size, 3, none⟩ = some (.slice ro4 o4.rs.length rc4) := (E5.cells.1 _ _ (by simp)).trans (by simp)
  have k4 : w5.cell? ⟨w4.heap.size, 4, none⟩ = some (.slice fo4 o4.fs.length fc4) := (E5.cells.1 _ _ (by simp)).trans (by simp)
  have hlt : w4.heap.size < w5.heap.size := by have := E5.size; simp at this; omega
  have HSZ : Hid _ := SameOrder_same o4 ro4 fo4 ro5 fo5 rc4 fc4 rc5 fc5 (w5.alloc (.cells #[.int .i64 o4.k, .int .i64 o4.n, .int .i64 o4.v, .slice ro5 o4.rs.length rc5, .slice fo5 o4.fs.length fc5] 25)) (HO4.out.ext (E45.alloc _)) (HO5.out.ext ((Ext.refl w5).alloc _))
  unfold ovl at HSZ ⊢
  go_wp2_with fail
  refine Calls.mono HSZ.out ?_
  rintro e w6 ⟨rfl, E6⟩
  go_wp2
  go_ret
  exact ⟨rfl, ((hE4.trans E45).alloc _).trans E6⟩

end Go.Proofs.Ytiepbdgjhfkcead.Wi
