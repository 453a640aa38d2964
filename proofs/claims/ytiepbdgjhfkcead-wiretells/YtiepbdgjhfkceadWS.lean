/- What the law WireSize answers, for every order: true; nothing that was there is changed. -/
import Derived.Test.YtiepbdgjhfkceadN10
namespace Go.Proofs.Ytiepbdgjhfkcead.Wi
open Go.RowKit Go.Maps Go.Deep Go.Sort Tb Rul

/-- An order's cells, in a box. -/
def BoxAt (b : Nat) (W : World) (k n v : Int) (rv fv : Value) : Prop := W.cell? ⟨b, 0, none⟩ = some (.int .i64 k) ∧ W.cell? ⟨b, 1, none⟩ = some (.int .i64 n) ∧ W.cell? ⟨b, 2, none⟩ = some (.int .i64 v) ∧ W.cell? ⟨b, 3, none⟩ = some rv ∧ W.cell? ⟨b, 4, none⟩ = some fv
theorem box_kept {w B W : World} {k n v : Int} {rv fv : Value} (hB : B = w.alloc (.cells #[.int .i64 k, .int .i64 n, .int .i64 v, rv, fv] 25)) (hW : Ext B W) : BoxAt w.heap.size W k n v rv fv := by
  have hlt : w.heap.size < B.heap.size := by rw [hB]; simp
  refine ⟨(hW.cells.1 _ _ hlt).trans ?_, (hW.cells.1 _ _ hlt).trans ?_, (hW.cells.1 _ _ hlt).trans ?_, (hW.cells.1 _ _ hlt).trans ?_, (hW.cells.1 _ _ hlt).trans ?_⟩ <;> (rw [hB]; simp)
theorem bts_wrong {o : Wir.Od} (h : Wir.wrong o ≠ 0) : (Wir.bts o).1 = [] := by rw [Wir.bts, if_pos h]
theorem bts_right {o : Wir.Od} (h : Wir.wrong o = 0) : (Wir.bts o).1 = Wir.full o := by rw [Wir.bts, if_neg (by simpa using h)]

set_option maxRecDepth 100000 in
set_option maxHeartbeats 1600000 in
theorem wireSize_any (o : Wir.Od) (ro fo : Option Addr) (rc fc : Nat) (w : World) (h : OAt w o ro fo) :
    Calls Try.prog 6 #[ovl o ro fo rc fc] w fun e w' => e = .returned (.bool true) ∧ Ext w w' := by
  have HY : Hid _ := Bytes_any o ro fo rc fc
  obtain ⟨B, hB⟩ : ∃ B, B = w.alloc (.cells #[.int .i64 o.k, .int .i64 o.n, .int .i64 o.v, .slice ro o.rs.length rc, .slice fo o.fs.length fc] 25) := ⟨_, rfl⟩
  have hE0 : Ext w B := by rw [hB]; exact (Ext.refl w).alloc _
  obtain ⟨bs, hbs⟩ : ∃ bs, bs = (Wir.bts o).1 := ⟨_, rfl⟩
  rw [← hbs] at HY
  have HBS : Hid _ := hbs
  obtain ⟨x, hx⟩ : ∃ x, x = Wir.wrong o := ⟨_, rfl⟩
  rw [← hx] at HY
  have HX : Hid _ := hx
  have HO : Hid _ := h
  clear hbs hx h
  obtain ⟨k, n, v, rs, fs⟩ := o
  unfold ovl at HY ⊢
  have HK : Hid (∀ W, Ext B W → BoxAt w.heap.size W k n v (.slice ro rs.length rc) (.slice fo fs.length fc)) := fun W hW => box_kept hB hW
  simp only at hB
  go_enter Try.func6, Try.ntmps6
  go_wp2_with fail
  rw [← hB]
  refine (alive_any _).mono ?_
  rintro e w1 ⟨rfl, E1⟩
  obtain ⟨b0, b1, b2, b3, b4⟩ := HK.out _ E1
  clear hB
  go_wp2_with fail
  refine (HY.out _ (HO.out.ext (hE0.trans E1))).mono ?_
  rintro e w2 ⟨v', rfl, hBO, E2⟩
  obtain ⟨L, hL⟩ : ∃ L, bs.length = L := ⟨_, rfl⟩
  obtain ⟨bo, bc, rfl, _, _, _, _⟩ := BO.slice hBO hL
  have HL : Hid _ := hL
  have hE2 := hE0.trans (E1.trans E2)
  clear b0 b1 b2 b3 b4 hL hBO
  obtain ⟨b0, b1, b2, b3, b4⟩ := HK.out _ (E1.trans E2)
  by_cases hx0 : x = 0
  · subst hx0
    have hw := HX.out.symm
    have hlen : L = if k = 1 then 8 + 2 * rs.length else if k = 2 then 8 + fs.length else 7 := by
      rw [← HL.out, HBS.out, bts_right hw, Wir.full_len]
    obtain ⟨_, hk⟩ := Wir.right_cases hw
    clear hw HX HBS HL HY HO HK
    simp only at hk
    rcases hk with ⟨rfl, h1, _⟩ | ⟨rfl, h1, _⟩ | rfl
    · rw [if_pos rfl] at hlen
      subst hlen
      go_wp2
      go_ret
      exact ⟨by first | rfl | simp, hE2⟩
    · rw [if_neg (by decide), if_pos rfl] at hlen
      subst hlen
      go_wp2
      go_ret
      exact ⟨by first | rfl | simp, hE2⟩
    · rw [if_neg (by decide), if_neg (by decide)] at hlen
      subst hlen
      go_wp2
      go_ret
      exact ⟨by first | rfl | simp, hE2⟩
  · have hx1 : (x != 0) = true := by simpa using hx0
    have hlen : L = 0 := by rw [← HL.out, HBS.out, bts_wrong (by rw [← HX.out]; exact hx0)]; rfl
    subst hlen
    clear HX HBS HL HY HO HK hx0
    go_wp2
    go_ret
    exact ⟨rfl, hE2⟩

end Go.Proofs.Ytiepbdgjhfkcead.Wi
