/- What Bytes answers, for every order: what is wrong with it, or its bytes in a row of their own; nothing that was there is changed. -/
import Derived.Test.YtiepbdgjhfkceadN4
namespace Go.Proofs.Ytiepbdgjhfkcead.Wi
open Go.RowKit Go.Maps Go.Deep Tb Rul

theorem BO.nil (w : World) (base : Nat) : BO w base (.slice none 0 0) [] := World.ownsRow_nil _ _ _ _

set_option maxRecDepth 100000 in
set_option maxHeartbeats 1000000 in
theorem Bytes_wrong (o : Wir.Od) (ro fo : Option Addr) (rc fc : Nat) (w : World) (h : OAt w o ro fo) (hw : Wir.wrong o ≠ 0) :
    Calls Try.prog 9 #[ovl o ro fo rc fc] w fun e w' => e = .returned (.tuple #[.slice none 0 0, .int .i64 (Wir.wrong o)]) ∧ Ext w w' := by
  have HW := Wrong_any o ro fo rc fc
  obtain ⟨x, hx⟩ : ∃ x, x = Wir.wrong o := ⟨_, rfl⟩
  rw [← hx] at HW hw ⊢
  clear hx
  have hw' : (x != 0) = true := by simpa using hw
  clear hw
  obtain ⟨k, n, v, rs, fs⟩ := o
  unfold ovl at HW ⊢
  go_enter Try.func9, Try.ntmps9
  go_wp2_with fail
  refine (HW _ (h.ext ((Ext.refl w).alloc _))).mono ?_
  rintro e w1 ⟨rfl, E1⟩
  go_wp2
  go_ret2
  exact ⟨rfl, ((Ext.refl w).alloc _).trans E1⟩

theorem cells1n {W : World} {n : Nat} (h : W.heap.size = n) (v0 : Value) (T : TypeId) (i : Nat) (u : Value) (hu : [v0][i]? = some u) : (W.alloc (.cells #[v0] T)).cell? ((⟨n, 0, none⟩ : Addr).add i) = some u := by
  subst h
  rw [add_none]
  match i, hu with
  | 0, hu => simp at hu; subst hu; simp
  | i + 1, hu => simp at hu
theorem cells2n {W : World} {n : Nat} (h : W.heap.size = n) (v0 v1 : Value) (T : TypeId) (i : Nat) (u : Value) (hu : [v0, v1][i]? = some u) : (W.alloc (.cells #[v0, v1] T)).cell? ((⟨n, 0, none⟩ : Addr).add i) = some u := by
  subst h
  rw [add_none]
  match i, hu with
  | 0, hu => simp at hu; subst hu; simp
  | 1, hu => simp at hu; subst hu; simp
  | i + 2, hu => simp at hu
/-- Bytes that are new, in a block of their own. -/
theorem BO.made {w : World} {base : Nat} (bs : List Nat) (hb : base ≤ w.heap.size) (hl : bs.length ≤ 1000) {cs : Array Value} (hc : cs = (bcs bs).toArray) : BO (w.alloc (.cells cs 5)) base (.slice (some ⟨w.heap.size, 0, none⟩) bs.length bs.length) bs := by
  subst hc
  exact ⟨by rw [bcs_len, Nat.mul_one], Or.inr ⟨w.heap.size, bs.length, (bcs bs).toArray, rfl, hb, heap_alloc_new w _, Nat.le_refl _, by unfold maxLen; omega, by simp [bcs_len], by rw [List.take_of_length_le (by simp [bcs_len])]⟩⟩
theorem two_snoc {rs : List Ru} {j : Nat} {v : Int} {f nx : Nat} (hj : j < rs.length) (hr : rs.getD j r0 = (v, (f : Int), (nx : Int))) : Wir.two (rs.take (j + 1)) = Wir.two (rs.take j) ++ [f, nx] := by
  have e : rs.getD j r0 = rs[j] := by simp [List.getD_eq_getElem?_getD, hj]
  rw [List.take_succ_eq_append_getElem hj, ← e, hr]
  have two_app : ∀ x y : List Ru, Wir.two (x ++ y) = Wir.two x ++ Wir.two y := fun x y => by
    induction x with
    | nil => rfl
    | cons a t ih => simp only [List.cons_append, Wir.two, ih]
  rw [two_app]
  simp [Wir.two]
theorem one_snoc {fs : List Int} {j : Nat} {f : Nat} (hj : j < fs.length) (hr : fs.getD j 0 = (f : Int)) : Wir.one (fs.take (j + 1)) = Wir.one (fs.take j) ++ [f] := by
  have e : fs.getD j 0 = fs[j] := by simp [List.getD_eq_getElem?_getD, hj]
  rw [List.take_succ_eq_append_getElem hj, ← e, hr]
  simp [Wir.one]
theorem rule_nat {v : Int} {rs : List Ru} (h : rs.any (Wir.badR v) = false) {j : Nat} (hj : j < rs.length) : ∃ f nx : Nat, rs.getD j r0 = (v, (f : Int), (nx : Int)) ∧ f ≤ 11 ∧ nx ≤ 7 := by
  have e : rs.getD j r0 = rs[j] := by simp [List.getD_eq_getElem?_getD, hj]
  have hm : rs[j] ∈ rs := List.getElem_mem hj
  rw [← e] at hm
  obtain ⟨x, hx⟩ : ∃ x, x = rs.getD j r0 := ⟨_, rfl⟩
  rw [← hx] at hm ⊢
  have h1 : Wir.badR v x = false := by
    cases hc : Wir.badR v x with
    | false => rfl
    | true => have := List.any_eq_true.2 ⟨x, hm, hc⟩; rw [h] at this; cases this
  have h2 : ¬ (x.1 ≠ v ∨ x.2.1 < 0 ∨ 11 < x.2.1 ∨ x.2.2 < 0 ∨ 7 < x.2.2) := of_decide_eq_false h1
  obtain ⟨x0, x1, x2⟩ := x
  simp only at h2
  exact ⟨x1.toNat, x2.toNat, by simp only [Prod.mk.injEq]; omega, by omega, by omega⟩
theorem flow_nat {fs : List Int} (h : Wir.badF (-1) fs = false) {j : Nat} (hj : j < fs.length) : ∃ f : Nat, fs.getD j 0 = (f : Int) ∧ f ≤ 11 := by
  have e : fs.getD j 0 = fs[j] := by simp [List.getD_eq_getElem?_getD, hj]
  have := Wir.badF_range (Int.le_refl _) h _ (List.getElem_mem hj)
  rw [← e] at this
  exact ⟨(fs.getD j 0).toNat, by omega, by omega⟩

def hd (k n v : Nat) : List Nat := [k, n / 65536, n / 256 % 256, n % 256, v / 256, v % 256]
theorem head_hd (k n v : Nat) (rs : List Ru) (fs : List Int) : Wir.head ⟨k, n, v, rs, fs⟩ = hd k n v := by simp [Wir.head, hd]

theorem body1 (n v : Nat) (rs : List Ru) (fs : List Int) : Wir.body ⟨((1 : Nat) : Int), n, v, rs, fs⟩ = hd 1 n v ++ (rs.length :: Wir.two rs) := by
  rw [Wir.body, head_hd, if_pos (show ((1 : Nat) : Int) = 1 from rfl)]
theorem body2 (n v : Nat) (rs : List Ru) (fs : List Int) : Wir.body ⟨((2 : Nat) : Int), n, v, rs, fs⟩ = hd 2 n v ++ (fs.length :: Wir.one fs) := by
  rw [Wir.body, head_hd, if_neg (show ¬ ((2 : Nat) : Int) = 1 by decide), if_pos (show ((2 : Nat) : Int) = 2 from rfl)]
theorem body3 (n v : Nat) (rs : List Ru) (fs : List Int) : Wir.body ⟨((3 : Nat) : Int), n, v, rs, fs⟩ = hd 3 n v := by
  rw [Wir.body, head_hd, if_neg (show ¬ ((3 : Nat) : Int) = 1 by decide), if_neg (show ¬ ((3 : Nat) : Int) = 2 by decide), List.append_nil]
theorem BO.mono {w : World} {base base' : Nat} {v : Value} {bs : List Nat} (h : BO w base v bs) (hb : base' ≤ base) : BO w base' v bs := by
  refine ⟨h.1, ?_⟩
  rcases h.2 with h2 | ⟨g, cap, cur, h1, h2, h3⟩
  · exact Or.inl h2
  · exact Or.inr ⟨g, cap, cur, h1, Nat.le_trans hb h2, h3⟩

set_option maxRecDepth 100000 in
set_option maxHeartbeats 1600000 in
theorem Bytes_right (k n v : Nat) (rs : List Ru) (fs : List Int) (ro fo : Option Addr) (rc fc : Nat) (w : World) (h : OAt w ⟨k, n, v, rs, fs⟩ ro fo) (hw : Wir.wrong ⟨k, n, v, rs, fs⟩ = 0) (hk1 : 1 ≤ k) (hk3 : k ≤ 3) (hn : n ≤ 100000) (hv : v ≤ 1000)
    (hr16 : k = 1 → rs.length ≤ 16 ∧ rs.any (Wir.badR v) = false) (hf12 : k = 2 → fs.length ≤ 12 ∧ Wir.badF (-1) fs = false) :
    Calls Try.prog 9 #[ovl ⟨k, n, v, rs, fs⟩ ro fo rc fc] w fun e w' => ∃ v', e = .returned (.tuple #[v', .int .i64 0]) ∧ BO w' w.heap.size v' (Wir.full ⟨k, n, v, rs, fs⟩) ∧ Ext w w' := by
  have HW : Hid _ := Wrong_any ⟨k, n, v, rs, fs⟩ ro fo rc fc
  rw [hw] at HW
  have HO : Hid _ := h
  have HWR : Hid (Wir.wrong ⟨k, n, v, rs, fs⟩ = 0) := hw
  have HR : Hid (k = 1 → rs.length ≤ 16 ∧ rs.any (Wir.badR v) = false) := hr16
  have HF : Hid (k = 2 → fs.length ≤ 12 ∧ Wir.badF (-1) fs = false) := hf12
  unfold ovl at HW ⊢
  clear h hw hr16 hf12
  go_enter Try.func9, Try.ntmps9
  go_wp2_with fail
  refine (HW.out _ (HO.out.ext ((Ext.refl w).alloc _))).mono ?_
  rintro e w1 ⟨rfl, E1⟩
  have hz : w.heap.size < w1.heap.size := by have := E1.size; simp at this; omega
  have b0 : w1.cell? ⟨w.heap.size, 0, none⟩ = some (.int .i64 k) := (E1.cells.1 _ _ (by simp)).trans (by simp)
  have b1 : w1.cell? ⟨w.heap.size, 1, none⟩ = some (.int .i64 n) := (E1.cells.1 _ _ (by simp)).trans (by simp)
  have b2 : w1.cell? ⟨w.heap.size, 2, none⟩ = some (.int .i64 v) := (E1.cells.1 _ _ (by simp)).trans (by simp)
  have b3 : w1.cell? ⟨w.heap.size, 3, none⟩ = some (.slice ro rs.length rc) := (E1.cells.1 _ _ (by simp)).trans (by simp)
  have b4 : w1.cell? ⟨w.heap.size, 4, none⟩ = some (.slice fo fs.length fc) := (E1.cells.1 _ _ (by simp)).trans (by simp)
  go_upto_region 5 with fail
  obtain ⟨W6, hW6⟩ : ∃ W6, W6 = w1.alloc (.cells #[.int .u8 (k : Int), .int .u8 ((n : Int) / 65536), .int .u8 ((n : Int) / 256 % 256), .int .u8 ((n : Int) % 256), .int .u8 ((v : Int) / 256), .int .u8 ((v : Int) % 256)] 5) := ⟨_, rfl⟩
  have hE1 : Ext w w1 := ((Ext.refl w).alloc _).trans E1
  have hE6 : Ext w1 W6 := by rw [hW6]; exact (Ext.refl w1).alloc _
  have HO6 : Hid (BO W6 w1.heap.size (.slice (some ⟨w1.heap.size, 0, none⟩) 6 6) (hd k n v)) := by
    rw [hW6]
    exact BO.made (w := w1) (base := w1.heap.size) (hd k n v) (Nat.le_refl _) (by simp [hd]) (by simp [hd, bcs])
  have HB : Hid (∀ W, Ext w1 W → W.cell? ⟨w.heap.size, 0, none⟩ = some (.int .i64 k) ∧ W.cell? ⟨w.heap.size, 3, none⟩ = some (.slice ro rs.length rc) ∧ W.cell? ⟨w.heap.size, 4, none⟩ = some (.slice fo fs.length fc)) := fun W hW =>
    ⟨(hW.cells.1 _ _ hz).trans b0, (hW.cells.1 _ _ hz).trans b3, (hW.cells.1 _ _ hz).trans b4⟩
  rw [← hW6]
  clear hW6 b0 b1 b2 b3 b4 E1 HW
  obtain ⟨bv, hbv⟩ : ∃ bv, bv = Value.slice (some ⟨w1.heap.size, 0, none⟩) 6 6 := ⟨_, rfl⟩
  rw [← hbv] at HO6 ⊢
  clear hbv
  obtain ⟨i3, hi3, hz0, hz1, hz2⟩ := infoB'
  obtain ⟨q0, q3, q4⟩ := HB.out W6 hE6
  rcases (show k = 1 ∨ k = 2 ∨ k = 3 by omega) with rfl | rfl | rfl
  · have hl16 := (HR.out rfl).1
    have HBR : Hid _ := (HR.out rfl).2
    have hO7 := BO.ext HO6.out ((Ext.refl W6).alloc (.cells #[.int .u8 (rs.length : Int)] 5))
    have h6 : (hd 1 n v).length = 6 := rfl
    unfold BO at hO7
    rw [h6] at hO7
    clear HR HF h6
    go_wp2_with (first | (at_builtin; refine wpList_append_own _ rfl _ _ 26 rfl w1.heap.size 5 i3 (.int .u8 0) 1 1 Try.underlying26 hi3 hz0 hz1 hz2 rfl (by decide) _ _ _ rfl hO7 ⟨W6.heap.size, 0, none⟩ 1 1 [.int .u8 (rs.length : Int)] rfl rfl (by exact cells1n rfl _ _) (by intro u hu; simp only [List.mem_cons, List.not_mem_nil, or_false] at hu; subst hu; rfl) (by unfold maxLen; omega) (by omega) (by simp; have := hE6.size; omega) ?_) | go_in)
    · intro v7 w7 hown7 hg7 _
      have hE7 : Ext w1 w7 := Below.grown (hE6.alloc _) hg7 (by simp; have := hE6.size; omega) (fun j hj => (BO.block HO6.out j hj).1)
      have HO7 : Hid (BO w7 w1.heap.size v7 (hd 1 n v ++ (rs.length :: Wir.two (rs.take 0)))) := by
        show BO _ _ _ _
        unfold BO
        rw [bcs_append, List.length_append]
        exact hown7
      clear hown7 hg7 hO7 q0 q3 q4 HO6
      obtain ⟨q0, q3, q4⟩ := HB.out w7 hE7
      go_wp2
      go_loopw [5, 51] (fun bv iv wd => ∃ j : Nat, j ≤ rs.length ∧ iv = .int .i64 j ∧ Hid (BO wd w1.heap.size bv (hd 1 n v ++ (rs.length :: Wir.two (rs.take j)))) ∧ Ext w1 wd) (fun _ iv _ => rs.length - (intOf iv).toNat)
      case atStart => exact ⟨0, Nat.zero_le _, rfl, HO7, hE7⟩
      case round =>
        obtain ⟨j, hj, rfl, HOJ, hEw⟩ := hrel
        clear q0 q3 q4 HO7 hE7
        by_cases hlt : j < rs.length
        · obtain ⟨f, nx, hr, hf11, hn7⟩ := rule_nat HBR.out hlt
          have HSN : Hid _ := two_snoc hlt hr
          obtain ⟨g, off, hro, hg, hcs⟩ := (HO.out.hr.ext (hE1.trans hEw)).get (k := j) hlt
          obtain ⟨c0, c1, c2⟩ := hcs j hlt
          rw [hr] at c0 c1 c2
          have hro' : ro = some ⟨g, off, none⟩ := hro
          subst hro'
          clear hr hcs hro
          have i1 : (j : Int) < (rs.length : Int) := by omega
          have hlj : (hd 1 n v ++ (rs.length :: Wir.two (rs.take j))).length = 7 + 2 * j := by
            rw [List.length_append, List.length_cons, Wir.two_len, List.length_take]; simp [hd]; omega
          have hOJ := BO.ext HOJ.out (((Ext.refl wr).alloc (.cells #[.int .i64 (v : Int), .int .i64 (f : Int), .int .i64 (nx : Int)] 48)).alloc (.cells #[.int .u8 (f : Int), .int .u8 (nx : Int)] 5))
          unfold BO at hOJ
          rw [hlj] at hOJ
          have hws := hEw.size
          go_wp2_with (first | (at_builtin; refine wpList_append_own _ rfl _ _ 26 rfl w1.heap.size 5 i3 (.int .u8 0) 1 1 Try.underlying26 hi3 hz0 hz1 hz2 rfl (by decide) _ _ _ rfl hOJ ⟨wr.heap.size + 1, 0, none⟩ 2 2 [.int .u8 (f : Int), .int .u8 (nx : Int)] rfl rfl (by exact cells2n (by simp) _ _ _) (by intro u hu; simp only [List.mem_cons, List.not_mem_nil, or_false] at hu; rcases hu with rfl | rfl <;> rfl) (by unfold maxLen; omega) (by omega) (by simp; omega) ?_) | go_in)
          · intro v8 w8 hown8 hg8 _
            have hE8 : Ext w1 w8 := Below.grown ((hEw.alloc _).alloc _) hg8 (by simp; omega) (fun j hj => (BO.block HOJ.out j hj).1)
            have HO8 : Hid (BO w8 w1.heap.size v8 (hd 1 n v ++ (rs.length :: Wir.two (rs.take (j + 1))))) := by
              show BO _ _ _ _
              rw [HSN.out, ← List.cons_append, ← List.append_assoc]
              unfold BO
              rw [bcs_append, List.length_append, hlj]
              exact hown8
            clear hown8 hg8 hOJ hlj
            go_wp2
            exact ⟨⟨j + 1, by omega, by go_num, HO8, hE8⟩, by simp [intOf]; omega⟩
        · have hjl : j = rs.length := by omega
          have hBO := HOJ.out
          rw [List.take_of_length_le (by omega)] at hBO
          have HBY : Hid (Wir.body ⟨((1 : Nat) : Int), n, v, rs, fs⟩ = hd 1 n v ++ (rs.length :: Wir.two rs)) := body1 n v rs fs
          have hlB : (hd 1 n v ++ (rs.length :: Wir.two rs)).length ≤ 100 := by rw [List.length_append, List.length_cons, Wir.two_len]; simp [hd]; omega
          clear hjl HOJ
          have hbd : Hid (∀ x ∈ hd 1 n v ++ (rs.length :: Wir.two rs), x < 256) := by
            have := Wir.body_lt HWR.out
            rw [HBY.out] at this
            exact this
          obtain ⟨bd, hbde⟩ : ∃ bd, bd = hd 1 n v ++ (rs.length :: Wir.two rs) := ⟨_, rfl⟩
          rw [← hbde] at hbd HBY hlB hBO
          clear hbde
          obtain ⟨ao, cp, rfl, hat, hnil, hle, hmx⟩ := BO.form hBO
          obtain ⟨L, hL⟩ : ∃ L, L = bd.length := ⟨_, rfl⟩
          rw [← hL] at hlB hBO ⊢
          have HL : Hid (bd.length = L) := hL.symm
          have HOO : Hid _ := hBO
          clear hL hnil hle hmx hBO
          go_wp2_with fail
          refine (sum_any ao L cp bd _ HL.out hat hbd.out (by omega)).mono ?_
          rintro e w9 ⟨rfl, rfl⟩
          have hO9 := BO.ext HOO.out ((Ext.refl w9).alloc (.cells #[.int .u8 ((Wir.sum bd : Nat) : Int)] 5))
          unfold BO at hO9
          rw [HL.out] at hO9
          go_wp2_with (first | (at_builtin; refine wpList_append_own _ rfl _ _ 26 rfl w1.heap.size 5 i3 (.int .u8 0) 1 1 Try.underlying26 hi3 hz0 hz1 hz2 rfl (by decide) _ _ _ rfl hO9 ⟨w9.heap.size, 0, none⟩ 1 1 [.int .u8 ((Wir.sum bd : Nat) : Int)] rfl rfl (by exact cells1n rfl _ _) (by intro u hu; simp only [List.mem_cons, List.not_mem_nil, or_false] at hu; subst hu; rfl) (by unfold maxLen; omega) (by omega) (by simp; have := hEw.size; omega) ?_) | go_in)
          · intro v' w5 hown5 hg5 _
            have hE5 : Ext w1 w5 := Below.grown (hEw.alloc _) hg5 (by simp; have := hEw.size; omega) (fun j hj => (BO.block HOO.out j hj).1)
            have HFIN : Hid (BO w5 w.heap.size v' (Wir.full ⟨((1 : Nat) : Int), n, v, rs, fs⟩)) := by
              show BO _ _ _ _
              refine BO.mono (base := w1.heap.size) ?_ (Nat.le_of_lt hz)
              unfold Wir.full
              rw [HBY.out]
              unfold BO
              rw [bcs_append, List.length_append, HL.out]
              exact hown5
            clear hown5 hg5 hO9
            go_wp2
            go_ret2
            exact ⟨_, rfl, HFIN.out, hE1.trans hE5⟩
  · have hl12 := (HF.out rfl).1
    have HBF : Hid _ := (HF.out rfl).2
    have hO7 := BO.ext HO6.out ((Ext.refl W6).alloc (.cells #[.int .u8 (fs.length : Int)] 5))
    have h6 : (hd 2 n v).length = 6 := rfl
    unfold BO at hO7
    rw [h6] at hO7
    clear HR HF h6
    go_wp2_with (first | (at_builtin; refine wpList_append_own _ rfl _ _ 26 rfl w1.heap.size 5 i3 (.int .u8 0) 1 1 Try.underlying26 hi3 hz0 hz1 hz2 rfl (by decide) _ _ _ rfl hO7 ⟨W6.heap.size, 0, none⟩ 1 1 [.int .u8 (fs.length : Int)] rfl rfl (by exact cells1n rfl _ _) (by intro u hu; simp only [List.mem_cons, List.not_mem_nil, or_false] at hu; subst hu; rfl) (by unfold maxLen; omega) (by omega) (by simp; have := hE6.size; omega) ?_) | go_in)
    · intro v7 w7 hown7 hg7 _
      have hE7 : Ext w1 w7 := Below.grown (hE6.alloc _) hg7 (by simp; have := hE6.size; omega) (fun j hj => (BO.block HO6.out j hj).1)
      have HO7 : Hid (BO w7 w1.heap.size v7 (hd 2 n v ++ (fs.length :: Wir.one (fs.take 0)))) := by
        show BO _ _ _ _
        unfold BO
        rw [bcs_append, List.length_append]
        exact hown7
      clear hown7 hg7 hO7 q0 q3 q4 HO6
      obtain ⟨q0, q3, q4⟩ := HB.out w7 hE7
      go_wp2
      go_loopw [5, 77] (fun bv iv wd => ∃ j : Nat, j ≤ fs.length ∧ iv = .int .i64 j ∧ Hid (BO wd w1.heap.size bv (hd 2 n v ++ (fs.length :: Wir.one (fs.take j)))) ∧ Ext w1 wd) (fun _ iv _ => fs.length - (intOf iv).toNat)
      case atStart => exact ⟨0, Nat.zero_le _, rfl, HO7, hE7⟩
      case round =>
        obtain ⟨j, hj, rfl, HOJ, hEw⟩ := hrel
        clear q0 q3 q4 HO7 hE7
        by_cases hlt : j < fs.length
        · obtain ⟨f, hr, hf11⟩ := flow_nat HBF.out hlt
          have HSN : Hid _ := one_snoc hlt hr
          obtain ⟨g, off, hro, hg, hcs⟩ := (HO.out.hf.ext (hE1.trans hEw)).get (k := j) hlt
          have c0 := hcs j hlt
          rw [hr] at c0
          have hro' : fo = some ⟨g, off, none⟩ := hro
          subst hro'
          clear hr hcs hro
          have i1 : (j : Int) < (fs.length : Int) := by omega
          have hlj : (hd 2 n v ++ (fs.length :: Wir.one (fs.take j))).length = 7 + j := by
            rw [List.length_append, List.length_cons, Wir.one, List.length_map, List.length_take]; simp [hd]; omega
          have hOJ := BO.ext HOJ.out ((Ext.refl wr).alloc (.cells #[.int .u8 (f : Int)] 5))
          unfold BO at hOJ
          rw [hlj] at hOJ
          have hws := hEw.size
          go_wp2_with (first | (at_builtin; refine wpList_append_own _ rfl _ _ 26 rfl w1.heap.size 5 i3 (.int .u8 0) 1 1 Try.underlying26 hi3 hz0 hz1 hz2 rfl (by decide) _ _ _ rfl hOJ ⟨wr.heap.size, 0, none⟩ 1 1 [.int .u8 (f : Int)] rfl rfl (by exact cells1n rfl _ _) (by intro u hu; simp only [List.mem_cons, List.not_mem_nil, or_false] at hu; subst hu; rfl) (by unfold maxLen; omega) (by omega) (by simp; omega) ?_) | go_in)
          · intro v8 w8 hown8 hg8 _
            have hE8 : Ext w1 w8 := Below.grown (hEw.alloc _) hg8 (by simp; omega) (fun j hj => (BO.block HOJ.out j hj).1)
            have HO8 : Hid (BO w8 w1.heap.size v8 (hd 2 n v ++ (fs.length :: Wir.one (fs.take (j + 1))))) := by
              show BO _ _ _ _
              rw [HSN.out, ← List.cons_append, ← List.append_assoc]
              unfold BO
              rw [bcs_append, List.length_append, hlj]
              exact hown8
            clear hown8 hg8 hOJ hlj
            go_wp2
            exact ⟨⟨j + 1, by omega, by go_num, HO8, hE8⟩, by simp [intOf]; omega⟩
        · have hBO := HOJ.out
          rw [List.take_of_length_le (by omega)] at hBO
          have HBY : Hid (Wir.body ⟨((2 : Nat) : Int), n, v, rs, fs⟩ = hd 2 n v ++ (fs.length :: Wir.one fs)) := body2 n v rs fs
          have hlB : (hd 2 n v ++ (fs.length :: Wir.one fs)).length ≤ 100 := by rw [List.length_append, List.length_cons, Wir.one, List.length_map]; simp [hd]; omega
          clear HOJ
          have hbd : Hid (∀ x ∈ hd 2 n v ++ (fs.length :: Wir.one fs), x < 256) := by
            have := Wir.body_lt HWR.out
            rw [HBY.out] at this
            exact this
          obtain ⟨bd, hbde⟩ : ∃ bd, bd = hd 2 n v ++ (fs.length :: Wir.one fs) := ⟨_, rfl⟩
          rw [← hbde] at hbd HBY hlB hBO
          clear hbde
          obtain ⟨ao, cp, rfl, hat, hnil, hle, hmx⟩ := BO.form hBO
          obtain ⟨L, hL⟩ : ∃ L, L = bd.length := ⟨_, rfl⟩
          rw [← hL] at hlB hBO ⊢
          have HL : Hid (bd.length = L) := hL.symm
          have HOO : Hid _ := hBO
          clear hL hnil hle hmx hBO
          go_wp2_with fail
          refine (sum_any ao L cp bd _ HL.out hat hbd.out (by omega)).mono ?_
          rintro e w9 ⟨rfl, rfl⟩
          have hO9 := BO.ext HOO.out ((Ext.refl w9).alloc (.cells #[.int .u8 ((Wir.sum bd : Nat) : Int)] 5))
          unfold BO at hO9
          rw [HL.out] at hO9
          go_wp2_with (first | (at_builtin; refine wpList_append_own _ rfl _ _ 26 rfl w1.heap.size 5 i3 (.int .u8 0) 1 1 Try.underlying26 hi3 hz0 hz1 hz2 rfl (by decide) _ _ _ rfl hO9 ⟨w9.heap.size, 0, none⟩ 1 1 [.int .u8 ((Wir.sum bd : Nat) : Int)] rfl rfl (by exact cells1n rfl _ _) (by intro u hu; simp only [List.mem_cons, List.not_mem_nil, or_false] at hu; subst hu; rfl) (by unfold maxLen; omega) (by omega) (by simp; have := hEw.size; omega) ?_) | go_in)
          · intro v' w5 hown5 hg5 _
            have hE5 : Ext w1 w5 := Below.grown (hEw.alloc _) hg5 (by simp; have := hEw.size; omega) (fun j hj => (BO.block HOO.out j hj).1)
            have HFIN : Hid (BO w5 w.heap.size v' (Wir.full ⟨((2 : Nat) : Int), n, v, rs, fs⟩)) := by
              show BO _ _ _ _
              refine BO.mono (base := w1.heap.size) ?_ (Nat.le_of_lt hz)
              unfold Wir.full
              rw [HBY.out]
              unfold BO
              rw [bcs_append, List.length_append, HL.out]
              exact hown5
            clear hown5 hg5 hO9
            go_wp2
            go_ret2
            exact ⟨_, rfl, HFIN.out, hE1.trans hE5⟩
  · have HBY : Hid (Wir.body ⟨((3 : Nat) : Int), n, v, rs, fs⟩ = hd 3 n v) := body3 n v rs fs
    have hlB : (hd 3 n v).length ≤ 100 := by simp [hd]
    have hEw := hE6
    have hBO := HO6.out
    clear HR HF HO6 HO
    have hbd : Hid (∀ x ∈ hd 3 n v, x < 256) := by
      have := Wir.body_lt HWR.out
      rw [HBY.out] at this
      exact this
    obtain ⟨bd, hbde⟩ : ∃ bd, bd = hd 3 n v := ⟨_, rfl⟩
    rw [← hbde] at hbd HBY hlB hBO
    clear hbde
    obtain ⟨ao, cp, rfl, hat, hnil, hle, hmx⟩ := BO.form hBO
    obtain ⟨L, hL⟩ : ∃ L, L = bd.length := ⟨_, rfl⟩
    rw [← hL] at hlB hBO ⊢
    have HL : Hid (bd.length = L) := hL.symm
    have HOO : Hid _ := hBO
    clear hL hnil hle hmx hBO
    go_wp2_with fail
    refine (sum_any ao L cp bd _ HL.out hat hbd.out (by omega)).mono ?_
    rintro e w9 ⟨rfl, rfl⟩
    have hO9 := BO.ext HOO.out ((Ext.refl w9).alloc (.cells #[.int .u8 ((Wir.sum bd : Nat) : Int)] 5))
    unfold BO at hO9
    rw [HL.out] at hO9
    go_wp2_with (first | (at_builtin; refine wpList_append_own _ rfl _ _ 26 rfl w1.heap.size 5 i3 (.int .u8 0) 1 1 Try.underlying26 hi3 hz0 hz1 hz2 rfl (by decide) _ _ _ rfl hO9 ⟨w9.heap.size, 0, none⟩ 1 1 [.int .u8 ((Wir.sum bd : Nat) : Int)] rfl rfl (by exact cells1n rfl _ _) (by intro u hu; simp only [List.mem_cons, List.not_mem_nil, or_false] at hu; subst hu; rfl) (by unfold maxLen; omega) (by omega) (by simp; have := hEw.size; omega) ?_) | go_in)
    · intro v' w5 hown5 hg5 _
      have hE5 : Ext w1 w5 := Below.grown (hEw.alloc _) hg5 (by simp; have := hEw.size; omega) (fun j hj => (BO.block HOO.out j hj).1)
      have HFIN : Hid (BO w5 w.heap.size v' (Wir.full ⟨((3 : Nat) : Int), n, v, rs, fs⟩)) := by
        show BO _ _ _ _
        refine BO.mono (base := w1.heap.size) ?_ (Nat.le_of_lt hz)
        unfold Wir.full
        rw [HBY.out]
        unfold BO
        rw [bcs_append, List.length_append, HL.out]
        exact hown5
      clear hown5 hg5 hO9
      go_wp2
      go_ret2
      exact ⟨_, rfl, HFIN.out, hE1.trans hE5⟩

/-- What Bytes answers. -/
theorem Bytes_any (o : Wir.Od) (ro fo : Option Addr) (rc fc : Nat) (w : World) (h : OAt w o ro fo) :
    Calls Try.prog 9 #[ovl o ro fo rc fc] w fun e w' => ∃ v', e = .returned (.tuple #[v', .int .i64 (Wir.wrong o)]) ∧ BO w' w.heap.size v' (Wir.bts o).1 ∧ Ext w w' := by
  by_cases hw : Wir.wrong o = 0
  · have hb : (Wir.bts o).1 = Wir.full o := by rw [Wir.bts, if_neg (by simpa using hw)]
    rw [hw, hb]
    obtain ⟨⟨n1, n2, v1, v2⟩, hk⟩ := Wir.right_cases hw
    obtain ⟨k, n, v, rs, fs⟩ := o
    simp only at n1 n2 v1 v2 hk
    obtain ⟨N, rfl⟩ : ∃ N : Nat, n = (N : Int) := ⟨n.toNat, by omega⟩
    obtain ⟨V, rfl⟩ : ∃ V : Nat, v = (V : Int) := ⟨v.toNat, by omega⟩
    obtain ⟨K, rfl⟩ : ∃ K : Nat, k = (K : Int) := ⟨k.toNat, by omega⟩
    refine Bytes_right K N V rs fs ro fo rc fc w h hw (by omega) (by omega) (by omega) (by omega) (fun hk1 => ?_) (fun hk2 => ?_)
    · rcases hk with ⟨_, h1, h2⟩ | ⟨e, _⟩ | e
      · exact ⟨h1, h2⟩
      · omega
      · omega
    · rcases hk with ⟨e, _⟩ | ⟨_, h1, h2⟩ | e
      · omega
      · exact ⟨h1, h2⟩
      · omega
  · have hb : (Wir.bts o).1 = [] := by rw [Wir.bts, if_pos (by simpa using hw)]
    rw [hb]
    refine (Bytes_wrong o ro fo rc fc w h hw).mono ?_
    rintro e w' ⟨rfl, E⟩
    exact ⟨_, rfl, BO.nil _ _, E⟩

end Go.Proofs.Ytiepbdgjhfkcead.Wi
