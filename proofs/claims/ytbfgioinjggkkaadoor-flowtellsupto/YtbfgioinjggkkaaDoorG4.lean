/- What Cut and readLine answer, for every text; nothing that was there is changed. -/
import Derived.Test.YtbfgioinjggkkaaDoorG3
namespace Go.Proofs.YtbfgioinjggkkaaDoor
open Go.RowKit Stf

theorem cut_parts (s : ByteArray) (sep : ByteArray) (w : World) (hs : s.size ≤ 1000000) (hm : MaxAt w) :
    Calls Tryd.prog 13 #[.string s, .string sep] w fun e w' => ∃ x y : ByteArray, e = .returned (.tuple #[.string x, .string y, .bool (Lib.cut s.data.toList sep.data.toList).2.2]) ∧ x.data.toList = (Lib.cut s.data.toList sep.data.toList).1 ∧ y.data.toList = (Lib.cut s.data.toList sep.data.toList).2.1 ∧
      x.size ≤ s.size ∧ y.size ≤ s.size ∧ Ext w w' := by
  obtain ⟨m, hm⟩ := hm
  refine (Tryd.cut_any s sep m w (by omega) hm).mono ?_
  rintro e w' ⟨rfl, n, rfl⟩
  have h1 := cut_len s.data.toList sep.data.toList
  have h2 := cut_len2 s.data.toList sep.data.toList
  have h3 := Lib.size_eq s
  refine ⟨_, _, rfl, by simp, by simp, ?_, ?_, (Ext.refl w).drewN n⟩
  · rw [Lib.size_eq, h3]; exact h1
  · rw [Lib.size_eq, h3]; exact h2

/-- A block of four cells that are not frozen. -/
def Box4 (w : World) (b : Nat) (v0 v1 v2 v3 : Value) : Prop := b < w.heap.size ∧ w.cell? ⟨b, 0, none⟩ = some v0 ∧ w.cell? ⟨b, 1, none⟩ = some v1 ∧ w.cell? ⟨b, 2, none⟩ = some v2 ∧ w.cell? ⟨b, 3, none⟩ = some v3 ∧
  w.frozen? ⟨b, 0, none⟩ = false ∧ w.frozen? ⟨b, 1, none⟩ = false ∧ w.frozen? ⟨b, 2, none⟩ = false ∧ w.frozen? ⟨b, 3, none⟩ = false
theorem Box4.ext {w w' : World} {b : Nat} {v0 v1 v2 v3 : Value} (h : Box4 w b v0 v1 v2 v3) (E : Ext w w') : Box4 w' b v0 v1 v2 v3 := by
  obtain ⟨h, h0, h1, h2, h3, f0, f1, f2, f3⟩ := h
  have hc := E.cells.1 b; have hf := E.cells.2 b
  exact ⟨Nat.lt_of_lt_of_le h E.size, (hc _ h).trans h0, (hc _ h).trans h1, (hc _ h).trans h2, (hc _ h).trans h3, (hf _ h).trans f0, (hf _ h).trans f1, (hf _ h).trans f2, (hf _ h).trans f3⟩
theorem Box4.made (w : World) (v0 v1 v2 v3 : Value) (T : TypeId) : Box4 (w.alloc (.cells #[v0, v1, v2, v3] T)) w.heap.size v0 v1 v2 v3 := by
  refine ⟨by simp, by simp, by simp, by simp, by simp, by simp, by simp, by simp, by simp⟩
theorem Box4.made' {w : World} {n : Nat} (h : w.heap.size = n) (v0 v1 v2 v3 : Value) (T : TypeId) : Box4 (w.alloc (.cells #[v0, v1, v2, v3] T)) n v0 v1 v2 v3 := h ▸ Box4.made w v0 v1 v2 v3 T
theorem Box4.alloc {w : World} {b : Nat} {v0 v1 v2 v3 : Value} (h : Box4 w b v0 v1 v2 v3) (o : Obj) : Box4 (w.alloc o) b v0 v1 v2 v3 := h.ext ((Ext.refl w).alloc o)

theorem Box4.other {w : World} {b : Nat} {v0 v1 v2 v3 : Value} (h : Box4 w b v0 v1 v2 v3) {p : Addr} (hp : p.block ≠ b) (u : Value) : Box4 (w.setCell p u) b v0 v1 v2 v3 := by
  obtain ⟨h, h0, h1, h2, h3, f0, f1, f2, f3⟩ := h
  have ne : ∀ i, p ≠ ⟨b, i, none⟩ := fun i e => hp (by rw [e])
  refine ⟨by simpa using h, ?_, ?_, ?_, ?_, by simpa using f0, by simpa using f1, by simpa using f2, by simpa using f3⟩
  all_goals (rw [World.cell?_setCell_other]; assumption; exact ne _)
theorem Box4.set2 {w : World} {b : Nat} {v0 v1 v2 v3 : Value} (h : Box4 w b v0 v1 v2 v3) (u : Value) : Box4 (w.setCell ⟨b, 2, none⟩ u) b v0 v1 u v3 := by
  obtain ⟨h, h0, h1, h2, h3, f0, f1, f2, f3⟩ := h
  refine ⟨by simpa using h, ?_, ?_, ?_, ?_, by simpa using f0, by simpa using f1, by simpa using f2, by simpa using f3⟩
  · rw [World.cell?_setCell_other]; exact h0; simp
  · rw [World.cell?_setCell_other]; exact h1; simp
  · exact World.cell?_setCell_same _ _ _ h2
  · rw [World.cell?_setCell_other]; exact h3; simp
theorem Box4.set3 {w : World} {b : Nat} {v0 v1 v2 v3 : Value} (h : Box4 w b v0 v1 v2 v3) (u : Value) : Box4 (w.setCell ⟨b, 3, none⟩ u) b v0 v1 v2 u := by
  obtain ⟨h, h0, h1, h2, h3, f0, f1, f2, f3⟩ := h
  refine ⟨by simpa using h, ?_, ?_, ?_, ?_, by simpa using f0, by simpa using f1, by simpa using f2, by simpa using f3⟩
  · rw [World.cell?_setCell_other]; exact h0; simp
  · rw [World.cell?_setCell_other]; exact h1; simp
  · rw [World.cell?_setCell_other]; exact h2; simp
  · exact World.cell?_setCell_same _ _ _ h3

theorem rl_some {l : Bs} {a b : Int} {X Y : List Int} (ha : a = numV (c3 l).1) (hb : b = numV (c3 l).2.1) (hX : X = (lst (c2 l).2.2 (c2 l).2.1).getD []) (hY : Y = (lst (c1 l).2.2 (c1 l).2.1).getD []) {f : Fl} (h : rl l = some f) : f = ⟨a, b, X, Y⟩ := by
  unfold rl at h
  unfold numV at ha hb
  split at h
  · rename_i a' b' v' n' e1 e2 e3 e4
    rw [e1] at ha; rw [e2] at hb; rw [e3] at hX; rw [e4] at hY
    simp only [Option.getD_some] at ha hb hX hY
    subst ha hb hX hY
    exact (Option.some.inj h).symm
  · cases h
theorem rl_isSome (l : Bs) : (rl l).isSome = ((num (c3 l).1).isSome && (num (c3 l).2.1).isSome && (lst (c2 l).2.2 (c2 l).2.1).isSome && (lst (c1 l).2.2 (c1 l).2.1).isSome) := by
  unfold rl
  cases num (c3 l).1 <;> cases num (c3 l).2.1 <;> cases lst (c2 l).2.2 (c2 l).2.1 <;> cases lst (c1 l).2.2 (c1 l).2.1 <;> rfl
theorem eq4 (a b c d : Bool) (w : World) : (binOp .eql 60 (.agg #[.bool a, .bool b, .bool c, .bool d]) (.agg #[.bool true, .bool true, .bool true, .bool true])).run Tryd.prog w = .ok (.bool (a && b && c && d)) w := by
  cases a <;> cases b <;> cases c <;> cases d <;> kernel_rfl

set_option maxHeartbeats 2000000 in
theorem readLine_any (s : ByteArray) (w : World) (hs : s.size ≤ 1000000) (hm : MaxAt w) :
    Calls Tryd.prog 14 #[.string s] w fun e w' => Ext w w' ∧ ∃ a b X Y v n, e = .returned (.tuple #[.agg #[.int .i64 a, .int .i64 b, v, n], .bool (rl s.data.toList).isSome]) ∧
      LB w.heap.size w' X v ∧ LB w.heap.size w' Y n ∧ ∀ f, rl s.data.toList = some f → f = ⟨a, b, X, Y⟩ := by
  go_enter Tryd.func14, Tryd.ntmps14
  go_wp2_with fail
  refine (cut_parts s _ _ hs (hm.ext ((Ext.refl w).alloc _))).mono ?_
  rintro e w1 ⟨x1, y1, he, hx1, hy1, lx1, ly1, E1⟩
  have hb1 : (Lib.cut s.data.toList (ByteArray.mk #[32, 110, 111, 116, 32]).data.toList) = c1 s.data.toList := rfl
  rw [hb1] at hx1 hy1 he
  obtain ⟨t1, ht1, rfl⟩ : ∃ t1, t1 = (c1 s.data.toList).2.2 ∧ e = .returned (.tuple #[.string x1, .string y1, .bool t1]) := ⟨_, rfl, he⟩
  have hm1 := (hm.ext ((Ext.refl w).alloc _)).ext E1
  have HT1 := hid ht1
  have HY1 := hid hy1
  clear hb1 he ht1 hy1
  go_wp2_with fail
  refine (cut_parts x1 _ _ (by omega) hm1).mono ?_
  rintro e w2 ⟨x2, y2, he, hx2, hy2, lx2, ly2, E2⟩
  have hb2 : (Lib.cut x1.data.toList (ByteArray.mk #[32, 118, 105, 97, 32]).data.toList) = c2 s.data.toList := by unfold c2; rw [← hx1]; rfl
  rw [hb2] at hx2 hy2 he
  obtain ⟨t2, ht2, rfl⟩ : ∃ t2, t2 = (c2 s.data.toList).2.2 ∧ e = .returned (.tuple #[.string x2, .string y2, .bool t2]) := ⟨_, rfl, he⟩
  have hm2 := hm1.ext E2
  have HT2 := hid ht2
  have HY2 := hid hy2
  clear hb2 he ht2 hy2 hx1
  go_wp2_with fail
  refine (cut_parts x2 _ _ (by omega) hm2).mono ?_
  rintro e w3 ⟨x3, y3, he, hx3, hy3, lx3, ly3, E3⟩
  have hb3 : (Lib.cut x2.data.toList (ByteArray.mk #[62]).data.toList) = c3 s.data.toList := by unfold c3; rw [← hx2]
  rw [hb3] at hx3 hy3 he
  obtain ⟨t3, rfl⟩ : ∃ t3, e = .returned (.tuple #[.string x3, .string y3, .bool t3]) := ⟨_, he⟩
  have hm3 := hm2.ext E3
  clear hb3 he hx2
  go_wp2_with fail
  refine (readNumber_any x3 _ (by omega)).mono ?_
  rintro e w4 ⟨he, rfl⟩
  rw [hx3] at he
  obtain ⟨a, β0, ha, h0, rfl⟩ : ∃ a β0, a = numV (c3 s.data.toList).1 ∧ β0 = (num (c3 s.data.toList).1).isSome ∧ e = .returned (.tuple #[.int .i64 a, .bool β0]) := ⟨_, _, rfl, rfl, he⟩
  have HA := hid ha
  have H0 := hid h0
  clear ha h0 he
  go_wp2_with fail
  refine (readNumber_any y3 _ (by omega)).mono ?_
  rintro e w4 ⟨he, rfl⟩
  rw [hy3] at he
  obtain ⟨b, β1, hb, h1, rfl⟩ : ∃ b β1, b = numV (c3 s.data.toList).2.1 ∧ β1 = (num (c3 s.data.toList).2.1).isSome ∧ e = .returned (.tuple #[.int .i64 b, .bool β1]) := ⟨_, _, rfl, rfl, he⟩
  have HB := hid hb
  have H1 := hid h1
  clear hb h1 he hx3 hy3
  go_wp2_with fail
  refine (readList_any y2 _ _ (by omega) ((hm3.ext ((Ext.refl _).alloc _)).ext ((Ext.refl _).alloc _))).mono ?_
  rintro e w5 ⟨E5, v, he, hv⟩
  rw [HY2.out, HT2.out] at he hv
  obtain ⟨X, hX⟩ : ∃ X, X = (lst (c2 s.data.toList).2.2 (c2 s.data.toList).2.1).getD [] := ⟨_, rfl⟩
  rw [← hX] at hv
  obtain ⟨vo, vc, rfl⟩ : ∃ vo vc, v = .slice vo X.length vc := by obtain ⟨vo, vc, h, _⟩ := hv; exact ⟨vo, vc, h⟩
  have HX := hid hX
  clear hX
  obtain ⟨β2, h2, rfl⟩ : ∃ β2, β2 = (lst (c2 s.data.toList).2.2 (c2 s.data.toList).2.1).isSome ∧ e = .returned (.tuple #[.slice vo X.length vc, .bool β2]) := ⟨_, rfl, he⟩
  have H2 := hid h2
  clear he h2
  have bF := ((Box4.made w3 (.int .i64 a) (.int .i64 b) (.slice none 0 0) (.slice none 0 0) 38).alloc (.cells #[.bool β0, .bool β1, .bool false, .bool false] 60)).ext E5
  have bO := (Box4.made' (w := w3.alloc (.cells #[.int .i64 a, .int .i64 b, .slice none 0 0, .slice none 0 0] 38)) (n := w3.heap.size + 1) (by simp) (.bool β0) (.bool β1) (.bool false) (.bool false) 60).ext E5
  have bR := (((Box4.made w (.int .i64 0) (.int .i64 0) (.slice none 0 0) (.slice none 0 0) 38).ext (E1.trans (E2.trans E3))).ext (((Ext.refl _).alloc _).alloc _)).ext E5
  have EW : Ext w w5 := ((((Ext.refl w).alloc _).trans (E1.trans (E2.trans E3))).trans (((Ext.refl _).alloc _).alloc _)).trans E5
  have hlt3 : w.heap.size < w3.heap.size := by have := (E1.trans (E2.trans E3)).size; simp at this; omega
  have hm5 := (((hm3.ext ((Ext.refl _).alloc (.cells #[.int .i64 a, .int .i64 b, .slice none 0 0, .slice none 0 0] 38))).ext ((Ext.refl _).alloc (.cells #[.bool β0, .bool β1, .bool false, .bool false] 60))).ext E5)
  have lF := bF.1
  have lO := bO.1
  have BF := bF
  have BO := bO
  obtain ⟨-, F0, F1, F2, F3, G0, G1, G2, G3⟩ := bF
  obtain ⟨-, O0, O1, O2, O3, P0, P1, P2, P3⟩ := bO
  have ES : Ext w ((w5.setCell ⟨w3.heap.size, 2, none⟩ (.slice vo X.length vc)).setCell ⟨w3.heap.size + 1, 2, none⟩ (.bool β2)) := (EW.setCell (show w.heap.size ≤ w3.heap.size by omega) _).setCell (show w.heap.size ≤ w3.heap.size + 1 by omega) _
  have hv2 := ((hv.setCell (p := ⟨w3.heap.size, 2, none⟩) (by simp; omega) (.slice vo X.length vc)).setCell (p := ⟨w3.heap.size + 1, 2, none⟩) (by simp) (.bool β2)).mono (show w3.heap.size + 2 ≤ _ by simp)
  go_wp2_with fail
  refine (readList_any y1 _ _ (by omega) (hm.ext ES)).mono ?_
  rintro e w6 ⟨E6, nv, he, hn⟩
  rw [HY1.out, HT1.out] at he hn
  obtain ⟨Y, hY⟩ : ∃ Y, Y = (lst (c1 s.data.toList).2.2 (c1 s.data.toList).2.1).getD [] := ⟨_, rfl⟩
  rw [← hY] at hn
  obtain ⟨no, nc, rfl⟩ : ∃ no nc, nv = .slice no Y.length nc := by obtain ⟨vo, vc, h, _⟩ := hn; exact ⟨vo, vc, h⟩
  have HYY := hid hY
  clear hY
  obtain ⟨β3, h3, rfl⟩ : ∃ β3, β3 = (lst (c1 s.data.toList).2.2 (c1 s.data.toList).2.1).isSome ∧ e = .returned (.tuple #[.slice no Y.length nc, .bool β3]) := ⟨_, rfl, he⟩
  have H3 := hid h3
  clear he h3
  have bF6 := ((BF.set2 (.slice vo X.length vc)).other (p := ⟨w3.heap.size + 1, 2, none⟩) (by simp) (.bool β2)).ext E6
  have bO6 := ((BO.other (p := ⟨w3.heap.size, 2, none⟩) (by simp) (.slice vo X.length vc)).set2 (.bool β2)).ext E6
  have bR6 := ((bR.other (p := ⟨w3.heap.size, 2, none⟩) (by simp; omega) (.slice vo X.length vc)).other (p := ⟨w3.heap.size + 1, 2, none⟩) (by simp; omega) (.bool β2)).ext E6
  have hv6 := hv2.ext E6
  have hn6 := hn.mono (show w3.heap.size + 2 ≤ _ by have := BO.1; simp; omega)
  have EW6 := ES.trans E6
  clear F0 F1 F2 F3 G0 G1 G2 G3 O0 O1 O2 O3 P0 P1 P2 P3 BF BO lF lO bR hv2 hv hn E5 E6 ES
  have bF8 := bF6
  have bO8 := bO6
  have bR8 := bR6
  obtain ⟨lR, R0, R1, R2, R3, S0, S1, S2, S3⟩ := bR6
  obtain ⟨lF, F0, F1, F2, F3, G0, G1, G2, G3⟩ := bF6
  obtain ⟨lO, O0, O1, O2, O3, P0, P1, P2, P3⟩ := bO6
  have n1 : w.heap.size ≠ w3.heap.size := by omega
  have n2 : w.heap.size ≠ w3.heap.size + 1 := by omega
  have BF7 := ((bF8.set3 (.slice no Y.length nc)).other (p := ⟨w3.heap.size + 1, 3, none⟩) (by simp) (.bool β3))
  have BO7 := ((bO8.other (p := ⟨w3.heap.size, 3, none⟩) (by simp) (.slice no Y.length nc)).set3 (.bool β3))
  have BR7 := ((bR8.other (p := ⟨w3.heap.size, 3, none⟩) (by simp; omega) (.slice no Y.length nc)).other (p := ⟨w3.heap.size + 1, 3, none⟩) (by simp; omega) (.bool β3))
  have EW7 := (EW6.setCell (p := ⟨w3.heap.size, 3, none⟩) (show w.heap.size ≤ w3.heap.size by omega) (.slice no Y.length nc)).setCell (p := ⟨w3.heap.size + 1, 3, none⟩) (show w.heap.size ≤ w3.heap.size + 1 by omega) (.bool β3)
  have hv7 := (hv6.setCell (p := ⟨w3.heap.size, 3, none⟩) (by simp) (.slice no Y.length nc)).setCell (p := ⟨w3.heap.size + 1, 3, none⟩) (by simp) (.bool β3)
  have hn7 := (hn6.setCell (p := ⟨w3.heap.size, 3, none⟩) (by simp) (.slice no Y.length nc)).setCell (p := ⟨w3.heap.size + 1, 3, none⟩) (by simp) (.bool β3)
  go_wp2_with fail
  clear F0 F1 F2 F3 G0 G1 G2 G3 O0 O1 O2 O3 P0 P1 P2 P3 R0 R1 R2 R3 S0 S1 S2 S3 lF lO lR bF8 bO8 bR8
  generalize (w6.setCell ⟨w3.heap.size, 3, none⟩ (.slice no Y.length nc)).setCell ⟨w3.heap.size + 1, 3, none⟩ (.bool β3) = w7 at *
  obtain ⟨lR, R0, R1, R2, R3, S0, S1, S2, S3⟩ := BR7
  obtain ⟨lF, F0, F1, F2, F3, G0, G1, G2, G3⟩ := BF7
  obtain ⟨lO, O0, O1, O2, O3, P0, P1, P2, P3⟩ := BO7
  have q4 := eq4 β0 β1 β2 β3
  go_region
  go_wp2
  have hβ : (rl s.data.toList).isSome = (β0 && β1 && β2 && β3) := by rw [rl_isSome, H0.out, H1.out, H2.out, H3.out]
  have T0 := World.cell?_setCell_same w7 ⟨w.heap.size, 0, none⟩ (.int .i64 a) R0
  refine bodyPost_ret (v := .tuple #[.agg #[.int .i64 a, .int .i64 b, .slice vo X.length vc, .slice no Y.length nc], .bool (β0 && β1 && β2 && β3)]) (by simp [results, Tryd.results14, go_sem, R0, R1, R2, R3]) rfl ⟨?_, a, b, X, Y, _, _, by rw [hβ], ?_, ?_, fun f hf => rl_some HA.out HB.out HX.out HYY.out hf⟩
  · exact ((((EW7.setCell (Nat.le_refl _) _).setCell (Nat.le_refl _) _).setCell (Nat.le_refl _) _).setCell (Nat.le_refl _) _).drew
  · have hl : ∀ i, (⟨w.heap.size, i, none⟩ : Addr).block < w3.heap.size + 2 := fun i => by simp; omega
    exact (((((hv7.setCell (hl 0) _).setCell (hl 1) _).setCell (hl 2) _).setCell (hl 3) _).ext (Ext.refl _).drew).mono (by omega)
  · have hl : ∀ i, (⟨w.heap.size, i, none⟩ : Addr).block < w3.heap.size + 2 := fun i => by simp; omega
    exact (((((hn7.setCell (hl 0) _).setCell (hl 1) _).setCell (hl 2) _).setCell (hl 3) _).ext (Ext.refl _).drew).mono (by omega)

end Go.Proofs.YtbfgioinjggkkaaDoor
