/- What Parse answers, for all bytes; nothing that was there is changed. -/
import Derived.Test.YtiepbdgjhfkceadN8
namespace Go.Proofs.Ytiepbdgjhfkcead.Wi
open Go.RowKit Go.Maps Go.Deep Go.Sort Tb Rul

/-- What is told of bytes: an order and an error. -/
def PrOut (w : World) (p : Wir.Od × Int) (e : Ending) (w' : World) : Prop := ∃ ro fo rc fc, e = .returned (.tuple #[ovl p.1 ro fo rc fc, .int .i64 p.2]) ∧ OAt w' p.1 ro fo ∧ Ext w w'
theorem OAt.zero (w : World) : OAt w Wir.od0 none none := ⟨Or.inl rfl, Or.inl rfl, i64_small (by decide) (by decide), Nat.zero_le _, Nat.zero_le _⟩
theorem pr_zero {w F : World} {p : Wir.Od × Int} {x : Int} (e : p = (Wir.od0, x)) (hE : Ext w F) : PrOut w p (.returned (.tuple #[.agg #[.int .i64 0, .int .i64 0, .int .i64 0, .slice none 0 0, .slice none 0 0], .int .i64 x])) F := by
  subst e; exact ⟨none, none, 0, 0, rfl, OAt.zero F, hE⟩
theorem pr_some {w F : World} {p : Wir.Od × Int} {o : Wir.Od} {ro fo : Option Addr} {rc fc : Nat} (e : p = (o, 0)) (h : OAt F o ro fo) (hE : Ext w F) : PrOut w p (.returned (.tuple #[ovl o ro fo rc fc, .int .i64 0])) F := by
  subst e; exact ⟨ro, fo, rc, fc, rfl, h, hE⟩
theorem parse_short {bs : List Nat} (h : bs.length < 7) : Wir.parse bs = (Wir.od0, 2) := by rw [Wir.parse, if_pos (Or.inl h)]
theorem parse_long {k n0 n1 n2 v0 v1 s : Nat} {r : List Nat} : Wir.parse ((k :: n0 :: n1 :: n2 :: v0 :: v1 :: r) ++ [s]) = if Wir.sum (k :: n0 :: n1 :: n2 :: v0 :: v1 :: r) = s then (if isb k r = true then (if Wir.wrong (rdo k n0 n1 n2 v0 v1 r) ≠ 0 then (Wir.od0, Wir.wrong (rdo k n0 n1 n2 v0 v1 r)) else (rdo k n0 n1 n2 v0 v1 r, 0)) else (Wir.od0, 2)) else (Wir.od0, 2) := by
  obtain ⟨c, hc⟩ : ∃ c, c = k :: n0 :: n1 :: n2 :: v0 :: v1 :: r := ⟨_, rfl⟩
  have hl : 6 ≤ c.length := by rw [hc]; simp
  have e1 : (c ++ [s]).length - 1 = c.length := by simp
  have e2 : (c ++ [s]).take c.length = c := by simp
  have e3 : (c ++ [s]).getD c.length 0 = s := by simp [List.getD_eq_getElem?_getD]
  rw [← hc]
  unfold Wir.parse
  rw [e1, e2, e3]
  by_cases h : Wir.sum c = s
  · rw [if_neg (fun hh => hh.elim (by simp; omega) (fun hh => hh h)), if_pos h, hc, form_isb]
    by_cases hi : isb k r = true
    · simp only [hi, if_true]
    · simp only [hi]; rfl
  · rw [if_pos (Or.inr h), if_neg h]

set_option maxRecDepth 100000 in
set_option maxHeartbeats 1000000 in
theorem Parse_short (ao : Option Addr) (len cap : Nat) (bs : List Nat) (w : World) (hlen : bs.length = len) (h7 : len < 7) :
    Calls Try.prog 11 #[.slice ao len cap] w fun e w' => PrOut w (Wir.parse bs) e w' := by
  have HP : Hid _ := parse_short (bs := bs) (by omega)
  have h1 : (len : Int) - 1 < 6 := by omega
  have h2 : decide ((len : Int) - 1 < 6) = true := decide_eq_true h1
  go_enter Try.func11, Try.ntmps11
  go_wp2_with fail
  obtain ⟨B, hB⟩ : ∃ B, B = w.alloc (.cells #[.int .i64 0, .int .i64 0, .int .i64 0, .slice none 0 0, .slice none 0 0] 25) := ⟨_, rfl⟩
  have hE0 : Ext w B := by rw [hB]; exact (Ext.refl w).alloc _
  have HRB : Hid (OBk B w.heap.size 0 0 0 (.slice none 0 0) (.slice none 0 0)) := by rw [hB]; exact OBk.made w _ _ _ _ _
  rw [← hB]
  clear hB
  refine wp_region_quiet_below (by kernel_rfl) (by kernel_rfl) ?_
  repeat (go_big_quiet_step (fail))
  refine wpQuiet_nil ?_
  intro _ hw'
  obtain ⟨⟨dq, oq⟩, hw''⟩ := hw'
  subst hw''
  have hEX : Ext B (grow (redrawn B dq) oq) := below_regrown B dq oq
  generalize grow (redrawn B dq) oq = X at hEX ⊢
  obtain ⟨p0, p1, p2, p3, p4, _, _⟩ := (OBk.ext HRB.out hEX).cells
  have HFZ : Hid _ := (OBk.ext HRB.out hEX).frz
  have z0 := HFZ.out 0
  have z1 := HFZ.out 1
  have z2 := HFZ.out 2
  have z3 := HFZ.out 3
  have z4 := HFZ.out 4
  go_wp2
  refine bodyPost_ret (v := .tuple #[.agg #[.int .i64 0, .int .i64 0, .int .i64 0, .slice none 0 0, .slice none 0 0], .int .i64 2]) (by simp [results, Try.results11, go_sem, p0, p1, p2, p3, p4]) rfl (pr_zero HP.out (set5_ext (hE0.trans hEX) (Nat.le_refl _) _ _ _ _ _))

/-- A part of bytes that lie somewhere. -/
theorem part_at {w : World} {g off : Nat} {bs cs : List Nat} (lo : Nat) (h : ∀ i, i < bs.length → w.cell? ⟨g, off + i, none⟩ = some (.int .u8 ((bs.getD i 0 : Nat) : Int))) (hg : g < w.heap.size) (hl : lo + cs.length ≤ bs.length) (he : ∀ i, i < cs.length → cs.getD i 0 = bs.getD (lo + i) 0) : ByAt w (some ⟨g, off + lo, none⟩) cs :=
  Or.inr ⟨g, off + lo, rfl, hg, fun i hi => by rw [Nat.add_assoc, h (lo + i) (by omega), he i hi]⟩
theorem getD_app_left {x y : List Nat} {i : Nat} (h : i < x.length) : (x ++ y).getD i 0 = x.getD i 0 := by
  simp [List.getD_eq_getElem?_getD, List.getElem?_append_left h]

set_option maxRecDepth 100000 in
set_option maxHeartbeats 1600000 in
theorem Parse_long (g off R cap k n0 n1 n2 v0 v1 s : Nat) (r : List Nat) (w : World) (hR : r.length = R) (hl : R ≤ 4611686018427387800) (hcap : 6 + R + 1 ≤ cap) (hcm : cap ≤ 9223372036854775807) (hg : g < w.heap.size)
    (hat : ∀ i, i < ((k :: n0 :: n1 :: n2 :: v0 :: v1 :: r) ++ [s]).length → w.cell? ⟨g, off + i, none⟩ = some (.int .u8 ((((k :: n0 :: n1 :: n2 :: v0 :: v1 :: r) ++ [s]).getD i 0 : Nat) : Int)))
    (hb : ∀ x ∈ (k :: n0 :: n1 :: n2 :: v0 :: v1 :: r) ++ [s], x < 256) :
    Calls Try.prog 11 #[.slice (some ⟨g, off, none⟩) (6 + R + 1) cap] w fun e w' => PrOut w (Wir.parse ((k :: n0 :: n1 :: n2 :: v0 :: v1 :: r) ++ [s])) e w' := by
  obtain ⟨c, hc⟩ : ∃ c, c = k :: n0 :: n1 :: n2 :: v0 :: v1 :: r := ⟨_, rfl⟩
  have HPL : Hid _ := parse_long (k := k) (n0 := n0) (n1 := n1) (n2 := n2) (v0 := v0) (v1 := v1) (s := s) (r := r)
  have hcl : c.length = 6 + R := by rw [hc]; simp only [List.length_cons]; omega
  rw [← hc] at hat hb HPL ⊢
  have hal : (c ++ [s]).length = 6 + R + 1 := by rw [List.length_append, hcl]; rfl
  have HC : Hid (∀ W, Ext w W → ∀ i, i < c.length → W.cell? ⟨g, off + i, none⟩ = some (.int .u8 ((c.getD i 0 : Nat) : Int))) := fun W hW i hi => by
    rw [hW.cells.1 _ _ hg, hat i (by omega), getD_app_left hi]
  have HSL : Hid (∀ W, Ext w W → W.cell? ⟨g, off + (6 + R), none⟩ = some (.int .u8 (s : Int))) := fun W hW => by
    rw [hW.cells.1 _ _ hg, hat (6 + R) (by omega), ← hcl]
    simp [List.getD_eq_getElem?_getD]
  have HK : Hid (∀ W, Ext w W → W.cell? ⟨g, off, none⟩ = some (.int .u8 (k : Int))) := fun W hW => by
    have := HC.out W hW 0 (by omega)
    rw [Nat.add_zero, hc] at this
    exact this
  have hbc : ∀ x ∈ c, x < 256 := fun x hx => hb x (List.mem_append_left _ hx)
  have hs8 : s < 256 := hb s (by simp)
  have hbs := hbc
  rw [hc] at hbs
  have hk8 : k < 256 := hbs k (by simp)
  have hr8 : ∀ x ∈ r, x < 256 := fun x hx => hbs x (by simp [hx])
  have HQ1 : Hid (∀ W, Ext w W → ∀ d os, Calls Try.prog 22 #[.slice (some ⟨g, off + 6, none⟩) R (cap - 6), .int .i64 (k : Int)] (grow (redrawn W d) os) fun e w'' => e = .returned (.bool (isb k r)) ∧ ∃ p : Regrown, w'' = grow (redrawn W p.d) p.os) := fun W hW d os =>
    Calls.regrown_of (isBody_any (some ⟨g, off + 6, none⟩) R (cap - 6) k r (grow (redrawn W d) os) hR (part_at (bs := c) 6 (HC.out _ (hW.trans (below_regrown W d os))) (Nat.lt_of_lt_of_le hg (hW.trans (below_regrown W d os)).size) (by omega) (fun i hi => by rw [hc, Nat.add_comm 6 i]; rfl)) hr8 (by omega) hk8)
  have HQ2 : Hid (∀ W, Ext w W → ∀ d os, Calls Try.prog 20 #[.slice (some ⟨g, off, none⟩) (6 + R) cap] (grow (redrawn W d) os) fun e w'' => e = .returned (.int .u8 ((Wir.sum c : Nat) : Int)) ∧ ∃ p : Regrown, w'' = grow (redrawn W p.d) p.os) := fun W hW d os =>
    Calls.regrown_of ((sum_any (some ⟨g, off, none⟩) (6 + R) cap c (grow (redrawn W d) os) hcl (part_at (bs := c) 0 (HC.out _ (hW.trans (below_regrown W d os))) (Nat.lt_of_lt_of_le hg (hW.trans (below_regrown W d os)).size) (by omega) (fun i hi => by rw [Nat.zero_add])) hbc (by omega)).mono (fun e w' h => ⟨h.1, by rw [h.2]; exact Below.refl _ _⟩))
  have j1 : ¬ (6 : Int) + (R : Int) < 6 := by omega
  have j1' : decide ((6 : Int) + (R : Int) < 6) = false := decide_eq_false j1
  have j2 : (6 : Int) < (cap : Int) := by omega
  have j3 : (6 : Int) + (R : Int) ≤ (cap : Int) := by omega
  have j4 : 0 < 6 + R + 1 := by omega
  go_enter Try.func11, Try.ntmps11
  go_wp2_with fail
  obtain ⟨B, hB⟩ : ∃ B, B = w.alloc (.cells #[.int .i64 0, .int .i64 0, .int .i64 0, .slice none 0 0, .slice none 0 0] 25) := ⟨_, rfl⟩
  have hE0 : Ext w B := by rw [hB]; exact (Ext.refl w).alloc _
  have HRB : Hid (OBk B w.heap.size 0 0 0 (.slice none 0 0) (.slice none 0 0)) := by rw [hB]; exact OBk.made w _ _ _ _ _
  rw [← hB]
  clear hB
  have q1 := HQ1.out B hE0
  have q2 := HQ2.out B hE0
  have HQ1' : Hid _ := q1
  have HQ2' : Hid _ := q2
  have x0 := cell_regrown (HK.out B hE0)
  have x1 := cell_regrown (HSL.out B hE0)
  clear q1 q2
  cases hi : isb k r
  · have HP : Hid (Wir.parse (c ++ [s]) = (Wir.od0, 2)) := HPL.out.trans (by rw [hi]; simp)
    rw [hi] at HQ1'
    refine wp_region_quiet_below (by kernel_rfl) (by kernel_rfl) ?_
    repeat (go_big_quiet_step (first | (with_reducible exact HQ1'.out _ _) | (with_reducible exact HQ2'.out _ _)))
    refine wpQuiet_nil ?_
    intro _ hw'
    obtain ⟨⟨dq, oq⟩, hw''⟩ := hw'
    subst hw''
    have hEX : Ext B (grow (redrawn B dq) oq) := below_regrown B dq oq
    clear HQ1' HQ2' x0 x1
    generalize grow (redrawn B dq) oq = X at hEX ⊢
    obtain ⟨p0, p1, p2, p3, p4, _, _⟩ := (OBk.ext HRB.out hEX).cells
    have HFZ : Hid _ := (OBk.ext HRB.out hEX).frz
    have z0 := HFZ.out 0
    have z1 := HFZ.out 1
    have z2 := HFZ.out 2
    have z3 := HFZ.out 3
    have z4 := HFZ.out 4
    go_wp2
    refine bodyPost_ret (v := .tuple #[.agg #[.int .i64 0, .int .i64 0, .int .i64 0, .slice none 0 0, .slice none 0 0], .int .i64 2]) (by simp [results, Try.results11, go_sem, p0, p1, p2, p3, p4]) rfl (pr_zero HP.out (set5_ext (hE0.trans hEX) (Nat.le_refl _) _ _ _ _ _))
  · rw [hi] at HQ1'
    by_cases hs : Wir.sum c = s
    · have HPS : Hid (Wir.parse (c ++ [s]) = if Wir.wrong (rdo k n0 n1 n2 v0 v1 r) ≠ 0 then (Wir.od0, Wir.wrong (rdo k n0 n1 n2 v0 v1 r)) else (rdo k n0 n1 n2 v0 v1 r, 0)) := HPL.out.trans (by rw [if_pos hs, hi, if_pos rfl])
      rw [hs] at HQ2'
      refine wp_region_quiet_below (by kernel_rfl) (by kernel_rfl) ?_
      repeat (go_big_quiet_step (first | (with_reducible exact HQ1'.out _ _) | (with_reducible exact HQ2'.out _ _)))
      refine wpQuiet_nil ?_
      intro _ hw'
      obtain ⟨⟨dq, oq⟩, hw''⟩ := hw'
      subst hw''
      have hEX : Ext B (grow (redrawn B dq) oq) := below_regrown B dq oq
      clear HQ1' HQ2' x0 x1
      generalize grow (redrawn B dq) oq = X at hEX ⊢
      go_wp2_with fail
      have hEw := hE0.trans hEX
      have hm6 : ∀ x ∈ k :: n0 :: n1 :: n2 :: v0 :: v1 :: r, x < 256 := hbs
      refine (read_any g off (6 + R) cap k n0 n1 n2 v0 v1 r X (by omega) (by omega) (by omega) hcm (Nat.lt_of_lt_of_le hg hEw.size) (by rw [← hc]; exact HC.out X hEw) hk8 (hm6 n0 (by simp)) (hm6 n1 (by simp)) (hm6 n2 (by simp)) (hm6 v0 (by simp)) (hm6 v1 (by simp)) hr8 hi).mono ?_
      rintro e w3 ⟨rv, fv, rfl, hrv, hfv, hk64, hl1, hl2, E3⟩
      obtain ⟨o, ho⟩ : ∃ o, o = rdo k n0 n1 n2 v0 v1 r := ⟨_, rfl⟩
      rw [← ho] at HPS hrv hfv hk64 hl1 hl2 ⊢
      clear ho HPL HC HSL HK HQ1 HQ2 hat hb hbc hbs hm6 hr8 hi
      obtain ⟨ro, rc, rfl, _⟩ := RO.form hrv
      obtain ⟨fo, fc, rfl, _⟩ := JO.form hfv
      have HRV : Hid (RO w3 X.heap.size (.slice ro o.rs.length rc) o.rs) := hrv
      have HFV : Hid (JO w3 X.heap.size (.slice fo o.fs.length fc) o.fs) := hfv
      have HW : Hid _ := Wrong_any o ro fo rc fc
      have hOA : OAt w3 o ro fo := by
        obtain ⟨ro', rc', e1, a1, _⟩ := RO.form hrv
        obtain ⟨fo', fc', e2, a2, _⟩ := JO.form hfv
        cases e1
        cases e2
        exact ⟨a1, a2, hk64, by omega, by omega⟩
      have HOA : Hid _ := hOA
      have HL : Hid (o.rs.length ≤ 1000 ∧ o.fs.length ≤ 1000 ∧ I64 o.k) := ⟨hl1, hl2, hk64⟩
      clear hrv hfv hk64 hl1 hl2 hOA
      obtain ⟨x, hx⟩ : ∃ x, x = Wir.wrong o := ⟨_, rfl⟩
      rw [← hx] at HW HPS
      clear hx
      obtain ⟨ok, on, ovv, ors, ofs⟩ := o
      unfold ovl at HW
      have hE3 := hEX.trans E3
      go_wp2_with fail
      refine (HW.out _ (HOA.out.ext ((Ext.refl w3).alloc _))).mono ?_
      rintro e w4 ⟨rfl, E4⟩
      have hE4 := (hE3.alloc _).trans E4
      have E34 : Ext w3 w4 := ((Ext.refl w3).alloc _).trans E4
      obtain ⟨p0, p1, p2, p3, p4, _, _⟩ := (OBk.ext HRB.out hE4).cells
      have HFZ : Hid _ := (OBk.ext HRB.out hE4).frz
      have z0 := HFZ.out 0
      have z1 := HFZ.out 1
      have z2 := HFZ.out 2
      have z3 := HFZ.out 3
      have z4 := HFZ.out 4
      have hw0 : w.heap.size < X.heap.size := Nat.lt_of_lt_of_le HRB.out.lt hEX.size
      have hb0 : w4.cell? ⟨w3.heap.size, 0, none⟩ = some (.int .i64 ok) := (E4.cells.1 _ _ (by simp)).trans (by simp)
      have hb1 : w4.cell? ⟨w3.heap.size, 1, none⟩ = some (.int .i64 on) := (E4.cells.1 _ _ (by simp)).trans (by simp)
      have hb2 : w4.cell? ⟨w3.heap.size, 2, none⟩ = some (.int .i64 ovv) := (E4.cells.1 _ _ (by simp)).trans (by simp)
      have hb3 : w4.cell? ⟨w3.heap.size, 3, none⟩ = some (.slice ro ors.length rc) := (E4.cells.1 _ _ (by simp)).trans (by simp)
      have hb4 : w4.cell? ⟨w3.heap.size, 4, none⟩ = some (.slice fo ofs.length fc) := (E4.cells.1 _ _ (by simp)).trans (by simp)
      by_cases hx0 : x = 0
      · subst hx0
        have HP : Hid (Wir.parse (c ++ [s]) = (⟨ok, on, ovv, ors, ofs⟩, 0)) := HPS.out.trans (if_neg (by simp))
        obtain ⟨ro', fo', rc', fc', e1, e2, hOF⟩ := order_done (b := w.heap.size) (k := ok) (n := on) (v := ovv) (RO.ext HRV.out E34) (JO.ext HFV.out E34) hw0 HL.out.2.2 HL.out.1 HL.out.2.1
        cases e1
        cases e2
        clear HPS
        go_wp2
        exact bodyPost_ret (v := .tuple #[.agg #[.int .i64 ok, .int .i64 on, .int .i64 ovv, .slice ro ors.length rc, .slice fo ofs.length fc], .int .i64 0]) (by simp [results, Try.results11, go_sem, p0, p1, p2, p3, p4]) rfl (pr_some HP.out hOF (set5_ext (hE0.trans hE4) (Nat.le_refl _) _ _ _ _ _))
      · have HP : Hid (Wir.parse (c ++ [s]) = (Wir.od0, x)) := HPS.out.trans (if_pos hx0)
        have hx1 : (x != 0) = true := by simpa using hx0
        clear HPS hx0
        go_wp2
        refine bodyPost_ret (v := .tuple #[.agg #[.int .i64 0, .int .i64 0, .int .i64 0, .slice none 0 0, .slice none 0 0], .int .i64 x]) (by simp [results, Try.results11, go_sem, p0, p1, p2, p3, p4]) rfl (pr_zero HP.out (set5_ext (hE0.trans hE4) (Nat.le_refl _) _ _ _ _ _))
    · have HP : Hid (Wir.parse (c ++ [s]) = (Wir.od0, 2)) := HPL.out.trans (if_neg hs)
      have hne : ((s : Int) != ((Wir.sum c : Nat) : Int)) = true := by simp; omega
      obtain ⟨sc, hsc⟩ : ∃ sc, sc = Wir.sum c := ⟨_, rfl⟩
      rw [← hsc] at HQ2' hne
      clear hs hsc
      refine wp_region_quiet_below (by kernel_rfl) (by kernel_rfl) ?_
      repeat (go_big_quiet_step (first | (with_reducible exact HQ1'.out _ _) | (with_reducible exact HQ2'.out _ _)))
      refine wpQuiet_nil ?_
      intro _ hw'
      obtain ⟨⟨dq, oq⟩, hw''⟩ := hw'
      subst hw''
      have hEX : Ext B (grow (redrawn B dq) oq) := below_regrown B dq oq
      clear HQ1' HQ2' x0 x1
      generalize grow (redrawn B dq) oq = X at hEX ⊢
      obtain ⟨p0, p1, p2, p3, p4, _, _⟩ := (OBk.ext HRB.out hEX).cells
      have HFZ : Hid _ := (OBk.ext HRB.out hEX).frz
      have z0 := HFZ.out 0
      have z1 := HFZ.out 1
      have z2 := HFZ.out 2
      have z3 := HFZ.out 3
      have z4 := HFZ.out 4
      go_wp2
      refine bodyPost_ret (v := .tuple #[.agg #[.int .i64 0, .int .i64 0, .int .i64 0, .slice none 0 0, .slice none 0 0], .int .i64 2]) (by simp [results, Try.results11, go_sem, p0, p1, p2, p3, p4]) rfl (pr_zero HP.out (set5_ext (hE0.trans hEX) (Nat.le_refl _) _ _ _ _ _))

/-- What Parse answers. -/
theorem Parse_any (ao : Option Addr) (len cap : Nat) (bs : List Nat) (w : World) (hlen : bs.length = len) (hat : ByAt w ao bs) (hb : ∀ x ∈ bs, x < 256) (hl : len ≤ 4611686018427387800) (hcap : len ≤ cap) (hcm : cap ≤ 9223372036854775807) :
    Calls Try.prog 11 #[.slice ao len cap] w fun e w' => PrOut w (Wir.parse bs) e w' := by
  by_cases h7 : len < 7
  · exact Parse_short ao len cap bs w hlen h7
  · obtain ⟨k, n0, n1, n2, v0, v1, t, rfl⟩ : ∃ k n0 n1 n2 v0 v1 t, bs = k :: n0 :: n1 :: n2 :: v0 :: v1 :: t := by
      match bs, hlen with
      | k :: n0 :: n1 :: n2 :: v0 :: v1 :: t, _ => exact ⟨k, n0, n1, n2, v0, v1, t, rfl⟩
      | [], h => simp at h; omega
      | [_], h => simp at h; omega
      | [_, _], h => simp at h; omega
      | [_, _, _], h => simp at h; omega
      | [_, _, _, _], h => simp at h; omega
      | [_, _, _, _, _], h => simp at h; omega
    have ht : t ≠ [] := fun h => by subst h; simp at hlen; omega
    obtain ⟨r, s, rfl⟩ : ∃ r s, t = r ++ [s] := ⟨t.dropLast, t.getLast ht, (List.dropLast_concat_getLast ht).symm⟩
    obtain ⟨g, off, rfl, hg, hcs⟩ := hat.get (by simp)
    have hl2 : 6 + r.length + 1 = len := by simp at hlen; omega
    subst hl2
    exact Parse_long g off r.length cap k n0 n1 n2 v0 v1 s r w rfl (by omega) hcap hcm hg hcs hb

end Go.Proofs.Ytiepbdgjhfkcead.Wi
