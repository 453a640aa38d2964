/- What the document's own Parse answers, for all bytes: the same. -/
import Derived.Test.YtiepbdgjhfkceadN13
import Derived.Deep.CutBlock
namespace Go.Proofs.Ytiepbdgjhfkcead.Wi
open Go.RowKit Go.Maps Go.Deep Go.Sort Tb Rul

set_option maxRecDepth 100000 in
set_option maxHeartbeats 1000000 in
theorem refParse_short (ao : Option Addr) (len cap : Nat) (bs : List Nat) (w : World) (hlen : bs.length = len) (h7 : len < 7) :
    Calls Try.prog 12 #[.slice ao len cap] w fun e w' => PrOut w (Wir.parse bs) e w' := by
  have HP : Hid _ := parse_short (bs := bs) (by omega)
  have h1 : (len : Int) - 1 < 6 := by omega
  have h2 : decide ((len : Int) - 1 < 6) = true := decide_eq_true h1
  go_enter Try.func12, Try.ntmps12
  go_wp2_with fail
  obtain ⟨B, hB⟩ : ∃ B, B = w.alloc (.cells #[.int .i64 0, .int .i64 0, .int .i64 0, .slice none 0 0, .slice none 0 0] 25) := ⟨_, rfl⟩
  have hE0 : Ext w B := by rw [hB]; exact (Ext.refl w).alloc _
  have HRB : Hid (OBk B w.heap.size 0 0 0 (.slice none 0 0) (.slice none 0 0)) := by rw [hB]; exact OBk.made w _ _ _ _ _
  rw [← hB]
  clear hB
  refine wp_region_quiet_below (by kernel_rfl) (by kernel_rfl) ?_
  repeat (go_big_quiet_step (fail))
  refine wpQuiet_nil ?_
  intro _ hw'
  obtain ⟨⟨dq, oq⟩, hw''⟩ := hw'
  subst hw''
  have hEX : Ext B (grow (redrawn B dq) oq) := below_regrown B dq oq
  generalize grow (redrawn B dq) oq = X at hEX ⊢
  obtain ⟨p0, p1, p2, p3, p4, _, _⟩ := (OBk.ext HRB.out hEX).cells
  have HFZ : Hid _ := (OBk.ext HRB.out hEX).frz
  have z0 := HFZ.out 0
  have z1 := HFZ.out 1
  have z2 := HFZ.out 2
  have z3 := HFZ.out 3
  have z4 := HFZ.out 4
  go_wp2
  refine bodyPost_ret (v := .tuple #[.agg #[.int .i64 0, .int .i64 0, .int .i64 0, .slice none 0 0, .slice none 0 0], .int .i64 2]) (by simp [results, Try.results12, go_sem, p0, p1, p2, p3, p4]) rfl (pr_zero HP.out (set5_ext (hE0.trans hEX) (Nat.le_refl _) _ _ _ _ _))

set_option maxRecDepth 100000 in
set_option maxHeartbeats 4000000 in
theorem refParse_long (g off L cap k n0 n1 n2 v0 v1 s : Nat) (r : List Nat) (w : World) (hR : 6 + r.length = L) (hl : L ≤ 4611686018427387800) (hcap : L + 1 ≤ cap) (hcm : cap ≤ 9223372036854775807) (hg : g < w.heap.size)
    (hat : ∀ i, i < ((k :: n0 :: n1 :: n2 :: v0 :: v1 :: r) ++ [s]).length → w.cell? ⟨g, off + i, none⟩ = some (.int .u8 ((((k :: n0 :: n1 :: n2 :: v0 :: v1 :: r) ++ [s]).getD i 0 : Nat) : Int)))
    (hb : ∀ x ∈ (k :: n0 :: n1 :: n2 :: v0 :: v1 :: r) ++ [s], x < 256) :
    Calls Try.prog 12 #[.slice (some ⟨g, off, none⟩) (L + 1) cap] w fun e w' => PrOut w (Wir.parse ((k :: n0 :: n1 :: n2 :: v0 :: v1 :: r) ++ [s])) e w' := by
  obtain ⟨c, hc⟩ : ∃ c, c = k :: n0 :: n1 :: n2 :: v0 :: v1 :: r := ⟨_, rfl⟩
  have HPL : Hid _ := parse_long (k := k) (n0 := n0) (n1 := n1) (n2 := n2) (v0 := v0) (v1 := v1) (s := s) (r := r)
  have hcl : c.length = L := by rw [hc]; simp only [List.length_cons]; omega
  rw [← hc] at hat hb HPL ⊢
  have hal : (c ++ [s]).length = L + 1 := by rw [List.length_append, hcl]; rfl
  have HC : Hid (∀ W, Ext w W → ∀ i, i < c.length → W.cell? ⟨g, off + i, none⟩ = some (.int .u8 ((c.getD i 0 : Nat) : Int))) := fun W hW i hi => by
    rw [hW.cells.1 _ _ hg, hat i (by omega), getD_app_left hi]
  have HSL : Hid (∀ W, Ext w W → W.cell? ⟨g, off + L, none⟩ = some (.int .u8 (s : Int))) := fun W hW => by
    rw [hW.cells.1 _ _ hg, hat L (by omega), ← hcl]
    simp [List.getD_eq_getElem?_getD]
  have hbc : ∀ x ∈ c, x < 256 := fun x hx => hb x (List.mem_append_left _ hx)
  have hs8 : s < 256 := hb s (by simp)
  have hm6 := hbc
  rw [hc] at hm6
  have hk : k < 256 := hm6 k (by simp)
  have hn0 : n0 < 256 := hm6 n0 (by simp)
  have hn1 : n1 < 256 := hm6 n1 (by simp)
  have hn2 : n2 < 256 := hm6 n2 (by simp)
  have hv0 : v0 < 256 := hm6 v0 (by simp)
  have hv1 : v1 < 256 := hm6 v1 (by simp)
  have HR8 : Hid (∀ x ∈ r, x < 256) := fun x hx => hm6 x (by simp [hx])
  have HQ2 : Hid (∀ W, Ext w W → ∀ d os, Calls Try.prog 21 #[.slice (some ⟨g, off, none⟩) L cap] (grow (redrawn W d) os) fun e w'' => e = .returned (.int .u8 ((Wir.sum c : Nat) : Int)) ∧ ∃ p : Regrown, w'' = grow (redrawn W p.d) p.os) := fun W hW d os =>
    Calls.regrown_of ((refSum_any (some ⟨g, off, none⟩) L cap c (grow (redrawn W d) os) hcl (part_at (bs := c) 0 (HC.out _ (hW.trans (below_regrown W d os))) (Nat.lt_of_lt_of_le hg (hW.trans (below_regrown W d os)).size) (by omega) (fun i hi => by rw [Nat.zero_add])) hbc (by omega)).mono (fun e w' h => ⟨h.1, by rw [h.2]; exact Below.refl _ _⟩))
  have HS : Hid (∀ W, Ext w W → W.cell? ⟨g, off, none⟩ = some (.int .u8 (k : Int)) ∧ W.cell? ⟨g, off + 1, none⟩ = some (.int .u8 (n0 : Int)) ∧ W.cell? ⟨g, off + 2, none⟩ = some (.int .u8 (n1 : Int)) ∧ W.cell? ⟨g, off + 3, none⟩ = some (.int .u8 (n2 : Int)) ∧ W.cell? ⟨g, off + 4, none⟩ = some (.int .u8 (v0 : Int)) ∧ W.cell? ⟨g, off + 5, none⟩ = some (.int .u8 (v1 : Int))) := fun W hW => by
    have q := fun i hi => HC.out W hW i hi
    rw [hc] at q
    exact ⟨q 0 (by simp), q 1 (by simp), q 2 (by simp), q 3 (by simp), q 4 (by simp), q 5 (by simp)⟩
  have HT : Hid (∀ W, Ext w W → ∀ i, i < r.length → W.cell? ⟨g, off + (6 + i), none⟩ = some (.int .u8 ((r.getD i 0 : Nat) : Int))) := fun W hW i hi => by
    rw [HC.out W hW (6 + i) (by omega), hc, Nat.add_comm 6 i]
    simp only [List.getD_cons_succ]
  have j1 : ¬ (L : Int) < 6 := by omega
  have j1' : decide ((L : Int) < 6) = false := decide_eq_false j1
  have j3 : (L : Int) ≤ (cap : Int) := by omega
  have j4 : 0 < L + 1 := by omega
  have i1 : (5 : Int) < (L : Int) + 1 := by omega
  have i3 : (1 : Int) < (L : Int) + 1 := by omega
  have i4 : (2 : Int) < (L : Int) + 1 := by omega
  have i5 : (3 : Int) < (L : Int) + 1 := by omega
  have i6 : (4 : Int) < (L : Int) + 1 := by omega
  have HL : Hid (6 + r.length = L) := hR
  clear hR hat hb hbc hm6 hal hc hcl
  go_enter Try.func12, Try.ntmps12
  go_wp2_with fail
  obtain ⟨B, hB⟩ : ∃ B, B = w.alloc (.cells #[.int .i64 0, .int .i64 0, .int .i64 0, .slice none 0 0, .slice none 0 0] 25) := ⟨_, rfl⟩
  have hE0 : Ext w B := by rw [hB]; exact (Ext.refl w).alloc _
  have HRB : Hid (OBk B w.heap.size 0 0 0 (.slice none 0 0) (.slice none 0 0)) := by rw [hB]; exact OBk.made w _ _ _ _ _
  rw [← hB]
  clear hB
  have q2 := HQ2.out B hE0
  have HQ2' : Hid _ := q2
  have x1 := cell_regrown (HSL.out B hE0)
  clear q2
  by_cases hs : Wir.sum c = s
  · have HPS : Hid (Wir.parse (c ++ [s]) = if isb k r = true then (if Wir.wrong (rdo k n0 n1 n2 v0 v1 r) ≠ 0 then (Wir.od0, Wir.wrong (rdo k n0 n1 n2 v0 v1 r)) else (rdo k n0 n1 n2 v0 v1 r, 0)) else (Wir.od0, 2)) := HPL.out.trans (if_pos hs)
    rw [hs] at HQ2'
    refine wp_region_quiet_below (by kernel_rfl) (by kernel_rfl) ?_
    repeat (go_big_quiet_step (with_reducible exact HQ2'.out _ _))
    refine wpQuiet_nil ?_
    intro _ hw'
    obtain ⟨⟨dq, oq⟩, hw''⟩ := hw'
    subst hw''
    have hEX : Ext B (grow (redrawn B dq) oq) := below_regrown B dq oq
    clear HQ2' x1
    generalize grow (redrawn B dq) oq = X at hEX ⊢
    have hEw := hE0.trans hEX
    clear HPL HQ2 HSL HC hs
    go_upto_region 4 with fail
    go_region_held3 (fun W => W.cell? ⟨g, off, none⟩ = some (.int .u8 (k : Int)) ∧ W.cell? ⟨g, off + 1, none⟩ = some (.int .u8 (n0 : Int)) ∧ W.cell? ⟨g, off + 2, none⟩ = some (.int .u8 (n1 : Int)) ∧ W.cell? ⟨g, off + 3, none⟩ = some (.int .u8 (n2 : Int)) ∧ W.cell? ⟨g, off + 4, none⟩ = some (.int .u8 (v0 : Int)) ∧ W.cell? ⟨g, off + 5, none⟩ = some (.int .u8 (v1 : Int)))
      (first | exact HS.out _ hEw.drew | exact HS.out _ (hEw.alloc _).drew)
      (fail)
    rw [wrap_small k (by omega) (by omega), wrap_small n0 (by omega) (by omega), wrap_small n1 (by omega) (by omega), wrap_small n2 (by omega) (by omega), wrap_small v0 (by omega) (by omega), wrap_small v1 (by omega) (by omega), wrap_small (65536 * (n0 : Int)) (by omega) (by omega), wrap_small (256 * (n1 : Int)) (by omega) (by omega), wrap_small (256 * (v0 : Int)) (by omega) (by omega), wrap_small (65536 * (n0 : Int) + 256 * (n1 : Int)) (by omega) (by omega), wrap_small (65536 * (n0 : Int) + 256 * (n1 : Int) + (n2 : Int)) (by omega) (by omega), wrap_small (256 * (v0 : Int) + (v1 : Int)) (by omega) (by omega)]
    obtain ⟨N, hN⟩ : ∃ N : Nat, N = 65536 * n0 + 256 * n1 + n2 := ⟨_, rfl⟩
    obtain ⟨V, hV⟩ : ∃ V : Nat, V = 256 * v0 + v1 := ⟨_, rfl⟩
    have eN : 65536 * (n0 : Int) + 256 * (n1 : Int) + (n2 : Int) = (N : Int) := by omega
    have eV : 256 * (v0 : Int) + (v1 : Int) = (V : Int) := by omega
    rw [eN, eV]
    have HO : Hid (rdo k n0 n1 n2 v0 v1 r = ⟨k, N, V, if k = 1 then Wir.prs V (r.drop 1) else [], if k = 2 then Wir.ints (r.drop 1) else []⟩) := by rw [hN, hV]; rfl
    clear hN hV eN eV HS
    obtain ⟨W1, hW1⟩ : ∃ W1, W1 = (X.alloc (.cells #[.int .i64 (k : Int), .int .i64 (N : Int), .int .i64 (V : Int), .slice none 0 0, .slice none 0 0] 25)).drew := ⟨_, rfl⟩
    have hE1 : Ext X W1 := by rw [hW1]; exact ((Ext.refl X).alloc _).drew
    have HB1 : Hid (OBk W1 X.heap.size k N V (.slice none 0 0) (.slice none 0 0)) := by rw [hW1]; exact OBk.made X _ _ _ _ _
    rw [← hW1]
    clear hW1
    obtain ⟨ob, hob⟩ : ∃ ob, ob = X.heap.size := ⟨_, rfl⟩
    rw [← hob] at HB1 ⊢
    have HOB : Hid (ob = X.heap.size) := hob
    clear hob
    obtain ⟨a0, a1, a2, a3, a4, f3, f4⟩ := HB1.out.cells
    go_upto_block 0 with fail
    go_cut [6] (fun _ wc => ∃ rv fv rs fs, OBk wc ob k N V rv fv ∧ RO wc (ob + 1) rv rs ∧ JO wc (ob + 1) fv fs ∧ rs.length ≤ 1000 ∧ fs.length ≤ 1000 ∧ Ext X wc ∧ Hid (isb k r = true ∧ rdo k n0 n1 n2 v0 v1 r = ⟨k, N, V, rs, fs⟩))
    case first =>
      by_cases hk1 : k = 1
      · subst hk1
        rcases Nat.eq_zero_or_pos r.length with hr0 | hr0
        · have hi : isb 1 r = false := by rw [isb, if_pos rfl]; exact decide_eq_false (by omega)
          have HP : Hid (Wir.parse (c ++ [s]) = (Wir.od0, 2)) := HPS.out.trans (by rw [hi]; simp)
          have l1 : (L : Int) < 7 := by have := HL.out; omega
          obtain ⟨p0, p1, p2, p3, p4, _, _⟩ := (OBk.ext HRB.out (hEX.trans hE1)).cells
          have HFZ : Hid _ := (OBk.ext HRB.out (hEX.trans hE1)).frz
          have z0 := HFZ.out 0
          have z1 := HFZ.out 1
          have z2 := HFZ.out 2
          have z3 := HFZ.out 3
          have z4 := HFZ.out 4
          clear HPS HO HT hi hr0
          go_wp2
          exact bodyPost_ret (v := .tuple #[.agg #[.int .i64 0, .int .i64 0, .int .i64 0, .slice none 0 0, .slice none 0 0], .int .i64 2]) (by simp [results, Try.results12, go_sem, p0, p1, p2, p3, p4]) rfl (pr_zero HP.out (set5_ext ((hE0.trans hEX).trans hE1) (Nat.le_refl _) _ _ _ _ _))
        · obtain ⟨cc, t, rfl⟩ : ∃ cc t, r = cc :: t := by
            cases r with
            | nil => simp at hr0
            | cons cc t => exact ⟨cc, t, rfl⟩
          have hc8 : cc < 256 := HR8.out cc List.mem_cons_self
          have l1 : ¬ (L : Int) < 7 := by have := HL.out; simp only [List.length_cons] at this; omega
          have l2 : (6 : Int) < (L : Int) + 1 := by omega
          have t6 := HT.out W1 (hEw.trans hE1) 0 (by simp)
          simp only [Nat.add_zero, List.getD_cons_zero] at t6
          have hLt : L = 7 + t.length := by have := HL.out; simp only [List.length_cons] at this; omega
          by_cases hct : t.length = 2 * cc
          · have hi : isb 1 (cc :: t) = true := by rw [isb, if_pos rfl]; exact decide_eq_true (by simp only [List.length_cons, List.getD_cons_zero]; omega)
            have l3 : ((L : Int) != 7 + 2 * (cc : Int)) = false := by simp; omega
            have HI : Hid (isb 1 (cc :: t) = true ∧ rdo 1 n0 n1 n2 v0 v1 (cc :: t) = ⟨((1 : Nat) : Int), (N : Int), (V : Int), Wir.prs V t, []⟩) := ⟨hi, HO.out⟩
            have HTT : Hid (∀ W, Ext X W → ∀ j, j < 2 * cc → W.cell? ⟨g, off + (7 + j), none⟩ = some (.int .u8 ((t.getD j 0 : Nat) : Int))) := fun W hW j hj => by
              have := HT.out W (hEw.trans hW) (1 + j) (by simp only [List.length_cons]; omega)
              rw [show 7 + j = 6 + (1 + j) by omega, this, Nat.add_comm 1 j, List.getD_cons_succ]
            have HR9 : Hid (∀ x ∈ t, x < 256) := fun x hx => HR8.out x (List.mem_cons_of_mem _ hx)
            have HLC : Hid (L = 7 + 2 * cc) := by show _ = _; omega
            have HCT : Hid (t.length = 2 * cc) := hct
            clear HPS HO HT hi hr0 hct hLt HR8 HL
            go_wp2
            go_loopw [6] (fun av wd => ∃ (j A : Nat) (rv : Value), j ≤ cc ∧ av = .int .i64 A ∧ Hid (A = 7 + 2 * j) ∧ Hid (OBk wd ob 1 N V rv (.slice none 0 0)) ∧ Hid (RO wd (ob + 1) rv (Wir.prs V (t.take (2 * j)))) ∧ Ext X wd) (fun av _ => L - (intOf av).toNat)
            case atStart => exact ⟨0, 7, _, Nat.zero_le _, rfl, rfl, HB1, RO.nil _ _, hE1⟩
            case round =>
              obtain ⟨j, A, rv, hj, rfl, HA, HBJ, HRJ, hEj⟩ := hrel
              clear a0 a1 a2 a3 a4 f3 f4 HB1 hE1 t6
              obtain ⟨a0, a1, a2, a3, a4, f3, f4⟩ := HBJ.out.cells
              have hobl := HBJ.out.lt
              have hgw : g < wr.heap.size := Nat.lt_of_lt_of_le hg (hEw.trans hEj).size
              by_cases hlt : j < cc
              · have j1 : (A : Int) < (L : Int) := by have := HA.out; have := HLC.out; omega
                have j2 : (A : Int) + 1 < (L : Int) + 1 := by omega
                have j2' : (A : Int) < (L : Int) + 1 := by omega
                have j2'' : (A : Int) + 1 < (L : Int) + 1 := by omega
                have t0 := HTT.out wr hEj (2 * j) (by omega)
                have t1 := HTT.out wr hEj (2 * j + 1) (by omega)
                rw [show 7 + 2 * j = A from HA.out.symm] at t0
                rw [show 7 + (2 * j + 1) = A + 1 by have := HA.out; omega] at t1
                have HSN : Hid _ := prs_snoc (V := V) (t := t) (j := j) (by have := HCT.out; omega)
                obtain ⟨f, hf⟩ : ∃ f, f = t.getD (2 * j) 0 := ⟨_, rfl⟩
                obtain ⟨nx, hnx⟩ : ∃ nx, nx = t.getD (2 * j + 1) 0 := ⟨_, rfl⟩
                rw [← hf] at t0 HSN
                rw [← hnx] at t1 HSN
                have hpl : (Wir.prs V (t.take (2 * j))).length = j := prs_le j (by rw [List.length_take]; have := HCT.out; omega)
                have HFE : Hid (f = t.getD (2 * j) 0) := hf
                have HNE : Hid (nx = t.getD (2 * j + 1) 0) := hnx
                have hf8 : f < 256 := by rw [hf]; exact getD_lt HR9.out _
                have hn8 : nx < 256 := by rw [hnx]; exact getD_lt HR9.out _
                clear hf hnx
                have hA1 : A + 1 < 2147483648 := by have := HA.out; omega
                have hwA : IntKind.i64.wrap ((A : Int) + 1) = (A : Int) + 1 := wrap_small _ (by omega) (by omega)
                have j3 : (0 : Int) ≤ (A : Int) + 1 := by omega
                have hwf : IntKind.i64.wrap (f : Int) = (f : Int) := wrap_small _ (by omega) (by omega)
                have hwn : IntKind.i64.wrap (nx : Int) = (nx : Int) := wrap_small _ (by omega) (by omega)
                have HOBJ : Hid (RO (wr.alloc (.cells #[.int .i64 (V : Int), .int .i64 (f : Int), .int .i64 (nx : Int)] 48)) (ob + 1) rv (Wir.prs V (t.take (2 * j)))) := HRJ.out.ext ((Ext.refl wr).alloc _)
                have hne : some ob ≠ rv.ownBlock := fun e => by have := (HRJ.out.block ob e.symm).1; omega
                go_wp2
                refine Last.LH.start (m := 19) (S := fun W => W.cell? ⟨ob, 3, none⟩ = some rv ∧ W.cell? ⟨ob, 2, none⟩ = some (.int .i64 (V : Int)) ∧ W.cell? ⟨g, off + A, none⟩ = some (.int .u8 (f : Int)) ∧ W.cell? ⟨g, off + (A + 1), none⟩ = some (.int .u8 (nx : Int))) (by kernel_rfl) ?_
                have HSX : Hid (∀ W, Ext wr W → W.cell? ⟨ob, 3, none⟩ = some rv ∧ W.cell? ⟨ob, 2, none⟩ = some (.int .i64 (V : Int)) ∧ W.cell? ⟨g, off + A, none⟩ = some (.int .u8 (f : Int)) ∧ W.cell? ⟨g, off + (A + 1), none⟩ = some (.int .u8 (nx : Int))) := fun W hW => ⟨(hW.cells.1 _ _ hobl).trans a3, (hW.cells.1 _ _ hobl).trans a2, (hW.cells.1 _ _ hgw).trans t0, (hW.cells.1 _ _ hgw).trans t1⟩
                have hHeld : (fun W : World => W.cell? ⟨ob, 3, none⟩ = some rv ∧ W.cell? ⟨ob, 2, none⟩ = some (.int .i64 (V : Int)) ∧ W.cell? ⟨g, off + A, none⟩ = some (.int .u8 (f : Int)) ∧ W.cell? ⟨g, off + (A + 1), none⟩ = some (.int .u8 (nx : Int))) wr.drew := ⟨a3, a2, t0, t1⟩
                refine Last.LH.take (i := 0) (v := ?v0) rfl (by kernel_rfl) (by kernel_rfl) (by kernel_rfl) (by kernel_rfl) (fun _ _ _ h => h) (by rfl) ?hy0 hHeld ?rest0
                case hy0 => intro W hSW; (try dsimp only at hSW); go_simp; with_reducible rfl
                refine Last.LH.take (i := 1) (v := ?v1) rfl (by kernel_rfl) (by kernel_rfl) (by kernel_rfl) (by kernel_rfl) (fun _ _ _ h => h) (by rfl) ?hy1 hHeld ?rest1
                case hy1 => intro W hSW; (try dsimp only at hSW); go_simp; with_reducible rfl
                refine Last.LH.take (i := 2) (v := ?v2) rfl (by kernel_rfl) (by kernel_rfl) (by kernel_rfl) (by kernel_rfl) (fun _ _ _ h => h) (by rfl) ?hy2 hHeld ?rest2
                case hy2 => intro W hSW; (try dsimp only at hSW); go_simp; with_reducible rfl
                refine Last.LH.take (i := 3) (v := ?v3) rfl (by kernel_rfl) (by kernel_rfl) (by kernel_rfl) (by kernel_rfl) (fun _ _ _ h => h) (by rfl) ?hy3 hHeld ?rest3
                case hy3 => intro W hSW; (try dsimp only at hSW); go_simp; with_reducible rfl
                refine Last.LH.take (i := 4) (v := ?v4) rfl (by kernel_rfl) (by kernel_rfl) (by kernel_rfl) (by kernel_rfl) (fun _ _ _ h => h) (by rfl) ?hy4 hHeld ?rest4
                case hy4 => intro W hSW; (try dsimp only at hSW); go_simp; with_reducible rfl
                refine Last.LH.take (i := 5) (v := ?v5) rfl (by kernel_rfl) (by kernel_rfl) (by kernel_rfl) (by kernel_rfl) (fun _ _ _ h => h) (by rfl) ?hy5 hHeld ?rest5
                case hy5 => intro W hSW; (try dsimp only at hSW); go_simp; with_reducible rfl
                refine Last.LH.take (i := 6) (v := ?v6) rfl (by kernel_rfl) (by kernel_rfl) (by kernel_rfl) (by kernel_rfl) (fun _ _ _ h => h) (by rfl) ?hy6 hHeld ?rest6
                case hy6 => intro W hSW; (try dsimp only at hSW); go_simp; with_reducible rfl
                refine Last.LH.take (i := 7) (v := ?v7) rfl (by kernel_rfl) (by kernel_rfl) (by kernel_rfl) (by kernel_rfl) (fun _ _ _ h => h) (by rfl) ?hy7 hHeld ?rest7
                case hy7 => intro W hSW; (try dsimp only at hSW); go_simp; with_reducible rfl
                refine Last.LH.take (i := 8) (v := ?v8) rfl (by kernel_rfl) (by kernel_rfl) (by kernel_rfl) (by kernel_rfl) (fun _ _ _ h => h) (by rfl) ?hy8 hHeld ?rest8
                case hy8 => intro W hSW; (try dsimp only at hSW); go_simp; with_reducible rfl
                refine Last.LH.take (i := 9) (v := ?v9) rfl (by kernel_rfl) (by kernel_rfl) (by kernel_rfl) (by kernel_rfl) (fun _ _ _ h => h) (by rfl) ?hy9 hHeld ?rest9
                case hy9 => intro W hSW; (try dsimp only at hSW); go_simp; with_reducible rfl
                refine Last.LH.take (i := 10) (v := ?v10) rfl (by kernel_rfl) (by kernel_rfl) (by kernel_rfl) (by kernel_rfl) (fun _ _ _ h => h) (by rfl) ?hy10 hHeld ?rest10
                case hy10 => intro W hSW; (try dsimp only at hSW); go_simp; with_reducible rfl
                refine Last.LH.take (i := 11) (v := ?v11) rfl (by kernel_rfl) (by kernel_rfl) (by kernel_rfl) (by kernel_rfl) (fun _ _ _ h => h) (by rfl) ?hy11 hHeld ?rest11
                case hy11 => intro W hSW; (try dsimp only at hSW); go_simp; with_reducible rfl
                refine Last.LH.take (i := 12) (v := ?v12) rfl (by kernel_rfl) (by kernel_rfl) (by kernel_rfl) (by kernel_rfl) (fun _ _ _ h => h) (by rfl) ?hy12 hHeld ?rest12
                case hy12 => intro W hSW; (try dsimp only at hSW); go_simp; with_reducible rfl
                refine Last.LH.take (i := 13) (v := ?v13) rfl (by kernel_rfl) (by kernel_rfl) (by kernel_rfl) (by kernel_rfl) (fun _ _ _ h => h) (by rfl) ?hy13 hHeld ?rest13
                case hy13 => intro W hSW; (try dsimp only at hSW); go_simp; with_reducible rfl
                refine Last.LH.take (i := 14) (v := ?v14) rfl (by kernel_rfl) (by kernel_rfl) (by kernel_rfl) (by kernel_rfl) (fun _ _ _ h => h) (by rfl) ?hy14 hHeld ?rest14
                case hy14 => intro W hSW; (try dsimp only at hSW); go_simp; with_reducible rfl
                refine Last.LH.take (i := 15) (v := ?v15) rfl (by kernel_rfl) (by kernel_rfl) (by kernel_rfl) (by kernel_rfl) (fun _ _ _ h => h) (by rfl) ?hy15 hHeld ?rest15
                case hy15 => intro W hSW; (try dsimp only at hSW); go_simp; with_reducible rfl
                refine Last.LH.one (i := 16) (by kernel_rfl) rfl (fun K hK => ?_)
                go_simp
                refine hK _ _ (fun _ => HSX.out _ ((Ext.refl wr).alloc _).drew) ?_
                clear hK K
                refine Last.LH.one (i := 17) (by kernel_rfl) rfl (fun K hK => ?_)
                refine step_rule (m := j + 1) (v := rv) (bo := some ⟨wr.heap.size, 0, none⟩) (lb := 1) (cb := 1) (base := ob + 1) (rs := Wir.prs V (t.take (2 * j))) (rb := [((V : Int), (f : Int), (nx : Int))]) rfl (.tmp 84) (.tmp 99) rfl rfl rfl ?_ ?_ ?_ ?_ ?_ ?_
                · with_reducible exact HOBJ.out.ext (Ext.refl _).drew
                · with_reducible exact (one_rule wr _ _ _).ext (Ext.refl _).drew
                · simp; omega
                · omega
                · simp [hpl]
                intro so5 sc5 w5 hO5 hg5
                have hB5 : OBk w5 ob 1 N V rv (.slice none 0 0) := OBk.grown (HBJ.out.ext ((Ext.refl wr).alloc _).drew) hg5 hne
                have hE5 : Ext X w5 := Below.grown ((hEj.alloc _).drew) hg5 (by simp; have := hEj.size; omega) (fun i hi => by have := (HRJ.out.block i hi).1; have := HOB.out; omega)
                have HB5 : Hid _ := hB5
                have HO5 : Hid _ := hO5
                obtain ⟨_, _, d2, d3, _, e3, _⟩ := hB5.cells
                have u0 := HTT.out w5 hE5 (2 * j) (by omega)
                have u1 := HTT.out w5 hE5 (2 * j + 1) (by omega)
                rw [show 7 + 2 * j = A from HA.out.symm, ← HFE.out] at u0
                rw [show 7 + (2 * j + 1) = A + 1 by have := HA.out; omega, ← HNE.out] at u1
                refine hK _ _ (fun _ => ⟨d3, d2, u0, u1⟩) ?_
                clear hK K hB5 hO5 hg5
                refine Last.LH.take (i := 18) (v := ?v18) rfl (by kernel_rfl) (by kernel_rfl) (by kernel_rfl) (by kernel_rfl) (fun _ _ _ h => h) (by rfl) ?hy18 ⟨d3, d2, u0, u1⟩ ?rest18
                case hy18 => intro W hSW; (try dsimp only at hSW); go_simp; with_reducible rfl
                refine Last.LH.one (i := 19) (by kernel_rfl) rfl (fun K hK => ?_)
                go_simp
                refine hK _ _ (fun h => absurd rfl h) ?_
                clear hK K
                refine Last.LH.done (by kernel_rfl) ?_
                have HO6 : Hid (RO (w5.setCell ⟨ob, 3, none⟩ (.slice so5 (j + 1) sc5)) (ob + 1) (.slice so5 (j + 1) sc5) (Wir.prs V (t.take (2 * (j + 1))))) := by
                  show RO _ _ _ _
                  rw [HSN.out]
                  exact RO.set HO5.out (Nat.lt_succ_self _) _
                have HB6 : Hid (OBk (w5.setCell ⟨ob, 3, none⟩ (.slice so5 (j + 1) sc5)) ob 1 N V (.slice so5 (j + 1) sc5) (.slice none 0 0)) := OBk.set3 HB5.out _
                have hE6 : Ext X (w5.setCell ⟨ob, 3, none⟩ (.slice so5 (j + 1) sc5)) := hE5.setCell (by rw [← HOB.out]; exact Nat.le_refl _) _
                go_wp2
                exact ⟨⟨j + 1, A + 2, _, by omega, by go_num, (by have := HA.out; show A + 2 = _; omega), HB6, HO6, hE6⟩, by simp [intOf]; omega⟩
              · have hjc : j = cc := by omega
                have j1 : ¬ (A : Int) < (L : Int) := by have := HA.out; have := HLC.out; omega
                subst hjc
                have hRJ := HRJ.out
                rw [List.take_of_length_le (by have := HCT.out; omega)] at hRJ
                have HRF : Hid (RO wr (ob + 1) rv (Wir.prs V t)) := hRJ
                clear HRJ hRJ
                go_wp2_with fail
                go_meet
                case rel => exact ⟨rv, _, _, [], HBJ.out, HRF.out, JO.nil _ _, by rw [prs_le j HCT.out]; omega, by simp, hEj, HI⟩
          · have hi : isb 1 (cc :: t) = false := by rw [isb, if_pos rfl]; exact decide_eq_false (by simp only [List.length_cons, List.getD_cons_zero]; omega)
            have l3 : ((L : Int) != 7 + 2 * (cc : Int)) = true := by simp; omega
            have HP : Hid (Wir.parse (c ++ [s]) = (Wir.od0, 2)) := HPS.out.trans (by rw [hi]; simp)
            obtain ⟨p0, p1, p2, p3, p4, _, _⟩ := (OBk.ext HRB.out (hEX.trans hE1)).cells
            have HFZ : Hid _ := (OBk.ext HRB.out (hEX.trans hE1)).frz
            have z0 := HFZ.out 0
            have z1 := HFZ.out 1
            have z2 := HFZ.out 2
            have z3 := HFZ.out 3
            have z4 := HFZ.out 4
            clear HPS HO HT hi hr0 hct hLt
            go_wp2
            exact bodyPost_ret (v := .tuple #[.agg #[.int .i64 0, .int .i64 0, .int .i64 0, .slice none 0 0, .slice none 0 0], .int .i64 2]) (by simp [results, Try.results12, go_sem, p0, p1, p2, p3, p4]) rfl (pr_zero HP.out (set5_ext ((hE0.trans hEX).trans hE1) (Nat.le_refl _) _ _ _ _ _))
      · by_cases hk2 : k = 2
        · subst hk2
          rcases Nat.eq_zero_or_pos r.length with hr0 | hr0
          · have hi : isb 2 r = false := by rw [isb, if_neg (by decide), if_pos rfl]; exact decide_eq_false (by omega)
            have HP : Hid (Wir.parse (c ++ [s]) = (Wir.od0, 2)) := HPS.out.trans (by rw [hi]; simp)
            have l1 : (L : Int) < 7 := by have := HL.out; omega
            obtain ⟨p0, p1, p2, p3, p4, _, _⟩ := (OBk.ext HRB.out (hEX.trans hE1)).cells
            have HFZ : Hid _ := (OBk.ext HRB.out (hEX.trans hE1)).frz
            have z0 := HFZ.out 0
            have z1 := HFZ.out 1
            have z2 := HFZ.out 2
            have z3 := HFZ.out 3
            have z4 := HFZ.out 4
            clear HPS HO HT hi hr0 hk1
            go_wp2
            exact bodyPost_ret (v := .tuple #[.agg #[.int .i64 0, .int .i64 0, .int .i64 0, .slice none 0 0, .slice none 0 0], .int .i64 2]) (by simp [results, Try.results12, go_sem, p0, p1, p2, p3, p4]) rfl (pr_zero HP.out (set5_ext ((hE0.trans hEX).trans hE1) (Nat.le_refl _) _ _ _ _ _))
          · obtain ⟨cc, t, rfl⟩ : ∃ cc t, r = cc :: t := by
              cases r with
              | nil => simp at hr0
              | cons cc t => exact ⟨cc, t, rfl⟩
            have hc8 : cc < 256 := HR8.out cc List.mem_cons_self
            have l1 : ¬ (L : Int) < 7 := by have := HL.out; simp only [List.length_cons] at this; omega
            have l2 : (6 : Int) < (L : Int) + 1 := by omega
            have t6 := HT.out W1 (hEw.trans hE1) 0 (by simp)
            simp only [Nat.add_zero, List.getD_cons_zero] at t6
            have hLt : L = 7 + t.length := by have := HL.out; simp only [List.length_cons] at this; omega
            by_cases hct : t.length = cc
            · have hi : isb 2 (cc :: t) = true := by rw [isb, if_neg (by decide), if_pos rfl]; exact decide_eq_true (by simp only [List.length_cons, List.getD_cons_zero]; omega)
              have HI : Hid (isb 2 (cc :: t) = true ∧ rdo 2 n0 n1 n2 v0 v1 (cc :: t) = ⟨((2 : Nat) : Int), (N : Int), (V : Int), [], Wir.ints t⟩) := ⟨hi, HO.out⟩
              have HTT : Hid (∀ W, Ext X W → ∀ j, j < cc → W.cell? ⟨g, off + 7 + j, none⟩ = some (.int .u8 ((t.getD j 0 : Nat) : Int))) := fun W hW j hj => by
                have := HT.out W (hEw.trans hW) (1 + j) (by simp only [List.length_cons]; omega)
                rw [show off + 7 + j = off + (6 + (1 + j)) by omega, this, Nat.add_comm 1 j, List.getD_cons_succ]
              have HR9 : Hid (∀ x ∈ t, x < 256) := fun x hx => HR8.out x (List.mem_cons_of_mem _ hx)
              have HCT : Hid (t.length = cc) := hct
              have hLc : L = 7 + cc := by omega
              clear HPS HO HT hi hr0 hct hLt HR8 HL hk1
              subst hLc
              have l4 : (7 : Int) < (cap : Int) := by omega
              have l5 : (7 : Int) ≤ 7 + (cc : Int) := by omega
              obtain ⟨i8, hi8, hy0, hy1, hy2⟩ := infoI'
              go_wp2
              go_loopw [120] (fun iv wd => ∃ (j : Nat) (fv : Value), j ≤ cc ∧ iv = .int .i64 j ∧ Hid (OBk wd ob 2 N V (.slice none 0 0) fv) ∧ Hid (JO wd (ob + 1) fv (Wir.ints (t.take j))) ∧ Ext X wd) (fun iv _ => cc - (intOf iv).toNat)
              case atStart => exact ⟨0, _, Nat.zero_le _, rfl, HB1, JO.nil _ _, hE1⟩
              case round =>
                obtain ⟨j, fv, hj, rfl, HBJ, HIJ, hEj⟩ := hrel
                clear a0 a1 a2 a3 a4 f3 f4 HB1 hE1 t6
                obtain ⟨a0, a1, a2, a3, a4, f3, f4⟩ := HBJ.out.cells
                have hobl := HBJ.out.lt
                by_cases hlt : j < cc
                · have j1 : (j : Int) < (cc : Int) := by omega
                  have t0 := HTT.out wr hEj j hlt
                  have HSN : Hid _ := ints_snoc (t := t) (j := j) (by have := HCT.out; omega)
                  have hf8 := getD_lt HR9.out j
                  obtain ⟨f, hf⟩ : ∃ f, f = t.getD j 0 := ⟨_, rfl⟩
                  rw [← hf] at t0 HSN hf8
                  clear hf
                  have hil : (Wir.ints (t.take j)).length = j := by rw [Wir.ints, List.length_map, List.length_take]; have := HCT.out; omega
                  have hne : some ob ≠ fv.ownBlock := fun e => by have := (HIJ.out.block ob e.symm).1; omega
                  have hOJ := JO.ext HIJ.out ((Ext.refl wr).alloc (.cells #[.int .i64 (f : Int)] 3))
                  unfold JO at hOJ
                  rw [hil] at hOJ
                  go_wp2_with (first | (at_builtin; refine wpList_append_own _ rfl _ _ 23 rfl (ob + 1) 3 i8 (.int .i64 0) 1 8 Try.underlying23 hi8 hy0 hy1 hy2 rfl (by decide) _ _ _ rfl hOJ ⟨wr.heap.size, 0, none⟩ 1 1 [.int .i64 (f : Int)] rfl rfl (by exact cells1n rfl _ _) (by intro u hu; simp only [List.mem_cons, List.not_mem_nil, or_false] at hu; subst hu; rfl) (by unfold maxLen; omega) (by omega) (by simp; omega) ?_) | go_in)
                  intro v5 w5 hown5 hg5 _
                  have hB5 : OBk w5 ob 2 N V (.slice none 0 0) fv := OBk.grown (HBJ.out.ext ((Ext.refl wr).alloc _)) hg5 hne
                  have hE5 : Ext X w5 := Below.grown (hEj.alloc _) hg5 (by simp; have := hEj.size; omega) (fun i hi => by have := (HIJ.out.block i hi).1; have := HOB.out; omega)
                  have hO5 : JO w5 (ob + 1) v5 (Wir.ints (t.take (j + 1))) := by
                    rw [HSN.out]
                    unfold JO
                    rw [List.map_append, List.length_append, hil]
                    exact hown5
                  have HB5 : Hid _ := hB5
                  have HO5 : Hid (JO w5 (ob + 1) v5 (Wir.ints (t.take (j + 1)))) := hO5
                  obtain ⟨_, _, _, _, d4, _, e4⟩ := hB5.cells
                  have hobl5 := hB5.lt
                  obtain ⟨fo5, fc5, rfl, _⟩ := JO.form hO5
                  clear hown5 hg5 hOJ hO5 hB5
                  go_wp2
                  exact ⟨⟨j + 1, _, by omega, by go_num, OBk.set4 HB5.out _, JO.set HO5.out (Nat.lt_succ_self _) _, hE5.setCell (by rw [← HOB.out]; exact Nat.le_refl _) _⟩, by simp [intOf]; omega⟩
                · have hjc : j = cc := by omega
                  have j1 : ¬ (j : Int) < (cc : Int) := by omega
                  subst hjc
                  have hIJ := HIJ.out
                  rw [List.take_of_length_le (by have := HCT.out; omega)] at hIJ
                  have HIF : Hid (JO wr (ob + 1) fv (Wir.ints t)) := hIJ
                  clear HIJ hIJ
                  go_wp2_with fail
                  go_meet
                  case rel => exact ⟨_, fv, [], _, HBJ.out, RO.nil _ _, HIF.out, by simp, by rw [Wir.ints, List.length_map]; have := HCT.out; omega, hEj, HI⟩
            · have hi : isb 2 (cc :: t) = false := by rw [isb, if_neg (by decide), if_pos rfl]; exact decide_eq_false (by simp only [List.length_cons, List.getD_cons_zero]; omega)
              have l3 : ((L : Int) != 7 + (cc : Int)) = true := by simp; omega
              have HP : Hid (Wir.parse (c ++ [s]) = (Wir.od0, 2)) := HPS.out.trans (by rw [hi]; simp)
              obtain ⟨p0, p1, p2, p3, p4, _, _⟩ := (OBk.ext HRB.out (hEX.trans hE1)).cells
              have HFZ : Hid _ := (OBk.ext HRB.out (hEX.trans hE1)).frz
              have z0 := HFZ.out 0
              have z1 := HFZ.out 1
              have z2 := HFZ.out 2
              have z3 := HFZ.out 3
              have z4 := HFZ.out 4
              clear HPS HO HT hi hr0 hct hLt hk1
              go_wp2
              exact bodyPost_ret (v := .tuple #[.agg #[.int .i64 0, .int .i64 0, .int .i64 0, .slice none 0 0, .slice none 0 0], .int .i64 2]) (by simp [results, Try.results12, go_sem, p0, p1, p2, p3, p4]) rfl (pr_zero HP.out (set5_ext ((hE0.trans hEX).trans hE1) (Nat.le_refl _) _ _ _ _ _))
        · have b1 : ((k : Int) == 1) = false := by simp; omega
          have b2 : ((k : Int) == 2) = false := by simp; omega
          by_cases hr0 : r.length = 0
          · have hi : isb k r = true := by rw [isb, if_neg hk1, if_neg hk2]; exact decide_eq_true hr0
            have HI : Hid (isb k r = true ∧ rdo k n0 n1 n2 v0 v1 r = ⟨(k : Int), (N : Int), (V : Int), [], []⟩) := ⟨hi, HO.out.trans (by rw [if_neg hk1, if_neg hk2])⟩
            have hL6 : L = 6 := by have := HL.out; omega
            clear HPS HO HT hi hr0 hk1 hk2 HL
            subst hL6
            go_wp2_with fail
            go_meet
            case rel => exact ⟨_, _, [], [], HB1.out, RO.nil _ _, JO.nil _ _, by simp, by simp, hE1, HI⟩
          · have hi : isb k r = false := by rw [isb, if_neg hk1, if_neg hk2]; exact decide_eq_false hr0
            have l3 : ((L : Int) != 6) = true := by have := HL.out; simp; omega
            have HP : Hid (Wir.parse (c ++ [s]) = (Wir.od0, 2)) := HPS.out.trans (by rw [hi]; simp)
            obtain ⟨p0, p1, p2, p3, p4, _, _⟩ := (OBk.ext HRB.out (hEX.trans hE1)).cells
            have HFZ : Hid _ := (OBk.ext HRB.out (hEX.trans hE1)).frz
            have z0 := HFZ.out 0
            have z1 := HFZ.out 1
            have z2 := HFZ.out 2
            have z3 := HFZ.out 3
            have z4 := HFZ.out 4
            clear HPS HO HT hi hr0 hk1 hk2
            go_wp2
            exact bodyPost_ret (v := .tuple #[.agg #[.int .i64 0, .int .i64 0, .int .i64 0, .slice none 0 0, .slice none 0 0], .int .i64 2]) (by simp [results, Try.results12, go_sem, p0, p1, p2, p3, p4]) rfl (pr_zero HP.out (set5_ext ((hE0.trans hEX).trans hE1) (Nat.le_refl _) _ _ _ _ _))
    case rest =>
      obtain ⟨rv, fv, rs, fs, hOB, hrv, hfv, hl1, hl2, hE2, HI⟩ := hcut
      have hPS : Wir.parse (c ++ [s]) = if Wir.wrong ⟨k, N, V, rs, fs⟩ ≠ 0 then (Wir.od0, Wir.wrong ⟨k, N, V, rs, fs⟩) else (⟨k, N, V, rs, fs⟩, 0) := HPS.out.trans (by rw [if_pos HI.out.1, HI.out.2])
      obtain ⟨o, ho⟩ : ∃ o : Wir.Od, o = ⟨k, N, V, rs, fs⟩ := ⟨_, rfl⟩
      rw [← ho] at hPS
      have HPZ : Hid _ := hPS
      clear hPS HPS HO HT HI HR8 HL
      obtain ⟨ro, rc, rfl, hra, _⟩ := RO.form hrv
      obtain ⟨fo, fc, rfl, hfa, _⟩ := JO.form hfv
      have hk64 : I64 (k : Int) := i64_small (by omega) (by omega)
      have hOA : OAt wc o ro fo := by rw [ho]; exact ⟨hra, hfa, hk64, by show rs.length ≤ _; omega, by show fs.length ≤ _; omega⟩
      have HOA : Hid _ := hOA
      have HW : Hid _ := refWrong_any o ro fo rc fc
      obtain ⟨x, hx⟩ : ∃ x, x = Wir.wrong o := ⟨_, rfl⟩
      rw [← hx] at HW HPZ
      clear hx hOA hra hfa
      subst ho
      unfold ovl at HW
      have HRV : Hid (RO wc (ob + 1) (.slice ro rs.length rc) rs) := hrv
      have HFV : Hid (JO wc (ob + 1) (.slice fo fs.length fc) fs) := hfv
      have HBX : Hid _ := hOB
      have HLL : Hid (rs.length ≤ 1000 ∧ fs.length ≤ 1000) := ⟨hl1, hl2⟩
      clear a0 a1 a2 a3 a4 f3 f4 HB1 hE1
      obtain ⟨a0, a1, a2, a3, a4, f3, f4⟩ := hOB.cells
      clear hrv hfv hOB
      have hEc := hEX.trans hE2
      go_wp2_with fail
      refine (HW.out _ HOA.out).mono ?_
      rintro e w4 ⟨rfl, E4⟩
      have hE4 := hEc.trans E4
      obtain ⟨p0, p1, p2, p3, p4, _, _⟩ := (OBk.ext HRB.out hE4).cells
      have HFZ : Hid _ := (OBk.ext HRB.out hE4).frz
      have z0 := HFZ.out 0
      have z1 := HFZ.out 1
      have z2 := HFZ.out 2
      have z3 := HFZ.out 3
      have z4 := HFZ.out 4
      have hw0 : w.heap.size < ob := by have := HOB.out; have := HRB.out.lt; have := hEX.size; omega
      clear a0 a1 a2 a3 a4 f3 f4
      obtain ⟨a0, a1, a2, a3, a4, f3, f4⟩ := (OBk.ext HBX.out E4).cells
      by_cases hx0 : x = 0
      · subst hx0
        have HP : Hid (Wir.parse (c ++ [s]) = (⟨(k : Int), (N : Int), (V : Int), rs, fs⟩, 0)) := HPZ.out.trans (if_neg (by simp))
        obtain ⟨ro', fo', rc', fc', e1, e2, hOF⟩ := order_done (b := w.heap.size) (k := (k : Int)) (n := (N : Int)) (v := (V : Int)) (RO.ext HRV.out E4) (JO.ext HFV.out E4) (by omega) hk64 HLL.out.1 HLL.out.2
        cases e1
        cases e2
        clear HPZ
        go_wp2
        exact bodyPost_ret (v := .tuple #[.agg #[.int .i64 (k : Int), .int .i64 (N : Int), .int .i64 (V : Int), .slice ro rs.length rc, .slice fo fs.length fc], .int .i64 0]) (by simp [results, Try.results12, go_sem, p0, p1, p2, p3, p4]) rfl (pr_some HP.out hOF (set5_ext (hE0.trans hE4) (Nat.le_refl _) _ _ _ _ _))
      · have HP : Hid (Wir.parse (c ++ [s]) = (Wir.od0, x)) := HPZ.out.trans (if_pos hx0)
        have hx1 : (x != 0) = true := by simpa using hx0
        clear HPZ hx0
        go_wp2
        exact bodyPost_ret (v := .tuple #[.agg #[.int .i64 0, .int .i64 0, .int .i64 0, .slice none 0 0, .slice none 0 0], .int .i64 x]) (by simp [results, Try.results12, go_sem, p0, p1, p2, p3, p4]) rfl (pr_zero HP.out (set5_ext (hE0.trans hE4) (Nat.le_refl _) _ _ _ _ _))
  · have HP : Hid (Wir.parse (c ++ [s]) = (Wir.od0, 2)) := HPL.out.trans (if_neg hs)
    have hne : (((Wir.sum c : Nat) : Int) != (s : Int)) = true := by simp; omega
    obtain ⟨sc, hsc⟩ : ∃ sc, sc = Wir.sum c := ⟨_, rfl⟩
    rw [← hsc] at HQ2' hne
    clear hs hsc
    refine wp_region_quiet_below (by kernel_rfl) (by kernel_rfl) ?_
    repeat (go_big_quiet_step (with_reducible exact HQ2'.out _ _))
    refine wpQuiet_nil ?_
    intro _ hw'
    obtain ⟨⟨dq, oq⟩, hw''⟩ := hw'
    subst hw''
    have hEX : Ext B (grow (redrawn B dq) oq) := below_regrown B dq oq
    clear HQ2' x1
    generalize grow (redrawn B dq) oq = X at hEX ⊢
    obtain ⟨p0, p1, p2, p3, p4, _, _⟩ := (OBk.ext HRB.out hEX).cells
    have HFZ : Hid _ := (OBk.ext HRB.out hEX).frz
    have z0 := HFZ.out 0
    have z1 := HFZ.out 1
    have z2 := HFZ.out 2
    have z3 := HFZ.out 3
    have z4 := HFZ.out 4
    go_wp2
    exact bodyPost_ret (v := .tuple #[.agg #[.int .i64 0, .int .i64 0, .int .i64 0, .slice none 0 0, .slice none 0 0], .int .i64 2]) (by simp [results, Try.results12, go_sem, p0, p1, p2, p3, p4]) rfl (pr_zero HP.out (set5_ext (hE0.trans hEX) (Nat.le_refl _) _ _ _ _ _))

/-- What the document's Parse answers. -/
theorem refParse_any (ao : Option Addr) (len cap : Nat) (bs : List Nat) (w : World) (hlen : bs.length = len) (hat : ByAt w ao bs) (hb : ∀ x ∈ bs, x < 256) (hl : len ≤ 4611686018427387800) (hcap : len ≤ cap) (hcm : cap ≤ 9223372036854775807) :
    Calls Try.prog 12 #[.slice ao len cap] w fun e w' => PrOut w (Wir.parse bs) e w' := by
  by_cases h7 : len < 7
  · exact refParse_short ao len cap bs w hlen h7
  · obtain ⟨k, n0, n1, n2, v0, v1, t, rfl⟩ : ∃ k n0 n1 n2 v0 v1 t, bs = k :: n0 :: n1 :: n2 :: v0 :: v1 :: t := by
      match bs, hlen with
      | k :: n0 :: n1 :: n2 :: v0 :: v1 :: t, _ => exact ⟨k, n0, n1, n2, v0, v1, t, rfl⟩
      | [], h => simp at h; omega
      | [_], h => simp at h; omega
      | [_, _], h => simp at h; omega
      | [_, _, _], h => simp at h; omega
      | [_, _, _, _], h => simp at h; omega
      | [_, _, _, _, _], h => simp at h; omega
    have ht : t ≠ [] := fun h => by subst h; simp at hlen; omega
    obtain ⟨r, s, rfl⟩ : ∃ r s, t = r ++ [s] := ⟨t.dropLast, t.getLast ht, (List.dropLast_concat_getLast ht).symm⟩
    obtain ⟨g, off, rfl, hg, hcs⟩ := hat.get (by simp)
    have hl2 : 6 + r.length + 1 = len := by simp at hlen; omega
    subst hl2
    exact refParse_long g off (6 + r.length) cap k n0 n1 n2 v0 v1 s r w rfl (by omega) hcap hcm hg hcs hb

end Go.Proofs.Ytiepbdgjhfkcead.Wi
