/- What the document's own Wrong and Cost answer, for every net; nothing that was there is changed. -/
import Derived.Test.YtgffkjjddhlbpaaW4
namespace Go.Proofs.Ytgffkjjddhlbpaa
open Go.RowKit Go.Maps Stw

theorem hid {p : Prop} (h : p) : Hid p := h

set_option maxHeartbeats 400000 in
theorem bad_any (e i : Int) (b : Nat) (w : World) (hb : b < w.heap.size) (hc : w.cell? ⟨b, 0, none⟩ = some (.int .i64 i)) :
    Calls Try.prog 58 #[.int .i64 e, .pointer (some ⟨b, 0, none⟩)] w fun r w' => r = .returned (.agg #[.int .i64 e, .int .i64 i]) ∧ Ext w w' := by
  go_enter Try.func58, Try.ntmps58
  go_wp2
  exact bodyPost_ret (v := .agg #[.int .i64 e, .int .i64 i]) (by simp [results, Try.results58, go_sem]) rfl ⟨rfl, (Ext.refl w).alloc _⟩

set_option maxHeartbeats 1000000 in
theorem refWrong_many (n : Int) (ao : Option Addr) (len cap : Nat) (w : World) (hm : many n len = true) (hl : len ≤ 9223372036854775807) :
    Calls Try.prog 37 #[.agg #[.int .i64 n, .slice ao len cap]] w fun e w' => e = .returned (.agg #[.int .i64 5, .int .i64 0]) ∧ Ext w w' := by
  simp only [many, decide_eq_true_eq] at hm
  by_cases h1 : n < 1
  · clear hm
    go_enter Try.func37, Try.ntmps37
    go_wp2
    exact bodyPost_ret (v := .agg #[.int .i64 5, .int .i64 0]) (by simp [results, Try.results37, go_sem]) rfl ⟨rfl, ((Ext.refl w).alloc _).alloc _⟩
  · by_cases h2 : 8 < n
    · clear hm
      go_enter Try.func37, Try.ntmps37
      go_wp2
      exact bodyPost_ret (v := .agg #[.int .i64 5, .int .i64 0]) (by simp [results, Try.results37, go_sem]) rfl ⟨rfl, ((Ext.refl w).alloc _).alloc _⟩
    · have h3 : (28 : Int) < (len : Int) := by omega
      clear hm
      go_enter Try.func37, Try.ntmps37
      go_wp2
      exact bodyPost_ret (v := .agg #[.int .i64 5, .int .i64 0]) (by simp [results, Try.results37, go_sem]) rfl ⟨rfl, ((Ext.refl w).alloc _).alloc _⟩

set_option maxHeartbeats 1000000 in
theorem refWrong_none (n : Int) (ao : Option Addr) (cap : Nat) (w : World) (hm : many n 0 = false) :
    Calls Try.prog 37 #[.agg #[.int .i64 n, .slice ao 0 cap]] w fun e w' => e = .returned (.agg #[.int .i64 0, .int .i64 0]) ∧ Ext w w' := by
  simp only [many, decide_eq_false_iff_not] at hm
  have h1 : ¬ n < 1 := by omega
  have h2 : ¬ 8 < n := by omega
  clear hm
  go_enter Try.func37, Try.ntmps37
  go_wp2
  refine wp_loop_rounds 1 ?_
  rw [rounds_succ]
  go_wp2
  exact bodyPost_ret (v := .agg #[.int .i64 0, .int .i64 0]) (by simp [results, Try.results37, go_sem]) rfl ⟨rfl, ((Ext.refl w).alloc _).alloc _⟩

theorem anyJ_false {ls : List Lk} {k : Nat} {a b : Int} (hk : k ≤ ls.length) (h : ∀ j, j < k → jn (ls.getD j lk0) a b = false) : anyJ (ls.take k) a b = false := by
  unfold anyJ
  rw [List.any_eq_false]
  intro l hl
  obtain ⟨i, hi, rfl⟩ := List.getElem_of_mem hl
  simp only [List.length_take] at hi
  have := h i (by omega)
  rw [List.getElem_take]
  have e : ls.getD i lk0 = ls[i]'(by omega) := by simp [List.getD_eq_getElem?_getD, show i < ls.length by omega]
  rw [e] at this
  simp [this]
theorem anyJ_true {ls : List Lk} {k m : Nat} {a b : Int} (hk : k ≤ ls.length) (hm : m < k) (h : jn (ls.getD m lk0) a b = true) : anyJ (ls.take k) a b = true := by
  unfold anyJ
  rw [List.any_eq_true]
  refine ⟨ls.getD m lk0, ?_, h⟩
  have e : ls.getD m lk0 = ls[m]'(by omega) := by simp [List.getD_eq_getElem?_getD, show m < ls.length by omega]
  rw [e, List.mem_take_iff_getElem]
  exact ⟨m, by omega, rfl⟩
theorem jn_cases (y : Lk) (a b : Int) : ((y.a == a) = true ∧ (y.b == b) = true ∧ jn y a b = true) ∨ ((y.a == a) = true ∧ (y.b == b) = false ∧ (y.a == b) = true ∧ (y.b == a) = true ∧ jn y a b = true) ∨ ((y.a == a) = true ∧ (y.b == b) = false ∧ (y.a == b) = true ∧ (y.b == a) = false ∧ jn y a b = false) ∨
    ((y.a == a) = true ∧ (y.b == b) = false ∧ (y.a == b) = false ∧ jn y a b = false) ∨ ((y.a == a) = false ∧ (y.a == b) = true ∧ (y.b == a) = true ∧ jn y a b = true) ∨ ((y.a == a) = false ∧ (y.a == b) = true ∧ (y.b == a) = false ∧ jn y a b = false) ∨ ((y.a == a) = false ∧ (y.a == b) = false ∧ jn y a b = false) := by
  unfold jn
  cases (y.a == a) <;> cases (y.b == b) <;> cases (y.a == b) <;> cases (y.b == a) <;> simp

set_option maxRecDepth 100000 in
set_option maxHeartbeats 4000000 in
theorem refWrong_some (n : Int) (b off len cap : Nat) (ls : List Lk) (w : World) (hm : many n len = false) (hlen : ls.length = len) (hl : LinksAt w b off ls) (hbl : b < w.heap.size) (hcap : len ≤ cap) :
    Calls Try.prog 37 #[.agg #[.int .i64 n, .slice (some ⟨b, off, none⟩) len cap]] w fun e w' => e = .returned (.agg #[.int .i64 (wrong n ls).1, .int .i64 (wrong n ls).2]) ∧ Ext w w' := by
  have hm' := hm
  simp only [many, decide_eq_false_iff_not] at hm'
  have h1 : ¬ n < 1 := by omega
  have h2 : ¬ 8 < n := by omega
  have h3 : ¬ (28 : Int) < (len : Int) := by omega
  clear hm'
  go_enter Try.func37, Try.ntmps37
  go_wp2
  go_loopw [26] (fun i wr => ∃ k : Nat, k ≤ len ∧ i = .int .i64 k ∧ (∀ j, j < k → ewl n ls j = 0) ∧
      Below (w.heap.size + 1 + 1) ((w.alloc (.cells #[.int .i64 n, .slice (some ⟨b, off, none⟩) len cap] 31)).alloc (.cells #[.int .i64 0, .int .i64 0] 64)) wr ∧ w.heap.size + 1 < wr.heap.size)
    (fun i _ => len - (intOf i).toNat)
  case atStart => exact ⟨0, Nat.zero_le _, rfl, fun j hj => by omega, Below.refl _ _, by simp⟩
  case round =>
    obtain ⟨k, hk, rfl, hpre, hnx, hs1⟩ := hrel
    obtain ⟨wo, rfl⟩ : ∃ wo : World, wo = wr := ⟨_, rfl⟩
    have hs0 : w.heap.size < wo.heap.size := by omega
    obtain ⟨c0, c1, c2, c3, f2, f3, hold⟩ := two_boxes hnx
    by_cases hlt : k < len
    · obtain ⟨l0, l1, l2⟩ := hl k (by omega)
      rw [← hold _ _ hbl] at l0 l1 l2
      obtain ⟨x, hx⟩ : ∃ x, x = ls.getD k lk0 := ⟨_, rfl⟩
      rw [← hx] at l0 l1 l2
      have HX : Hid (x = ls.getD k lk0) := hx
      have hbr : b < wo.heap.size := by omega
      clear hold hx
      have hWl : wo.heap.size < ((wo.alloc (.cells #[.int .i64 k] 3)).alloc (.cells #[.int .i64 x.a, .int .i64 x.b, .int .i64 x.c] 123)).heap.size := by simp; omega
      have hWc : ((wo.alloc (.cells #[.int .i64 k] 3)).alloc (.cells #[.int .i64 x.a, .int .i64 x.b, .int .i64 x.c] 123)).cell? ⟨wo.heap.size, 0, none⟩ = some (.int .i64 k) := by
        rw [World.cell?_alloc_past _ _ _ (by simp)]; simp
      have hWs : w.heap.size + 1 < ((wo.alloc (.cells #[.int .i64 k] 3)).alloc (.cells #[.int .i64 x.a, .int .i64 x.b, .int .i64 x.c] 123)).heap.size := by simp; omega
      have hWe : Ext wo ((wo.alloc (.cells #[.int .i64 k] 3)).alloc (.cells #[.int .i64 x.a, .int .i64 x.b, .int .i64 x.c] 123)) := ((Ext.refl wo).alloc _).alloc _
      have hWb := And.intro ((hWe.cells.1 _ 0 hs1).trans c2) (And.intro ((hWe.cells.1 _ 1 hs1).trans c3) (And.intro ((hWe.cells.2 _ 0 hs1).trans f2) ((hWe.cells.2 _ 1 hs1).trans f3)))
      have HWL : Hid (wo.heap.size < ((wo.alloc (.cells #[.int .i64 k] 3)).alloc (.cells #[.int .i64 x.a, .int .i64 x.b, .int .i64 x.c] 123)).heap.size) := hWl
      have HWC := hid hWc
      have HWS := hid hWs
      have HWB := hid hWb
      clear hWl hWc hWs hWb
      by_cases hA : x.a < 0 ∨ x.b < 0 ∨ n ≤ x.a ∨ n ≤ x.b
      · have hw6 : wlink n x.a x.b x.c = 6 := by
          have : swB n x.a = false ∨ swB n x.b = false := by rw [swB_false, swB_false]; omega
          simp [wlink, this]
        have hfin : wrong n ls = (6, (k : Int)) := by
          have e1 := ewl_link HX.out (by rw [hw6]; decide)
          rw [wrong_bad (by rw [hlen]; exact hm) (by omega) hpre (by rw [e1, hw6]; decide), e1, hw6]
        have HF : Hid (wrong n ls = (6, (k : Int))) := hfin
        clear hfin hw6
        rcases (show x.a < 0 ∨ (¬ x.a < 0 ∧ x.b < 0) ∨ (¬ x.a < 0 ∧ ¬ x.b < 0 ∧ n ≤ x.a) ∨ (¬ x.a < 0 ∧ ¬ x.b < 0 ∧ ¬ n ≤ x.a ∧ n ≤ x.b) by omega) with hq | ⟨hq1, hq2⟩ | ⟨hq1, hq2, hq3⟩ | ⟨hq1, hq2, hq3, hq4⟩
        all_goals
          clear hA
          go_wp2_with fail
          have hWl := HWL.out
          have hWc := HWC.out
          have hWs := HWS.out
          have hWb := HWB.out
          refine (bad_any _ (k : Int) _ _ hWl hWc).mono ?_
          rintro r w1 ⟨rfl, hb1⟩
          have d0 := (hb1.cells.1 _ 0 hWs).trans (hWb.1)
          have d1 := (hb1.cells.1 _ 1 hWs).trans (hWb.2.1)
          have d2 := (hb1.cells.2 _ 0 hWs).trans (hWb.2.2.1)
          have d3 := (hb1.cells.2 _ 1 hWs).trans (hWb.2.2.2)
          have hz : w.heap.size + 1 < w1.heap.size := Nat.lt_of_lt_of_le hWs hb1.size
          go_wp2
          exact bodyPost_ret (v := .agg #[.int .i64 6, .int .i64 k]) (by simp [results, Try.results37, go_sem, d0, d1]) rfl ⟨by rw [HF.out], ((((((ext_boxes hnx).alloc _).alloc _).trans hb1).setCell (by simp) _).setCell (by simp) _)⟩
      · have ha1 : 0 ≤ x.a := by omega
        have ha2 : x.a < n := by omega
        have hb1' : 0 ≤ x.b := by omega
        have hb2' : x.b < n := by omega
        clear hA
        have hsa : swB n x.a = true := swB_true.2 ⟨ha1, ha2⟩
        have hsb : swB n x.b = true := swB_true.2 ⟨hb1', hb2'⟩
        cases hE : (x.a == x.b)
        · have hne : x.a ≠ x.b := by simpa using hE
          by_cases hC : x.c < 1 ∨ 1000 < x.c
          · have hw3 : wlink n x.a x.b x.c = 3 := by simp [wlink, hsa, hsb, hne, hC]
            have hfin : wrong n ls = (3, (k : Int)) := by
              have e1 := ewl_link HX.out (by rw [hw3]; decide)
              rw [wrong_bad (by rw [hlen]; exact hm) (by omega) hpre (by rw [e1, hw3]; decide), e1, hw3]
            have HF : Hid (wrong n ls = (3, (k : Int))) := hfin
            clear hfin hw3 hne
            rcases (show x.c < 1 ∨ (¬ x.c < 1 ∧ 1000 < x.c) by omega) with hq | ⟨hq1, hq2⟩
            all_goals
              clear hC
              go_wp2_with fail
              have hWl := HWL.out
              have hWc := HWC.out
              have hWs := HWS.out
              have hWb := HWB.out
              refine (bad_any _ (k : Int) _ _ hWl hWc).mono ?_
              rintro r w1 ⟨rfl, hb1⟩
              have d0 := (hb1.cells.1 _ 0 hWs).trans (hWb.1)
              have d1 := (hb1.cells.1 _ 1 hWs).trans (hWb.2.1)
              have d2 := (hb1.cells.2 _ 0 hWs).trans (hWb.2.2.1)
              have d3 := (hb1.cells.2 _ 1 hWs).trans (hWb.2.2.2)
              have hz : w.heap.size + 1 < w1.heap.size := Nat.lt_of_lt_of_le hWs hb1.size
              go_wp2
              exact bodyPost_ret (v := .agg #[.int .i64 3, .int .i64 k]) (by simp [results, Try.results37, go_sem, d0, d1]) rfl ⟨by rw [HF.out], ((((((ext_boxes hnx).alloc _).alloc _).trans hb1).setCell (by simp) _).setCell (by simp) _)⟩
          · have hC1 : 1 ≤ x.c := by omega
            have hC2 : x.c ≤ 1000 := by omega
            clear hC
            have hw0 : wlink n x.a x.b x.c = 0 := by simp [wlink, hsa, hsb, hne]; omega
            have HW0 : Hid (wlink n x.a x.b x.c = 0) := hw0
            clear hw0 hne
            have i1 : (k : Int) ≤ (cap : Int) := by omega
            obtain ⟨Wk, hWk⟩ : ∃ Wk, Wk = ((wo.alloc (.cells #[.int .i64 k] 3)).alloc (.cells #[.int .i64 x.a, .int .i64 x.b, .int .i64 x.c] 123)) := ⟨_, rfl⟩
            have x0 : Wk.cell? ⟨wo.heap.size + 1, 0, none⟩ = some (.int .i64 x.a) := by rw [hWk]; simp
            have x1 : Wk.cell? ⟨wo.heap.size + 1, 1, none⟩ = some (.int .i64 x.b) := by rw [hWk]; simp
            have hWks : Wk.heap.size = wo.heap.size + 1 + 1 := by rw [hWk]; simp
            have hWc := HWC.out
            have hWb := HWB.out
            rw [← hWk] at hWc hWb hWe
            have HWK : Hid (Wk = ((wo.alloc (.cells #[.int .i64 k] 3)).alloc (.cells #[.int .i64 x.a, .int .i64 x.b, .int .i64 x.c] 123))) := hWk
            have HWKS : Hid (Wk.heap.size = wo.heap.size + 1 + 1) := hWks
            clear hWk hWks
            go_wp2
            rw [← HWK.out]
            go_loopw [78] (fun jv wr => ∃ m : Nat, m ≤ k ∧ jv = .int .i64 m ∧ (∀ j, j < m → jn (ls.getD j lk0) x.a x.b = false) ∧ Ext Wk wr) (fun jv _ => k - (intOf jv).toNat)
            case atStart => exact ⟨0, Nat.zero_le _, rfl, fun j hj => by omega, Ext.refl _⟩
            case round =>
              obtain ⟨m, hmk, rfl, hno, hxw⟩ := hrel
              have hsz := hxw.size
              have hWks := HWKS.out
              have b1 : wo.heap.size + 1 < wr.heap.size := by omega
              have b0 : wo.heap.size < wr.heap.size := by omega
              have y0 := (hxw.cells.1 _ _ (by omega)).trans x0
              have y1 := (hxw.cells.1 _ _ (by omega)).trans x1
              clear hWks
              by_cases hmlt : m < k
              · obtain ⟨m0, m1, m2⟩ := hl m (by omega)
                have hwr : Ext w wr := ((ext_boxes hnx).trans hWe).trans hxw
                rw [← hwr.cells.1 _ _ hbl] at m0 m1 m2
                have hjc := jn_cases (ls.getD m lk0) x.a x.b
                have hjt := anyJ_true (ls := ls) (k := k) (m := m) (a := x.a) (b := x.b) (by omega) hmlt
                obtain ⟨y, hy⟩ : ∃ y, y = ls.getD m lk0 := ⟨_, rfl⟩
                rw [← hy] at m0 m1 m2 hjc hjt
                have HY : Hid (y = ls.getD m lk0) := hy
                have HJT : Hid (jn y x.a x.b = true → anyJ (ls.take k) x.a x.b = true) := hjt
                have HNO : Hid (∀ j, j < m → jn (ls.getD j lk0) x.a x.b = false) := hno
                clear hy hjt hno
                have hbr2 : b < wr.heap.size := by have := hwr.size; omega
                have i2 : (m : Int) < (k : Int) := by omega
                rcases hjc with ⟨j1, j2, j3⟩ | ⟨j1, j2, j4, j5, j3⟩ | ⟨j1, j2, j4, j5, j3⟩ | ⟨j1, j2, j4, j3⟩ | ⟨j1, j4, j5, j3⟩ | ⟨j1, j4, j5, j3⟩ | ⟨j1, j4, j3⟩
                all_goals
                  have HJ := hid j3
                  clear j3
                  first
                  | (go_wp2_with fail
                     refine (bad_any _ (k : Int) _ _ (by simp; omega) ?_).mono ?_
                     · exact (World.cell?_alloc_past _ _ _ b0).trans ((hxw.cells.1 _ _ (by have := HWKS.out; omega)).trans hWc)
                     rintro r w1 ⟨rfl, hb1⟩
                     have hWs : w.heap.size + 1 < (wr.alloc (.cells #[.int .i64 y.a, .int .i64 y.b, .int .i64 y.c] 123)).heap.size := by simp; omega
                     have hWz : w.heap.size + 1 < Wk.heap.size := by have := HWKS.out; omega
                     have hE2 : Ext Wk (wr.alloc (.cells #[.int .i64 y.a, .int .i64 y.b, .int .i64 y.c] 123)) := hxw.alloc _
                     have d0 := (hb1.cells.1 _ 0 hWs).trans ((hE2.cells.1 _ 0 hWz).trans hWb.1)
                     have d1 := (hb1.cells.1 _ 1 hWs).trans ((hE2.cells.1 _ 1 hWz).trans hWb.2.1)
                     have d2 := (hb1.cells.2 _ 0 hWs).trans ((hE2.cells.2 _ 0 hWz).trans hWb.2.2.1)
                     have d3 := (hb1.cells.2 _ 1 hWs).trans ((hE2.cells.2 _ 1 hWz).trans hWb.2.2.2)
                     have hz : w.heap.size + 1 < w1.heap.size := Nat.lt_of_lt_of_le hWs hb1.size
                     have hfin : wrong n ls = (7, (k : Int)) := by
                       have e1 := ewl_dup HX.out HW0.out (HJT.out HJ.out)
                       rw [wrong_bad (by rw [hlen]; exact hm) (by omega) hpre (by rw [e1]; decide), e1]
                     have HF := hid hfin
                     clear hfin
                     go_wp2
                     exact bodyPost_ret (v := .agg #[.int .i64 7, .int .i64 k]) (by simp [results, Try.results37, go_sem, d0, d1]) rfl ⟨by rw [HF.out], (((hwr.alloc _).trans hb1).setCell (by simp) _).setCell (by simp) _⟩)
                  | (go_wp2
                     go_roundw
                     (case rel =>
                       refine ⟨m + 1, by omega, by go_num, fun j hj => ?_, hxw.alloc _⟩
                       by_cases e : j = m
                       · subst e; rw [← HY.out]; exact HJ.out
                       · exact HNO.out j (by omega))
                     (case measure => simp [intOf]; omega))
              · go_wp2
                go_roundw
                case rel =>
                  have hWks := HWKS.out
                  refine ⟨k + 1, by omega, by go_num, fun j hj => ?_, below_ext (below_ext hnx hWe (by omega)) hxw (by omega), by omega⟩
                  by_cases e : j = k
                  · subst e; exact ewl_ok HX.out HW0.out (anyJ_false (by omega) (fun i hi => hno i (by omega)))
                  · exact hpre j (by omega)
                case measure => simp [intOf]; omega
        · have heq : x.a = x.b := by simpa using hE
          have hw8 : wlink n x.a x.b x.c = 8 := by unfold wlink; rw [if_neg (by simp [hsa, hsb]), if_pos heq]
          have hfin : wrong n ls = (8, (k : Int)) := by
            have e1 := ewl_link HX.out (by rw [hw8]; decide)
            rw [wrong_bad (by rw [hlen]; exact hm) (by omega) hpre (by rw [e1, hw8]; decide), e1, hw8]
          have HF : Hid (wrong n ls = (8, (k : Int))) := hfin
          clear hfin hw8 heq
          go_wp2_with fail
          have hWl := HWL.out
          have hWc := HWC.out
          have hWs := HWS.out
          have hWb := HWB.out
          refine (bad_any _ (k : Int) _ _ hWl hWc).mono ?_
          rintro r w1 ⟨rfl, hb1⟩
          have d0 := (hb1.cells.1 _ 0 hWs).trans (hWb.1)
          have d1 := (hb1.cells.1 _ 1 hWs).trans (hWb.2.1)
          have d2 := (hb1.cells.2 _ 0 hWs).trans (hWb.2.2.1)
          have d3 := (hb1.cells.2 _ 1 hWs).trans (hWb.2.2.2)
          have hz : w.heap.size + 1 < w1.heap.size := Nat.lt_of_lt_of_le hWs hb1.size
          go_wp2
          exact bodyPost_ret (v := .agg #[.int .i64 8, .int .i64 k]) (by simp [results, Try.results37, go_sem, d0, d1]) rfl ⟨by rw [HF.out], ((((((ext_boxes hnx).alloc _).alloc _).trans hb1).setCell (by simp) _).setCell (by simp) _)⟩
    · go_wp2
      have hfin : wrong n ls = (0, 0) := wrong_good (by rw [hlen]; exact hm) (fun j hj => hpre j (by omega))
      exact bodyPost_ret (v := .agg #[.int .i64 0, .int .i64 0]) (by simp [results, Try.results37, go_sem, c2, c3]) rfl ⟨by rw [hfin], ((ext_boxes hnx).setCell (by simp) _).setCell (by simp) _⟩

theorem refWrong_any (n : Int) (ao : Option Addr) (len cap : Nat) (ls : List Lk) (w : World) (hlen : ls.length = len) (hl : NetAt w ao ls) (hx : len ≤ 9223372036854775807) (hcap : len ≤ cap) :
    Calls Try.prog 37 #[.agg #[.int .i64 n, .slice ao len cap]] w fun e w' => e = .returned (.agg #[.int .i64 (wrong n ls).1, .int .i64 (wrong n ls).2]) ∧ Ext w w' := by
  cases hm : many n len
  · rcases hl with rfl | ⟨b, off, rfl, hb, hl⟩
    · subst hlen
      rw [wrong_good (n := n) (ls := []) hm (fun j hj => by simp at hj)]
      exact refWrong_none n ao cap w hm
    · exact refWrong_some n b off len cap ls w hm hlen hl hb hcap
  · rw [wrong_many (n := n) (ls := ls) (by rw [hlen]; exact hm)]
    exact refWrong_many n ao len cap w hm hx

end Go.Proofs.Ytgffkjjddhlbpaa
