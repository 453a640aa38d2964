/- What the document's own Print answers, for all flows and every number; nothing that was there is changed. -/
import Derived.Test.YtbfgioinjggkkaaDoorK6
import Derived.Lib.MinMax
namespace Go.Proofs.YtbfgioinjggkkaaDoor
open Go.RowKit Go.Maps Stf Go.Sort

theorem refWrong_any (ao : Option Addr) (len cap : Nat) (n : Int) (fs : List Fl) (w : World) (hlen : fs.length = len) (hf : FlowsAt w ao fs) (hS : Sm fs) (hl : len ≤ 9223372036854775807) :
    Calls Tryd.prog 9 #[.slice ao len cap, .int .i64 n] w fun e w' => e = .returned (.agg #[.int .i64 (wflows fs n).1, .int .i64 (wflows fs n).2]) ∧ Ext w w' := by
  by_cases h : 12 < len
  · have e : wflows fs n = (5, 0) := by rw [wflows, if_pos (by omega)]
    rw [e]
    exact refWrong_many ao len cap n w h hl
  · exact refWrong_few ao len cap n fs w hlen hf hS h
theorem itoa_ext (n : Int) (w : World) (hn : I64 n) (ht : Tab w) :
    Calls Tryd.prog 21 #[.int .i64 n] w fun e w' => e = .returned (.string ⟨(Lib.itoa n).toArray⟩) ∧ Ext w w' := by
  have hr := Joins.in64_of_wf hn
  refine (Tryd.itoa_any n hr.1 hr.2 w ht).mono ?_
  rintro e w' ⟨rfl, k, os, rfl⟩
  exact ⟨rfl, Lib.below_grow _ _ (Nat.le_refl _) _ _⟩

theorem txt_first {wd A : Bs} {Q lit sx : ByteArray} {X : List Int} {j : Nat} {x : Int} (h0 : j = 0) (hQ : Q.data.toList = A ++ txtL wd (X.take j)) (ht : X.take (j + 1) = X.take j ++ [x]) (hl : lit.data.toList = wd) (hs : sx.data.toList = Lib.itoa x) :
    (Q ++ lit ++ sx).data.toList = A ++ txtL wd (X.take (j + 1)) := by
  subst h0
  rw [ht]
  simp only [ByteArray.data_append, Array.toList_append, hQ, hl, hs, List.take_zero, List.nil_append, txtL_one]
  simp [txtL]
theorem txt_more {wd A : Bs} {Q lit sx : ByteArray} {X : List Int} {j : Nat} {x : Int} (h0 : j ≠ 0) (hj : j ≤ X.length) (hQ : Q.data.toList = A ++ txtL wd (X.take j)) (ht : X.take (j + 1) = X.take j ++ [x]) (hl : lit.data.toList = [44]) (hs : sx.data.toList = Lib.itoa x) :
    (Q ++ lit ++ sx).data.toList = A ++ txtL wd (X.take (j + 1)) := by
  obtain ⟨y, r, hyr⟩ := take_ne (L := X) h0 hj
  rw [ht, hyr, txtL_snoc, ← hyr]
  simp only [ByteArray.data_append, Array.toList_append, hQ, hl, hs, List.append_assoc]
theorem txt_size {wd : Bs} {A Q : ByteArray} {X : List Int} {j : Nat} (hw : wd.length ≤ 5) (hQ : Q.data.toList = A.data.toList ++ txtL wd (X.take j)) (hi : ∀ x ∈ X, I64 x) : Q.size ≤ A.size + X.length * 26 := by
  have h1 := txtL_len wd (X.take j) hw (fun y hy => itoa21 (hi y (List.mem_of_mem_take hy)))
  have h2 := congrArg List.length hQ
  rw [List.length_append, ← Lib.size_eq, ← Lib.size_eq] at h2
  rw [List.length_take] at h1
  omega

set_option maxRecDepth 100000 in
set_option maxHeartbeats 8000000 in
theorem refPrint_any (ao : Option Addr) (len cap : Nat) (n : Int) (fs : List Fl) (w : World) (hlen : fs.length = len) (hf : FlowsAt w ao fs) (hI : I64 n) (hS : Sm2 fs) (hl : len ≤ 9223372036854775807) (hT : Tab w) :
    Calls Tryd.prog 11 #[.slice ao len cap, .int .i64 n] w fun e w' => Ext w w' ∧ PrintOut e fs n := by
  have hTB := Lib.tabBelow_of_tabIs hT
  go_enter Tryd.func11, Tryd.ntmps11
  go_wp2_with fail
  refine (refWrong_any ao len cap n fs _ hlen (hf.ext ((Ext.refl _).alloc _)) hS.sm hl).mono ?_
  rintro e w1 ⟨he, E1⟩
  obtain ⟨r, q, hr, rfl⟩ : ∃ r q, wflows fs n = (r, q) ∧ e = .returned (.agg #[.int .i64 r, .int .i64 q]) := ⟨_, _, rfl, he⟩
  have HR := hid hr
  clear he hr
  have hb1 := ext_box E1
  obtain ⟨z0, z1, y0, y1, hsz⟩ := fault_kept hb1
  have hE1 : Ext w w1 := ((Ext.refl w).alloc _).trans E1
  by_cases h0 : r = 0
  · subst h0
    have hrt := wflows_right (by rw [HR.out])
    have HT := hid hrt
    have hl12 : len ≤ 12 := by have := hrt.2.1; omega
    clear hrt
    go_wp2
    have hEW : Ext w (w1.alloc (.cells #[.int .i64 0, .int .i64 q] 25)) := hE1.alloc _
    have zW : Below (w.heap.size + 1) (w.alloc (.cells #[.int .i64 0, .int .i64 0] 25)) (w1.alloc (.cells #[.int .i64 0, .int .i64 q] 25)) := hb1.alloc (by omega) _
    generalize hW : (w1.alloc (.cells #[.int .i64 0, .int .i64 q] 25)) = W0 at hEW zW
    clear hW z0 z1 y0 y1 E1
    go_loopw [7, 23] (fun sv iv wr => ∃ (k : Nat) (S : ByteArray), k ≤ len ∧ iv = .int .i64 k ∧ sv = .string S ∧ S.data.toList = text (fs.take k) ∧ Ext W0 wr) (fun _ iv _ => len - (intOf iv).toNat)
    case atStart => exact ⟨0, ⟨#[]⟩, Nat.zero_le _, rfl, rfl, rfl, Ext.refl _⟩
    case round =>
      obtain ⟨k, S, hk, rfl, rfl, hSt, hext⟩ := hrel
      obtain ⟨wo, rfl⟩ : ∃ wo : World, wo = wr := ⟨_, rfl⟩
      have hEw := hEW.trans hext
      by_cases hlt : k < len
      · obtain ⟨b, off, vo, vc, no, nc, a, t, X, Y, rfl, hb, hg, d0, d1, d2, d3, ⟨_, _, e1, hv, _⟩, ⟨_, _, e2, hn, _⟩⟩ := hf.get (k := k) (by omega)
        cases e1
        cases e2
        have c0 := (hEw.cells.1 _ _ hb).trans d0
        have c1 := (hEw.cells.1 _ _ hb).trans d1
        have c2 := (hEw.cells.1 _ _ hb).trans d2
        have c3 := (hEw.cells.1 _ _ hb).trans d3
        have hbr : b < wo.heap.size := by have := hEw.size; omega
        have hw0 : wflow ⟨a, t, X, Y⟩ n = 0 := by have := HT.out.2.2 k (by omega); rw [hg] at this; exact this
        obtain ⟨sa, st, sX, sY⟩ := wflow_nums hw0
        have ia := i64_sw hI sa
        have it := i64_sw hI st
        have iX : ∀ x ∈ X, I64 x := fun x hx => i64_sw hI (sX x hx)
        have iY : ∀ x ∈ Y, I64 x := fun x hx => i64_sw hI (sY x hx)
        have hsm := hS.get (k := k) (by omega) hg
        have hts := take_snocF (L := fs) (k := k) (by omega)
        rw [hg] at hts
        have HTS := hid hts
        have i1 : (k : Int) < (len : Int) := by omega
        have hacc := text_len_take (k := k) hI HT.out.2.2 hS (by omega)
        rw [← hSt, ← Lib.size_eq] at hacc
        have HST := hid hSt
        clear hg sa st sX sY hts d0 d1 d2 d3 hw0 hSt
        obtain ⟨Wk, hWk⟩ : ∃ Wk, Wk = wo.alloc (.cells #[.int .i64 a, .int .i64 t, .slice vo X.length vc, .slice no Y.length nc] 38) := ⟨_, rfl⟩
        have hEk : Ext wo Wk := by rw [hWk]; exact (Ext.refl wo).alloc _
        have x0 : Wk.cell? ⟨wo.heap.size, 0, none⟩ = some (.int .i64 a) := by rw [hWk]; simp
        have x1 : Wk.cell? ⟨wo.heap.size, 1, none⟩ = some (.int .i64 t) := by rw [hWk]; simp
        have x2 : Wk.cell? ⟨wo.heap.size, 2, none⟩ = some (.slice vo X.length vc) := by rw [hWk]; simp
        have x3 : Wk.cell? ⟨wo.heap.size, 3, none⟩ = some (.slice no Y.length nc) := by rw [hWk]; simp
        have x4 : wo.heap.size < Wk.heap.size := by rw [hWk]; simp
        have HWK := hid hWk
        go_wp2
        rw [← HWK.out]
        clear hWk c0 c1 c2 c3
        have g0 := cell_regrown x0
        have g1 := cell_regrown x1
        obtain ⟨ba, hba, lba, eba⟩ : ∃ ba : ByteArray, ba.data.toList = Lib.itoa a ∧ ba.size ≤ 21 ∧ ba = ⟨(Lib.itoa a).toArray⟩ := ⟨_, by simp, by rw [Lib.size_eq]; exact itoa21 ia, rfl⟩
        obtain ⟨bt, hbt, lbt, ebt⟩ : ∃ bt : ByteArray, bt.data.toList = Lib.itoa t ∧ bt.size ≤ 21 ∧ bt = ⟨(Lib.itoa t).toArray⟩ := ⟨_, by simp, by rw [Lib.size_eq]; exact itoa21 it, rfl⟩
        have f1 : (S.size : Int) + (ba.size : Int) ≤ 9223372036854775807 := by omega
        have f2 : (S.size : Int) + (ba.size : Int) + 1 ≤ 9223372036854775807 := by omega
        have f3 : (S.size : Int) + (ba.size : Int) + 1 + (bt.size : Int) ≤ 9223372036854775807 := by omega
        have HQ : Hid (∀ d os, Calls Tryd.prog 21 #[.int .i64 a] (grow (redrawn Wk d) os) fun e w'' => e = .returned (.string ba) ∧ ∃ p : Regrown, w'' = grow (redrawn Wk p.d) p.os) := fun d os =>
          Calls.regrown_of (by rw [eba]; exact itoa_ext a _ ia (hTB _ ((hEw.trans hEk).trans (below_regrown Wk d os))))
        have HQ2 : Hid (∀ d os, Calls Tryd.prog 21 #[.int .i64 t] (grow (redrawn Wk d) os) fun e w'' => e = .returned (.string bt) ∧ ∃ p : Regrown, w'' = grow (redrawn Wk p.d) p.os) := fun d os =>
          Calls.regrown_of (by rw [ebt]; exact itoa_ext t _ it (hTB _ ((hEw.trans hEk).trans (below_regrown Wk d os))))
        clear eba ebt
        refine wp_region_quiet_below (by kernel_rfl) (by kernel_rfl) ?_
        repeat (go_big_quiet_step (first | (with_reducible exact HQ.out _ _) | (with_reducible exact HQ2.out _ _)))
        refine wpQuiet_nil ?_
        intro _ hw'
        obtain ⟨⟨dq, oq⟩, hw''⟩ := hw'
        subst hw''
        clear g0 g1 HQ HQ2
        obtain ⟨v0, hv0⟩ : ∃ v0, v0 = grow (redrawn Wk dq) oq := ⟨_, rfl⟩
        have Ev : Ext Wk v0 := by rw [hv0]; exact below_regrown Wk dq oq
        rw [← hv0]
        clear hv0
        obtain ⟨S1, hS1⟩ : ∃ S1, S1 = S ++ ba ++ ⟨#[62]⟩ ++ bt := ⟨_, rfl⟩
        have hS1l : S1.data.toList = text (fs.take k) ++ (Lib.itoa a ++ [62] ++ Lib.itoa t) := by
          rw [hS1]
          simp only [ByteArray.data_append, Array.toList_append, hba, hbt, HST.out, List.append_assoc]
        have hS1z : S1.size ≤ S.size + 43 := by rw [hS1]; simp only [ByteArray.size_append]; have : (ByteArray.mk #[62]).size = 1 := rfl; omega
        rw [← hS1]
        clear hS1 f1 f2 f3 hba hbt lba lbt
        have HS1 := hid hS1l
        clear hS1l
        have hEv : Ext w v0 := (hEw.trans hEk).trans Ev
        have y2 := (Ev.cells.1 _ _ x4).trans x2
        have y3 := (Ev.cells.1 _ _ x4).trans x3
        have y4 : wo.heap.size < v0.heap.size := by have := Ev.size; omega
        clear x0 x1 x2 x3
        go_wp2
        go_loopw [7, 40] (fun sv iv wq => ∃ (j : Nat) (Q : ByteArray), j ≤ X.length ∧ iv = .int .i64 j ∧ sv = .string Q ∧ Q.data.toList = S1.data.toList ++ txtL wVia (X.take j) ∧ Ext v0 wq) (fun _ iv _ => X.length - (intOf iv).toNat)
        case atStart => exact ⟨0, S1, Nat.zero_le _, rfl, rfl, by simp [txtL], Ext.refl _⟩
        case round =>
          obtain ⟨j, Q, hj, rfl, rfl, hQ, hext2⟩ := hrel
          by_cases hjl : j < X.length
          · obtain ⟨bk, of2, rfl, hbk, hat2⟩ : ∃ bk of2, vo = some ⟨bk, of2, none⟩ ∧ bk < w.heap.size ∧ IntsAt w bk of2 X := by
              rcases hv with rfl | h
              · simp at hjl
              · exact h
            have ce := ((hEv.trans hext2).cells.1 _ _ hbk).trans (hat2 j hjl)
            have hbk3 : bk < wr.heap.size := by have := (hEv.trans hext2).size; omega
            have hmx := iX (X.getD j 0) (by simp [List.getD_eq_getElem?_getD, hjl])
            have htsx := hid (take_snocI (L := X) (k := j) hjl)
            obtain ⟨x, hxx⟩ : ∃ x, x = X.getD j 0 := ⟨_, rfl⟩
            rw [← hxx] at ce hmx htsx
            have ij : (j : Int) < (X.length : Int) := by omega
            have HQ := hid hQ
            clear hxx hat2 hQ
            have hQz := txt_size (by decide) HQ.out iX
            have f6 : Q.size ≤ 9223372036854775000 := by omega
            have hta : ∀ W', Ext wr W' → Tab W' := fun W' h => hTB _ ((hEv.trans hext2).trans h)
            have HTA := hid hta
            clear hta hQz
            by_cases h0 : j = 0
            · have H0 := hid h0
              have m0 : min (j : Int) 1 = 0 := by omega
              have f4 : Q.size ≤ 9223372036854775802 := by omega
              clear h0
              go_wp2
              go_region_with (go_at_call 21; refine (itoa_bd x _ hmx (HTA.out _ ?_)).mono ?_; (first | exact (Ext.refl _).drew | exact ((Ext.refl _).alloc _).drew | exact ((Ext.refl _).alloc _)); rintro e w8 ⟨sx, rfl, hsx, lsx, E8⟩; have c8 := fun h => E8.cells.1 wr.heap.size 0 h; simp at c8; have f5 : Q.size + 5 + sx.size ≤ 9223372036854775807 := by omega)
              all_goals (
                go_wp2
                refine ⟨⟨j + 1, _, by omega, by go_num, rfl, txt_first H0.out HQ.out htsx.out rfl hsx, ?_⟩, by simp [intOf]; omega⟩
                first | exact hext2.trans (((Ext.refl _).alloc _).drew.trans E8) | exact hext2.trans (((Ext.refl _).drew.trans E8).alloc _))
            · have H0 := hid h0
              have m0 : min (j : Int) 1 = 1 := by omega
              have f4 : Q.size ≤ 9223372036854775806 := by omega
              clear h0
              go_wp2
              go_region_with (go_at_call 21; refine (itoa_bd x _ hmx (HTA.out _ ?_)).mono ?_; (first | exact (Ext.refl _).drew | exact ((Ext.refl _).alloc _).drew | exact ((Ext.refl _).alloc _)); rintro e w8 ⟨sx, rfl, hsx, lsx, E8⟩; have c8 := fun h => E8.cells.1 wr.heap.size 1 h; simp at c8; have f5 : Q.size + 1 + sx.size ≤ 9223372036854775807 := by omega)
              all_goals (
                go_wp2
                refine ⟨⟨j + 1, _, by omega, by go_num, rfl, txt_more H0.out hj HQ.out htsx.out rfl hsx, ?_⟩, by simp [intOf]; omega⟩
                first | exact hext2.trans (((Ext.refl _).alloc _).drew.trans E8) | exact hext2.trans (((Ext.refl _).drew.trans E8).alloc _))
          · have hallX : X.take j = X := List.take_of_length_le (by omega)
            rw [hallX] at hQ
            have hQz : Q.size ≤ S1.size + X.length * 26 := by
              have := txt_size (wd := wVia) (A := S1) (Q := Q) (X := X) (j := X.length) (by decide) (by rw [List.take_length]; exact hQ) iX
              exact this
            obtain ⟨S2, rfl⟩ : ∃ S2 : ByteArray, S2 = Q := ⟨_, rfl⟩
            have HS2 := hid hQ
            have z3 := (hext2.cells.1 _ _ y4).trans y3
            have z4 : wo.heap.size < wr.heap.size := by have := hext2.size; omega
            have hEr : Ext w wr := hEv.trans hext2
            have hextv := hext2
            obtain ⟨v1, rfl⟩ : ∃ v1 : World, v1 = wr := ⟨_, rfl⟩
            have ij : ¬ ((j : Int) < (X.length : Int)) := by omega
            clear hQ y2 y3 hallX
            go_wp2
            go_loopw [7, 59] (fun sv iv wq => ∃ (j : Nat) (Q : ByteArray), j ≤ Y.length ∧ iv = .int .i64 j ∧ sv = .string Q ∧ Q.data.toList = S2.data.toList ++ txtL wNot (Y.take j) ∧ Ext v1 wq) (fun _ iv _ => Y.length - (intOf iv).toNat)
            case atStart => exact ⟨0, S2, Nat.zero_le _, rfl, rfl, by simp [txtL], Ext.refl _⟩
            case round =>
              obtain ⟨j, Q, hj, rfl, rfl, hQ, hext2⟩ := hrel
              by_cases hjl : j < Y.length
              · obtain ⟨bk, of2, rfl, hbk, hat2⟩ : ∃ bk of2, no = some ⟨bk, of2, none⟩ ∧ bk < w.heap.size ∧ IntsAt w bk of2 Y := by
                  rcases hn with rfl | h
                  · simp at hjl
                  · exact h
                have ce := ((hEr.trans hext2).cells.1 _ _ hbk).trans (hat2 j hjl)
                have hbk3 : bk < wr.heap.size := by have := (hEr.trans hext2).size; omega
                have hmx := iY (Y.getD j 0) (by simp [List.getD_eq_getElem?_getD, hjl])
                have htsx := hid (take_snocI (L := Y) (k := j) hjl)
                obtain ⟨x, hxx⟩ : ∃ x, x = Y.getD j 0 := ⟨_, rfl⟩
                rw [← hxx] at ce hmx htsx
                have ij : (j : Int) < (Y.length : Int) := by omega
                have HQ := hid hQ
                clear hxx hat2 hQ
                have hQz := txt_size (by decide) HQ.out iY
                have f6 : Q.size ≤ 9223372036854775000 := by omega
                have hta : ∀ W', Ext wr W' → Tab W' := fun W' h => hTB _ ((hEr.trans hext2).trans h)
                have HTA := hid hta
                clear hta hQz
                by_cases h0 : j = 0
                · have H0 := hid h0
                  have m0 : min (j : Int) 1 = 0 := by omega
                  have f4 : Q.size ≤ 9223372036854775802 := by omega
                  clear h0
                  go_wp2
                  go_region_with (go_at_call 21; refine (itoa_bd x _ hmx (HTA.out _ ?_)).mono ?_; (first | exact (Ext.refl _).drew | exact ((Ext.refl _).alloc _).drew | exact ((Ext.refl _).alloc _)); rintro e w8 ⟨sx, rfl, hsx, lsx, E8⟩; have c8 := fun h => E8.cells.1 wr.heap.size 0 h; simp at c8; have f5 : Q.size + 5 + sx.size ≤ 9223372036854775807 := by omega)
                  all_goals (
                    go_wp2
                    refine ⟨⟨j + 1, _, by omega, by go_num, rfl, txt_first H0.out HQ.out htsx.out rfl hsx, ?_⟩, by simp [intOf]; omega⟩
                    first | exact hext2.trans (((Ext.refl _).alloc _).drew.trans E8) | exact hext2.trans (((Ext.refl _).drew.trans E8).alloc _))
                · have H0 := hid h0
                  have m0 : min (j : Int) 1 = 1 := by omega
                  have f4 : Q.size ≤ 9223372036854775806 := by omega
                  clear h0
                  go_wp2
                  go_region_with (go_at_call 21; refine (itoa_bd x _ hmx (HTA.out _ ?_)).mono ?_; (first | exact (Ext.refl _).drew | exact ((Ext.refl _).alloc _).drew | exact ((Ext.refl _).alloc _)); rintro e w8 ⟨sx, rfl, hsx, lsx, E8⟩; have c8 := fun h => E8.cells.1 wr.heap.size 1 h; simp at c8; have f5 : Q.size + 1 + sx.size ≤ 9223372036854775807 := by omega)
                  all_goals (
                    go_wp2
                    refine ⟨⟨j + 1, _, by omega, by go_num, rfl, txt_more H0.out hj HQ.out htsx.out rfl hsx, ?_⟩, by simp [intOf]; omega⟩
                    first | exact hext2.trans (((Ext.refl _).alloc _).drew.trans E8) | exact hext2.trans (((Ext.refl _).drew.trans E8).alloc _))
              · have hallY : Y.take j = Y := List.take_of_length_le (by omega)
                rw [hallY] at hQ
                have hQz2 : Q.size ≤ S2.size + Y.length * 26 := by
                  have := txt_size (wd := wNot) (A := S2) (Q := Q) (X := Y) (j := Y.length) (by decide) (by rw [List.take_length]; exact hQ) iY
                  exact this
                have ij : ¬ ((j : Int) < (Y.length : Int)) := by omega
                have f4 : Q.size ≤ 9223372036854775806 := by omega
                have HQ := hid hQ
                clear hQ hallY
                go_wp2
                refine ⟨⟨k + 1, _, by omega, by go_num, rfl, ?_, hext.trans (hEk.trans (Ev.trans (hextv.trans hext2)))⟩, by simp [intOf]; omega⟩
                rw [HTS.out, text_snoc, lineT, lineB]
                simp only [ByteArray.data_append, Array.toList_append, HQ.out, HS2.out, HS1.out, List.append_assoc]
      · have hall : fs.take k = fs := List.take_of_length_le (by omega)
        rw [hall] at hSt
        have i1 : ¬ ((k : Int) < (len : Int)) := by omega
        have HST := hid hSt
        clear hSt hall
        obtain ⟨x0, x1, x2, x3, hsz2⟩ := fault_kept (zW.trans (Below.mono hext (by have := zW.size; simp at this; omega)))
        go_wp2
        refine bodyPost_ret (v := .tuple #[.string S, .agg #[.int .i64 0, .int .i64 0]]) (by simp [results, Tryd.results11, go_sem, x0, x1]) rfl ⟨?_, Or.inr ⟨HT.out.1, S, HST.out, rfl⟩⟩
        exact (hEw.setCell (Nat.le_refl _) _).setCell (Nat.le_refl _) _
  · have h0' : (r != 0) = true := by simpa using h0
    go_wp2
    obtain ⟨x0, x1, x2, x3, hsz'⟩ := fault_kept (hb1.alloc (by omega) (.cells #[.int .i64 r, .int .i64 q] 25))
    go_region
    go_wp2
    refine bodyPost_ret (v := .tuple #[.string ⟨#[]⟩, .agg #[.int .i64 r, .int .i64 q]]) (by simp [results, Tryd.results11, go_sem, z0, z1, World.cell?_alloc_lt, hsz]) rfl ⟨?_, Or.inl ⟨by rw [HR.out]; exact h0, by rw [HR.out]⟩⟩
    exact (((hE1.setCell (Nat.le_refl _) _).setCell (Nat.le_refl _) _).alloc _).drew

end Go.Proofs.YtbfgioinjggkkaaDoor
