/- The step of a change that stamps: what it answers of a switch. -/
import Derived.Test.YtgffkjjddhlbpaaC7
namespace Go.Proofs.Ytgffkjjddhlbpaa.Ct
open Go.RowKit Go.Deep Stw Stp Tb Rul

/-- The boxes of a step that stamps: the switch, the answer. -/
def Sw2 (W : World) (s : Int) : World := (W.alloc (.cells #[.int .i64 s] 3)).alloc (.cells #[.int .i64 0, .int .i64 0, .int .i64 0, .slice none 0 0, .slice none 0 0] 56)
theorem Sw2_size (W : World) (s : Int) : (Sw2 W s).heap.size = W.heap.size + 1 + 1 := by unfold Sw2; simp
theorem Sw2_ext (W : World) (s : Int) : Ext W (Sw2 W s) := ((Ext.refl W).alloc _).alloc _
structure SB (V : World) (b : Nat) (s : Int) : Prop where
  all : V.cell? ⟨b, 0, none⟩ = some (.int .i64 s) ∧ V.cell? ⟨b + 1, 0, none⟩ = some (.int .i64 0) ∧ V.cell? ⟨b + 1, 1, none⟩ = some (.int .i64 0) ∧ V.cell? ⟨b + 1, 2, none⟩ = some (.int .i64 0) ∧ V.cell? ⟨b + 1, 3, none⟩ = some (.slice none 0 0) ∧ V.cell? ⟨b + 1, 4, none⟩ = some (.slice none 0 0) ∧ (∀ i, V.frozen? ⟨b + 1, i, none⟩ = false) ∧ b + 1 < V.heap.size
theorem SB.of {W V : World} {s : Int} (E : Ext (Sw2 W s) V) : SB V W.heap.size s := by
  have l0 : W.heap.size < (Sw2 W s).heap.size := by rw [Sw2_size]; omega
  have l1 : W.heap.size + 1 < (Sw2 W s).heap.size := by rw [Sw2_size]; omega
  obtain ⟨hc, hf⟩ := E.cells
  refine ⟨?_, ?_, ?_, ?_, ?_, ?_, fun i => ?_, Nat.lt_of_lt_of_le l1 E.size⟩
  · rw [hc _ _ l0]; unfold Sw2; first | (simp; done) | (simp [go_sem]; done)
  · rw [hc _ _ l1]; unfold Sw2; first | (simp; done) | (simp [go_sem]; done)
  · rw [hc _ _ l1]; unfold Sw2; first | (simp; done) | (simp [go_sem]; done)
  · rw [hc _ _ l1]; unfold Sw2; first | (simp; done) | (simp [go_sem]; done)
  · rw [hc _ _ l1]; unfold Sw2; first | (simp; done) | (simp [go_sem]; done)
  · rw [hc _ _ l1]; unfold Sw2; first | (simp; done) | (simp [go_sem]; done)
  · rw [hf _ _ l1]; unfold Sw2; first | (simp; done) | (simp [go_sem]; done)
theorem ost_start {W : World} {b : Nat} (h : W.heap.size = b) (v : Int) : OSt b W (W.alloc (.cells #[.int .i64 2, .int .i64 0, .int .i64 v, .slice none 0 0, .slice none 0 0] 56)) v (.slice none 0 0) [] := by
  subst h
  refine ⟨?_, World.ownsRow_nil _ _ _ _, (Below.refl _ _).alloc (by omega) _⟩
  exact World.rowIs_alloc W #[.int .i64 2, .int .i64 0, .int .i64 v, .slice none 0 0, .slice none 0 0] 56 _ (fun i hi => by
    have hi' : i < 5 := hi
    match i, hi' with
    | 0, _ | 1, _ | 2, _ | 3, _ | 4, _ => simp)
/-- What a step that stamps answers. -/
def S1Out (W : World) (v : Int) (L : List Int) (B : Bool) (e : Ending) (w' : World) : Prop := ∃ fo fc, e = .returned (.tuple #[.agg #[.int .i64 2, .int .i64 0, .int .i64 v, .slice none 0 0, .slice fo L.length fc], .bool B]) ∧ LQ w' (fun b => W.heap.size ≤ b) L (.slice fo L.length fc) ∧ Ext W w'

/-- What the last region reads. -/
abbrev S6 (b pw : Nat) (v : Int) (fv nv : Value) (V : World) : Prop := V.cell? ⟨b + 1 + 1, 0, none⟩ = some (.int .i64 2) ∧ V.cell? ⟨b + 1 + 1, 1, none⟩ = some (.int .i64 0) ∧ V.cell? ⟨b + 1 + 1, 2, none⟩ = some (.int .i64 v) ∧ V.cell? ⟨b + 1 + 1, 3, none⟩ = some (.slice none 0 0) ∧ V.cell? ⟨b + 1 + 1, 4, none⟩ = some fv ∧ V.cell? ⟨pw, 1, none⟩ = some nv
theorem S6.set {b pw i : Nat} {v : Int} {fv nv u : Value} {V : World} (h : S6 b pw v fv nv V) (hp : pw < b) : S6 b pw v fv nv (V.setCell ⟨b + 1, i, none⟩ u) := by
  obtain ⟨h0, h1, h2, h3, h4, h5⟩ := h
  have oth : ∀ (c j : Nat), c ≠ b + 1 → (V.setCell ⟨b + 1, i, none⟩ u).cell? ⟨c, j, none⟩ = V.cell? ⟨c, j, none⟩ := fun c j hc => World.cell?_setCell_other V ⟨b + 1, i, none⟩ ⟨c, j, none⟩ u (fun e => by cases e; exact hc rfl)
  exact ⟨(oth _ _ (by omega)).trans h0, (oth _ _ (by omega)).trans h1, (oth _ _ (by omega)).trans h2, (oth _ _ (by omega)).trans h3, (oth _ _ (by omega)).trans h4, (oth _ _ (by omega)).trans h5⟩

set_option maxRecDepth 100000 in
set_option maxHeartbeats 4000000 in
theorem stamping1_any (v : Int) (pn pw s : Nat) (xo no : Option Addr) (xc nc : Nat) (xfs nfs : List Stf.Fl) (W : World) (h0 : W.cell? ⟨pn, 0, none⟩ = some (.int .i64 v)) (h1 : W.cell? ⟨pn, 1, none⟩ = some (.slice xo xfs.length xc)) (h2 : W.cell? ⟨pw, 1, none⟩ = some (.slice no nfs.length nc)) (l1 : pn < W.heap.size) (l2 : pw < W.heap.size)
    (hx : Fw.FlowsAt W xo xfs) (hn : Fw.FlowsAt W no nfs) (hxl : xfs.length ≤ 16777216) (hnl : nfs.length ≤ 16777216) :
    Calls Try.prog 75 #[.int .i64 s, .pointer (some ⟨pn, 0, none⟩), .pointer (some ⟨pw, 0, none⟩)] W fun e w' => S1Out W v (beg s xfs xfs.length) (decide (beg s xfs xfs.length ≠ []) || decide (beg s nfs nfs.length ≠ [])) e w' := by
  obtain ⟨i0, hi0, hz00, hz01, hz02⟩ := info_parts infoI
  have HPN : Hid (∀ V, Ext W V → V.cell? ⟨pw, 1, none⟩ = some (.slice no nfs.length nc) ∧ pw < V.heap.size) := fun V hV => ⟨(hV.cells.1 _ _ l2).trans h2, Nat.lt_of_lt_of_le l2 hV.size⟩
  have h13 : (((W.alloc (.cells #[.int .i64 s] 3)).alloc (.cells #[.int .i64 0, .int .i64 0, .int .i64 0, .slice none 0 0, .slice none 0 0] 56)).alloc (.cells #[.int .i64 2, .int .i64 0, .int .i64 v, .slice none 0 0, .slice none 0 0] 56)).cell? ⟨pn, 1, none⟩ = some (.slice xo xfs.length xc) := (((Sw2_ext W s).alloc _).cells.1 _ _ l1).trans h1
  go_enter Try.func75, Try.ntmps75
  go_wp2
  obtain ⟨W2, hW2⟩ : ∃ W2, W2 = (W.alloc (.cells #[.int .i64 s] 3)).alloc (.cells #[.int .i64 0, .int .i64 0, .int .i64 0, .slice none 0 0, .slice none 0 0] 56) := ⟨_, rfl⟩
  have hE2 : Ext W W2 := by rw [hW2]; exact Sw2_ext W s
  have HS2 : Hid (W2.heap.size = W.heap.size + 1 + 1) := by show _ = _; rw [hW2]; exact Sw2_size W s
  have HSB : Hid (∀ V, Below (W.heap.size + 1 + 1) W2 V → SB V W.heap.size s) := fun V hV => SB.of (W := W) (by show Below _ _ _; rw [Sw2_size]; rw [hW2] at hV; exact hV)
  rw [← hW2]
  clear hW2 h0 h1 h2 h13
  go_loopw [17] (fun iv wr => ∃ (k : Nat) (fv : Value), k ≤ xfs.length ∧ iv = .int .i64 k ∧ Hid (OSt (W.heap.size + 1 + 1) W2 wr v fv (beg s xfs k))) (fun iv _ => xfs.length - (intOf iv).toNat)
  case atStart => exact ⟨0, .slice none 0 0, Nat.zero_le _, rfl, ost_start HS2.out _⟩
  case round =>
    obtain ⟨k, fv, hk, rfl, HOS⟩ := hrel
    have hEr : Ext W wr := Below.trans hE2 (HOS.out.bel.mono (by omega))
    obtain ⟨b0, r0, r1, r2, r3, r4, rz, hbs⟩ := (HSB.out _ HOS.out.bel).all
    have hPl := HOS.out.row.lt
    by_cases hlt : k < xfs.length
    · obtain ⟨b, off, vo, vc, no', nc', a, t, X, Y, rfl, hb, hg, c0, c1, c2, c3, ⟨_, _, e1, hv, hvc⟩, ⟨_, _, e2, hn', hnc⟩⟩ := (hx.ext hEr).get (k := k) (by omega)
      cases e1
      cases e2
      have i1 : (k : Int) < (xfs.length : Int) := by omega
      have HG := hidp hg
      clear hg r0 r1 r2 r3 r4 rz
      have l0 : W.heap.size < wr.heap.size := by omega
      go_wp2_with fail
      refine (begins_any ⟨a, t, X, Y⟩ _ _ s W.heap.size _ ((World.cell?_alloc_past _ _ _ l0).trans b0) (by simp; omega)).mono ?_
      rintro e w1 ⟨rfl, E1⟩
      have E1' : Ext wr w1 := ((Ext.refl wr).alloc _).trans E1
      have HO1 := hidp (HOS.out.ext E1')
      have hPl1 := HO1.out.row.lt
      clear c0 c1 c2 c3 b0 HOS
      by_cases h1 : a = s
      · have HB : Hid (beg s xfs (k + 1) = beg s xfs k ++ [(k : Int)]) := by show _ = _; rw [beg, HG.out, if_pos h1]
        have b1 : (a == (s : Int)) = true := by simpa using h1
        rw [show ((⟨a, t, X, Y⟩ : Stf.Fl).fr == (s : Int)) = true from b1]
        clear h1 b1
        have hbl := beg_len (s := s) (fs := xfs) k
        obtain ⟨L, hL⟩ : ∃ L, beg s xfs k = L := ⟨_, rfl⟩
        rw [hL] at HO1 HB hbl
        clear hL
        have q4 : w1.cell? ⟨W.heap.size + 1 + 1, 4, none⟩ = some fv := HO1.out.row.cell (i := 4) (by omega)
        go_wp2_with (first | (at_builtin; refine wpList_append_lies _ rfl _ _ 26 rfl (W.heap.size + 1 + 1 + 1) 3 i0 (.int .i64 0) 1 8 Try.underlying26 hi0 hz00 hz01 hz02 rfl (by decide) _ _ _ rfl (HO1.out.own.alloc _) ⟨w1.heap.size, 0, none⟩ 1 1 [.int .i64 (k : Int)] rfl rfl (news1' rfl _ _) (one1i _) (by decide) (by unfold maxLen; omega) (by omega) (by simp; omega) _ rfl ?_) | go_in)
        intro g7 gc7 w7 hown7 hgr7 hat7 hlt7
        have H7 := hidp (HO1.out.push hown7 hgr7)
        have q7 := H7.out.1
        have q7z := H7.out.2.1
        clear hown7 hgr7 hat7 q4
        go_wp2
        refine ⟨⟨k + 1, _, by omega, by go_num, by rw [HB.out]; exact H7.out.2.2⟩, by simp [intOf]; omega⟩
      · have HB : Hid (beg s xfs (k + 1) = beg s xfs k) := by show _ = _; rw [beg, HG.out, if_neg h1, List.append_nil]
        have b1 : (a == (s : Int)) = false := by simpa using h1
        rw [show ((⟨a, t, X, Y⟩ : Stf.Fl).fr == (s : Int)) = false from b1]
        clear h1 b1
        go_wp2
        exact ⟨⟨k + 1, fv, by omega, by go_num, by rw [HB.out]; exact HO1⟩, by simp [intOf]; omega⟩
    · have i1 : ¬ (k : Int) < (xfs.length : Int) := by omega
      have hkl : k = xfs.length := by omega
      rw [hkl] at HOS
      clear hkl
      obtain ⟨L, hL⟩ : ∃ L, beg s xfs xfs.length = L := ⟨_, rfl⟩
      have hLl : L.length ≤ 16777216 := by rw [← hL]; exact Nat.le_trans (beg_len _) hxl
      rw [hL] at HOS
      have HLL := hidp hL
      clear hL
      have hfn := fn_own HOS.out.own
      obtain ⟨fo, fc, rfl, hfn'⟩ := hfn
      have HFN : Hid (LQ wr (fun b => W.heap.size + 1 + 1 + 1 ≤ b) L (.slice fo L.length fc)) := FN.lq ⟨fo, fc, rfl, hfn'⟩
      clear hfn'
      have HO := hidp (fun (V : World) (hV : Ext wr V) => (HOS.out.ext hV).row)
      obtain ⟨q2, q2l⟩ := HPN.out _ hEr
      have z0 := rz 0
      have z1 := rz 1
      have z2 := rz 2
      have z3 := rz 3
      have z4 := rz 4
      have o0 : wr.cell? ⟨W.heap.size + 1 + 1, 0, none⟩ = some (.int .i64 2) := HOS.out.row.cell (i := 0) (by omega)
      have o1 : wr.cell? ⟨W.heap.size + 1 + 1, 1, none⟩ = some (.int .i64 0) := HOS.out.row.cell (i := 1) (by omega)
      have o2 : wr.cell? ⟨W.heap.size + 1 + 1, 2, none⟩ = some (.int .i64 v) := HOS.out.row.cell (i := 2) (by omega)
      have o3 : wr.cell? ⟨W.heap.size + 1 + 1, 3, none⟩ = some (.slice none 0 0) := HOS.out.row.cell (i := 3) (by omega)
      have o4 : wr.cell? ⟨W.heap.size + 1 + 1, 4, none⟩ = some (.slice fo L.length fc) := HOS.out.row.cell (i := 4) (by omega)
      clear rz
      have HSBr : Hid (∀ V, Ext wr V → SB V W.heap.size s) := fun V hV => HSB.out V (below_ext HOS.out.bel hV (by have := HOS.out.row.lt; omega))
      go_wp2
      by_cases hL0 : L = []
      · have HNC : Hid (∀ V, Ext wr V → Calls Try.prog 77 #[.slice no nfs.length nc, .func (.func 76) #[] #[.pointer (some ⟨W.heap.size, 0, none⟩)]] V fun e w' => e = .returned (.bool (decide (beg s nfs nfs.length ≠ []))) ∧ Ext V w') := fun V hV =>
          ContainsFunc_any no nc nfs s W.heap.size V ((hn.ext hEr).ext hV) hnl (HSBr.out V hV).all.1 (by have := (HSBr.out V hV).all.2.2.2.2.2.2.2; omega)
        subst hL0
        simp only [List.length_nil] at o4 HO HFN
        have hd : Ext wr wr.drew := (Ext.refl wr).drew
        have HS6 : Hid (∀ V, Ext wr V → S6 W.heap.size pw v (.slice fo 0 fc) (.slice no nfs.length nc) V) := fun V hV => ⟨(HO.out _ hV).cell (i := 0) (by omega), (HO.out _ hV).cell (i := 1) (by omega), (HO.out _ hV).cell (i := 2) (by omega), (HO.out _ hV).cell (i := 3) (by omega), (HO.out _ hV).cell (i := 4) (by omega), (HPN.out _ (hEr.trans hV)).1⟩
        clear b0 r0 r1 r2 r3 r4 z0 z1 z2 z3 z4
        obtain ⟨B, hB⟩ : ∃ B, decide (beg s nfs nfs.length ≠ []) = B := ⟨_, rfl⟩
        have HD : Hid ((decide (([] : List Int) ≠ []) || decide (beg s nfs nfs.length ≠ [])) = B) := by show _ = _; rw [hB]; simp
        rw [hB] at HNC
        clear hB
        go_region_held3 (fun V => V.cell? ⟨W.heap.size + 1 + 1, 0, none⟩ = some (.int .i64 2) ∧ V.cell? ⟨W.heap.size + 1 + 1, 1, none⟩ = some (.int .i64 0) ∧ V.cell? ⟨W.heap.size + 1 + 1, 2, none⟩ = some (.int .i64 v) ∧ V.cell? ⟨W.heap.size + 1 + 1, 3, none⟩ = some (.slice none 0 0) ∧ V.cell? ⟨W.heap.size + 1 + 1, 4, none⟩ = some (.slice fo 0 fc) ∧ V.cell? ⟨pw, 1, none⟩ = some (.slice no nfs.length nc))
          (first | with_reducible exact HS6.out _ hd | with_reducible exact HS6.out _ mk1 | with_reducible exact (((((S6.set (HS6.out _ mk1) l2).set l2).set l2).set l2).set l2))
          (first
          | (go_at_call 77
             refine (HNC.out _ hd).mono ?_
             rintro e w1 ⟨rfl, E1⟩
             have mk1 := hd.trans E1
             obtain ⟨b0, r0, r1, r2, r3, r4, rz, hbs1⟩ := (HSBr.out _ mk1).all
             have z0 := rz 0
             have z1 := rz 1
             have z2 := rz 2
             have z3 := rz 3
             have z4 := rz 4
             clear rz)
          | fail)
        all_goals
          go_wp2
          refine bodyPost_ret (v := .tuple #[.agg #[.int .i64 2, .int .i64 0, .int .i64 v, .slice none 0 0, .slice fo 0 fc], .bool B]) (by simp [results, Try.results75, go_sem, r0, r1, r2, r3, r4]) rfl ?_
          rw [HLL.out, HD.out]
          refine ⟨fo, fc, rfl, ?_, ((((((hEr.trans mk1).setCell (by simp) _).setCell (by simp) _).setCell (by simp) _).setCell (by simp) _).setCell (by simp) _)⟩
          refine HFN.out.mono (fun b hb hlt => ⟨by omega, by have := mk1.size; simp; omega, ?_⟩)
          rw [blk_setCell_other _ _ _ _ (by simp; omega), blk_setCell_other _ _ _ _ (by simp; omega), blk_setCell_other _ _ _ _ (by simp; omega), blk_setCell_other _ _ _ _ (by simp; omega), blk_setCell_other _ _ _ _ (by simp; omega)]
          exact Below.block mk1 b hlt
      · have i2 : 0 < L.length := by cases L with
          | nil => exact absurd rfl hL0
          | cons => simp
        have HD : Hid ((decide (L ≠ []) || decide (beg s nfs nfs.length ≠ [])) = true) := by show _ = _; simp [hL0]
        clear hL0
        go_region
        go_wp2
        refine bodyPost_ret (v := .tuple #[.agg #[.int .i64 2, .int .i64 0, .int .i64 v, .slice none 0 0, .slice fo L.length fc], .bool true]) (by simp [results, Try.results75, go_sem, r0, r1, r2, r3, r4]) rfl ?_
        rw [HLL.out, HD.out]
        refine ⟨fo, fc, rfl, ?_, (((((hEr.setCell (by simp) _).setCell (by simp) _).setCell (by simp) _).setCell (by simp) _).setCell (by simp) _).drew⟩
        refine HFN.out.mono (fun b hb hlt => ⟨by omega, by simpa using hlt, ?_⟩)
        show (World.setCell _ _ _).heap[b]? = _
        rw [blk_setCell_other _ _ _ _ (by simp; omega), blk_setCell_other _ _ _ _ (by simp; omega), blk_setCell_other _ _ _ _ (by simp; omega), blk_setCell_other _ _ _ _ (by simp; omega), blk_setCell_other _ _ _ _ (by simp; omega)]

theorem stpO_some {now nxt : Pl} {s : Nat} : (stpO now nxt s).isSome = (decide (beg s nxt.fs nxt.fs.length ≠ []) || decide (beg s now.fs now.fs.length ≠ [])) := by
  unfold stpO
  by_cases h1 : beg s nxt.fs nxt.fs.length = []
  · by_cases h2 : beg s now.fs now.fs.length = [] <;> simp [h1, h2]
  · simp [h1]

set_option maxRecDepth 100000 in
set_option maxHeartbeats 800000 in
theorem stamping_any (now nxt : Pl) (an ax : PA) (n : Nat) (w0 w : World) (hn : PlAt w0 now an) (hx : PlAt w0 nxt ax) (hnk : PlOk now) (hxk : PlOk nxt) :
    Calls Try.prog 64 #[pvl now an, pvl nxt ax] w fun e w' => StepOf 75 n (stpO now nxt) w0 w w' e := by
  obtain ⟨nv, nfs, nps⟩ := now
  obtain ⟨nfo, nqo, nfc, nqc⟩ := an
  obtain ⟨xv, xfs, xps⟩ := nxt
  obtain ⟨xfo, xqo, xfc, xqc⟩ := ax
  have hnf : Fw.FlowsAt w0 nfo nfs := hn.hf
  have hxf : Fw.FlowsAt w0 xfo xfs := hx.hf
  have hnl : nfs.length ≤ 16777216 := hnk.fl
  have hxl : xfs.length ≤ 16777216 := hxk.fl
  clear hn hx hnk hxk
  unfold pvl
  show Calls _ _ #[.agg #[.int .i64 nv, .slice nfo nfs.length nfc, .slice nqo nps.length nqc], .agg #[.int .i64 xv, .slice xfo xfs.length xfc, .slice xqo xps.length xqc]] _ _
  go_enter Try.func64, Try.ntmps64
  go_wp2
  go_ret
  refine ⟨w.heap.size + 1, w.heap.size, rfl, ((Ext.refl w).alloc _).alloc _, fun Q W hk hW hfr s hs => ?_⟩
  have k0 := hk w.heap.size (Nat.le_refl _) (by simp; omega)
  have k1 := hk (w.heap.size + 1) (by omega) (by simp)
  refine (stamping1_any xv (w.heap.size + 1) w.heap.size s xfo nfo xfc nfc xfs nfs W ((World.cell?_of_block (a := ⟨w.heap.size + 1, 0, none⟩) k1.2.2).trans (by simp)) ((World.cell?_of_block (a := ⟨w.heap.size + 1, 1, none⟩) k1.2.2).trans (by simp)) ((World.cell?_of_block (a := ⟨w.heap.size, 1, none⟩) k0.2.2).trans (by simp)) k1.2.1 k0.2.1 (hxf.ext hW) (hnf.ext hW) hxl hnl).mono ?_
  rintro e w2 ⟨fo, fc, rfl, hL, E2⟩
  refine ⟨⟨2, xv, none, fo, 0, 0, (beg s xfs xfs.length).length, fc, ?_, fun x hx => ?_⟩, E2⟩
  · rw [stpO_some]
  · unfold stpO at hx
    split at hx
    · cases hx
    · cases hx
      exact ⟨rfl, rfl, RQ.nil _ _, hL.mono (fun b hb hlt => ⟨hfr b hb, hlt, rfl⟩)⟩

end Go.Proofs.Ytgffkjjddhlbpaa.Ct
