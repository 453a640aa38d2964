/- What Print answers, for all flows and every number; nothing that was there is changed. -/
import Derived.Test.YtbfgioinjggkkaaDoorG11
namespace Go.Proofs.YtbfgioinjggkkaaDoor
open Go.RowKit Go.Maps Stf

def Sm2 (fs : List Fl) : Prop := ∀ k (h : k < fs.length), (fs[k]).via.length ≤ 100000000000 ∧ (fs[k]).nt.length ≤ 100000000000
theorem Sm2.sm {fs : List Fl} (h : Sm2 fs) : Sm fs := fun k hk => by have := h k hk; omega
theorem Sm2.get {fs : List Fl} (h : Sm2 fs) {k : Nat} (hk : k < fs.length) {a t : Int} {X Y : List Int} (e : fs.getD k f0 = ⟨a, t, X, Y⟩) : X.length ≤ 100000000000 ∧ Y.length ≤ 100000000000 := by
  have hg : fs.getD k f0 = fs[k] := by simp [List.getD_eq_getElem?_getD, hk]
  have := h k hk
  rw [← hg, e] at this
  exact this
theorem wflows_right {fs : List Fl} {n : Int} (h : (wflows fs n).1 = 0) : wflows fs n = (0, 0) ∧ fs.length ≤ 12 ∧ ∀ k, k < fs.length → wflow (fs.getD k f0) n = 0 := by
  unfold wflows at h ⊢
  split at h
  · cases h
  · rename_i h12
    rw [if_neg h12]
    split at h
    · rename_i k hk
      rw [firstBad] at hk
      have := List.find?_some hk
      simp at this
      exact absurd h this
    · rename_i hk
      refine ⟨rfl, by omega, fun j hj => ?_⟩
      rw [firstBad, List.find?_eq_none] at hk
      have := hk j (by simpa using hj)
      simpa [f0] using this
theorem wflow_nums {a t n : Int} {X Y : List Int} (h : wflow ⟨a, t, X, Y⟩ n = 0) : swB a n = true ∧ swB t n = true ∧ (∀ x ∈ X, swB x n = true) ∧ (∀ y ∈ Y, swB y n = true) := by
  unfold wflow at h
  split at h
  · cases h
  · rename_i h1
    split at h
    · cases h
    · split at h
      · rename_i h2; exact absurd h h2
      · rename_i h2
        split at h
        · rename_i h3; exact absurd h h3
        · rename_i h3
          have e1 := wlist_zero (by simpa using h2 : wlist a t n X = 0)
          have e2 := wlist_zero (by simpa using h3 : wlist a t n Y = 0)
          have get : ∀ (L : List Int), (∀ j, j < L.length → ewl a t n L j = 0) → ∀ x ∈ L, swB x n = true := fun L hL x hx => by
            obtain ⟨i, hi, rfl⟩ := List.getElem_of_mem hx
            have := (ewl_zero (hL i hi)).1
            simpa [List.getD_eq_getElem?_getD, hi] using this
          simp only [not_or, Bool.not_eq_false] at h1
          exact ⟨h1.1, h1.2, get X e1, get Y e2⟩
theorem take_snocF {L : List Fl} {k : Nat} (h : k < L.length) : L.take (k + 1) = L.take k ++ [L.getD k f0] := by
  rw [List.take_succ_eq_append_getElem h]
  simp [List.getD_eq_getElem?_getD, h]
theorem heap_new (w : World) (o : Obj) : (w.alloc o).heap[w.heap.size]? = some o := by
  show (w.heap.push o)[w.heap.size]? = some o
  simp
theorem heap_new' {w : World} {n : Nat} (h : w.heap.size = n) (o : Obj) : (w.alloc o).heap[n]? = some o := h ▸ heap_new w o
/-- A variable that holds a flow. -/
def HB (w : World) (k : Nat) (v0 v1 v2 v3 : Value) : Prop := w.heap[k]? = some (.cells #[v0, v1, v2, v3] 38 (0, 0))
theorem HB.lt {w : World} {k : Nat} {v0 v1 v2 v3 : Value} (h : HB w k v0 v1 v2 v3) : k < w.heap.size := (Array.getElem?_eq_some_iff.1 h).1
theorem HB.ext {w w' : World} {k : Nat} {v0 v1 v2 v3 : Value} (h : HB w k v0 v1 v2 v3) (E : Ext w w') : HB w' k v0 v1 v2 v3 := (Below.block E k h.lt).trans h
theorem HB.wr {w w' : World} {B b k : Nat} {v0 v1 v2 v3 : Value} (h : HB w k v0 v1 v2 v3) (E : Wr B b w w') (hk : k ≠ b) : HB w' k v0 v1 v2 v3 := E.2 k _ h (by simpa using hk) (fun c z e => by cases e)
theorem HB.cells {w : World} {k : Nat} {v0 v1 v2 v3 : Value} (h : HB w k v0 v1 v2 v3) : w.cell? ⟨k, 0, none⟩ = some v0 ∧ w.cell? ⟨k, 1, none⟩ = some v1 ∧ w.cell? ⟨k, 2, none⟩ = some v2 ∧ w.cell? ⟨k, 3, none⟩ = some v3 := by
  have h' : w.heap[k]? = some (.cells #[v0, v1, v2, v3] 38 (0, 0)) := h
  refine ⟨?_, ?_, ?_, ?_⟩ <;> simp [World.cell?, h']
theorem HB.made (w : World) (v0 v1 v2 v3 : Value) : HB (w.alloc (.cells #[v0, v1, v2, v3] 38)) w.heap.size v0 v1 v2 v3 := by
  exact heap_new w _
/-- What Print hands back. -/
def PrintOut (e : Ending) (fs : List Fl) (n : Int) : Prop :=
  ((wflows fs n).1 ≠ 0 ∧ e = .returned (.tuple #[.string ⟨#[]⟩, .agg #[.int .i64 (wflows fs n).1, .int .i64 (wflows fs n).2]])) ∨
  (wflows fs n = (0, 0) ∧ ∃ s : ByteArray, s.data.toList = text fs ∧ e = .returned (.tuple #[.string s, .agg #[.int .i64 0, .int .i64 0]]))
theorem text_len {fs : List Fl} {M : Nat} (h : ∀ f ∈ fs, (lineT f).length ≤ M) : (text fs).length ≤ fs.length * M := by
  induction fs with
  | nil => simp [text]
  | cons f r ih =>
    have h1 := h f (by simp)
    have h2 := ih (fun g hg => h g (by simp [hg]))
    simp only [text, List.flatMap_cons, List.length_append, List.length_cons] at h2 ⊢
    rw [Nat.add_mul]
    omega

theorem itoa21 {x : Int} (h : I64 x) : (Lib.itoa x).length ≤ 21 := by have := Joins.in64_of_wf h; exact Lib.itoa_length_le x this.1 this.2
theorem line_len {a t n : Int} {X Y : List Int} (hI : I64 n) (hw : wflow ⟨a, t, X, Y⟩ n = 0) (hX : X.length ≤ 100000000000) (hY : Y.length ≤ 100000000000) : (lineT ⟨a, t, X, Y⟩).length ≤ 5200000000100 := by
  obtain ⟨sa, st, sX, sY⟩ := wflow_nums hw
  have h1 := itoa21 (i64_sw hI sa)
  have h2 := itoa21 (i64_sw hI st)
  have h3 := txtL_len wVia X (by decide) (fun x hx => itoa21 (i64_sw hI (sX x hx)))
  have h4 := txtL_len wNot Y (by decide) (fun x hx => itoa21 (i64_sw hI (sY x hx)))
  simp only [lineT, lineB, List.length_append, List.length_cons, List.length_nil]
  omega
theorem text_len_take {fs : List Fl} {n : Int} {k : Nat} (hI : I64 n) (hr : ∀ j, j < fs.length → wflow (fs.getD j f0) n = 0) (hS : Sm2 fs) (hk : k ≤ fs.length) : (text (fs.take k)).length ≤ k * 5200000000100 := by
  have := text_len (fs := fs.take k) (M := 5200000000100) (fun f hf => by
    obtain ⟨i, hi, rfl⟩ := List.getElem_of_mem hf
    rw [List.length_take] at hi
    rw [List.getElem_take]
    have hi' : i < fs.length := by omega
    have h1 := hr i hi'
    have hg : fs.getD i f0 = fs[i] := by simp [List.getD_eq_getElem?_getD, hi']
    rw [hg] at h1
    have h2 := hS i hi'
    exact line_len hI h1 h2.1 h2.2)
  rw [List.length_take, Nat.min_eq_left hk] at this
  exact this
theorem sizeB (l : List UInt8) : (ByteArray.mk l.toArray).size = l.length := by simp [ByteArray.size]

set_option maxRecDepth 100000 in
set_option maxHeartbeats 4000000 in
theorem Print_any (ao : Option Addr) (len cap : Nat) (n : Int) (fs : List Fl) (w : World) (hlen : fs.length = len) (hf : FlowsAt w ao fs) (hI : I64 n) (hS : Sm2 fs) (hl : len ≤ 9223372036854775807) (hT : Tab w) :
    Calls Tryd.prog 10 #[.slice ao len cap, .int .i64 n] w fun e w' => Ext w w' ∧ PrintOut e fs n := by
  have hTB := Lib.tabBelow_of_tabIs hT
  go_enter Tryd.func10, Tryd.ntmps10
  go_wp2_with fail
  refine (Wrong_any ao len cap n fs _ hlen (hf.ext ((Ext.refl _).alloc _)) hI hS.sm hl).mono ?_
  rintro e w1 ⟨he, E1⟩
  obtain ⟨r, q, hr, rfl⟩ : ∃ r q, wflows fs n = (r, q) ∧ e = .returned (.agg #[.int .i64 r, .int .i64 q]) := ⟨_, _, rfl, he⟩
  have HR := hid hr
  clear he hr
  have hb1 := ext_box E1
  obtain ⟨z0, z1, y0, y1, hsz⟩ := fault_kept hb1
  have hE1 : Ext w w1 := ((Ext.refl w).alloc _).trans E1
  by_cases h0 : r = 0
  · subst h0
    have hrt := wflows_right (by rw [HR.out])
    have HT := hid hrt
    have hl12 : len ≤ 12 := by have := hrt.2.1; omega
    clear hrt
    go_wp2
    have hbd0 : Bd (w1.heap.size + 1) (w1.heap.size + 1) (text (fs.take 0)) ((w1.alloc (.cells #[.int .i64 0, .int .i64 q] 25)).alloc (.cells #[.pointer none, .slice none 0 0] 51)) := by
      refine Or.inl ⟨Nat.le_refl _, .slice none 0 0, heap_new' (by simp) _, World.ownsRowF_nil _ _ _ _, by simp [Value.ownBlock]⟩
    have hEW : Ext w ((w1.alloc (.cells #[.int .i64 0, .int .i64 q] 25)).alloc (.cells #[.pointer none, .slice none 0 0] 51)) := (hE1.alloc _).alloc _
    have zW : Below (w.heap.size + 1) (w.alloc (.cells #[.int .i64 0, .int .i64 0] 25)) ((w1.alloc (.cells #[.int .i64 0, .int .i64 q] 25)).alloc (.cells #[.pointer none, .slice none 0 0] 51)) := (hb1.alloc (by omega) _).alloc (by simp; omega) _
    generalize hW : ((w1.alloc (.cells #[.int .i64 0, .int .i64 q] 25)).alloc (.cells #[.pointer none, .slice none 0 0] 51)) = W0 at hbd0 hEW zW
    have HW := hid hW
    clear hW z0 z1 y0 y1 E1
    obtain ⟨bb, hbb⟩ : ∃ bb, bb = w1.heap.size + 1 := ⟨_, rfl⟩
    rw [← hbb] at hbd0 ⊢
    have hbw : w.heap.size + 1 < bb := by omega
    have hE0 : ∀ wr, Wr bb bb W0 wr → Ext w wr := fun wr h => Below.trans hEW (Below.mono h.1 (by omega))
    have HE := hid hE0
    clear hbb hE0
    go_loopw [19] (fun iv wr => ∃ k : Nat, k ≤ len ∧ iv = .int .i64 k ∧ Bd bb bb (text (fs.take k)) wr ∧ Wr bb bb W0 wr) (fun iv _ => len - (intOf iv).toNat)
    case atStart => exact ⟨0, Nat.zero_le _, rfl, hbd0, Wr.refl _ _ _⟩
    case round =>
      obtain ⟨k, hk, rfl, hbd, hwr⟩ := hrel
      have hlb := hbd.lt
      have hEw := HE.out wr hwr
      by_cases hlt : k < len
      · obtain ⟨b, off, vo, vc, no, nc, a, t, X, Y, rfl, hb, hg, d0, d1, d2, d3, ⟨_, _, e1, hv, _⟩, ⟨_, _, e2, hn, _⟩⟩ := hf.get (k := k) (by omega)
        cases e1
        cases e2
        have c0 := (hEw.cells.1 _ _ hb).trans d0
        have c1 := (hEw.cells.1 _ _ hb).trans d1
        have c2 := (hEw.cells.1 _ _ hb).trans d2
        have c3 := (hEw.cells.1 _ _ hb).trans d3
        have hbr : b < wr.heap.size := by have := hEw.size; omega
        have hw0 : wflow ⟨a, t, X, Y⟩ n = 0 := by have := HT.out.2.2 k (by omega); rw [hg] at this; exact this
        obtain ⟨sa, st, sX, sY⟩ := wflow_nums hw0
        have ia := i64_sw hI sa
        have it := i64_sw hI st
        have iX : ∀ x ∈ X, I64 x := fun x hx => i64_sw hI (sX x hx)
        have iY : ∀ x ∈ Y, I64 x := fun x hx => i64_sw hI (sY x hx)
        have hsm := hS.get (k := k) (by omega) hg
        have hts := take_snocF (L := fs) (k := k) (by omega)
        rw [hg] at hts
        have HTS := hid hts
        have i1 : (k : Int) < (len : Int) := by omega
        have hacc := text_len_take (k := k) hI HT.out.2.2 hS (by omega)
        have hlX := txtL_len wVia X (by decide) (fun x hx => itoa21 (iX x hx))
        have hTab : ∀ w2, Wr bb bb W0 w2 → ∀ w', Below bb w2 w' → Tab w' := fun w2 h w' h' => hTB w' (Below.trans (HE.out w2 h) (Below.mono h' (by omega)))
        have hLs : ∀ w2, Wr bb bb W0 w2 → ∀ w', Below bb w2 w' → Ext w w' := fun w2 h w' h' => Below.trans (HE.out w2 h) (Below.mono h' (by omega))
        have HTab := hid hTab
        have HLs := hid hLs
        clear hg sa st sX sY hts d0 d1 d2 d3 hw0 hTab hLs
        have nb : wr.heap.size ≠ bb := by omega
        obtain ⟨A, hA⟩ : ∃ A, A = text (fs.take k) := ⟨_, rfl⟩
        rw [← hA] at hbd hacc
        have HA := hid hA
        clear hA
        have B1 := hbd.ext ((Ext.refl wr).alloc (.cells #[.int .i64 a, .int .i64 t, .slice vo X.length vc, .slice no Y.length nc] 38))
        have R1 := hwr.ext ((Ext.refl wr).alloc (.cells #[.int .i64 a, .int .i64 t, .slice vo X.length vc, .slice no Y.length nc] 38)) (by omega)
        have H1 := HB.made wr (.int .i64 a) (.int .i64 t) (.slice vo X.length vc) (.slice no Y.length nc)
        go_wp2_with fail
        refine (itoa_bd a _ ia (HTab.out _ R1 _ (Below.refl _ _))).mono ?_
        rintro e w2 ⟨xa, rfl, hxa, lxa, E2⟩
        have B2 := B1.ext E2
        have R2 := R1.ext E2 (by simp; omega)
        have H2 := H1.ext E2
        have hB2 := B2.lt
        clear E2 c0 c1 c2 c3 B1 R1 H1
        go_wp2_with fail
        refine (write_bd bb bb _ xa _ B2 (by omega)).mono ?_
        rintro e w3 ⟨rfl, B3, V3⟩
        have R3 := R2.trans V3
        have H3 := H2.wr V3 nb
        clear B2 R2 H2 V3
        go_wp2_with fail
        refine (write_bd bb bb _ _ _ B3 (show _ + (ByteArray.mk #[62]).size ≤ _ by have : (ByteArray.mk #[62]).size = 1 := rfl; rw [List.length_append, ← Lib.size_eq]; omega)).mono ?_
        rintro e w4 ⟨rfl, B4, V4⟩
        have R4 := R3.trans V4
        have H4 := H3.wr V4 nb
        have hB4 := B4.lt
        have h4l := H4.lt
        obtain ⟨m0, m1, m2, m3⟩ := H4.cells
        clear B3 R3 H3 V4
        go_wp2_with fail
        refine (itoa_bd t _ it (HTab.out _ R4 _ (Below.refl _ _))).mono ?_
        rintro e w5 ⟨xt, rfl, hxt, lxt, E5⟩
        have B5 := B4.ext E5
        have R5 := R4.ext E5 (by omega)
        have H5 := H4.ext E5
        clear E5 B4 R4 H4 m0 m1 m2 m3
        go_wp2_with fail
        refine (write_bd bb bb _ xt _ B5 (by simp only [List.length_append, ← Lib.size_eq, List.length_cons, List.length_nil]; omega)).mono ?_
        rintro e w6 ⟨rfl, B6, V6⟩
        have R6 := R5.trans V6
        have H6 := H5.wr V6 nb
        have hB6 := B6.lt
        have h6l := H6.lt
        obtain ⟨m0, m1, m2, m3⟩ := H6.cells
        clear B5 R5 H5 V6
        go_wp2_with fail
        refine (writeList_any bb bb _ _ vo vc X.length X _ B6 (HTab.out _ R6) (fun w' h => hv.ext (HLs.out _ R6 w' h)) iX rfl (show (ByteArray.mk #[32, 118, 105, 97, 32]).size ≤ 5 by decide) (by simp only [List.length_append, ← Lib.size_eq, List.length_cons, List.length_nil]; omega)).mono ?_
        rintro e w7 ⟨rfl, B7, V7⟩
        have R7 := R6.trans V7
        have H7 := H6.wr V7 nb
        have hB7 := B7.lt
        have h7l := H7.lt
        clear m0 m1 m2 m3
        obtain ⟨m0, m1, m2, m3⟩ := H7.cells
        clear B6 R6 H6 V7
        have hA7 : (A ++ xa.data.toList ++ [62] ++ xt.data.toList ++ txtL wVia X).length ≤ A.length + 43 + X.length * 26 := by simp only [List.length_append, ← Lib.size_eq, List.length_cons, List.length_nil]; omega
        go_wp2_with fail
        refine (writeList_any bb bb (A ++ xa.data.toList ++ [62] ++ xt.data.toList ++ txtL wVia X) _ no nc Y.length Y _ B7 (HTab.out _ R7) (fun w' h => hn.ext (HLs.out _ R7 w' h)) iY rfl (show (ByteArray.mk #[32, 110, 111, 116, 32]).size ≤ 5 by decide) (by omega)).mono ?_
        rintro e w8 ⟨rfl, B8, V8⟩
        have R8 := R7.trans V8
        have H8 := H7.wr V8 nb
        clear m0 m1 m2 m3
        clear B7 R7 H7 V8
        have hlY := txtL_len wNot Y (by decide) (fun x hx => itoa21 (iY x hx))
        have hA8 : (A ++ xa.data.toList ++ [62] ++ xt.data.toList ++ txtL wVia X ++ txtL wNot Y).length ≤ A.length + 43 + X.length * 26 + Y.length * 26 := by rw [List.length_append]; omega
        go_wp2_with fail
        refine (write_bd bb bb (A ++ xa.data.toList ++ [62] ++ xt.data.toList ++ txtL wVia X ++ txtL wNot Y) _ _ B8 (show _ + (ByteArray.mk #[10]).size ≤ _ by have : (ByteArray.mk #[10]).size = 1 := rfl; omega)).mono ?_
        rintro e w9 ⟨rfl, B9, V9⟩
        have R9 := R8.trans V9
        go_wp2
        refine ⟨⟨k + 1, by omega, by go_num, ?_, R9⟩, by simp [intOf]; omega⟩
        rw [HTS.out, text_snoc, ← HA.out, lineT, lineB, ← hxa, ← hxt]
        simpa using B9
      · have hall : fs.take k = fs := List.take_of_length_le (by omega)
        rw [hall] at hbd
        have zr := zW.trans (Below.mono hwr.1 (by omega))
        go_wp2_with fail
        refine (Tryd.text_any bb bb (text fs) _ hbd (by omega)).mono ?_
        rintro e w2 ⟨rfl, _, b2, k2⟩
        have hE2 : Ext w w2 := Below.trans hEw (Below.mono b2 (by omega))
        obtain ⟨x0, x1, x2, x3, hsz2⟩ := fault_kept (zr.trans (Below.mono b2 (by omega)))
        go_wp2
        refine bodyPost_ret (v := .tuple #[.string ⟨(text fs).toArray⟩, .agg #[.int .i64 0, .int .i64 0]]) (by simp [results, Tryd.results10, go_sem, x0, x1]) rfl ⟨?_, Or.inr ⟨HT.out.1, ⟨(text fs).toArray⟩, by simp, rfl⟩⟩
        exact (hE2.setCell (Nat.le_refl _) _).setCell (Nat.le_refl _) _
  · have h0' : (r != 0) = true := by simpa using h0
    go_wp2
    obtain ⟨x0, x1, x2, x3, hsz'⟩ := fault_kept (hb1.alloc (by omega) (.cells #[.int .i64 r, .int .i64 q] 25))
    go_region
    go_wp2
    refine bodyPost_ret (v := .tuple #[.string ⟨#[]⟩, .agg #[.int .i64 r, .int .i64 q]]) (by simp [results, Tryd.results10, go_sem, z0, z1, World.cell?_alloc_lt, hsz]) rfl ⟨?_, Or.inl ⟨by rw [HR.out]; exact h0, by rw [HR.out]⟩⟩
    exact (((hE1.setCell (Nat.le_refl _) _).setCell (Nat.le_refl _) _).alloc _).drew

end Go.Proofs.YtbfgioinjggkkaaDoor
