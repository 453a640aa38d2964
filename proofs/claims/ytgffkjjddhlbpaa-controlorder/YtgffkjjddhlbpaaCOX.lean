/- The law ControlOrder answers true for every net, flows and picks that can be read, and leaves them as they were: no order of stamps is told, as long as one of rules waits for its answer. -/
import Derived.Test.YtgffkjjddhlbpaaC11
import Derived.Test.YtgffkjjddhlbpaaC1
import Derived.Test.YtgffkjjddhlbpaaU1
import Derived.Deep.RegionLaw
import Derived.Laws.OwnMore
import Derived.Lib.SliceRun
import Derived.Test.YtgffkjjddhlbpaaC6
import Derived.Test.YtgffkjjddhlbpaaP7a
import Derived.Test.YtgffkjjddhlbpaaV1
import Derived.Test.YtgffkjjddhlbpaaV21
import Derived.Test.YtgffkjjddhlbpaaT4a
import Derived.Test.YtgffkjjddhlbpaaN0a
import Derived.ProofKit
import Derived.OpenShut
import Derived.ChangeOld
import Derived.SizedLaws
import Derived.Deep.Slices
import Derived.Deep.Strs
import Derived.Lib.SmallJoins
import Derived.Test.YtgffkjjddhlbpaaI1
import Derived.Test.YtgffkjjddhlbpaaH0
import Derived.Test.YtgffkjjddhlbpaaH10
/- What Drop answers, for every control and every net. -/
namespace Go.Proofs.Ytgffkjjddhlbpaa.Ct
open Go.RowKit Go.Deep Stw Stp Tb Rul

/-- An answer, by its letters. -/
def LtOut (B : Nat) (w0 : World) (G : Cg) (k : Int) (e : Ending) (w' : World) : Prop := ∃ (k0 k1 : Int) (o2 : Option Addr) (l2 q2 : Nat) (o3 : Option Addr) (l3 q3 : Nat) (k4 : Int) (o5 : Option Addr) (l5 q5 : Nat) (o6 : Option Addr) (l6 q6 : Nat) (k7 : Int) (o8 : Option Addr) (l8 q8 : Nat) (tO : Option Addr) (l9 tc : Nat),
  e = .returned (.tuple #[.agg #[.int .i64 k0, .int .i64 k1, .slice o2 l2 q2, .slice o3 l3 q3, .int .i64 k4, .slice o5 l5 q5, .slice o6 l6 q6, .int .i64 k7, .slice o8 l8 q8], .slice tO l9 tc, .int .i64 k]) ∧ Ext w0 w' ∧
  Hid (∃ a', Value.agg #[.int .i64 k0, .int .i64 k1, .slice o2 l2 q2, .slice o3 l3 q3, .int .i64 k4, .slice o5 l5 q5, .slice o6 l6 q6, .int .i64 k7, .slice o8 l8 q8] = cvl G.c a' ∧ l9 = G.out.length ∧ ∀ U : World, w'.heap.size ≤ U.heap.size → (∀ b, B ≤ b → b < w'.heap.size → U.heap[b]? = w'.heap[b]?) → CoAt U G.c a' ∧ TosAt U tO G.out)
theorem GoOut.letters {B : Nat} {w0 w' : World} {G : Cg} {k : Int} {e : Ending} (h : GoOut B w0 G k e w') : LtOut B w0 G k e w' := by
  obtain ⟨a', tO, tc, h1, h2, h3⟩ := h
  exact ⟨_, _, _, _, _, _, _, _, _, _, _, _, _, _, _, _, _, _, _, _, _, _, h1, h3, a', rfl, rfl, h2.out⟩
/-- The answer is written into its block. -/
theorem go_fin {B R : Nat} {w V : World} {G : Cg} {k k0 k1 k4 k7 : Int} {o2 o3 o5 o6 o8 tO : Option Addr} {l2 q2 l3 q3 l5 q5 l6 q6 l8 q8 l9 tc : Nat}
    (h : ∃ a', Value.agg #[.int .i64 k0, .int .i64 k1, .slice o2 l2 q2, .slice o3 l3 q3, .int .i64 k4, .slice o5 l5 q5, .slice o6 l6 q6, .int .i64 k7, .slice o8 l8 q8] = cvl G.c a' ∧ l9 = G.out.length ∧ ∀ U : World, V.heap.size ≤ U.heap.size → (∀ b, B ≤ b → b < V.heap.size → U.heap[b]? = V.heap[b]?) → CoAt U G.c a' ∧ TosAt U tO G.out)
    (hRB : R < B) (hwR : w.heap.size ≤ R) (E : Ext w V) (x0 x1 x2 x3 x4 x5 x6 x7 x8 : Value) :
    GoOut w.heap.size w G k (.returned (.tuple #[.agg #[.int .i64 k0, .int .i64 k1, .slice o2 l2 q2, .slice o3 l3 q3, .int .i64 k4, .slice o5 l5 q5, .slice o6 l6 q6, .int .i64 k7, .slice o8 l8 q8], .slice tO l9 tc, .int .i64 k])) (W9 V R x0 x1 x2 x3 x4 x5 x6 x7 x8) := by
  obtain ⟨a', e1, e2, h3⟩ := h
  have hs : (W9 V R x0 x1 x2 x3 x4 x5 x6 x7 x8).heap.size = V.heap.size := W9_size0
  refine ⟨a', tO, tc, by rw [e1, e2], fun U hU hb => h3 U (by omega) (fun b h1 h2 => (hb b (by omega) (by omega)).trans (W9_block0 b (by omega))), W9_ext0 E hwR⟩
/-- The blocks in which Ask, Back and Drop begin: the control, the net, the answer. -/
structure AB (W : World) (b : Nat) (c : Co) (a : CA) (n : Int) (nv : Value) : Prop where
  box : BX W b (coL c a)
  n0 : W.cell? ⟨b + 1, 0, none⟩ = some (.int .i64 n)
  n1 : W.cell? ⟨b + 1, 1, none⟩ = some nv
  ans : W.heap[b + 1 + 1]? = some (.cells #[.int .i64 0, .int .i64 0, .slice none 0 0, .slice none 0 0, .int .i64 0, .slice none 0 0, .slice none 0 0, .int .i64 0, .slice none 0 0] 28 (0, 0))
theorem AB.ext {W V : World} {b : Nat} {c : Co} {a : CA} {n : Int} {nv : Value} (h : AB W b c a n nv) (E : Ext W V) : AB V b c a n nv := by
  have hl : b + 1 + 1 < W.heap.size := (Array.getElem?_eq_some_iff.1 h.ans).1
  exact ⟨World.rowIs.of_block h.box (Below.block E _ (by omega)), (E.cells.1 _ _ (by omega)).trans h.n0, (E.cells.1 _ _ (by omega)).trans h.n1, (Below.block E _ hl).trans h.ans⟩
theorem AB.lt {W : World} {b : Nat} {c : Co} {a : CA} {n : Int} {nv : Value} (h : AB W b c a n nv) : b + 1 + 1 < W.heap.size := (Array.getElem?_eq_some_iff.1 h.ans).1
theorem AB.zeros {W : World} {b : Nat} {c : Co} {a : CA} {n : Int} {nv : Value} (h : AB W b c a n nv) : W.cell? ⟨b + 1 + 1, 0, none⟩ = some (.int .i64 0) ∧ W.cell? ⟨b + 1 + 1, 1, none⟩ = some (.int .i64 0) ∧ W.cell? ⟨b + 1 + 1, 2, none⟩ = some (.slice none 0 0) ∧ W.cell? ⟨b + 1 + 1, 3, none⟩ = some (.slice none 0 0) ∧ W.cell? ⟨b + 1 + 1, 4, none⟩ = some (.int .i64 0) ∧ W.cell? ⟨b + 1 + 1, 5, none⟩ = some (.slice none 0 0) ∧ W.cell? ⟨b + 1 + 1, 6, none⟩ = some (.slice none 0 0) ∧ W.cell? ⟨b + 1 + 1, 7, none⟩ = some (.int .i64 0) ∧ W.cell? ⟨b + 1 + 1, 8, none⟩ = some (.slice none 0 0) :=
  ⟨box_cell h.ans 0, box_cell h.ans 1, box_cell h.ans 2, box_cell h.ans 3, box_cell h.ans 4, box_cell h.ans 5, box_cell h.ans 6, box_cell h.ans 7, box_cell h.ans 8⟩
def Aw (w : World) (c : Co) (a : CA) (n : Int) (nv : Value) : World := ((w.alloc (.cells #[.int .i64 c.st, .int .i64 c.now.v, .slice a.n.fo c.now.fs.length a.n.fc, .slice a.n.qo c.now.ps.length a.n.qc, .int .i64 c.nxt.v, .slice a.x.fo c.nxt.fs.length a.x.fc, .slice a.x.qo c.nxt.ps.length a.x.qc, .int .i64 c.num, .slice a.wo c.wts.length a.wc] 28)).alloc (.cells #[.int .i64 n, nv] 31)).alloc (.cells #[.int .i64 0, .int .i64 0, .slice none 0 0, .slice none 0 0, .int .i64 0, .slice none 0 0, .slice none 0 0, .int .i64 0, .slice none 0 0] 28)
theorem Aw_ext (w : World) (c : Co) (a : CA) (n : Int) (nv : Value) : Ext w (Aw w c a n nv) := (((Ext.refl w).alloc _).alloc _).alloc _
theorem Aw_ab (w : World) (c : Co) (a : CA) (n : Int) (nv : Value) : AB (Aw w c a n nv) w.heap.size c a n nv := by
  refine ⟨((box_row rfl _ _ _ _ _ _ _ _ _).alloc _).alloc _, ?_, ?_, ?_⟩
  · unfold Aw; first | (simp; done) | (simp [go_sem]; done)
  · unfold Aw; first | (simp; done) | (simp [go_sem]; done)
  · unfold Aw
    have := blk_alloc_new ((w.alloc (.cells #[.int .i64 c.st, .int .i64 c.now.v, .slice a.n.fo c.now.fs.length a.n.fc, .slice a.n.qo c.now.ps.length a.n.qc, .int .i64 c.nxt.v, .slice a.x.fo c.nxt.fs.length a.x.fc, .slice a.x.qo c.nxt.ps.length a.x.qc, .int .i64 c.num, .slice a.wo c.wts.length a.wc] 28)).alloc (.cells #[.int .i64 n, nv] 31)) (.cells #[.int .i64 0, .int .i64 0, .slice none 0 0, .slice none 0 0, .int .i64 0, .slice none 0 0, .slice none 0 0, .int .i64 0, .slice none 0 0] 28)
    rw [World.size_alloc, World.size_alloc] at this
    exact this
/-- What is refused. -/
theorem go_none {w V : World} {R : Nat} {k : Int} (hwR : w.heap.size ≤ R) (E : Ext w V) (x0 x1 x2 x3 x4 x5 x6 x7 x8 : Value) : GoOut w.heap.size w ⟨co0, []⟩ k (.returned (.tuple #[.agg #[.int .i64 0, .int .i64 0, .slice none 0 0, .slice none 0 0, .int .i64 0, .slice none 0 0, .slice none 0 0, .int .i64 0, .slice none 0 0], .slice none 0 0, .int .i64 k])) (W9 V R x0 x1 x2 x3 x4 x5 x6 x7 x8) :=
  ⟨ca0, none, 0, rfl, fun U _ _ => ⟨CoAt.zero U, Or.inl rfl⟩, W9_ext0 E hwR⟩

set_option maxRecDepth 100000 in
set_option maxHeartbeats 4000000 in
theorem Drop_any (c : Co) (a : CA) (n : Int) (ao : Option Addr) (len cap : Nat) (ls : List Lk) (w : World) (h : CoAt w c a) (hok : CoOk c) (hlen : ls.length = len) (hl : NetAt w ao ls) (hx : len ≤ 9223372036854775807) :
    Calls Try.prog 14 #[cvl c a, .agg #[.int .i64 n, .slice ao len cap]] w fun e w' => GoOut w.heap.size w (dropS c n ls).1 (dropS c n ls).2 e w' := by
  have HA := hidp (Aw_ab w c a n (.slice ao len cap))
  have hE0 := Aw_ext w c a n (.slice ao len cap)
  unfold cvl
  go_enter Try.func14, Try.ntmps14
  go_wp2_with fail
  unfold Aw at HA hE0
  obtain ⟨W1, hW1⟩ : ∃ W1, W1 = ((w.alloc (.cells #[.int .i64 c.st, .int .i64 c.now.v, .slice a.n.fo c.now.fs.length a.n.fc, .slice a.n.qo c.now.ps.length a.n.qc, .int .i64 c.nxt.v, .slice a.x.fo c.nxt.fs.length a.x.fc, .slice a.x.qo c.nxt.ps.length a.x.qc, .int .i64 c.num, .slice a.wo c.wts.length a.wc] 28)).alloc (.cells #[.int .i64 n, .slice ao len cap] 31)).alloc (.cells #[.int .i64 0, .int .i64 0, .slice none 0 0, .slice none 0 0, .int .i64 0, .slice none 0 0, .slice none 0 0, .int .i64 0, .slice none 0 0] 28) := ⟨_, rfl⟩
  rw [← hW1] at HA hE0 ⊢
  clear hW1
  refine (Wrong_any n ao len cap ls W1 hlen (hl.ext hE0) hx).mono ?_
  rintro e w2 ⟨rfl, E2⟩
  have HA2 := hidp (HA.out.ext E2)
  have hl2 := HA2.out.lt
  have hE2 := hE0.trans E2
  have hl20 : w.heap.size < w2.heap.size := by omega
  have hl21 : w.heap.size + 1 < w2.heap.size := by omega
  by_cases hr : (wrong n ls).1 = 0
  · have hright := right_of hr
    have hbd := hright.bounds
    obtain ⟨nn, rfl⟩ := Int.eq_ofNat_of_zero_le (show 0 ≤ n by omega)
    have hn8 : nn ≤ 8 := by omega
    have HW := hidp hr
    rw [hright.wrong]
    clear hr hright hbd
    have c0 : w2.cell? ⟨w.heap.size, 0, none⟩ = some (.int .i64 c.st) := World.rowIs.cell HA2.out.box (i := 0) (by omega)
    by_cases h3 : c.st = 3
    · have HD : Hid (dropS c nn ls = (goS nn (told nn (drpO c.now) ⟨⟨4, c.now, c.nxt, c.num, c.wts⟩, []⟩), 0)) := by
        show _ = _
        unfold dropS
        rw [if_neg (by simpa using HW.out), if_neg (by simpa using h3)]
        rfl
      rw [h3] at c0
      obtain ⟨V2, hV2⟩ : ∃ V2, V2 = w2.alloc (.cells #[.int .i64 0, .int .i64 0] 64) := ⟨_, rfl⟩
      have E2' : Ext w2 V2 := by rw [hV2]; exact (Ext.refl w2).alloc _
      have HCH := hidp (changeOf_any c a nn ao len cap V2 (h.ext (hE2.trans E2')) hok)
      have HAV := hidp (HA2.out.ext E2')
      have hVR : w.heap.size + 1 + 1 < V2.heap.size := HAV.out.lt
      have c1 : w2.cell? ⟨w.heap.size, 1, none⟩ = some (.int .i64 c.now.v) := World.rowIs.cell HA2.out.box (i := 1) (by omega)
      have c2 : w2.cell? ⟨w.heap.size, 2, none⟩ = some (.slice a.n.fo c.now.fs.length a.n.fc) := World.rowIs.cell HA2.out.box (i := 2) (by omega)
      have c3 : w2.cell? ⟨w.heap.size, 3, none⟩ = some (.slice a.n.qo c.now.ps.length a.n.qc) := World.rowIs.cell HA2.out.box (i := 3) (by omega)
      have c4 : w2.cell? ⟨w.heap.size, 4, none⟩ = some (.int .i64 c.nxt.v) := World.rowIs.cell HA2.out.box (i := 4) (by omega)
      have c5 : w2.cell? ⟨w.heap.size, 5, none⟩ = some (.slice a.x.fo c.nxt.fs.length a.x.fc) := World.rowIs.cell HA2.out.box (i := 5) (by omega)
      have c6 : w2.cell? ⟨w.heap.size, 6, none⟩ = some (.slice a.x.qo c.nxt.ps.length a.x.qc) := World.rowIs.cell HA2.out.box (i := 6) (by omega)
      have c7 : w2.cell? ⟨w.heap.size, 7, none⟩ = some (.int .i64 c.num) := World.rowIs.cell HA2.out.box (i := 7) (by omega)
      have c8 : w2.cell? ⟨w.heap.size, 8, none⟩ = some (.slice a.wo c.wts.length a.wc) := World.rowIs.cell HA2.out.box (i := 8) (by omega)
      have n0 := HA2.out.n0
      have n1 := HA2.out.n1
      unfold cvl at HCH
      rw [h3] at HCH
      have HH3 := hidp h3
      clear h3
      go_wp2_with fail
      rw [← hV2]
      clear hV2 c0 c1 c2 c3 c4 c5 c6 c7 c8 n0 n1
      refine Calls.mono HCH.out ?_
      rintro e w3 ⟨P, w0, a3, wv, rfl, hC3, E0⟩
      have HC3 := hidp hC3
      have hPl := hC3.row.lt
      have s0 : w3.cell? ⟨P, 0, none⟩ = some (.int .i64 c.st) := hC3.row.cell (i := 0) (by omega)
      have z0 := hC3.row.frozen 0
      have HE0 := hidp (E2'.trans E0)
      clear hC3 HCH
      go_upto_region 8 with fail
      obtain ⟨w4, hw4⟩ : ∃ w4, w4 = w3.setCell ⟨P, 0, none⟩ (.int .i64 4) := ⟨_, rfl⟩
      have HC4 : Hid (CSt V2.heap.size (fun _ => True) P w0 w4 ⟨⟨4, c.now, c.nxt, c.num, c.wts⟩, []⟩ a3 nn wv (.slice none 0 0) []) := by rw [hw4]; exact HC3.out.put (g' := ⟨⟨4, c.now, c.nxt, c.num, c.wts⟩, []⟩) 0 (by omega) _ rfl rfl rfl HC3.out.hn HC3.out.hx
      rw [← hw4]
      clear hw4 HC3 s0 z0 hPl
      have E4 : Ext w2 w4 := HE0.out.trans HC4.out.bel
      have HA4 := hidp (HA2.out.ext E4)
      have c1 : w4.cell? ⟨w.heap.size, 1, none⟩ = some (.int .i64 c.now.v) := World.rowIs.cell HA4.out.box (i := 1) (by omega)
      have c2 : w4.cell? ⟨w.heap.size, 2, none⟩ = some (.slice a.n.fo c.now.fs.length a.n.fc) := World.rowIs.cell HA4.out.box (i := 2) (by omega)
      have c3 : w4.cell? ⟨w.heap.size, 3, none⟩ = some (.slice a.n.qo c.now.ps.length a.n.qc) := World.rowIs.cell HA4.out.box (i := 3) (by omega)
      have n0 := HA4.out.n0
      go_wp2_with fail
      refine Calls.mono (dropping_any c.now a.n nn w0 w4 (h.hn.ext (hE2.trans E4)) hok.n hn8) ?_
      rintro e w5 ⟨p1, p2, rfl, E5, HST⟩
      clear c1 c2 c3 n0
      go_wp2_with fail
      refine Calls.mono (tell_any V2.heap.size (fun _ => True) 59 p1 p2 P nn (drpO c.now) w0 w5 _ a3 wv (.slice none 0 0) [] (HC4.out.ext E5) (Or.inr (Or.inl rfl)) (fun _ _ => trivial) hn8 (Nat.le_trans hok.w (by decide)) (by simp) (step_tell HC4.out (fun _ _ => trivial) HST)) ?_
      rintro e w6 ⟨rfl, wv6, tv6, TV6, hC6, hK6⟩
      have HC6 := hidp hC6
      clear hC6 hK6 HST
      have HL6 := hidp (told_len (ord := drpO c.now) (g := ⟨⟨4, c.now, c.nxt, c.num, c.wts⟩, []⟩) nn)
      go_wp2_with fail
      refine Calls.mono (goOn_any V2.heap.size P nn w0 w6 _ a3 wv6 tv6 TV6 HC6.out hn8 hok.n hok.x (by have h1 := HL6.out.1; have h2 := hok.w; exact Nat.le_trans h1 (by show c.wts.length + nn ≤ _; omega)) (by have := HL6.out.2; simp only [List.length_nil] at this; omega)) ?_
      intro e w9 hG
      obtain ⟨k0, k1, o2, l2, q2, o3, l3, q3, k4, o5, l5, q5, o6, l6, q6, k7, o8, l8, q8, tO, l9, tc, rfl, E9, HF⟩ := hG.letters
      clear hG
      have HA9 := hidp (HA2.out.ext (HE0.out.trans E9))
      obtain ⟨r0, r1, r2, r3, r4, r5, r6, r7, r8⟩ := HA9.out.zeros
      have z := box_frozen HA9.out.ans
      have z0 := z 0
      have z1 := z 1
      have z2 := z 2
      have z3 := z 3
      have z4 := z 4
      have z5 := z 5
      have z6 := z 6
      have z7 := z 7
      have z8 := z 8
      have hl9 := HA9.out.lt
      clear z
      go_wp2
      refine bodyPost_ret (v := .tuple #[.agg #[.int .i64 k0, .int .i64 k1, .slice o2 l2 q2, .slice o3 l3 q3, .int .i64 k4, .slice o5 l5 q5, .slice o6 l6 q6, .int .i64 k7, .slice o8 l8 q8], .slice tO l9 tc, .int .i64 0]) (by simp [results, Try.results14, go_sem, r0, r1, r2, r3, r4, r5, r6, r7, r8]) rfl ?_
      rw [HD.out]
      exact go_fin HF.out hVR (by omega) (hE2.trans (HE0.out.trans E9)) _ _ _ _ _ _ _ _ _
    · have HD : Hid (dropS c nn ls = (⟨co0, []⟩, 11)) := by
        show _ = _
        unfold dropS
        rw [if_neg (by simpa using HW.out), if_pos h3]
      have b3 : (c.st != 3) = true := by simpa using h3
      clear h3
      go_wp2_with fail
      refine (refused_any 11 _).mono ?_
      rintro e w9 ⟨he, E9⟩
      have he' : e = .returned (.tuple #[.agg #[.int .i64 0, .int .i64 0, .slice none 0 0, .slice none 0 0, .int .i64 0, .slice none 0 0, .slice none 0 0, .int .i64 0, .slice none 0 0], .slice none 0 0, .int .i64 11]) := he
      subst he'
      clear he
      have E9' : Ext w2 w9 := ((Ext.refl w2).alloc _).trans E9
      have HA9 := hidp (HA2.out.ext E9')
      obtain ⟨r0, r1, r2, r3, r4, r5, r6, r7, r8⟩ := HA9.out.zeros
      have z := box_frozen HA9.out.ans
      have z0 := z 0
      have z1 := z 1
      have z2 := z 2
      have z3 := z 3
      have z4 := z 4
      have z5 := z 5
      have z6 := z 6
      have z7 := z 7
      have z8 := z 8
      have hl9 := HA9.out.lt
      clear z
      go_wp2
      refine bodyPost_ret (v := .tuple #[.agg #[.int .i64 0, .int .i64 0, .slice none 0 0, .slice none 0 0, .int .i64 0, .slice none 0 0, .slice none 0 0, .int .i64 0, .slice none 0 0], .slice none 0 0, .int .i64 11]) (by simp [results, Try.results14, go_sem, r0, r1, r2, r3, r4, r5, r6, r7, r8]) rfl ?_
      rw [HD.out]
      exact go_none (by omega) (hE2.trans E9') _ _ _ _ _ _ _ _ _
  · have HD : Hid (dropS c n ls = (⟨co0, []⟩, (wrong n ls).1)) := by show _ = _; unfold dropS; rw [if_pos hr]
    have b0 : ((wrong n ls).1 != 0) = true := by simpa using hr
    clear hr
    go_wp2_with fail
    refine (refused_any (wrong n ls).1 _).mono ?_
    rintro e w9 ⟨he, E9⟩
    have he' : e = .returned (.tuple #[.agg #[.int .i64 0, .int .i64 0, .slice none 0 0, .slice none 0 0, .int .i64 0, .slice none 0 0, .slice none 0 0, .int .i64 0, .slice none 0 0], .slice none 0 0, .int .i64 (wrong n ls).1]) := he
    subst he'
    clear he
    have E9' : Ext w2 w9 := ((Ext.refl w2).alloc _).trans E9
    have HA9 := hidp (HA2.out.ext E9')
    obtain ⟨r0, r1, r2, r3, r4, r5, r6, r7, r8⟩ := HA9.out.zeros
    have z := box_frozen HA9.out.ans
    have z0 := z 0
    have z1 := z 1
    have z2 := z 2
    have z3 := z 3
    have z4 := z 4
    have z5 := z 5
    have z6 := z 6
    have z7 := z 7
    have z8 := z 8
    have hl9 := HA9.out.lt
    clear z
    go_wp2
    refine bodyPost_ret (v := .tuple #[.agg #[.int .i64 0, .int .i64 0, .slice none 0 0, .slice none 0 0, .int .i64 0, .slice none 0 0, .slice none 0 0, .int .i64 0, .slice none 0 0], .slice none 0 0, .int .i64 (wrong n ls).1]) (by simp [results, Try.results14, go_sem, r0, r1, r2, r3, r4, r5, r6, r7, r8]) rfl ?_
    rw [HD.out]
    exact go_none (by omega) (hE2.trans E9') _ _ _ _ _ _ _ _ _

end Go.Proofs.Ytgffkjjddhlbpaa.Ct

/- What Index and Delete do; what haveRoom answers. -/
namespace Go.Proofs.Ytgffkjjddhlbpaa.Ct
open Go.RowKit Go.Deep Stw Stp Tb Rul

/-- Where a number is. -/
def IxI (ps : List Int) (x r : Int) : Prop := (r = -1 ∧ x ∉ ps) ∨ ∃ k : Nat, k < ps.length ∧ r = k ∧ ps.erase x = ps.eraseIdx k ∧ x ∈ ps
theorem ix_none {ps : List Int} {x : Int} (h : ∀ j, j < ps.length → ps.getD j 0 ≠ x) : x ∉ ps := fun hm => by
  obtain ⟨j, hj, e⟩ := List.mem_iff_getElem.1 hm
  exact h j hj (by simp [List.getD_eq_getElem?_getD, hj, e])
theorem ix_some {ps : List Int} {x : Int} {k : Nat} (hk : k < ps.length) (h : ∀ j, j < k → ps.getD j 0 ≠ x) (e : ps.getD k 0 = x) : ps.erase x = ps.eraseIdx k ∧ x ∈ ps := by
  induction ps generalizing k with
  | nil => simp at hk
  | cons y r ih =>
    cases k with
    | zero =>
      have e' : y = x := by simpa using e
      subst e'
      simp
    | succ k =>
      have h0 : y ≠ x := by simpa using h 0 (by omega)
      obtain ⟨i1, i2⟩ := ih (k := k) (by simpa using hk) (fun j hj => by simpa using h (j + 1) (by omega)) (by simpa using e)
      refine ⟨?_, List.mem_cons_of_mem _ i2⟩
      rw [List.erase_cons_tail (by simpa using h0), i1, List.eraseIdx_cons_succ]

set_option maxRecDepth 100000 in
set_option maxHeartbeats 800000 in
theorem Index_any (o : Option Addr) (c : Nat) (ps : List Int) (x : Int) (w : World) (hp : ListAt w o ps) (hl : ps.length ≤ 16777216) :
    Calls Try.prog 35 #[.slice o ps.length c, .int .i64 x] w fun e w' => ∃ r, e = .returned (.int .i64 r) ∧ Hid (IxI ps x r) ∧ Ext w w' := by
  go_enter Try.func35, Try.ntmps35
  go_wp2
  go_loopw [8] (fun iv wd => ∃ k : Nat, k ≤ ps.length ∧ iv = .int .i64 k ∧ Hid (∀ j, j < k → ps.getD j 0 ≠ x) ∧ Ext w wd) (fun iv _ => ps.length - (intOf iv).toNat)
  case atStart => exact ⟨0, Nat.zero_le _, rfl, hidp (fun j hj => by omega), Ext.refl w⟩
  case round =>
    obtain ⟨k, hk, rfl, HW, hE⟩ := hrel
    by_cases hlt : k < ps.length
    · obtain ⟨g, off, rfl, hg, hcs⟩ := (hp.ext hE).get hlt
      have i1 : (k : Int) < (ps.length : Int) := by omega
      have c0 := hcs k hlt
      obtain ⟨y, hy⟩ : ∃ y, ps.getD k 0 = y := ⟨_, rfl⟩
      rw [hy] at c0
      have HY := hidp hy
      clear hcs hy
      by_cases h1 : x = y
      · have HF : Hid (IxI ps x k) := Or.inr ⟨k, hlt, rfl, ix_some hlt HW.out (by rw [HY.out, h1])⟩
        have b1 : (x == y) = true := by simpa using h1
        clear h1
        go_wp2
        go_ret
        exact ⟨_, rfl, HF, hE⟩
      · have HW2 : Hid (∀ j, j < k + 1 → ps.getD j 0 ≠ x) := hidp (fun j hj => by
          by_cases e : j = k
          · subst e; rw [HY.out]; exact fun e => h1 e.symm
          · exact HW.out j (by omega))
        have b1 : (x == y) = false := by simpa using h1
        clear h1
        go_wp2
        exact ⟨⟨k + 1, by omega, by go_num, HW2, hE⟩, by simp [intOf]; omega⟩
    · have HF : Hid (IxI ps x (-1)) := Or.inl ⟨rfl, ix_none (fun j hj => HW.out j (by omega))⟩
      have i1 : ¬ (k : Int) < (ps.length : Int) := by omega
      clear HW
      go_wp2
      go_ret
      exact ⟨_, rfl, HF, hE⟩

/-- An append whose run is known, at a step of a region that draws its order. -/
theorem step_append_by {ops : Array Oper} {o : Oper} {a : Act} {W W' : World} {K : Act → World → Prop} {Q : Exit → Act → World → Prop} {E : Prop} {v v2 v' : Value} {t : TypeId} (hgd : o.guard = none) (s x : Operand)
    (ho : o.op = .call { callee := .builtin .append, args := #[s, x], argTypes := #[t, t] }) (hs : a.eval s = v) (hx : a.eval x = v2) (hrun : (Builtin.append_ #[t, t] o.type #[v, v2]).run Try.prog W = .ok v' W') (h : K (a.put o.dst v') W') :
    if Region.wanted o (yielded ops a.tmps) = true then Oper.wp Try.prog o a W K Q else E := by
  have hw : Region.wanted o (yielded ops a.tmps) = true := by simp [Region.wanted, hgd]
  rw [if_pos hw]
  unfold Oper.wp execOp
  simp only [ho, resolve, invoke, builtin, Sem.run_bind, Sem.run_pure, Result.andThen_ok, List.map_toArray, List.map_cons, List.map_nil, hs, hx, hrun]
  exact h
theorem own_take {w : World} {base g n c i : Nat} {ps : List Int} (ho : w.ownsRow base 3 1 (.slice (some ⟨g, 0, none⟩) n c) n (ps.map (Value.int .i64))) (hi : i ≤ n) : w.ownsRow base 3 1 (.slice (some ⟨g, 0, none⟩) i c) i ((ps.take i).map (Value.int .i64)) := by
  have hl := ho.1
  rw [List.length_map] at hl
  refine ⟨by simp; omega, Or.inr ?_⟩
  rcases ho.2 with ⟨h, _⟩ | ⟨g', c', cur, h, h2, h3, h4, h5, h6, h7⟩
  · cases h
  · cases h
    refine ⟨g, c, cur, rfl, h2, h3, by omega, h5, h6, ?_⟩
    rw [List.map_take, ← h7, List.take_take]
    congr 1
    omega
theorem own_cell {w : World} {base g n c : Nat} {ps : List Int} (hn : ps.length = n) (ho : w.ownsRow base 3 1 (.slice (some ⟨g, 0, none⟩) n c) n (ps.map (Value.int .i64))) {j : Nat} (hj : j < n) : w.cell? ⟨g, j, none⟩ = some (.int .i64 (ps.getD j 0)) := by
  rw [ho.cellAt j (by omega), List.getElem?_map, List.getElem?_eq_getElem (by omega)]
  simp [List.getD_eq_getElem?_getD, show j < ps.length by omega]
theorem own_clear {w : World} {base g m c : Nat} {z : Value} {ps : List Int} (ho : w.ownsRow base 3 1 (.slice (some ⟨g, 0, none⟩) m c) m (ps.map (Value.int .i64))) : (w.setCells g m (List.replicate 1 z)).ownsRow base 3 1 (.slice (some ⟨g, 0, none⟩) m c) m (ps.map (Value.int .i64)) ∧ w.grownBy (w.setCells g m (List.replicate 1 z)) (some g) := by
  have e : w.setCells g m (List.replicate 1 z) = w.setCell ⟨g, m, none⟩ z := rfl
  rw [e]
  refine ⟨⟨ho.1, ?_⟩, ⟨rfl, rfl, rfl, by simp, fun k hk hne => blk_setCell_other _ _ _ _ (fun e => hne (by rw [e]))⟩⟩
  rcases ho.2 with ⟨h, _⟩ | ⟨g', c', cur, h, h2, h3, h4, h5, h6, h7⟩
  · cases h
  · cases h
    refine Or.inr ⟨g, c, cur.setIfInBounds m z, rfl, h2, ?_, h4, h5, by simpa using h6, ?_⟩
    · unfold World.setCell
      simp [Array.getElem?_modify, h3]
    · rw [← h7]
      simp only [Nat.mul_one, Array.toList_setIfInBounds]
      rw [List.take_set, List.set_eq_of_length_le (by simp; omega)]
theorem grown_trans {a b c : World} {g : Nat} (h : a.grownBy b (some g)) (k : b.grownBy c (some g)) : a.grownBy c (some g) :=
  ⟨k.os.trans h.os, k.tape.trans h.tape, k.output.trans h.output, Nat.le_trans h.size k.size, fun j hj hne => (k.block j (Nat.lt_of_lt_of_le hj h.size) hne).trans (h.block j hj hne)⟩
theorem zero_int (w : World) : (zeroValue 3).run Try.prog w = .ok (.int .i64 0) w := by kernel_rfl

set_option maxRecDepth 100000 in
set_option maxHeartbeats 1600000 in
theorem Delete_any (g m c i : Nat) (base : Nat) (ps : List Int) (w : World) (hn : ps.length = m + 1) (ho : w.ownsRow base 3 1 (.slice (some ⟨g, 0, none⟩) (m + 1) c) (m + 1) (ps.map (Value.int .i64))) (hi : i < m + 1) (hl : m ≤ 16777216) :
    Calls Try.prog 36 #[.slice (some ⟨g, 0, none⟩) (m + 1) c, .int .i64 i, .int .i64 ((i : Int) + 1)] w fun e w' => e = .returned (.slice (some ⟨g, 0, none⟩) m c) ∧ Hid (w'.ownsRow base 3 1 (.slice (some ⟨g, 0, none⟩) m c) m ((ps.eraseIdx i).map (Value.int .i64)) ∧ w.grownBy w' (some g)) := by
  obtain ⟨i0, hi0, hz00, hz01, hz02⟩ := info_parts infoI
  have hnc : m + 1 ≤ c ∧ c ≤ maxLen := by
    rcases ho.2 with ⟨h, _⟩ | ⟨g', c', cur, h, _, _, h4, h5, _⟩
    · cases h
    · cases h; exact ⟨h4, h5⟩
  obtain ⟨hnc, hcm⟩ := hnc
  unfold maxLen at hcm
  have hd : w.drew.ownsRow base 3 1 (.slice (some ⟨g, 0, none⟩) (m + 1) c) (m + 1) (ps.map (Value.int .i64)) := ho
  have he : ps.eraseIdx i = ps.take i ++ ps.drop (i + 1) := List.eraseIdx_eq_take_drop_succ _ _
  have HE := hidp he
  have HF : Hid (∀ w1 : World, w1.ownsRow base 3 1 (.slice (some ⟨g, 0, none⟩) m c) m ((ps.take i).map (Value.int .i64) ++ (ps.drop (i + 1)).map (Value.int .i64)) → w.drew.grownBy w1 (some g) → (∀ ty, (Builtin.clear_ #[26] ty #[.slice (some ⟨g, m, none⟩) 1 (c - m)]).run Try.prog w1 = .ok (.tuple #[]) (w1.setCells g m (List.replicate 1 (.int .i64 0)))) ∧ Hid ((w1.setCells g m (List.replicate 1 (.int .i64 0))).ownsRow base 3 1 (.slice (some ⟨g, 0, none⟩) m c) m ((ps.eraseIdx i).map (Value.int .i64)) ∧ w.grownBy (w1.setCells g m (List.replicate 1 (.int .i64 0))) (some g))) := fun w1 h1 h2 => by
    have h1' : w1.ownsRow base 3 1 (.slice (some ⟨g, 0, none⟩) m c) m ((ps.eraseIdx i).map (Value.int .i64)) := by rw [HE.out, List.map_append]; exact h1
    obtain ⟨k1, k2⟩ := own_clear (z := .int .i64 0) h1'
    refine ⟨fun ty => ?_, k1, grown_trans ⟨h2.os, h2.tape, h2.output, h2.size, h2.block⟩ k2⟩
    obtain ⟨cur, hb, hcs⟩ : ∃ cur, w1.heap[g]? = some (.cells cur 3 (0, 0)) ∧ cur.size = c * 1 := by
      rcases h1.2 with ⟨h, _⟩ | ⟨g', c', cur, h, _, h3, _, _, h6, _⟩
      · cases h
      · cases h; exact ⟨cur, h3, h6⟩
    refine Lib.run_clear_slice w1 26 3 ty (.int .i64 0) Try.underlying26 zero_int rfl rfl g m 1 (c - m) (by omega) (fun j hj => ?_) (fun j _ => box_frozen hb _)
    rw [box_cell hb]
    simp
    omega
  clear he
  by_cases hc : i + 1 < c
  · obtain ⟨w1, hrun, hown1, hg1⟩ := run_append_fits (P := Try.prog) w.drew base 26 26 3 i0 1 Try.underlying26 hi0 hz01 g i c ((ps.take i).map (Value.int .i64)) (own_take hd (by omega)) ⟨g, i + 1, none⟩ (m - i) (c - (i + 1)) ((ps.drop (i + 1)).map (Value.int .i64)) (by simp; omega) (fun j u hj => by
        have hjl : j < ps.length - (i + 1) := by have := (List.getElem?_eq_some_iff.1 hj).1; simpa using this
        rw [Addr.add_mid, own_cell hn hd (by omega), ← hj, List.getElem?_map, List.getElem?_drop, List.getElem?_eq_getElem (by omega)]
        simp [List.getD_eq_getElem?_getD, show i + 1 + j < ps.length by omega]) (by intro u hu; obtain ⟨x, _, rfl⟩ := List.mem_map.1 hu; rfl) (by omega)
    rw [show i + (m - i) = m by omega] at hrun hown1
    obtain ⟨hcl, HR⟩ := HF.out w1 hown1 hg1
    have hcl' := hcl 0
    clear hown1 hg1 HF ho hd HE hcl hz00 hz01 hz02 hi0
    have i1 : (i : Int) < (m : Int) + 1 := by omega
    go_enter Try.func36, Try.ntmps36
    go_wp2
    have i2 : i ≤ c := by omega
    have i3 : i ≤ m := by omega
    have i4 : (0 : Int) ≤ (i : Int) + 1 := by omega
    have i5 : ¬ c = i + 1 := by omega
    have i6 : ¬ c = m := by omega
    go_region_law
      (first | (refine step_append_by ?_ (.tmp 22) (.tmp 25) ?_ ?_ ?_ hrun ?_
                · rfl
                · rfl
                · rfl
                · rfl) | fail)
    all_goals
      go_wp2
      go_ret
      exact ⟨rfl, HR⟩
  · have hic : c = i + 1 := by omega
    have him : m = i := by omega
    obtain ⟨w1, hrun, hown1, hg1⟩ := run_append_fits (P := Try.prog) w.drew base 26 26 3 i0 1 Try.underlying26 hi0 hz01 g i c ((ps.take i).map (Value.int .i64)) (own_take hd (by omega)) ⟨g, 0, none⟩ 0 0 [] (by simp) (fun j u hj => by simp at hj) (by intro u hu; simp at hu) (by omega)
    have hown1' : w1.ownsRow base 3 1 (.slice (some ⟨g, 0, none⟩) m c) m ((ps.take i).map (Value.int .i64) ++ (ps.drop (i + 1)).map (Value.int .i64)) := by
      rw [List.drop_eq_nil_of_le (by omega), List.map_nil, him]
      simpa using hown1
    obtain ⟨hcl, HR⟩ := HF.out w1 hown1' hg1
    subst him
    subst hic
    have hrun' : (Builtin.append_ #[26, 26] 26 #[.slice (some ⟨g, 0, none⟩) m (m + 1), .slice (some ⟨g, 0, none⟩) 0 0]).run Try.prog w.drew = .ok (.slice (some ⟨g, 0, none⟩) m (m + 1)) w1 := hrun
    have hcl' := hcl 0
    rw [show m + 1 - m = 1 by omega] at hcl'
    clear hown1 hown1' hg1 HF ho hd HE hcl hz00 hz01 hz02 hi0 hrun hc
    have i2 : m ≤ m + 1 := by omega
    have i4 : (0 : Int) ≤ (m : Int) + 1 := by omega
    have i7 : (m : Int) ≤ (m : Int) + 1 := by omega
    go_enter Try.func36, Try.ntmps36
    go_wp2
    go_region_law
      (first | (refine step_append_by ?_ (.tmp 22) (.tmp 25) ?_ ?_ ?_ hrun' ?_
                · rfl
                · rfl
                · rfl
                · rfl) | fail)
    all_goals
      go_wp2
      go_ret
      exact ⟨rfl, HR⟩

end Go.Proofs.Ytgffkjjddhlbpaa.Ct

/- What Back answers, for every control, net and number. -/
namespace Go.Proofs.Ytgffkjjddhlbpaa.Ct
open Go.RowKit Go.Deep Stw Stp Tb Rul

/-- One is waited for no more. -/
theorem CSt.delW {B : Nat} {X : Nat → Prop} {P n g1 m cc : Nat} {w0 w w' : World} {g : Cg} {a : CA} {tv : Value} {TV : List Value} {L : List Int} {k : Nat} (h : CSt B X P w0 w g a n (.slice (some ⟨g1, 0, none⟩) k cc) tv TV) (hL : L.length = m)
    (hown : w'.ownsRow w0.heap.size 3 1 (.slice (some ⟨g1, 0, none⟩) m cc) m (L.map (Value.int .i64))) (hg : w.grownBy w' (some g1)) :
    w'.cell? ⟨P, 8, none⟩ = some (.slice (some ⟨g1, 0, none⟩) k cc) ∧ w'.frozen? ⟨P, 8, none⟩ = false ∧ CSt B X P w0 (w'.setCell ⟨P, 8, none⟩ (.slice (some ⟨g1, 0, none⟩) m cc)) ⟨⟨g.c.st, g.c.now, g.c.nxt, g.c.num, L⟩, g.out⟩ a n (.slice (some ⟨g1, 0, none⟩) m cc) tv TV := by
  have hP := h.row.lt
  have hs := hg.size
  have gP : g1 ≠ P := fun e => h.wP (by rw [e]; rfl)
  have hr := h.row.of_block (hg.block P hP (fun e => gP (by injection e with e; exact e.symm)))
  have hK : ∀ b, b < w.heap.size → b ≠ P → b ≠ g1 → (w'.setCell ⟨P, 8, none⟩ (.slice (some ⟨g1, 0, none⟩) m cc)).heap[b]? = w.heap[b]? := fun b hlt hb hne =>
    (blk_setCell_other _ _ _ _ (by simpa using hb)).trans (hg.block b hlt (fun e => hne (by injection e)))
  have hne : ∀ b, Qn P tv (.slice (some ⟨g1, 0, none⟩) k cc) b → b ≠ g1 := fun b hb e => hb.2.1 (by rw [e]; rfl)
  refine ⟨hr.cell (i := 8) (by omega), hr.frozen 8, ⟨((hr.set 8 _).congr (fun j _ => (getD_put (by simp [chL]) j).trans rfl)), ?_, ?_, fun e => gP (by simpa [Value.ownBlock] using e), fun b e => h.apart b e, h.lt.mono (fun b hb hlt => ⟨⟨⟨hb.1.1, hb.1.2.1, hb.1.2.2⟩, hb.2⟩, by simp; omega, hK b hlt (by have := hb.1.1; omega) (hne b hb.1)⟩), ?_, h.hP, h.hB, h.hn, h.hx⟩⟩
  · have hb1 : (w'.setCell ⟨P, 8, none⟩ (.slice (some ⟨g1, 0, none⟩) m cc)).heap[g1]? = w'.heap[g1]? := blk_setCell_other _ _ _ _ (by simpa using gP)
    rw [show (⟨⟨g.c.st, g.c.now, g.c.nxt, g.c.num, L⟩, g.out⟩ : Cg).c.wts.length = m from hL]
    refine ⟨hown.1, ?_⟩
    rcases hown.2 with ⟨h1, h2⟩ | ⟨b, cap, cur, e1, e2, e3, e4⟩
    · cases h1
    · cases e1
      exact Or.inr ⟨g1, cc, cur, rfl, e2, hb1.trans e3, e4⟩
  · refine ⟨h.ownT.1, ?_⟩
    rcases h.ownT.2 with h2 | ⟨b, cap, cur, e1, e2, e3, e4⟩
    · exact Or.inl h2
    · exact Or.inr ⟨b, cap, cur, e1, e2, (hK b (h.ownT.lt b (by rw [e1]; rfl)).2 (by omega) (fun e => h.apart g1 rfl (by rw [e1, e]; rfl))).trans e3, e4⟩
  · exact (Below.grown h.bel hg h.bel.size (fun j hj => (h.ownW.lt j hj).1)).setCell (by simpa using h.hP) _

set_option maxRecDepth 100000 in
set_option maxHeartbeats 4000000 in
theorem Back_any (c : Co) (a : CA) (n num : Int) (ao : Option Addr) (len cap : Nat) (ls : List Lk) (w : World) (h : CoAt w c a) (hok : CoOk c) (hlen : ls.length = len) (hl : NetAt w ao ls) (hx : len ≤ 9223372036854775807) :
    Calls Try.prog 12 #[cvl c a, .agg #[.int .i64 n, .slice ao len cap], .int .i64 num] w fun e w' => GoOut w.heap.size w (backS c n ls num).1 (backS c n ls num).2 e w' := by
  have HA := hidp (Aw_ab w c a n (.slice ao len cap))
  have hE0 := Aw_ext w c a n (.slice ao len cap)
  unfold cvl
  go_enter Try.func12, Try.ntmps12
  go_wp2_with fail
  unfold Aw at HA hE0
  obtain ⟨W1, hW1⟩ : ∃ W1, W1 = ((w.alloc (.cells #[.int .i64 c.st, .int .i64 c.now.v, .slice a.n.fo c.now.fs.length a.n.fc, .slice a.n.qo c.now.ps.length a.n.qc, .int .i64 c.nxt.v, .slice a.x.fo c.nxt.fs.length a.x.fc, .slice a.x.qo c.nxt.ps.length a.x.qc, .int .i64 c.num, .slice a.wo c.wts.length a.wc] 28)).alloc (.cells #[.int .i64 n, .slice ao len cap] 31)).alloc (.cells #[.int .i64 0, .int .i64 0, .slice none 0 0, .slice none 0 0, .int .i64 0, .slice none 0 0, .slice none 0 0, .int .i64 0, .slice none 0 0] 28) := ⟨_, rfl⟩
  rw [← hW1] at HA hE0 ⊢
  clear hW1
  refine (Wrong_any n ao len cap ls W1 hlen (hl.ext hE0) hx).mono ?_
  rintro e w2 ⟨rfl, E2⟩
  have HA2 := hidp (HA.out.ext E2)
  have hl2 := HA2.out.lt
  have hE2 := hE0.trans E2
  have hl20 : w.heap.size < w2.heap.size := by omega
  have hl21 : w.heap.size + 1 < w2.heap.size := by omega
  by_cases hr : (wrong n ls).1 = 0
  · have hright := right_of hr
    have hbd := hright.bounds
    obtain ⟨nn, rfl⟩ := Int.eq_ofNat_of_zero_le (show 0 ≤ n by omega)
    have hn8 : nn ≤ 8 := by omega
    have HW := hidp hr
    rw [hright.wrong]
    clear hr hright hbd
    have c8 : w2.cell? ⟨w.heap.size, 8, none⟩ = some (.slice a.wo c.wts.length a.wc) := World.rowIs.cell HA2.out.box (i := 8) (by omega)
    go_wp2_with fail
    refine Calls.mono (Index_any a.wo a.wc c.wts num _ (h.hw.ext (hE2.alloc _)) (Nat.le_trans hok.w (by decide))) ?_
    rintro e w3 ⟨r, rfl, HI, E3⟩
    have E3' : Ext w2 w3 := ((Ext.refl w2).alloc _).trans E3
    have HA3 := hidp (HA2.out.ext E3')
    have hl3 := HA3.out.lt
    have hl30 : w.heap.size < w3.heap.size := by omega
    have hl31 : w.heap.size + 1 < w3.heap.size := by omega
    clear c8
    rcases HI.out with ⟨rfl, hno⟩ | ⟨k, hk, rfl, her, hmem⟩
    · have HD : Hid (backS c nn ls num = (⟨co0, []⟩, 6)) := by
        show _ = _
        unfold backS
        rw [if_neg (by simpa using HW.out), if_pos hno]
      clear hno HI
      go_wp2_with fail
      refine (refused_any 6 _).mono ?_
      rintro e w9 ⟨he, E9⟩
      have he' : e = .returned (.tuple #[.agg #[.int .i64 0, .int .i64 0, .slice none 0 0, .slice none 0 0, .int .i64 0, .slice none 0 0, .slice none 0 0, .int .i64 0, .slice none 0 0], .slice none 0 0, .int .i64 6]) := he
      subst he'
      clear he
      have E9' : Ext w2 w9 := E3'.trans E9
      have HA9 := hidp (HA2.out.ext E9')
      obtain ⟨r0, r1, r2, r3, r4, r5, r6, r7, r8⟩ := HA9.out.zeros
      have z := box_frozen HA9.out.ans
      have z0 := z 0
      have z1 := z 1
      have z2 := z 2
      have z3 := z 3
      have z4 := z 4
      have z5 := z 5
      have z6 := z 6
      have z7 := z 7
      have z8 := z 8
      have hl9 := HA9.out.lt
      clear z
      go_wp2
      refine bodyPost_ret (v := .tuple #[.agg #[.int .i64 0, .int .i64 0, .slice none 0 0, .slice none 0 0, .int .i64 0, .slice none 0 0, .slice none 0 0, .int .i64 0, .slice none 0 0], .slice none 0 0, .int .i64 6]) (by simp [results, Try.results12, go_sem, r0, r1, r2, r3, r4, r5, r6, r7, r8]) rfl ?_
      rw [HD.out]
      exact go_none (by omega) (hE2.trans E9') _ _ _ _ _ _ _ _ _
    · have HD : Hid (backS c nn ls num = (goS nn ⟨⟨c.st, c.now, c.nxt, c.num, c.wts.eraseIdx k⟩, []⟩, 0)) := by
        show _ = _
        unfold backS
        rw [if_neg (by simpa using HW.out), if_neg (by simpa using hmem), her]
        rfl
      clear her hmem HI
      have HCH := hidp (changeOf_any c a nn ao len cap w3 (h.ext (hE2.trans E3')) hok)
      have c0 : w3.cell? ⟨w.heap.size, 0, none⟩ = some (.int .i64 c.st) := World.rowIs.cell HA3.out.box (i := 0) (by omega)
      have c1 : w3.cell? ⟨w.heap.size, 1, none⟩ = some (.int .i64 c.now.v) := World.rowIs.cell HA3.out.box (i := 1) (by omega)
      have c2 : w3.cell? ⟨w.heap.size, 2, none⟩ = some (.slice a.n.fo c.now.fs.length a.n.fc) := World.rowIs.cell HA3.out.box (i := 2) (by omega)
      have c3 : w3.cell? ⟨w.heap.size, 3, none⟩ = some (.slice a.n.qo c.now.ps.length a.n.qc) := World.rowIs.cell HA3.out.box (i := 3) (by omega)
      have c4 : w3.cell? ⟨w.heap.size, 4, none⟩ = some (.int .i64 c.nxt.v) := World.rowIs.cell HA3.out.box (i := 4) (by omega)
      have c5 : w3.cell? ⟨w.heap.size, 5, none⟩ = some (.slice a.x.fo c.nxt.fs.length a.x.fc) := World.rowIs.cell HA3.out.box (i := 5) (by omega)
      have c6 : w3.cell? ⟨w.heap.size, 6, none⟩ = some (.slice a.x.qo c.nxt.ps.length a.x.qc) := World.rowIs.cell HA3.out.box (i := 6) (by omega)
      have c7 : w3.cell? ⟨w.heap.size, 7, none⟩ = some (.int .i64 c.num) := World.rowIs.cell HA3.out.box (i := 7) (by omega)
      have c8 : w3.cell? ⟨w.heap.size, 8, none⟩ = some (.slice a.wo c.wts.length a.wc) := World.rowIs.cell HA3.out.box (i := 8) (by omega)
      have n0 := HA3.out.n0
      have n1 := HA3.out.n1
      unfold cvl at HCH
      have i0 : ¬ (k : Int) < 0 := by omega
      go_wp2_with fail
      clear c0 c1 c2 c3 c4 c5 c6 c7 c8 n0 n1
      refine Calls.mono HCH.out ?_
      rintro e w4 ⟨P, w0, a3, wv, rfl, hC3, E0⟩
      obtain ⟨m, hm⟩ : ∃ m, c.wts.length = m + 1 := ⟨c.wts.length - 1, by omega⟩
      obtain ⟨g, cc, hwv, hg1, hg2⟩ := hC3.ownW.form (by show 0 < c.wts.length; omega)
      have hwv' : wv = .slice (some ⟨g, 0, none⟩) (m + 1) cc := by rw [hwv, hm]
      subst hwv'
      have HOW : Hid (w4.ownsRow w0.heap.size 3 1 (.slice (some ⟨g, 0, none⟩) (m + 1) cc) (m + 1) (c.wts.map (Value.int .i64))) := by have := hC3.ownW; simp only [hm] at this; exact this
      have HC3 := hidp hC3
      have hPl := hC3.row.lt
      have s8 : w4.cell? ⟨P, 8, none⟩ = some (.slice (some ⟨g, 0, none⟩) (m + 1) cc) := hC3.row.cell (i := 8) (by omega)
      have HE0 := hidp (E3'.trans E0)
      have hkm : k < m + 1 := by omega
      have hml : m ≤ 16777216 := by have := hok.w; omega
      have HM := hidp hm
      have i1 : (k : Int) + 1 ≤ 9223372036854775807 := by omega
      clear hC3 HCH hwv hm
      go_wp2_with fail
      refine Calls.mono (Delete_any g m cc k w0.heap.size c.wts w4 HM.out HOW.out hkm hml) ?_
      rintro e w5 ⟨rfl, HDL⟩
      have H5 := hidp (HC3.out.delW (L := c.wts.eraseIdx k) (m := m) (g1 := g) (cc := cc) (by rw [List.length_eraseIdx_of_lt (by omega), HM.out]; rfl) HDL.out.1 HDL.out.2)
      have q8 := H5.out.1
      have z8 := H5.out.2.1
      have hP5 : P < w5.heap.size := by have := HDL.out.2.size; omega
      clear HDL HOW s8
      go_wp2_with fail
      obtain ⟨w6, hw6⟩ : ∃ w6, w6 = w5.setCell ⟨P, 8, none⟩ (.slice (some ⟨g, 0, none⟩) m cc) := ⟨_, rfl⟩
      have HC6 : Hid (CSt w3.heap.size (fun _ => True) P w0 w6 ⟨⟨c.st, c.now, c.nxt, c.num, c.wts.eraseIdx k⟩, []⟩ a3 nn (.slice (some ⟨g, 0, none⟩) m cc) (.slice none 0 0) []) := by rw [hw6]; exact H5.out.2.2
      rw [← hw6]
      clear hw6 H5 q8 z8
      refine Calls.mono (goOn_any w3.heap.size P nn w0 w6 _ a3 _ _ [] HC6.out hn8 hok.n hok.x (by have h2 := hok.w; exact Nat.le_trans (List.length_eraseIdx_le _ _) (Nat.le_trans h2 (by decide))) (by simp)) ?_
      intro e w9 hG
      obtain ⟨k0, k1, o2, l2, q2, o3, l3, q3, k4, o5, l5, q5, o6, l6, q6, k7, o8, l8, q8, tO, l9, tc, rfl, E9, HF⟩ := hG.letters
      clear hG
      have HA9 := hidp (HA2.out.ext (HE0.out.trans E9))
      obtain ⟨r0, r1, r2, r3, r4, r5, r6, r7, r8⟩ := HA9.out.zeros
      have z := box_frozen HA9.out.ans
      have z0 := z 0
      have z1 := z 1
      have z2 := z 2
      have z3 := z 3
      have z4 := z 4
      have z5 := z 5
      have z6 := z 6
      have z7 := z 7
      have z8 := z 8
      have hl9 := HA9.out.lt
      clear z
      go_wp2
      refine bodyPost_ret (v := .tuple #[.agg #[.int .i64 k0, .int .i64 k1, .slice o2 l2 q2, .slice o3 l3 q3, .int .i64 k4, .slice o5 l5 q5, .slice o6 l6 q6, .int .i64 k7, .slice o8 l8 q8], .slice tO l9 tc, .int .i64 0]) (by simp [results, Try.results12, go_sem, r0, r1, r2, r3, r4, r5, r6, r7, r8]) rfl ?_
      rw [HD.out]
      exact go_fin HF.out (by omega) (by omega) (hE2.trans (HE0.out.trans E9)) _ _ _ _ _ _ _ _ _
  · have HD : Hid (backS c n ls num = (⟨co0, []⟩, (wrong n ls).1)) := by show _ = _; unfold backS; rw [if_pos hr]
    have b0 : ((wrong n ls).1 != 0) = true := by simpa using hr
    clear hr
    go_wp2_with fail
    refine (refused_any (wrong n ls).1 _).mono ?_
    rintro e w9 ⟨he, E9⟩
    have he' : e = .returned (.tuple #[.agg #[.int .i64 0, .int .i64 0, .slice none 0 0, .slice none 0 0, .int .i64 0, .slice none 0 0, .slice none 0 0, .int .i64 0, .slice none 0 0], .slice none 0 0, .int .i64 (wrong n ls).1]) := he
    subst he'
    clear he
    have E9' : Ext w2 w9 := ((Ext.refl w2).alloc _).trans E9
    have HA9 := hidp (HA2.out.ext E9')
    obtain ⟨r0, r1, r2, r3, r4, r5, r6, r7, r8⟩ := HA9.out.zeros
    have z := box_frozen HA9.out.ans
    have z0 := z 0
    have z1 := z 1
    have z2 := z 2
    have z3 := z 3
    have z4 := z 4
    have z5 := z 5
    have z6 := z 6
    have z7 := z 7
    have z8 := z 8
    have hl9 := HA9.out.lt
    clear z
    go_wp2
    refine bodyPost_ret (v := .tuple #[.agg #[.int .i64 0, .int .i64 0, .slice none 0 0, .slice none 0 0, .int .i64 0, .slice none 0 0, .slice none 0 0, .int .i64 0, .slice none 0 0], .slice none 0 0, .int .i64 (wrong n ls).1]) (by simp [results, Try.results12, go_sem, r0, r1, r2, r3, r4, r5, r6, r7, r8]) rfl ?_
    rw [HD.out]
    exact go_none (by omega) (hE2.trans E9') _ _ _ _ _ _ _ _ _

end Go.Proofs.Ytgffkjjddhlbpaa.Ct

/- What haveRoom answers. -/
namespace Go.Proofs.Ytgffkjjddhlbpaa.Ct
open Go.RowKit Go.Deep Stw Stp Tb Rul

theorem full_true {n k : Nat} {a b : Pl} (hk : k < n) (h : 16 < (rls a k).length + (rls b k).length) : full n a b = true := by
  unfold full
  rw [List.any_eq_true]
  exact ⟨k, List.mem_range.2 hk, by simpa using h⟩
theorem full_false {n : Nat} {a b : Pl} (h : ∀ j, j < n → (rls a j).length + (rls b j).length ≤ 16) : full n a b = false := by
  unfold full
  rw [List.any_eq_false]
  intro x hx
  have := h x (List.mem_range.1 hx)
  simp
  omega

set_option maxRecDepth 100000 in
set_option maxHeartbeats 1600000 in
theorem haveRoom_any (now nxt : Pl) (an ax : PA) (n : Nat) (w : World) (hn : PlAt w now an) (hx : PlAt w nxt ax) (hnk : PlOk now) (hxk : PlOk nxt) (h8 : n ≤ 8) :
    Calls Try.prog 22 #[pvl now an, pvl nxt ax, .int .i64 n] w fun e w' => e = .returned (.bool (!full n now nxt)) ∧ Ext w w' := by
  have HL1 : Hid (∀ s, (rls now s).length ≤ 16777216) := hidp (rls_len hnk)
  have HL2 : Hid (∀ s, (rls nxt s).length ≤ 16777216) := hidp (rls_len hxk)
  obtain ⟨nv, nfs, nps⟩ := now
  obtain ⟨nfo, nqo, nfc, nqc⟩ := an
  obtain ⟨xv, xfs, xps⟩ := nxt
  obtain ⟨xfo, xqo, xfc, xqc⟩ := ax
  have hnq : PthsAt w nqo nps := hn.hq
  have hxq : PthsAt w xqo xps := hx.hq
  have ht1 : tot nps nps.length * 24 ≤ 140737488351232 := by rw [tot_sum]; have := hnk.tt; simp only at this; omega
  have ht2 : tot xps xps.length * 24 ≤ 140737488351232 := by rw [tot_sum]; have := hxk.tt; simp only at this; omega
  have hl1 : nps.length ≤ 16777216 := hnk.ql
  have hl2 : xps.length ≤ 16777216 := hxk.ql
  clear hn hx hnk hxk
  unfold pvl
  show Calls _ _ #[.agg #[.int .i64 nv, .slice nfo nfs.length nfc, .slice nqo nps.length nqc], .agg #[.int .i64 xv, .slice xfo xfs.length xfc, .slice xqo xps.length xqc], _] _ _
  go_enter Try.func22, Try.ntmps22
  go_wp2_with fail
  have hE0 : Ext w ((w.alloc (.cells #[.int .i64 nv, .slice nfo nfs.length nfc, .slice nqo nps.length nqc] 25)).alloc (.cells #[.int .i64 xv, .slice xfo xfs.length xfc, .slice xqo xps.length xqc] 25)) := ((Ext.refl w).alloc _).alloc _
  refine (Of_any xv xfo xqo xfs.length xfc xps.length xqc n xps _ rfl (pths_ps (hxq.ext hE0)) (by omega) ht2 (by omega)).mono ?_
  rintro e w1 ⟨vs1, rfl, hT1, E1⟩
  have q0 : w1.cell? ⟨w.heap.size, 0, none⟩ = some (.int .i64 nv) := (E1.cells.1 _ _ (by simp; omega)).trans (by simp)
  have q1 : w1.cell? ⟨w.heap.size, 1, none⟩ = some (.slice nfo nfs.length nfc) := (E1.cells.1 _ _ (by simp; omega)).trans (by simp)
  have q2 : w1.cell? ⟨w.heap.size, 2, none⟩ = some (.slice nqo nps.length nqc) := (E1.cells.1 _ _ (by simp; omega)).trans (by simp)
  rw [World.size_alloc, World.size_alloc] at hT1
  have HT1 := hidp hT1
  clear hT1
  have hE1 := hE0.trans E1
  go_wp2_with fail
  refine (Of_any nv nfo nqo nfs.length nfc nps.length nqc n nps _ rfl (pths_ps (hnq.ext hE1)) (by omega) ht1 (by omega)).mono ?_
  rintro e w2 ⟨vs2, rfl, hT2, E2⟩
  have HT2 := hidp hT2
  clear hT2
  have hE2 := hE1.trans E2
  have HT1' := hidp (HT1.out.ext E2)
  clear q0 q1 q2 HT1
  go_wp2
  go_loopw [17] (fun iv wr => ∃ k : Nat, k ≤ n ∧ iv = .int .i64 k ∧ Hid (∀ j, j < k → (rls ⟨nv, nfs, nps⟩ j).length + (rls ⟨xv, xfs, xps⟩ j).length ≤ 16) ∧ Ext w2 wr) (fun iv _ => n - (intOf iv).toNat)
  case atStart => exact ⟨0, Nat.zero_le _, rfl, hidp (fun j hj => by omega), Ext.refl w2⟩
  case round =>
    obtain ⟨k, hk, rfl, HW, hE⟩ := hrel
    by_cases hlt : k < n
    · have i1 : (k : Int) < (n : Int) := by omega
      have t1 := (HT1'.out.ext hE)
      have t2 := (HT2.out.ext hE)
      obtain ⟨o1, p1, e1, _⟩ := RO.form (t1.own k hlt)
      obtain ⟨o2, p2, e2, _⟩ := RO.form (t2.own k hlt)
      have c1 := t1.row.cell (i := k) hlt
      have c2 := t2.row.cell (i := k) hlt
      rw [e1] at c1
      rw [e2] at c2
      have m1 := HL1.out k
      have m2 := HL2.out k
      have HD : Hid (16 < (rls ⟨nv, nfs, nps⟩ k).length + (rls ⟨xv, xfs, xps⟩ k).length → full n ⟨nv, nfs, nps⟩ ⟨xv, xfs, xps⟩ = true) := full_true hlt
      have HW2 : Hid ((rls ⟨nv, nfs, nps⟩ k).length + (rls ⟨xv, xfs, xps⟩ k).length ≤ 16 → ∀ j, j < k + 1 → (rls ⟨nv, nfs, nps⟩ j).length + (rls ⟨xv, xfs, xps⟩ j).length ≤ 16) := fun h j hj => by
        by_cases e : j = k
        · subst e; exact h
        · exact HW.out j (by omega)
      obtain ⟨L1, h1⟩ : ∃ L, (rls ⟨xv, xfs, xps⟩ k).length = L := ⟨_, rfl⟩
      obtain ⟨L2, h2⟩ : ∃ L, (rls ⟨nv, nfs, nps⟩ k).length = L := ⟨_, rfl⟩
      have c1' : wr.cell? ⟨w.heap.size + 1 + 1 + 1, k, none⟩ = some (.slice o1 L1 p1) := by rw [← h1]; exact c1
      have c2' : wr.cell? ⟨w1.heap.size + 1, k, none⟩ = some (.slice o2 L2 p2) := by rw [← h2]; exact c2
      rw [h1] at m2 HD HW2
      rw [h2] at m1 HD HW2
      clear t1 t2 e1 e2 c1 c2 h1 h2
      by_cases hs : 16 < L2 + L1
      · have HF := hidp (HD.out hs)
        have i2 : (16 : Int) < (L2 : Int) + (L1 : Int) := by omega
        clear hs
        go_wp2
        go_ret
        exact ⟨by rw [HF.out]; first | done | rfl, hE2.trans hE⟩
      · have HF := hidp (HW2.out (by omega))
        have i2 : ¬ (16 : Int) < (L2 : Int) + (L1 : Int) := by omega
        clear hs
        go_wp2
        exact ⟨⟨k + 1, by omega, by go_num, HF, hE⟩, by simp [intOf]; omega⟩
    · have HF : Hid (full n ⟨nv, nfs, nps⟩ ⟨xv, xfs, xps⟩ = false) := full_false (fun j hj => HW.out j (by omega))
      have i1 : ¬ (k : Int) < (n : Int) := by omega
      clear HW
      go_wp2
      go_ret
      exact ⟨by rw [HF.out]; first | done | rfl, hE2.trans hE⟩

end Go.Proofs.Ytgffkjjddhlbpaa.Ct

/- What Plan answers, for every net, number and flows; nothing that was there is changed. -/
namespace Go.Proofs.Ytgffkjjddhlbpaa
open Go.RowKit Go.Maps Stw Go.Deep Stp

theorem costs_one {cs : Array Value} {ls : List Lk} (hcs : cs.size = 64) (hcc : ∀ a b : Nat, a < 8 → b < 8 → cs[a * 8 + b]? = some (.int .i64 (cost ls a b))) : cs.all (·.oneCell') = true := by
  rw [Array.all_eq_true]
  intro i hi
  have := hcc (i / 8) (i % 8) (by omega) (by omega)
  rw [show i / 8 * 8 + i % 8 = i by omega, Array.getElem?_eq_getElem hi] at this
  injection this with this
  rw [this]; rfl
theorem costs_block {w W : World} {cs A : Array Value} (h : (w.alloc (.cells A 103)).setRow w.heap.size cs = W) : W.heap[w.heap.size]? = some (.cells cs 103 (0, 0)) ∧ Ext w W ∧ W.heap.size = w.heap.size + 1 := by
  subst h
  exact ⟨setRow_heap _ _ _ cs _ _ (blk_alloc_new _ _), below_setRow ((Below.refl _ _).alloc (Nat.le_refl _) _) (Nat.le_refl _) _, by simp⟩

/-- A list of the plan's stays when a flow is appended. -/
theorem PSt.keepF {P : Nat} {w0 w w' : World} {o : Obj} {v0 fv qv v : Value} {kf kq g c : Nat} {FV FV' V : List Value} {fs : List Stf.Fl} {ps : List (List Int)} {p : List Int} (h : PSt P w0 w v0 fv qv kf kq FV V fs ps) (hp : LQ w (Qn P fv qv) p v)
    (hown : w'.ownsRow (P + 1) 91 4 (.slice (some ⟨g, 0, none⟩) (kf + 1) c) (kf + 1) FV') (hg : (w.alloc o).grownBy w' fv.ownBlock) (hat : fv.ownBlock = some g ∨ g = w.heap.size + 1) :
    LQ (w'.setCell ⟨P, 1, none⟩ (.slice (some ⟨g, 0, none⟩) (kf + 1) c)) (Qn P (.slice (some ⟨g, 0, none⟩) (kf + 1) c) qv) p v := by
  have hP := h.row.lt
  have hge : P + 1 ≤ g := (hown.lt g rfl).1
  have hs := hg.size
  rw [World.size_alloc] at hs
  refine hp.mono (fun b hb hlt => ?_)
  have hb1 := hb.1
  refine ⟨⟨hb.1, hb.2.1, fun e => ?_⟩, by simp; omega, (blk_setCell_other _ _ _ _ (by simp; omega)).trans ((hg.block b (by simp; omega) (fun e => hb.2.2 e.symm)).trans (blk_alloc_lt _ _ _ hlt))⟩
  have e' : g = b := by simpa [Value.ownBlock] using e
  rcases hat with k | k
  · exact hb.2.2 (by rw [k, e'])
  · omega
theorem LQ.ext {w w' : World} {Q : Nat → Prop} {ps : List Int} {v : Value} (h : LQ w Q ps v) (E : Ext w w') : LQ w' Q ps v := h.mono (fun b hb hlt => ⟨hb, Nat.lt_of_lt_of_le hlt E.size, Below.block E b hlt⟩)
/-- A flow more, in a plan, behind a call that laid its lists in new blocks. -/
theorem plan7 {P : Nat} {w0 w w' : World} {o : Obj} {v0 fv qv v n u : Value} {kf kq g c : Nat} {FV V : List Value} {fs : List Stf.Fl} {ps : List (List Int)} {f : Stf.Fl} {p : List Int} (h : PSt P w0 w v0 fv qv kf kq FV V fs ps) (kv : LQ w (Qn P fv qv) f.via v) (kn : LQ w (Qn P fv qv) f.nt n) (kp : LQ w (Qn P fv qv) p u)
    (hown : w'.ownsRow (P + 1) 91 4 (.slice (some ⟨g, 0, none⟩) (kf + 1) c) (kf + 1) (FV ++ [.int .i64 f.fr, .int .i64 f.to, v, n])) (hg : (w.alloc o).grownBy w' fv.ownBlock) (hat : fv.ownBlock = some g ∨ g = w.heap.size + 1) :
    w'.cell? ⟨P, 1, none⟩ = some fv ∧ w'.frozen? ⟨P, 1, none⟩ = false ∧ w'.cell? ⟨P, 2, none⟩ = some qv ∧ PSt P w0 (w'.setCell ⟨P, 1, none⟩ (.slice (some ⟨g, 0, none⟩) (kf + 1) c)) v0 (.slice (some ⟨g, 0, none⟩) (kf + 1) c) qv (kf + 1) kq (FV ++ [.int .i64 f.fr, .int .i64 f.to, v, n]) V (fs ++ [f]) ps ∧ LQ (w'.setCell ⟨P, 1, none⟩ (.slice (some ⟨g, 0, none⟩) (kf + 1) c)) (Qn P (.slice (some ⟨g, 0, none⟩) (kf + 1) c) qv) p u := by
  have hP := h.row.lt
  have hneP : some P ≠ fv.ownBlock := fun e => by have := (h.ownF.lt P e.symm).1; omega
  have hr := h.row.of_block ((hg.block P (by simp; omega) hneP).trans (blk_alloc_lt _ _ _ hP))
  exact ⟨hr.cell (i := 1) (by omega), hr.frozen 1, hr.cell (i := 2) (by omega), h.pushF kv kn hown hg hat, h.keepF kp hown hg hat⟩
/-- A path more, in a plan. -/
theorem plan9 {P : Nat} {w0 w w' : World} {o : Obj} {v0 fv qv v : Value} {kf kq g c : Nat} {FV V : List Value} {fs : List Stf.Fl} {ps : List (List Int)} {p : List Int} (h : PSt P w0 w v0 fv qv kf kq FV V fs ps) (kv : LQ w (Qn P fv qv) p v)
    (hown : w'.ownsRow (P + 1) 105 1 (.slice (some ⟨g, 0, none⟩) (kq + 1) c) (kq + 1) (V ++ [v])) (hg : (w.alloc o).grownBy w' qv.ownBlock) (hat : qv.ownBlock = some g ∨ g = w.heap.size + 1) :
    w'.cell? ⟨P, 2, none⟩ = some qv ∧ w'.frozen? ⟨P, 2, none⟩ = false ∧ PSt P w0 (w'.setCell ⟨P, 2, none⟩ (.slice (some ⟨g, 0, none⟩) (kq + 1) c)) v0 fv (.slice (some ⟨g, 0, none⟩) (kq + 1) c) kf (kq + 1) FV (V ++ [v]) fs (ps ++ [p]) := by
  have hP := h.row.lt
  have hneP : some P ≠ qv.ownBlock := fun e => by have := (h.ownQ.lt P e.symm).1; omega
  have hr := h.row.of_block ((hg.block P (by simp; omega) hneP).trans (blk_alloc_lt _ _ _ hP))
  exact ⟨hr.cell (i := 2) (by omega), hr.frozen 2, h.pushQ kv hown hg hat⟩
theorem take_flow {fs : List Stf.Fl} {k : Nat} (h : k < fs.length) : fs.take (k + 1) = fs.take k ++ [fs.getD k Fw.f0] := by
  rw [List.take_succ_eq_append_getElem h]
  simp [List.getD_eq_getElem?_getD, h]

set_option maxRecDepth 100000 in
set_option maxHeartbeats 16000000 in
theorem Plan_new (n version : Int) (ao : Option Addr) (len cap : Nat) (ls : List Lk) (lo : Option Addr) (ll lc : Nat) (fs : List Stf.Fl) (w : World) (hlen : ls.length = len) (hl : NetAt w ao ls) (hx : len ≤ 9223372036854775807) (hI : I64 n)
    (hll : fs.length = ll) (hf : Fw.FlowsAt w lo fs) (hS : Fw.Sm fs) (hlx : ll ≤ 9223372036854775807) :
    Calls Try.prog 21 #[.agg #[.int .i64 n, .slice ao len cap], .int .i64 version, .slice lo ll lc] w fun e w' => PlanNew w w' e n version ls fs := by
  go_enter Try.func21, Try.ntmps21
  go_wp2_with fail
  refine (Wrong_any n ao len cap ls _ hlen (hl.ext ((((Ext.refl w).alloc _).alloc _).alloc _)) hx).mono ?_
  rintro e w1 ⟨rfl, E1⟩
  have hw1 : Ext w w1 := ((((Ext.refl w).alloc _).alloc _).alloc _).trans E1
  have hpb := (PB.start w n ao len cap).ext E1
  have HPB := hidp hpb
  obtain ⟨s1, n0, n1, p0, p1, p2, f0, f1, z1, z2⟩ := hpb
  have s0 : w.heap.size + 1 < w1.heap.size := by omega
  have s00 : w.heap.size < w1.heap.size := by omega
  by_cases hr : (wrong n ls).1 = 0
  · have hright := right_of hr
    have HW := hidp hr
    rw [hright.wrong]
    clear hr
    by_cases hv : version < 1 ∨ 1000 < version
    · have HP := hidp (plnF_range (fs := fs) HW.out hv)
      rcases hv with hv | hv
      · go_wp2
        refine bodyPost_ret_by (plan_ret Try.results21 rfl rfl (((c5_sets (by omega) HPB.out.c5).alloc (by simp; omega) (by simp; omega) _))) rfl (planN_bad HP.out (by simp) ?_)
        exact ((((((hw1).setCell (by simp) _).setCell (by simp) _).setCell (by simp) _).setCell (by simp; omega) _).setCell (by simp; omega) _).alloc _
      · go_wp2
        refine bodyPost_ret_by (plan_ret Try.results21 rfl rfl (((c5_sets (by omega) HPB.out.c5).alloc (by simp; omega) (by simp; omega) _))) rfl (planN_bad HP.out (by simp) ?_)
        exact ((((((hw1).setCell (by simp) _).setCell (by simp) _).setCell (by simp) _).setCell (by simp; omega) _).setCell (by simp; omega) _).alloc _
    · have hv1 : ¬ version < 1 := fun h => hv (Or.inl h)
      have hv2 : ¬ 1000 < version := fun h => hv (Or.inr h)
      have HV := hidp hv
      clear hv
      go_wp2_with fail
      refine (Fw.Wrong_any lo ll lc n fs _ hll (hf.ext (hw1.alloc _)) hI hS hlx).mono ?_
      rintro e w2 ⟨rfl, E2⟩
      have E2' : Ext w1 w2 := ((Ext.refl w1).alloc _).trans E2
      have hw2 : Ext w w2 := hw1.trans E2'
      have hpb2 := HPB.out.ext E2'
      have HPB2 := hidp hpb2
      clear n0 n1 p0 p1 p2 f0 f1 z1 z2 HPB
      obtain ⟨s2, n0, n1, p0, p1, p2, f0, f1, z1, z2⟩ := hpb2
      have s02 : w.heap.size + 1 < w2.heap.size := by omega
      have s002 : w.heap.size < w2.heap.size := by omega
      by_cases hwf : (Stf.wflows fs n).1 = 0
      · have HWF := hidp hwf
        have h12 := wflows_len hwf
        have hwf' : ((Stf.wflows fs n).1 != 0) = false := by simpa using hwf
        clear hwf
        obtain ⟨nn, rfl⟩ := Int.eq_ofNat_of_zero_le (show 0 ≤ n by have := hright.bounds; omega)
        go_wp2_with fail
        refine (costsOf_right nn ao len cap ls _ hlen (hl.ext (hw2.alloc _)) hx (hright.wrong)).mono ?_
        rintro e w3 ⟨cs, rfl, hcs, hcc, E3⟩
        have E3' : Ext w2 w3 := ((Ext.refl w2).alloc _).trans E3
        have hw3 : Ext w w3 := hw2.trans E3'
        have hpb3 := HPB2.out.ext E3'
        have HPB3 := hidp hpb3
        clear n0 n1 p0 p1 p2 f0 f1 z1 z2 HPB2 E1 E2 E3
        obtain ⟨s3, n0, n1, p0, p1, p2, f0, f1, z1, z2⟩ := hpb3
        have s03 : w.heap.size + 1 < w3.heap.size := by omega
        have s003 : w.heap.size < w3.heap.size := by omega
        have hone := costs_one hcs hcc
        have hi2 : (Try.prog.info? 103).map (·.size) = some cs.size := by rw [hcs]; kernel_rfl
        go_wp2_with (refine wpList_store_row rfl 103 (.tmp 10) (.tmp 41) rfl w3.heap.size cs rfl rfl 103 _ (blk_alloc_new _ _) hi2 (by rw [hcs]; rfl) hone ?_; generalize hW : World.setRow _ _ _ = w4; have h4 := costs_block hW; clear hW; obtain ⟨hb4, hE4, hz4⟩ := h4; have HZ4 := hidp hz4; have l4 : w3.heap.size < w4.heap.size := (by omega); clear hz4)
        clear n0 n1 p0 p1 p2 f0 f1 z1 z2
        have HP4 := hidp (HPB3.out.ext hE4)
        have hw4 : Ext w w4 := hw3.trans hE4
        have hs4 : w.heap.size + 1 + 1 < w4.heap.size := HP4.out.sz
        clear hone hE4 HPB3 s3 s03 s003
        go_loopw [46] (fun iv wr => ∃ (k : Nat) (fv qv : Value) (FV V : List Value), k ≤ ll ∧ iv = .int .i64 k ∧ (∀ j, j < k → (fnd nn ls (fs.getD j Fw.f0)).1 = 0) ∧ PSt w4.heap.size w4 wr (.int .i64 version) fv qv k k FV V (fs.take k) ((plnP nn ls fs).take k)) (fun iv _ => ll - (intOf iv).toNat)
        case atStart =>
          exact ⟨0, .slice none 0 0, .slice none 0 0, [], [], Nat.zero_le _, rfl, fun j hj => by omega, pst_start rfl _⟩
        case round =>
          obtain ⟨k, fv, qv, FV, V, hk, rfl, hpre, hps⟩ := hrel
          have hEr : Ext w wr := Below.trans hw4 (hps.bel.mono (by omega))
          have hpr := HP4.out.below hps.bel hs4
          have HPr := hidp hpr
          have HPre := hidp hpre
          have HPS := hidp hps
          have hPl := hps.row.lt
          have hbr : wr.heap[w3.heap.size]? = some (.cells cs 103 (0, 0)) := (Below.block hps.bel _ l4).trans hb4
          clear hpre
          obtain ⟨sr, n0, n1, p0, p1, p2, f0, f1, z1, z2⟩ := hpr
          have sr0 : w.heap.size + 1 < wr.heap.size := by omega
          have sr00 : w.heap.size < wr.heap.size := by omega
          have l3r : w3.heap.size < wr.heap.size := by omega
          by_cases hlt : k < ll
          · obtain ⟨b, off, vo, vc, no, nc, a, t, X, Y, rfl, hb, hg, c0, c1, c2, c3, ⟨_, _, e1, hv, hvc⟩, ⟨_, _, e2, hn, hnc⟩⟩ := (hf.ext hEr).get (k := k) (by omega)
            cases e1
            cases e2
            have hsm := hS.get (k := k) (by omega) hg
            have HG := hidp hg
            have i1 : (k : Int) < (ll : Int) := by omega
            clear hg hps
            have hl1 : (wr.alloc (.cells #[.int .i64 a, .int .i64 t, .slice vo X.length vc, .slice no Y.length nc] 91)).heap[w3.heap.size]? = some (.cells cs 103 (0, 0)) := (blk_alloc_lt _ _ _ l3r).trans hbr
            go_wp2_with (refine wpList_load_row rfl 103 (.tmp 10) rfl w3.heap.size rfl 103 cs (0, 0) _ hl1 Try.underlying103 rfl hi2 ?_)
            have hwk : Stf.wflow ⟨a, t, X, Y⟩ nn = 0 := by rw [← HG.out]; exact wflows_all HWF.out k (by omega)
            have HWK := hidp hwk
            have hF := rightF_of hwk
            clear hwk
            obtain ⟨frn, rfl⟩ := Int.eq_ofNat_of_zero_le hF.fr.1
            have hbd := hright.bounds
            have hfr8 : frn < 8 := by have := hF.fr.2; simp at this; omega
            have HC : Hid (∀ a b, 0 ≤ cost ls a b ∧ cost ls a b ≤ 1000) := fun a b => ⟨(hright.cost a b).1, (hright.cost a b).2.1⟩
            have HN1 : Hid (∀ x ∈ Y, 0 ≤ x ∧ x < 8) := fun x hx => by have := hF.nt x hx; simp only at this; omega
            have HN2 : Hid (¬ (frn : Int) ∈ Y) := fun h => (hF.nt _ h).2.2.1 rfl
            have hX8 : X.length ≤ 8 := rng_len 8 X hF.vnd (fun x hx => by have := hF.via x hx; simp only at this; omega)
            have hY8 : Y.length ≤ 8 := rng_len 8 Y hF.nnd (fun x hx => by have := hF.nt x hx; simp only at this; omega)
            clear hF hbd
            refine (cheapest_any (C := cost ls) HC.out frn t vo no vc nc X Y _ hfr8 hsm.1 hsm.2 (hv.ext ((Ext.refl wr).alloc _)) (hn.ext ((Ext.refl wr).alloc _)) HN1.out HN2.out cs hcs hcc).mono ?_
            rintro e w5 ⟨E5, ho⟩
            have E5' : Ext wr w5 := ((Ext.refl wr).alloc _).trans E5
            have hE5 := hEr.trans E5'
            have hP5 := HPr.out.ext E5'
            have HP5 := hidp hP5
            clear n0 n1 p0 p1 p2 f0 f1 z1 z2 c0 c1 c2 c3
            have hs5 := E5'.size
            have hF5 : wr.heap.size < w5.heap.size := by have := E5.size; simp at this; omega
            cases hfi : find (cost ls) frn t X Y with
            | none =>
              rw [hfi] at ho
              have ho' := FOut.none ho
              subst ho'
              have HP := hidp (plnF_bad (version := version) HW.out HV.out HWF.out (k := k) (by omega) HPre.out (by rw [HG.out, fnd_none HW.out HWK.out hfi]; decide))
              have HFN := hidp (fnd_none HW.out HWK.out hfi)
              clear hfi ho
              obtain ⟨s5, n0, n1, p0, p1, p2, f0, f1, z1, z2⟩ := hP5
              have s05 : w.heap.size + 1 < w5.heap.size := by omega
              go_wp2
              refine bodyPost_ret_by (plan_ret Try.results21 rfl rfl (c5_sets (by omega) HP5.out.c5)) rfl ?_
              have hq := planN_bad (w := w) (w' := ((((((w5.setCell ⟨w.heap.size + 1, 0, none⟩ (.int .i64 0)).setCell ⟨w.heap.size + 1, 1, none⟩ (.slice none 0 0)).setCell ⟨w.heap.size + 1, 2, none⟩ (.slice none 0 0)).setCell ⟨w.heap.size + 1 + 1, 0, none⟩ (.int .i64 9)).setCell ⟨w.heap.size + 1 + 1, 1, none⟩ (.int .i64 k)))) (r := (9, (k : Int))) (by rw [HP.out, HG.out, HFN.out]) (by simp) ((((((hE5).setCell (by simp) _).setCell (by simp) _).setCell (by simp) _).setCell (by simp; omega) _).setCell (by simp; omega) _)
              exact hq
            | some y =>
              obtain ⟨p, c⟩ := y
              rw [hfi] at ho
              obtain ⟨g, gcap, rfl, hg1, hg2, hg3, hg4⟩ := ho
              have HFN := hidp (fnd_some HW.out HWK.out hfi)
              clear hfi
              obtain ⟨s5, n0, n1, p0, p1, p2, f0, f1, z1, z2⟩ := hP5
              clear n0 n1 p0 p1 p2 f0 f1 z1 z2 hl1 hb4 hbr
              have hps5 := HPS.out.ext E5'
              have q1 : w5.cell? ⟨w4.heap.size, 1, none⟩ = some fv := hps5.row.cell (i := 1) (by omega)
              have HPS5 := hidp hps5
              have hP5' := hps5.row.lt
              clear hps5
              have c0 : w5.cell? ⟨wr.heap.size, 0, none⟩ = some (.int .i64 frn) := (E5.cells.1 _ _ (by simp)).trans (by simp)
              have c1 : w5.cell? ⟨wr.heap.size, 1, none⟩ = some (.int .i64 t) := (E5.cells.1 _ _ (by simp)).trans (by simp)
              have c2 : w5.cell? ⟨wr.heap.size, 2, none⟩ = some (.slice vo X.length vc) := (E5.cells.1 _ _ (by simp)).trans (by simp)
              have c3 : w5.cell? ⟨wr.heap.size, 3, none⟩ = some (.slice no Y.length nc) := (E5.cells.1 _ _ (by simp)).trans (by simp)
              have HB : Hid (∀ W, Ext w5 W → W.cell? ⟨w4.heap.size, 1, none⟩ = some fv ∧ W.cell? ⟨wr.heap.size, 0, none⟩ = some (.int .i64 frn) ∧ W.cell? ⟨wr.heap.size, 1, none⟩ = some (.int .i64 t) ∧ W.cell? ⟨wr.heap.size, 2, none⟩ = some (.slice vo X.length vc) ∧ W.cell? ⟨wr.heap.size, 3, none⟩ = some (.slice no Y.length nc)) := fun W h =>
                ⟨(h.cells.1 _ _ hP5').trans q1, (h.cells.1 _ _ hF5).trans c0, (h.cells.1 _ _ hF5).trans c1, (h.cells.1 _ _ hF5).trans c2, (h.cells.1 _ _ hF5).trans c3⟩
              have HLP : Hid (LQ w5 (fun b => wr.heap.size ≤ b) p (.slice (some ⟨g, 0, none⟩) p.length gcap)) := ⟨_, _, rfl, Or.inr ⟨g, 0, rfl, by simp at hg1; omega, hg2, hg3⟩, hg4⟩
              obtain ⟨i0, hi0, hz00, hz01, hz02⟩ := info_parts infoFl
              obtain ⟨j0, hj0, hy0, hy1, hy2⟩ := info_parts infoP
              clear hg1 hg3 hg4 E5
              go_wp2
              go_region_law
                (first
                | (have _t := mk6
                   refine step_append_lies _ ?_ (.tmp 64) (.tmp 67) 22 ?_ (w4.heap.size + 1) 91 i0 (.agg #[.int .i64 0, .int .i64 0, .slice none 0 0, .slice none 0 0]) 4 64 Try.underlying22 hi0 hz00 hz01 hz02 rfl (by decide) fv k FV ?_ ?_ ⟨w6.heap.size, 0, none⟩ 1 1 [.int .i64 frn, .int .i64 t, .slice vo' X.length vc', .slice no' Y.length nc'] ?_ ?_ ?_ (one4s _ _ _ _ _ _ _ _) ?_ ?_ ?_ ?_ _ rfl ?_
                   · rfl
                   · rfl
                   · rfl
                   · with_reducible exact (HPS5.out.ext mk6).ownF.alloc _
                   · rfl
                   · rfl
                   · exact World.news_of_block (cs := #[.int .i64 frn, .int .i64 t, .slice vo' X.length vc', .slice no' Y.length nc']) (blk_alloc_new w6 _)
                   · omega
                   · unfold maxLen; omega
                   · omega
                   · have := mk6.size; simp; omega
                   intro g7 gc7 w7 hown7 hgr7 hat7 hlt7
                   have H7 := hidp (plan7 (f := ⟨frn, t, X, Y⟩) (HPS5.out.ext mk6) (HPS5.out.fresh hv6) (HPS5.out.fresh hn6) ((HPS.out.fresh HLP.out).ext mk6) hown7 hgr7 (hat7.imp id (fun h => by simpa using h)))
                   have q7 := H7.out.1
                   have q7z := H7.out.2.1
                   have q72 := H7.out.2.2.1
                   clear hown7 hgr7 hat7)
                | (go_simp
                   go_at_call 47
                   refine (copyOf_any ⟨frn, t, X, Y⟩ vo no vc nc _ (hv.ext E5'.drew) (Nat.le_trans hX8 (by decide)) (hn.ext E5'.drew) (Nat.le_trans hY8 (by decide))).mono ?_
                   rintro e w6 ⟨v', n', rfl, hv6, hn6, E6⟩
                   have mk6 : Ext w5 w6 := (Ext.refl w5).drew.trans E6
                   obtain ⟨r0, r1, r2, r3, r4⟩ := HB.out w6 mk6
                   have l6 : w4.heap.size < w6.heap.size := Nat.lt_of_lt_of_le hP5' mk6.size
                   have l6' : wr.heap.size < w6.heap.size := Nat.lt_of_lt_of_le hF5 mk6.size
                   obtain ⟨vo', vc', rfl, hv6'⟩ := hv6
                   obtain ⟨no', nc', rfl, hn6'⟩ := hn6
                   have hv6 : FN w5.heap.size w6 X (.slice vo' X.length vc') := ⟨_, _, rfl, hv6'⟩
                   have hn6 : FN w5.heap.size w6 Y (.slice no' Y.length nc') := ⟨_, _, rfl, hn6'⟩
                   clear hv6' hn6' E6))
              all_goals
                have l7 : w4.heap.size < w7.heap.size := by have := H7.out.2.2.2.1.row.lt; simpa using this
                go_wp2_with (first | (at_builtin; refine wpList_append_lies _ rfl _ _ 23 rfl (w4.heap.size + 1) 105 j0 (.slice none 0 0) 1 24 Try.underlying23 hj0 hy0 hy1 hy2 rfl (by decide) _ _ _ rfl (H7.out.2.2.2.1.ownQ.alloc _) ⟨w7.heap.size, 0, none⟩ 1 1 [.slice (some ⟨g, 0, none⟩) p.length gcap] rfl rfl (news1' (by simp) _ _) (one1s _ _ _) (by decide) (by unfold maxLen; omega) (by omega) (by simp; omega) _ rfl ?_) | go_in)
                intro g9 gc9 w9 hown9 hgr9 hat9 hlt9
                have H9 := hidp (plan9 H7.out.2.2.2.1 H7.out.2.2.2.2 hown9 hgr9 (hat9.imp id (fun h => by simpa using h)))
                have q9 := H9.out.1
                have q9z := H9.out.2.1
                clear hown9 hgr9 hat9 q7 q7z q72
                go_wp2
                go_roundw
                case rel =>
                  have ef : fs.take (k + 1) = fs.take k ++ [⟨frn, t, X, Y⟩] := by rw [take_flow (by omega), HG.out]
                  have ep : (plnP nn ls fs).take (k + 1) = (plnP nn ls fs).take k ++ [p] := by rw [plnP_take (by omega), HG.out, HFN.out]
                  have hq := H9.out.2.2
                  rw [← ef, ← ep] at hq
                  refine ⟨k + 1, _, _, _, _, by omega, by go_num, fun j hj => ?_, hq⟩
                  by_cases e : j = k
                  · subst e; rw [HG.out, HFN.out]
                  · exact HPre.out j (by omega)
                case measure => simp [intOf]; omega
          · have hkl : k = fs.length := by omega
            have HP := hidp (plnF_good (version := version) HW.out HV.out HWF.out (fun j hj => HPre.out j (by omega)))
            have ht : (plnP nn ls fs).take k = plnP nn ls fs := List.take_of_length_le (by simp [plnP]; omega)
            have ht2 : fs.take k = fs := List.take_of_length_le (by omega)
            rw [ht, ht2] at hps
            clear HPS ht ht2
            obtain ⟨fo, fc, qo, qc, rfl, rfl, hfa⟩ := hps.fin3
            have HT := hidp hfa
            have q0 : wr.cell? ⟨w4.heap.size, 0, none⟩ = some (.int .i64 version) := hps.row.cell (i := 0) (by omega)
            have q1 : wr.cell? ⟨w4.heap.size, 1, none⟩ = some (.slice fo ll fc) := by have := hps.row.cell (i := 1) (by omega); rw [hll] at this; exact this
            have q2 : wr.cell? ⟨w4.heap.size, 2, none⟩ = some (.slice qo (plnP nn ls fs).length qc) := hps.row.cell (i := 2) (by omega)
            have i1 : ¬ (k : Int) < (ll : Int) := by omega
            have HK := hidp hkl
            clear hfa hps hkl hbr hb4
            go_wp2
            refine bodyPost_ret_by (plan_ret Try.results21 rfl rfl (c5_sets (by omega) HPr.out.c5)) rfl ?_
            have hE5 : Ext w (((((wr.setCell ⟨w.heap.size + 1, 0, none⟩ (.int .i64 version)).setCell ⟨w.heap.size + 1, 1, none⟩ (.slice fo ll fc)).setCell ⟨w.heap.size + 1, 2, none⟩ (.slice qo (plnP nn ls fs).length qc)).setCell ⟨w.heap.size + 1 + 1, 0, none⟩ (.int .i64 0)).setCell ⟨w.heap.size + 1 + 1, 1, none⟩ (.int .i64 0)) :=
              ((((hEr.setCell (by simp) _).setCell (by simp) _).setCell (by simp) _).setCell (by simp; omega) _).setCell (by simp; omega) _
            exact ⟨version, fo, ll, fc, qo, _, qc, by rw [HP.out], hE5, Or.inr ⟨by rw [HP.out], rfl, hll.symm, rfl, fun U hs hU => HT.out U (by simpa using hs) (fun b hb hlt => by rw [hU b (by omega) (by simpa using hlt), blk_setCell_other _ _ _ _ (by simp; omega), blk_setCell_other _ _ _ _ (by simp; omega), blk_setCell_other _ _ _ _ (by simp; omega), blk_setCell_other _ _ _ _ (by simp; omega), blk_setCell_other _ _ _ _ (by simp; omega)])⟩⟩
      · have HP := hidp (plnF_flows (version := version) HW.out HV.out hwf)
        have hwf' : ((Stf.wflows fs n).1 != 0) = true := by simpa using hwf
        have HWF := hidp hwf
        clear hwf
        go_wp2
        go_region
        go_wp2
        refine bodyPost_ret_by (plan_ret Try.results21 rfl rfl (((c5_sets (by omega) HPB2.out.c5).alloc (by simp; omega) (by simp; omega) _).drew)) rfl (planN_bad HP.out HWF.out ?_)
        exact (((((((hw2).setCell (by simp) _).setCell (by simp) _).setCell (by simp) _).setCell (by simp; omega) _).setCell (by simp; omega) _).alloc _).drew
  · have HP := hidp (plnF_wrong (version := version) (fs := fs) hr)
    have hr' : ((wrong n ls).1 != 0) = true := by simpa using hr
    have HR := hidp hr
    clear hr
    go_wp2
    go_region
    go_wp2
    refine bodyPost_ret_by (plan_ret Try.results21 rfl rfl (((c5_sets (by omega) HPB.out.c5).alloc (by simp; omega) (by simp; omega) _).drew)) rfl (planN_bad HP.out HR.out ?_)
    exact (((((((hw1).setCell (by simp) _).setCell (by simp) _).setCell (by simp) _).setCell (by simp; omega) _).setCell (by simp; omega) _).alloc _).drew

theorem Plan_any (n version : Int) (ao : Option Addr) (len cap : Nat) (ls : List Lk) (lo : Option Addr) (ll lc : Nat) (fs : List Stf.Fl) (w : World) (hlen : ls.length = len) (hl : NetAt w ao ls) (hx : len ≤ 9223372036854775807) (hI : I64 n)
    (hll : fs.length = ll) (hf : Fw.FlowsAt w lo fs) (hS : Fw.Sm fs) (hlx : ll ≤ 9223372036854775807) :
    Calls Try.prog 21 #[.agg #[.int .i64 n, .slice ao len cap], .int .i64 version, .slice lo ll lc] w fun e w' => PlanOut w w' e n version ls fs :=
  (Plan_new n version ao len cap ls lo ll lc fs w hlen hl hx hI hll hf hS hlx).mono (fun _ _ h => h.out)

end Go.Proofs.Ytgffkjjddhlbpaa

/- What Find tells, in plain words. -/
namespace Go.Proofs.Ytgffkjjddhlbpaa
open Go.RowKit Go.Maps Stw Go.Deep Stp

theorem scan_ne {f : Nat → Int} {c : Int} (hc : c ≠ 0) (h : ∀ i, f i ≠ c) : ∀ (m k : Nat), (scan f m k).1 ≠ c
  | 0, _ => by simp only [scan]; exact fun e => hc e.symm
  | m + 1, k => by
    unfold scan
    split
    · exact scan_ne hc h m (k + 1)
    · exact h k
theorem wlink_ne {n a b c : Int} : wlink n a b c ≠ 9 := by
  unfold wlink
  repeat' split
  all_goals omega
theorem ewl_ne {n : Int} {ls : List Lk} {k : Nat} : ewl n ls k ≠ 9 := by
  unfold ewl
  split
  · split <;> omega
  · exact wlink_ne
theorem wrong_ne {n : Int} {ls : List Lk} : (wrong n ls).1 ≠ 9 := by
  unfold wrong
  split
  · simp
  · exact scan_ne (by omega) (fun i => ewl_ne) _ _
theorem wlist_ne {a b n : Int} {L : List Int} : Stf.wlist a b n L ≠ 9 := by
  unfold Stf.wlist
  split
  · unfold Stf.ewl
    repeat' split
    all_goals omega
  · omega
theorem wflow_ne {f : Stf.Fl} {n : Int} : Stf.wflow f n ≠ 9 := by
  unfold Stf.wflow
  repeat' split
  all_goals first | omega | exact wlist_ne

/-- What Find tells. -/
theorem fnd_cases {n : Int} {ls : List Lk} {f : Stf.Fl} : ((fnd n ls f).1 ≠ 0 ∧ (fnd n ls f).1 ≠ 9 ∧ (fnd n ls f).2 = []) ∨ ((fnd n ls f).1 = 9 ∧ (fnd n ls f).2 = [] ∧ Right n ls ∧ RightF n f ∧ ∀ q, ¬ Srv (cost ls) f.fr f.to f.via f.nt q) ∨
    ((fnd n ls f).1 = 0 ∧ Right n ls ∧ RightF n f ∧ IsBest (cost ls) f.fr f.to f.via f.nt (fnd n ls f).2 (pc (cost ls) (fnd n ls f).2)) := by
  unfold fnd
  by_cases hw : (wrong n ls).1 = 0
  · have hr := right_of hw
    have hb := hr.bounds
    rw [if_neg (by simp [hw])]
    by_cases hf : Stf.wflow f n = 0
    · rw [if_neg (by simp [hf])]
      have hF := rightF_of hf
      have hC : ∀ x y, 0 ≤ cost ls x y := fun x y => (hr.cost x y).1
      have hfr : 0 ≤ f.fr ∧ f.fr < 8 := by have := hF.fr; omega
      have hnf : ¬ f.fr ∈ f.nt := fun h => (hF.nt _ h).2.2.1 rfl
      cases hfi : find (cost ls) f.fr f.to f.via f.nt with
      | none => exact Or.inr (Or.inl ⟨rfl, rfl, hr, hF, find_none hC hfr hnf hfi⟩)
      | some y =>
        obtain ⟨p, c⟩ := y
        have hbest := find_some hC hfr hnf hfi
        refine Or.inr (Or.inr ⟨rfl, hr, hF, ?_⟩)
        have := hbest.2.1
        rw [← this]
        exact hbest
    · rw [if_pos hf]
      exact Or.inl ⟨hf, wflow_ne, rfl⟩
  · rw [if_pos hw]
    exact Or.inl ⟨hw, wrong_ne, rfl⟩

end Go.Proofs.Ytgffkjjddhlbpaa

/- Rules in plain words: sorting block by block; tables, and what is wrong with them; what is added, dropped and found. -/
namespace Rul
open Go.Sort

/-! ### an insertion sort keeps those of one place as they stood -/
theorem swp_sm {d : Array Ru} {j x y : Nat} (hl : lt d[j + 1]! d[j]! = true) (hx : x ≤ j) (hy : j + 2 ≤ y) (hs : y ≤ d.size) : Sm (seg (swp d (j + 1) j) x y) (seg d x y) := by
  have e : ∀ D : Array Ru, seg D x y = seg D x j ++ ([D[j]!] ++ [D[j + 1]!]) ++ seg D (j + 2) y := fun D => by
    rw [seg_append D hx (by omega), seg_append D (a := j) (m := j + 2) (by omega) hy, seg_append D (a := j) (m := j + 1) (b := j + 2) (by omega) (by omega), seg_one, seg_one]; simp
  rw [e, e d, swp_right _ _ _ (by omega), swp_left _ _ _ (by omega) (by omega)]
  rw [seg_congr (d := d) (d' := swp d (j + 1) j) (a := x) (b := j) fun i _ _ => swp_other _ _ _ _ (by omega) (by omega), seg_congr (d := d) (d' := swp d (j + 1) j) (a := j + 2) (b := y) fun i _ _ => swp_other _ _ _ _ (by omega) (by omega)]
  refine ((Sm.refl _).app (Sm.swap fun a ha b hb => ?_)).app (Sm.refl _)
  rw [List.mem_singleton] at ha hb
  subst ha hb
  exact lt_ne_key hl
theorem insInner_sm {a x y : Nat} (hx : x ≤ a) : ∀ (j : Nat) (d : Array Ru), j < y → y ≤ d.size → Sm (seg (insInner lt a j d) x y) (seg d x y)
  | 0, d, _, _ => Sm.refl _
  | j + 1, d, hj, hs => by
    rw [insInner]
    split
    · rename_i h
      simp at h
      exact (insInner_sm hx j _ (by omega) (by rw [size_swp]; exact hs)).trans (swp_sm h.2 (by omega) (by omega) hs)
    · exact Sm.refl _
theorem insInner_size {a : Nat} : ∀ (j : Nat) (d : Array Ru), (insInner lt a j d).size = d.size
  | 0, d => rfl
  | j + 1, d => by
    rw [insInner]
    split
    · rw [insInner_size j, size_swp]
    · rfl
theorem insOuter_sm {a b : Nat} : ∀ (g i : Nat) (d : Array Ru), b - i ≤ g → a ≤ i → b ≤ d.size → Sm (seg (insOuter lt a b i d) a b) (seg d a b)
  | 0, i, d, hg, _, _ => by rw [insOuter, if_neg (by omega)]; exact Sm.refl _
  | g + 1, i, d, hg, ha, hb => by
    rw [insOuter]
    split
    · exact (insOuter_sm g (i + 1) _ (by omega) (by omega) (by rw [insInner_size]; exact hb)).trans (insInner_sm (Nat.le_refl _) i d (by omega) hb)
    · exact Sm.refl _
theorem ins_mrg {a b : Nat} {d : Array Ru} (hab : a ≤ b) (hb : b ≤ d.size) : Mrg a b d (insertionSort lt d a b) := by
  obtain ⟨h1, h2⟩ := insertionSort_holds swo d a b hab hb
  exact ⟨⟨h1.1, h1.2.1⟩, h2, insOuter_sm _ _ d (Nat.le_refl _) (by omega) hb⟩

/-! ### block by block -/
theorem dvd_step {c s a : Nat} (h1 : c ∣ s) (h2 : c ∣ a) (h : s < a) : s + c ≤ a := by
  have := Nat.le_of_dvd (by omega) (Nat.dvd_sub h2 h1)
  omega
/-- each block is sorted -/
def Bl (c n : Nat) (d : Array Ru) : Prop := ∀ s, c ∣ s → SortedIn lt s (min (s + c) n) d
/-- blocks of twice the length up to a, of once the length from a on -/
structure Bm (c n a : Nat) (d : Array Ru) : Prop where
  at_ : 2 * c ∣ a
  an : a ≤ n
  left : ∀ s, 2 * c ∣ s → s < a → SortedIn lt s (s + 2 * c) d
  right : ∀ s, c ∣ s → a ≤ s → SortedIn lt s (min (s + c) n) d
theorem Bl.start {c n : Nat} {d : Array Ru} (h : Bl c n d) : Bm c n 0 d := ⟨Nat.dvd_zero _, Nat.zero_le _, fun s _ hs => by omega, fun s h1 _ => h s h1⟩
theorem Bm.one {c n a : Nat} {d : Array Ru} (h : Bm c n a d) (hn : a + c ≤ n) : SortedIn lt a (a + c) d := by
  have := h.right a (Nat.dvd_trans (Nat.dvd_mul_left c 2) h.at_) (Nat.le_refl _)
  rwa [Nat.min_eq_left hn] at this
theorem Bm.two {c n a : Nat} {d : Array Ru} (h : Bm c n a d) : SortedIn lt (a + c) (min (a + 2 * c) n) d := by
  have := h.right (a + c) (Nat.dvd_add (Nat.dvd_trans (Nat.dvd_mul_left c 2) h.at_) (Nat.dvd_refl _)) (by omega)
  rwa [show a + c + c = a + 2 * c by omega] at this
theorem Bm.step {c n a : Nat} {d d' : Array Ru} (h : Bm c n a d) (hn : a + 2 * c ≤ n) (m : Mrg a (a + 2 * c) d d') : Bm c n (a + 2 * c) d' := by
  refine ⟨Nat.dvd_add h.at_ (Nat.dvd_refl _), hn, fun s h1 h2 => ?_, fun s h1 h2 => m.1.sorted_right h2 (h.right s h1 (by omega))⟩
  by_cases e : s < a
  · exact m.1.sorted_left (dvd_step h1 h.at_ e) (h.left s h1 e)
  · have : s = a := by
      by_cases e2 : a < s
      · have := dvd_step h.at_ h1 e2; omega
      · omega
    subst this
    exact m.2.1
theorem Bm.fin {c n a : Nat} {d d' : Array Ru} (h : Bm c n a d) (hn : n < a + 2 * c) (m : Mrg a n d d') : Bl (2 * c) n d' := fun s hs => by
  by_cases e : s < a
  · have := dvd_step hs h.at_ e
    rw [Nat.min_eq_left (by have := h.an; omega)]
    exact m.1.sorted_left this (h.left s hs e)
  · by_cases e2 : a < s
    · have := dvd_step h.at_ hs e2
      intro i j h1 h2 h3
      omega
    · have : s = a := by omega
      subst this
      rw [Nat.min_eq_right (by omega)]
      exact m.2.1
theorem Bm.fin' {c n a : Nat} {d : Array Ru} (h : Bm c n a d) (hc : 0 < c) (hn : n ≤ a + c) : Bl (2 * c) n d := by
  refine h.fin (by omega) (Mrg.same ?_)
  have := h.right a (Nat.dvd_trans (Nat.dvd_mul_left c 2) h.at_) (Nat.le_refl _)
  rwa [Nat.min_eq_right hn] at this
theorem Bl.all {c n : Nat} {d : Array Ru} (h : Bl c n d) (hn : n ≤ c) : SortedIn lt 0 n d := by
  have := h 0 (Nat.dvd_zero _)
  rwa [Nat.zero_add, Nat.min_eq_right hn] at this
/-- the first blocks, up to a -/
structure B0 (c a : Nat) (d : Array Ru) : Prop where
  at_ : c ∣ a
  left : ∀ s, c ∣ s → s < a → SortedIn lt s (s + c) d
theorem B0.start (c : Nat) (d : Array Ru) : B0 c 0 d := ⟨Nat.dvd_zero _, fun s _ h => by omega⟩
theorem B0.step {c a : Nat} {d d' : Array Ru} (h : B0 c a d) (m : Mrg a (a + c) d d') : B0 c (a + c) d' := by
  refine ⟨Nat.dvd_add h.at_ (Nat.dvd_refl _), fun s h1 h2 => ?_⟩
  by_cases e : s < a
  · exact m.1.sorted_left (dvd_step h1 h.at_ e) (h.left s h1 e)
  · have : s = a := by
      by_cases e2 : a < s
      · have := dvd_step h.at_ h1 e2; omega
      · omega
    subst this
    exact m.2.1
theorem B0.fin {c n a : Nat} {d d' : Array Ru} (h : B0 c a d) (han : a ≤ n) (hn : n < a + c) (m : Mrg a n d d') : Bl c n d' := fun s hs => by
  by_cases e : s < a
  · have := dvd_step hs h.at_ e
    rw [Nat.min_eq_left (by omega)]
    exact m.1.sorted_left this (h.left s hs e)
  · by_cases e2 : a < s
    · have := dvd_step h.at_ hs e2
      intro i j h1 h2 h3
      omega
    · have : s = a := by omega
      subst this
      rw [Nat.min_eq_right (by omega)]
      exact m.2.1

/-! ### the one sorted row -/
def ins (r : Ru) (l : List Ru) : List Ru := l.takeWhile (fun x => !lt r x) ++ r :: l.dropWhile (fun x => !lt r x)
theorem drop_lt {r : Ru} : ∀ {l : List Ru}, Srt l → ∀ x ∈ l.dropWhile (fun x => !lt r x), lt r x = true
  | [], _, x, hx => by simp at hx
  | a :: l, h, x, hx => by
    have h' := List.pairwise_cons.1 h
    rw [List.dropWhile_cons] at hx
    split at hx
    · exact drop_lt h'.2 x hx
    · rename_i hn
      simp at hn
      rcases List.mem_cons.1 hx with rfl | hx
      · exact hn
      · exact lt_of_lt_le hn (h'.1 x hx)
theorem take_le {r : Ru} : ∀ {l : List Ru}, ∀ x ∈ l.takeWhile (fun x => !lt r x), lt r x = false
  | [], x, hx => by simp at hx
  | a :: l, x, hx => by
    rw [List.takeWhile_cons] at hx
    split at hx
    · rename_i hn
      simp at hn
      rcases List.mem_cons.1 hx with rfl | hx
      · exact hn
      · exact take_le x hx
    · simp at hx
theorem ins_ok {r : Ru} {l : List Ru} (h : Srt l) : Srt (ins r l) ∧ Sm (ins r l) (l ++ [r]) := by
  have e := List.takeWhile_append_dropWhile (p := fun x => !lt r x) (l := l)
  have := ins_back (y := r) (X1 := l.takeWhile (fun x => !lt r x)) (X2 := l.dropWhile (fun x => !lt r x)) (by rw [e]; exact h) take_le (drop_lt h)
  rw [e] at this
  exact this
def sst (l : List Ru) : List Ru := l.foldl (fun o r => ins r o) []
theorem foldl_ok : ∀ (l o : List Ru), Srt o → Srt (l.foldl (fun o r => ins r o) o) ∧ Sm (l.foldl (fun o r => ins r o) o) (o ++ l)
  | [], o, h => by simpa using ⟨h, Sm.refl o⟩
  | r :: l, o, h => by
    have h1 := ins_ok (r := r) h
    have h2 := foldl_ok l _ h1.1
    refine ⟨h2.1, h2.2.trans ?_⟩
    simpa using h1.2.app (Sm.refl l)
theorem sst_ok (l : List Ru) : Srt (sst l) ∧ Sm (sst l) l := by have := foldl_ok l [] List.Pairwise.nil; rwa [List.nil_append] at this
theorem ins_len (r : Ru) (l : List Ru) : (ins r l).length = l.length + 1 := by
  have e := congrArg List.length (List.takeWhile_append_dropWhile (p := fun x => !lt r x) (l := l))
  rw [List.length_append] at e
  rw [ins, List.length_append, List.length_cons]; omega
theorem foldl_len : ∀ (l o : List Ru), (l.foldl (fun o r => ins r o) o).length = o.length + l.length
  | [], o => rfl
  | r :: l, o => by rw [List.foldl_cons, foldl_len l, ins_len, List.length_cons]; omega
theorem sst_len (l : List Ru) : (sst l).length = l.length := by rw [sst, foldl_len]; simp
theorem sst_of {l y : List Ru} (h : Srt y) (s : Sm y l) : y = sst l := srt_unique h (sst_ok l).1 (s.trans (sst_ok l).2.symm)

/-! ### one that is just as the one ahead of it is left out -/
def dd : List Ru → List Ru
  | [] => []
  | [a] => [a]
  | a :: b :: l => if a = b then dd (b :: l) else a :: dd (b :: l)
theorem dd_mem : ∀ (l : List Ru) (r : Ru), r ∈ dd l ↔ r ∈ l
  | [], r => Iff.rfl
  | [a], r => Iff.rfl
  | a :: b :: l, r => by
    rw [dd]
    split
    · rename_i h; subst h; rw [dd_mem (a :: l) r]; simp
    · rw [List.mem_cons, dd_mem (b :: l) r, List.mem_cons (a := r) (b := a)]
theorem dd_len : ∀ (l : List Ru), (dd l).length ≤ l.length
  | [] => Nat.le_refl _
  | [a] => Nat.le_refl _
  | a :: b :: l => by
    rw [dd]
    split
    · have := dd_len (b :: l); simp at this ⊢; omega
    · have := dd_len (b :: l); simp at this ⊢; omega
theorem dd_snoc : ∀ (l : List Ru) (r : Ru), dd (l ++ [r]) = if l.getLast? = some r then dd l else dd l ++ [r]
  | [], r => by simp [dd]
  | [a], r => by
    simp only [List.cons_append, List.nil_append, dd, List.getLast?_singleton, Option.some.injEq]
    split <;> simp_all
  | a :: b :: l, r => by
    have ih := dd_snoc (b :: l) r
    rw [show a :: b :: l ++ [r] = a :: b :: (l ++ [r]) from rfl, dd, dd, show b :: (l ++ [r]) = (b :: l) ++ [r] from rfl, ih, List.getLast?_cons_cons]
    by_cases e : a = b <;> by_cases e2 : (b :: l).getLast? = some r <;> simp [e, e2]
theorem dd_last : ∀ (l : List Ru), (dd l).getLast? = l.getLast?
  | [] => rfl
  | [a] => rfl
  | a :: b :: l => by
    rw [dd]
    split
    · rename_i h; subst h; rw [dd_last (a :: l), List.getLast?_cons_cons]
    · have := dd_last (b :: l)
      rw [List.getLast?_cons_cons, ← this, List.getLast?_cons]
      cases h : (dd (b :: l)).getLast? with
      | some x => rfl
      | none => rw [h] at this; simp [List.getLast?_cons] at this
theorem dd_pair : ∀ {l : List Ru}, Srt l → (∀ a ∈ l, ∀ b ∈ l, key a = key b → a = b) → (dd l).Pairwise (fun a b => lt a b = true)
  | [], _, _ => List.Pairwise.nil
  | [a], _, _ => by simp [dd]
  | a :: b :: l, h, hu => by
    have h' := List.pairwise_cons.1 h
    have ih := dd_pair h'.2 (fun x hx y hy => hu x (List.mem_cons_of_mem _ hx) y (List.mem_cons_of_mem _ hy))
    rw [dd]
    split
    · exact ih
    · rename_i hab
      refine List.pairwise_cons.2 ⟨fun x hx => ?_, ih⟩
      have hx' := (dd_mem _ _).1 hx
      have hlt : lt a b = true := by
        cases e : lt a b with
        | true => rfl
        | false => exact absurd (hu a (by simp) b (by simp) (key_of_not e (h'.1 b (by simp)))) hab
      rcases List.mem_cons.1 hx' with rfl | hx'
      · exact hlt
      · exact lt_of_lt_le hlt ((List.pairwise_cons.1 h'.2).1 x hx')

/-! ### strictly rising rows -/
def Ris (l : List Ru) : Prop := l.Pairwise (fun a b => lt a b = true)
theorem Ris.srt {l : List Ru} (h : Ris l) : Srt l := List.Pairwise.imp (fun h => lt_asymm h) h
theorem Ris.uniq : ∀ {l : List Ru}, Ris l → ∀ a ∈ l, ∀ b ∈ l, key a = key b → a = b
  | [], _, a, ha, _, _, _ => by simp at ha
  | x :: l, h, a, ha, b, hb, hk => by
    have h' := List.pairwise_cons.1 h
    rcases List.mem_cons.1 ha with ha1 | ha1 <;> rcases List.mem_cons.1 hb with hb1 | hb1
    · rw [ha1, hb1]
    · subst ha1; exact absurd hk (lt_ne_key (h'.1 _ hb1))
    · subst hb1; exact absurd hk.symm (lt_ne_key (h'.1 _ ha1))
    · exact Ris.uniq h'.2 a ha1 b hb1 hk
theorem ris_fl : ∀ {l : List Ru}, Ris l → ∀ r ∈ l, fl (key r) l = [r]
  | [], _, r, hr => by simp at hr
  | x :: l, h, r, hr => by
    have h' := List.pairwise_cons.1 h
    have hno : ∀ y ∈ l, key y ≠ key x := fun y hy e => lt_ne_key (h'.1 y hy) e.symm
    rcases List.mem_cons.1 hr with rfl | hr
    · have : fl (key r) l = [] := List.eq_nil_iff_forall_not_mem.2 fun y hy => hno y (mem_fl.1 hy).1 (mem_fl.1 hy).2
      simp only [fl] at this ⊢
      simp [this]
    · have hne : key x ≠ key r := fun e => hno r hr e.symm
      have := ris_fl h'.2 r hr
      simp only [fl] at this ⊢
      simp [hne, this]
theorem ris_eq {x y : List Ru} (hx : Ris x) (hy : Ris y) (h : ∀ r, r ∈ x ↔ r ∈ y) : x = y := by
  refine srt_unique hx.srt hy.srt fun k => ?_
  rcases e : fl k x with _ | ⟨r, l⟩
  · symm
    refine List.eq_nil_iff_forall_not_mem.2 fun b hb => ?_
    have hb' := mem_fl.1 hb
    have : b ∈ fl k x := mem_fl.2 ⟨(h b).2 hb'.1, hb'.2⟩
    rw [e] at this
    simp at this
  · have hr := mem_fl.1 (show r ∈ fl k x by rw [e]; simp)
    rw [← e, ← hr.2, ris_fl hx r hr.1, ris_fl hy r ((h r).1 hr.1)]

/-! ### tables -/
def inR (r : Ru) : Bool := decide (1 ≤ r.1 ∧ r.1 ≤ 1000 ∧ 0 ≤ r.2.1 ∧ r.2.1 < 12 ∧ 0 ≤ r.2.2 ∧ r.2.2 < 8)
def wr : Nat → Option Ru → List Ru → Int × Int
  | _, _, [] => (0, 0)
  | i, p, r :: l => if inR r = false then (3, i) else if p.any (fun q => !lt q r) then (2, i) else wr (i + 1) (some r) l
def wrong (l : List Ru) : Int × Int := if 16 < l.length then (10, 0) else wr 0 none l
def tab (l : List Ru) : Prop := (wrong l).1 = 0
theorem wr_zero : ∀ {i : Nat} {p : Option Ru} {l : List Ru}, (wr i p l).1 = 0 → wr i p l = (0, 0) ∧ (∀ r ∈ l, inR r = true) ∧ Ris l ∧ ∀ q, p = some q → ∀ r ∈ l, lt q r = true
  | i, p, [], _ => ⟨rfl, by simp, List.Pairwise.nil, by simp⟩
  | i, p, r :: l, h => by
    rw [wr] at h ⊢
    split at h
    · simp at h
    · rename_i h1
      split at h
      · simp at h
      · rename_i h2
        rw [if_neg h1, if_neg h2]
        obtain ⟨a1, a2, a3, a4⟩ := wr_zero h
        have a4' := a4 r rfl
        refine ⟨a1, fun x hx => ?_, List.pairwise_cons.2 ⟨a4', a3⟩, fun q hq x hx => ?_⟩
        · rcases List.mem_cons.1 hx with rfl | hx
          · simpa using h1
          · exact a2 x hx
        · subst hq
          have hqr : lt q r = true := by simpa using h2
          rcases List.mem_cons.1 hx with rfl | hx
          · exact hqr
          · exact swo.trans _ _ _ hqr (a4' x hx)
theorem wr_ok : ∀ {i : Nat} {p : Option Ru} {l : List Ru}, (∀ r ∈ l, inR r = true) → Ris l → (∀ q, p = some q → ∀ r ∈ l, lt q r = true) → wr i p l = (0, 0)
  | i, p, [], _, _, _ => rfl
  | i, p, r :: l, h1, h2, h3 => by
    have h2' := List.pairwise_cons.1 h2
    rw [wr, if_neg (by simp [h1 r (by simp)]), if_neg ?_]
    · exact wr_ok (fun x hx => h1 x (by simp [hx])) h2'.2 (fun q hq x hx => by cases hq; exact h2'.1 x hx)
    · cases p with
      | none => simp
      | some q => simp [h3 q rfl r (by simp)]
theorem tab_iff {l : List Ru} : tab l ↔ l.length ≤ 16 ∧ (∀ r ∈ l, inR r = true) ∧ Ris l := by
  unfold tab wrong
  split
  · rename_i h; constructor
    · intro h; simp at h
    · intro h'; omega
  · rename_i h
    constructor
    · intro h'
      obtain ⟨_, a, b, _⟩ := wr_zero h'
      exact ⟨by omega, a, b⟩
    · intro h'
      rw [wr_ok h'.2.1 h'.2.2 (by simp)]
theorem tab_wrong {l : List Ru} (h : tab l) : wrong l = (0, 0) := by
  unfold tab wrong at h; unfold wrong
  split at h
  · simp at h
  · rename_i h2
    rw [if_neg h2]
    exact (wr_zero h).1

/-! ### added, dropped, found -/
def add (l more : List Ru) : List Ru × Int :=
  if (wrong l).1 ≠ 0 then ([], (wrong l).1) else if (wrong (dd (sst (l ++ more)))).1 ≠ 0 then ([], (wrong (dd (sst (l ++ more)))).1) else (dd (sst (l ++ more)), 0)
def drp (l : List Ru) (v : Int) : List Ru := l.filter (fun r => decide (r.1 ≠ v))
def nxt (v f : Int) : List Ru → Int × Bool
  | [] => (0, false)
  | r :: l => if r.1 = v ∧ r.2.1 = f then (r.2.2, true) else nxt v f l

theorem nxt_mem {v f : Int} : ∀ {l : List Ru}, (nxt v f l).2 = true → (v, f, (nxt v f l).1) ∈ l
  | [], h => by simp [nxt] at h
  | (a, b, c) :: l, h => by
    rw [nxt] at h ⊢
    split at h
    · rename_i e
      simp at e
      obtain ⟨rfl, rfl⟩ := e
      simp
    · rename_i e
      rw [if_neg e]
      exact List.mem_cons_of_mem _ (nxt_mem h)
theorem nxt_none {v f : Int} : ∀ {l : List Ru}, (nxt v f l).2 = false → nxt v f l = (0, false) ∧ ∀ n, (v, f, n) ∉ l
  | [], _ => ⟨rfl, by simp⟩
  | r :: l, h => by
    rw [nxt] at h ⊢
    split at h
    · simp at h
    · rename_i e
      rw [if_neg e]
      obtain ⟨h1, h2⟩ := nxt_none h
      refine ⟨h1, fun n hn => ?_⟩
      rcases List.mem_cons.1 hn with rfl | hn
      · exact e ⟨rfl, rfl⟩
      · exact h2 n hn
/-- where no two are of one place, what is found is what is there -/
theorem nxt_of {v f n : Int} {l : List Ru} (hu : ∀ a ∈ l, ∀ b ∈ l, key a = key b → a = b) (h : (v, f, n) ∈ l) : nxt v f l = (n, true) := by
  cases e : (nxt v f l).2 with
  | false => exact absurd h ((nxt_none e).2 n)
  | true =>
    have := hu _ (nxt_mem e) _ h rfl
    injection this with _ this
    injection this with _ this
    rw [← this, ← e]
theorem nxt_same {v f : Int} {l m : List Ru} (hl : ∀ a ∈ l, ∀ b ∈ l, key a = key b → a = b) (h : ∀ n, (v, f, n) ∈ l ↔ (v, f, n) ∈ m) : nxt v f l = nxt v f m := by
  cases e : (nxt v f m).2 with
  | true => rw [nxt_of hl ((h _).2 (nxt_mem e)), ← e]
  | false =>
    rw [(nxt_none e).1]
    cases e2 : (nxt v f l).2 with
    | false => exact (nxt_none e2).1
    | true => exact absurd ((h _).1 (nxt_mem e2)) ((nxt_none e).2 _)

theorem add_mem {l more : List Ru} {r : Ru} : r ∈ dd (sst (l ++ more)) ↔ r ∈ l ∨ r ∈ more := by
  rw [dd_mem, ← List.mem_append]
  exact ⟨(sst_ok _).2.mem, (sst_ok _).2.symm.mem⟩
theorem add_zero {l more : List Ru} (h : (add l more).2 = 0) : tab l ∧ tab (add l more).1 ∧ (add l more).1 = dd (sst (l ++ more)) := by
  unfold add at h ⊢
  split at h
  · rename_i h1; exact absurd h h1
  · rename_i h1
    rw [if_neg h1]
    split at h
    · rename_i h2; exact absurd h h2
    · rename_i h2
      rw [if_neg h2]
      exact ⟨by simpa [tab] using h1, by simpa [tab] using h2, rfl⟩
theorem add_fail {l more : List Ru} (h : (add l more).2 ≠ 0) : (add l more).1 = [] := by
  unfold add at h ⊢
  split
  · rfl
  · rename_i h1
    rw [if_neg h1] at h
    split
    · rfl
    · rename_i h2
      rw [if_neg h2] at h
      exact absurd rfl h
theorem add_len {l more : List Ru} : (add l more).1.length ≤ l.length + more.length := by
  by_cases h : (add l more).2 = 0
  · rw [(add_zero h).2.2]
    refine Nat.le_trans (dd_len _) ?_
    rw [sst_len, List.length_append]; exact Nat.le_refl _
  · rw [add_fail h]; simp
/-- added again it is the same -/
theorem add_again {l more : List Ru} (h : (add l more).2 = 0) : add (add l more).1 more = ((add l more).1, 0) := by
  obtain ⟨_, t2, e⟩ := add_zero h
  have hr := tab_iff.1 t2
  have hm : ∀ r, r ∈ (add l more).1 ↔ r ∈ l ∨ r ∈ more := fun r => by rw [e, add_mem]
  have key : dd (sst ((add l more).1 ++ more)) = (add l more).1 := by
    have hmem : ∀ r, r ∈ sst ((add l more).1 ++ more) ↔ r ∈ (add l more).1 := fun r => by
      rw [← dd_mem, add_mem, hm]
      constructor
      · rintro (h | h)
        · exact h
        · exact Or.inr h
      · exact Or.inl
    refine ris_eq (dd_pair (sst_ok _).1 fun a ha b hb => hr.2.2.uniq a ((hmem a).1 ha) b ((hmem b).1 hb)) hr.2.2 fun r => ?_
    rw [dd_mem, hmem]
  have w0 : (wrong (add l more).1).1 = 0 := t2
  rw [add, if_neg (by simp [w0]), key, if_neg (by simp [w0])]
theorem drp_mem {l : List Ru} {v : Int} {r : Ru} : r ∈ drp l v ↔ r ∈ l ∧ r.1 ≠ v := by simp [drp]
theorem drp_tab {l : List Ru} {v : Int} (h : tab l) : tab (drp l v) := by
  obtain ⟨h1, h2, h3⟩ := tab_iff.1 h
  exact tab_iff.2 ⟨Nat.le_trans (List.length_filter_le _ _) h1, fun r hr => h2 r (drp_mem.1 hr).1, List.Pairwise.filter _ h3⟩
theorem drp_gone {l : List Ru} {v f : Int} : nxt v f (drp l v) = (0, false) := by
  cases e : (nxt v f (drp l v)).2 with
  | false => exact (nxt_none e).1
  | true => exact absurd rfl (drp_mem.1 (nxt_mem e)).2
theorem drp_other {l : List Ru} {v u f : Int} (h : tab l) (hv : u ≠ v) : nxt u f (drp l v) = nxt u f l := by
  refine nxt_same ((tab_iff.1 (drp_tab h)).2.2.uniq) fun n => ?_
  rw [drp_mem]
  exact ⟨fun h => h.1, fun h => ⟨h, hv⟩⟩

end Rul

/- A plan's rules in words: how many, in which order, and where they lead. -/
namespace Go.Proofs.Ytgffkjjddhlbpaa.Tb
open Go.RowKit Go.Maps Stw Go.Deep Rul Go.Sort

theorem nd_get {l : List Int} (h : l.Nodup) {i j : Nat} (hi : i < l.length) (hj : j < l.length) (e : l.getD i 0 = l.getD j 0) : i = j := by
  have hi' : l.getD i 0 = l[i] := by simp [List.getD_eq_getElem?_getD, hi]
  have hj' : l.getD j 0 = l[j] := by simp [List.getD_eq_getElem?_getD, hj]
  rw [hi', hj'] at e
  have hp := List.pairwise_iff_getElem.1 h
  rcases Nat.lt_trichotomy i j with hlt | heq | hlt
  · exact absurd e (hp i j hi hj hlt)
  · exact heq
  · exact absurd e.symm (hp j i hj hi hlt)
theorem get_mem {l : List Int} {i : Nat} (hi : i < l.length) : l.getD i 0 ∈ l := by
  have hi' : l.getD i 0 = l[i] := by simp [List.getD_eq_getElem?_getD, hi]
  rw [hi']; exact List.getElem_mem hi

theorem mem_stk {v f s : Int} {path : List Int} {r : Ru} : ∀ {K : Nat}, r ∈ stk v f s path K ↔ ∃ k, k < K ∧ path.getD k 0 = s ∧ k + 1 < path.length ∧ r = (v, f, path.getD (k + 1) 0)
  | 0 => by simp [stk]
  | K + 1 => by
    rw [stk, List.mem_append, mem_stk (K := K)]
    constructor
    · rintro (⟨k, h1, h2⟩ | h)
      · exact ⟨k, by omega, h2⟩
      · split at h
        · rename_i hc
          exact ⟨K, by omega, hc.1, hc.2, by simpa using h⟩
        · simp at h
    · rintro ⟨k, h1, h2, h3, h4⟩
      by_cases e : k < K
      · exact Or.inl ⟨k, e, h2, h3, h4⟩
      · have : k = K := by omega
        subst this
        exact Or.inr (by rw [if_pos ⟨h2, h3⟩]; simp [h4])
theorem mem_rof {v s : Int} {ps : List (List Int)} {r : Ru} : ∀ {K : Nat}, r ∈ rof v s ps K ↔ ∃ i : Nat, i < K ∧ ∃ k, k + 1 < (ps.getD i []).length ∧ (ps.getD i []).getD k 0 = s ∧ r = (v, (i : Int), (ps.getD i []).getD (k + 1) 0)
  | 0 => by simp [rof]
  | K + 1 => by
    rw [rof, List.mem_append, mem_rof (K := K), mem_stk]
    constructor
    · rintro (⟨i, h1, h2⟩ | ⟨k, h1, h2, h3, h4⟩)
      · exact ⟨i, by omega, h2⟩
      · exact ⟨K, by omega, k, h3, h2, h4⟩
    · rintro ⟨i, h1, k, h2, h3, h4⟩
      by_cases e : i < K
      · exact Or.inl ⟨i, e, k, h2, h3, h4⟩
      · have : i = K := by omega
        subst this
        exact Or.inr ⟨k, by omega, h3, h2, h4⟩

/-- Paths of a net of so many switches. -/
def GP (n : Nat) (ps : List (List Int)) : Prop := ∀ i, i < ps.length → ps.getD i [] ≠ [] ∧ (ps.getD i []).Nodup ∧ ∀ x ∈ ps.getD i [], 0 ≤ x ∧ x < (n : Int)

theorem stk_one {v f s : Int} {path : List Int} (hn : path.Nodup) : ∀ K, stk v f s path K = [] ∨ ∃ y, stk v f s path K = [(v, f, y)]
  | 0 => Or.inl rfl
  | K + 1 => by
    rw [stk]
    by_cases hc : path.getD K 0 = s ∧ K + 1 < path.length
    · have h0 : stk v f s path K = [] := by
        refine List.eq_nil_iff_forall_not_mem.2 fun r hr => ?_
        obtain ⟨k, h1, h2, h3, _⟩ := mem_stk.1 hr
        have := nd_get hn (i := k) (j := K) (by omega) (by omega) (h2.trans hc.1.symm)
        omega
      rw [h0, if_pos hc]
      exact Or.inr ⟨_, rfl⟩
    · rw [if_neg hc, List.append_nil]
      exact stk_one hn K
theorem rof_ris {n : Nat} {v s : Int} {ps : List (List Int)} (hg : GP n ps) : ∀ K, K ≤ ps.length → Ris (rof v s ps K)
  | 0, _ => List.Pairwise.nil
  | K + 1, hK => by
    rw [rof]
    refine List.pairwise_append.2 ⟨rof_ris hg K (by omega), ?_, fun a ha b hb => ?_⟩
    · rcases stk_one (v := v) (f := K) (s := s) (hg K (by omega)).2.1 (ps.getD K []).length with h | ⟨y, h⟩
      · rw [h]; exact List.Pairwise.nil
      · rw [h]; simp
    · obtain ⟨i, h1, k, _, _, rfl⟩ := mem_rof.1 ha
      obtain ⟨k', _, _, _, rfl⟩ := mem_stk.1 hb
      rw [lt_true]
      exact Or.inr ⟨rfl, by simp only; omega⟩
theorem rof_short {n : Nat} {v s : Int} {ps : List (List Int)} (hg : GP n ps) : ∀ K, K ≤ ps.length → (rof v s ps K).length ≤ K
  | 0, _ => Nat.le_refl _
  | K + 1, hK => by
    have h1 := rof_short (v := v) (s := s) hg K (by omega)
    rw [rof, List.length_append]
    rcases stk_one (v := v) (f := K) (s := s) (hg K (by omega)).2.1 (ps.getD K []).length with h | ⟨y, h⟩ <;> rw [h] <;> simp <;> omega
theorem rof_tab {n : Nat} {v s : Int} {ps : List (List Int)} (hg : GP n ps) (hn : n ≤ 8) (hp : ps.length ≤ 12) (hv1 : 1 ≤ v) (hv2 : v ≤ 1000) : tab (rof v s ps ps.length) := by
  refine tab_iff.2 ⟨by have := rof_short (v := v) (s := s) hg ps.length (Nat.le_refl _); omega, fun r hr => ?_, rof_ris hg _ (Nat.le_refl _)⟩
  obtain ⟨i, h1, k, h2, _, rfl⟩ := mem_rof.1 hr
  have := (hg i h1).2.2 _ (get_mem (i := k + 1) h2)
  simp only [inR, decide_eq_true_eq]
  omega
/-- From a switch of a path its rule leads to the next one; from its end none does. -/
theorem nxt_path {n : Nat} {v : Int} {ps : List (List Int)} (hg : GP n ps) {i k : Nat} (hi : i < ps.length) (hk : k < (ps.getD i []).length) :
    nxt v i (rof v ((ps.getD i []).getD k 0) ps ps.length) = if k + 1 < (ps.getD i []).length then ((ps.getD i []).getD (k + 1) 0, true) else (0, false) := by
  have hu := (rof_ris (v := v) (s := (ps.getD i []).getD k 0) hg _ (Nat.le_refl _)).uniq
  by_cases hl : k + 1 < (ps.getD i []).length
  · rw [if_pos hl]
    exact nxt_of hu (mem_rof.2 ⟨i, hi, k, hl, rfl, rfl⟩)
  · rw [if_neg hl]
    cases e : (nxt v i (rof v ((ps.getD i []).getD k 0) ps ps.length)).2 with
    | false => exact (nxt_none e).1
    | true =>
      exfalso
      obtain ⟨i', h1, k', h2, h3, h4⟩ := mem_rof.1 (nxt_mem e)
      have hii : i' = i := by
        have := (Prod.ext_iff.1 (Prod.ext_iff.1 h4).2).1
        simp only at this
        omega
      subst hii
      have := nd_get (hg i' hi).2.1 (i := k') (j := k) (by omega) hk h3
      omega

/-! ### how many -/
def sumS (ts : Nat → List Ru) : Nat → Nat
  | 0 => 0
  | s + 1 => sumS ts s + (ts s).length
theorem sumS_append (a b : Nat → List Ru) : ∀ n, sumS (fun s => a s ++ b s) n = sumS a n + sumS b n
  | 0 => rfl
  | n + 1 => by simp only [sumS, sumS_append a b n, List.length_append]; omega
theorem sumS_ind {x : Ru} {c : Nat → Prop} [∀ s, Decidable (c s)] : ∀ n, (∀ s, c s → ¬ s < n) → sumS (fun s => if c s then [x] else []) n = 0
  | 0, _ => rfl
  | n + 1, h => by
    rw [sumS, sumS_ind n (fun s hs => by have := h s hs; omega), if_neg (fun hc => h n hc (by omega))]; rfl
theorem sumS_at {x : Ru} (t : Nat) : ∀ n, t < n → sumS (fun s => if s = t then [x] else []) n = 1
  | 0, h => by omega
  | n + 1, h => by
    rw [sumS]
    by_cases e : n = t
    · subst e
      rw [sumS_ind n (fun s hs => by omega)]; simp
    · rw [sumS_at t n (by omega), if_neg e]; rfl
theorem sumS_congr {a b : Nat → List Ru} : ∀ n, (∀ s, s < n → a s = b s) → sumS a n = sumS b n
  | 0, _ => rfl
  | n + 1, h => by rw [sumS, sumS, sumS_congr n (fun s hs => h s (by omega)), h n (by omega)]
theorem sum_stk {n : Nat} {v f : Int} {path : List Int} (hr : ∀ x ∈ path, 0 ≤ x ∧ x < (n : Int)) : ∀ K, K + 1 ≤ path.length → sumS (fun s => stk v f s path K) n = K
  | 0, _ => by
    have : ∀ m, sumS (fun s => stk v f (s : Int) path 0) m = 0 := fun m => by
      induction m with
      | zero => rfl
      | succ m ih => rw [sumS, ih]; rfl
    exact this n
  | K + 1, hK => by
    have h1 := sum_stk hr (v := v) (f := f) K (by omega)
    have hx := hr _ (get_mem (i := K) (by omega))
    have h2 := sumS_append (fun s => stk v f (s : Int) path K) (fun s => if s = (path.getD K 0).toNat then [(v, f, path.getD (K + 1) 0)] else []) n
    rw [h1, sumS_at _ n (by omega)] at h2
    refine Eq.trans ?_ h2
    refine sumS_congr n (fun s _ => ?_)
    show stk v f s path (K + 1) = stk v f s path K ++ _
    rw [stk]
    congr 1
    by_cases e : s = (path.getD K 0).toNat
    · rw [if_pos e, if_pos ⟨by omega, by omega⟩]
    · rw [if_neg e, if_neg (fun h => e (by omega))]
def stp (ps : List (List Int)) : Nat → Nat
  | 0 => 0
  | k + 1 => stp ps k + ((ps.getD k []).length - 1)
theorem sum_rof {n : Nat} {v : Int} {ps : List (List Int)} (hg : GP n ps) : ∀ K, K ≤ ps.length → sumS (fun s => rof v s ps K) n = stp ps K
  | 0, _ => by
    have : ∀ m, sumS (fun s => rof v (s : Int) ps 0) m = 0 := fun m => by
      induction m with
      | zero => rfl
      | succ m ih => rw [sumS, ih]; rfl
    exact this n
  | K + 1, hK => by
    obtain ⟨hne, _, hr⟩ := hg K (by omega)
    have h2 := sumS_append (fun s => rof v (s : Int) ps K) (fun s => stk v K (s : Int) (ps.getD K []) (ps.getD K []).length) n
    have hl : 0 < (ps.getD K []).length := List.length_pos_iff.2 hne
    obtain ⟨L, hL⟩ : ∃ L, (ps.getD K []).length = L + 1 := ⟨(ps.getD K []).length - 1, by omega⟩
    have h3 := sum_stk (v := v) (f := K) hr L (by omega)
    have h4 : sumS (fun s => stk v K (s : Int) (ps.getD K []) (ps.getD K []).length) n = L := by
      rw [← h3]
      refine sumS_congr n (fun s _ => ?_)
      rw [hL, stk_last (by omega)]
    rw [stp, ← sum_rof hg K (by omega) (v := v), show (ps.getD K []).length - 1 = L by omega, ← h4]
    exact h2

end Go.Proofs.Ytgffkjjddhlbpaa.Tb

/- What the law RuleCount answers, for every net, flows and number: true; nothing that was there is changed. -/
namespace Go.Proofs.Ytgffkjjddhlbpaa.Tb
open Go.RowKit Go.Maps Stw Go.Deep Rul Go.Sort Stp

theorem PthsAt.ps {w : World} {qo : Option Addr} {ps : List (List Int)} (h : PthsAt w qo ps) : PsAt w qo ps := by
  rcases h with h | ⟨g, off, h1, h2, h3⟩
  · exact Or.inl h
  · refine Or.inr ⟨g, off, h1, h2, fun k hk => ?_⟩
    obtain ⟨v, k1, k2⟩ := h3 k hk
    obtain ⟨o, c, rfl, k3, _⟩ := k2
    exact ⟨o, c, k1, k3⟩

theorem fb_none {e : Nat → Int} {len : Nat} (h : Stf.firstBad e len = none) : ∀ k, k < len → e k = 0 := fun k hk => by
  rw [Stf.firstBad, List.find?_eq_none] at h
  simpa using h k (List.mem_range.2 hk)
theorem fb_some {e : Nat → Int} {len k : Nat} (h : Stf.firstBad e len = some k) : e k ≠ 0 := by
  rw [Stf.firstBad] at h
  simpa using List.find?_some h
/-- What a plan that is made is like. -/
structure GoodPlan (n version : Int) (ls : List Lk) (fs : List Stf.Fl) : Prop where
  n0 : 0 ≤ n
  n8 : n ≤ 8
  v1 : 1 ≤ version
  v2 : version ≤ 1000
  len : (plnP n ls fs).length = fs.length
  few : fs.length ≤ 12
  gp : GP n.toNat (plnP n ls fs)
  short : ∀ i, ((plnP n ls fs).getD i []).length ≤ 8
  head : ∀ i, i < fs.length → ((plnP n ls fs).getD i []).getD 0 0 = (fs.getD i Fw.f0).fr
theorem plan_good {n version : Int} {ls : List Lk} {fs : List Stf.Fl} (h : (plnF n version ls fs).1 = 0) : GoodPlan n version ls fs := by
  have hw : (Stw.wrong n ls).1 = 0 := by
    by_cases e : (Stw.wrong n ls).1 = 0
    · exact e
    · rw [plnF_wrong e] at h; exact absurd h e
  have hr := right_of hw
  have hv : ¬ (version < 1 ∨ 1000 < version) := fun e => by rw [plnF_range hw e] at h; simp at h
  have hf : (Stf.wflows fs n).1 = 0 := by
    by_cases e : (Stf.wflows fs n).1 = 0
    · exact e
    · rw [plnF_flows hw hv e] at h; exact absurd h e
  have hall : ∀ k, k < fs.length → (fnd n ls (fs.getD k Fw.f0)).1 = 0 := by
    intro k hk
    unfold plnF at h
    rw [if_neg (by simp [hw]), if_neg hv, if_neg (by simp [hf])] at h
    cases e : Stf.firstBad (fun k => (fnd n ls (fs.getD k Fw.f0)).1) fs.length with
    | none => exact fb_none e k hk
    | some j =>
      rw [e] at h
      exact absurd h (fb_some (e := fun k => (fnd n ls (fs.getD k Fw.f0)).1) e)
  have hb := hr.bounds
  have hget : ∀ i, i < fs.length → (plnP n ls fs).getD i [] = (fnd n ls (fs.getD i Fw.f0)).2 := fun i hi => by
    simp [plnP, List.getD_eq_getElem?_getD, hi]
  have hbest : ∀ i, i < fs.length → pathB n ls ((plnP n ls fs).getD i []) = true ∧ Pth (cost ls) (fs.getD i Fw.f0).fr (fs.getD i Fw.f0).to ((plnP n ls fs).getD i []) := fun i hi => by
    rw [hget i hi]
    rcases fnd_cases (n := n) (ls := ls) (f := fs.getD i Fw.f0) with h1 | h1 | ⟨_, hr', hF, hbst⟩
    · exact absurd (hall i hi) h1.1
    · have := hall i hi; omega
    · exact ⟨hbst.1.toPth.path hr' hF.fr, hbst.1.toPth⟩
  have hlen : (plnP n ls fs).length = fs.length := by simp [plnP]
  refine ⟨by omega, by omega, by omega, by omega, hlen, wflows_len hf, fun i hi => ?_, fun i => ?_, fun i hi => ?_⟩
  · obtain ⟨hp, _⟩ := hbest i (by omega)
    obtain ⟨p1, p2, p3, _⟩ := (pathB_iff hr).1 hp
    exact ⟨p1, p3, fun x hx => by have := p2 x hx; omega⟩
  · by_cases hi : i < fs.length
    · exact pth_len (hbest i hi).2
    · have : (plnP n ls fs).getD i [] = [] := by simp [List.getD_eq_getElem?_getD, List.getElem?_eq_none (show (plnP n ls fs).length ≤ i by omega)]
      rw [this]; simp
  · obtain ⟨r, hr1⟩ := (hbest i hi).2.head
    rw [hr1]; rfl
theorem tot_le {ps : List (List Int)} (h : ∀ i, (ps.getD i []).length ≤ 8) : ∀ K, tot ps K ≤ 8 * K
  | 0 => Nat.le_refl _
  | K + 1 => by have := tot_le h K; have := h K; rw [tot]; omega

end Go.Proofs.Ytgffkjjddhlbpaa.Tb

/- What Ask answers, for every control, net and flows. -/
namespace Go.Proofs.Ytgffkjjddhlbpaa.Ct
open Go.RowKit Go.Deep Stw Stp Tb Rul

theorem sum8 : ∀ (ps : List (List Int)), (∀ p ∈ ps, p.length ≤ 8) → (ps.map List.length).sum ≤ 8 * ps.length
  | [], _ => by simp
  | p :: r, h => by
    have h1 := h p (by simp)
    have h2 := sum8 r (fun q hq => h q (by simp [hq]))
    simp only [List.map_cons, List.sum_cons, List.length_cons]
    omega
theorem plan_ok {n version : Int} {ls : List Lk} {fs : List Stf.Fl} (h : (plnF n version ls fs).1 = 0) : PlOk ⟨version, fs, plnP n ls fs⟩ := by
  have g := plan_good h
  have hw : (Stw.wrong n ls).1 = 0 := by
    by_cases e : (Stw.wrong n ls).1 = 0
    · exact e
    · rw [plnF_wrong e] at h; exact absurd h e
  have hv : ¬ (version < 1 ∨ 1000 < version) := fun e => by have := g.v1; have := g.v2; omega
  have hf : (Stf.wflows fs n).1 = 0 := by
    by_cases e : (Stf.wflows fs n).1 = 0
    · exact e
    · rw [plnF_flows hw hv e] at h; exact absurd h e
  have hbd := (right_of hw).bounds
  refine ⟨Nat.le_trans g.few (by decide), fun f hm => ?_, ?_, ?_⟩
  · obtain ⟨k, hk, e⟩ := List.mem_iff_getElem.1 hm
    have h0 := wflows_all hf k hk
    rw [show fs.getD k Fw.f0 = f by simp [List.getD_eq_getElem?_getD, hk, e]] at h0
    have hF := rightF_of h0
    have h1 := rng_len 8 f.via hF.vnd (fun x hx => by have := hF.via x hx; omega)
    have h2 := rng_len 8 f.nt hF.nnd (fun x hx => by have := hF.nt x hx; omega)
    omega
  · show (plnP n ls fs).length ≤ _
    rw [g.len]; exact Nat.le_trans g.few (by decide)
  · show ((plnP n ls fs).map List.length).sum ≤ _
    have h1 := sum8 (plnP n ls fs) (fun p hp => by
      obtain ⟨k, hk, e⟩ := List.mem_iff_getElem.1 hp
      have := g.short k
      rwa [show (plnP n ls fs).getD k [] = p by simp [List.getD_eq_getElem?_getD, hk, e]] at this)
    rw [g.len] at h1
    have := g.few
    omega

theorem CSt.monoB {B B' : Nat} {X : Nat → Prop} {P n : Nat} {w0 w : World} {g : Cg} {a : CA} {wv tv : Value} {TV : List Value} (h : CSt B X P w0 w g a n wv tv TV) (hB : B' ≤ B) : CSt B' X P w0 w g a n wv tv TV :=
  ⟨h.row, h.ownW, h.ownT, h.wP, h.apart, h.lt, h.bel, h.hP, Nat.le_trans hB h.hB, fun V hs hb => h.hn V hs (fun b h1 h2 => hb b (Nat.le_trans hB h1) h2), fun V hs hb => h.hx V hs (fun b h1 h2 => hb b (Nat.le_trans hB h1) h2)⟩

set_option maxRecDepth 100000 in
set_option maxHeartbeats 4000000 in
theorem Ask_any (c : Co) (a : CA) (n : Int) (ao : Option Addr) (len cap : Nat) (ls : List Lk) (lo : Option Addr) (ll lc : Nat) (fs : List Stf.Fl) (w : World) (h : CoAt w c a) (hok : CoOk c) (hlen : ls.length = len) (hl : NetAt w ao ls) (hx : len ≤ 9223372036854775807) (hI : I64 n)
    (hll : fs.length = ll) (hf : Fw.FlowsAt w lo fs) (hS : Fw.Sm fs) (hlx : ll ≤ 9223372036854775807) :
    Calls Try.prog 7 #[cvl c a, .agg #[.int .i64 n, .slice ao len cap], .slice lo ll lc] w fun e w' => GoOut w.heap.size w (askS c n ls fs).1 (askS c n ls fs).2 e w' := by
  subst hll
  have HA := hidp (Aw_ab w c a n (.slice ao len cap))
  have hE0 := Aw_ext w c a n (.slice ao len cap)
  unfold cvl
  by_cases h0 : c.st = 0
  · have HD0 : Hid (askS c n ls fs = if (plnF n (nx c.now.v) ls fs).1 ≠ 0 then (⟨co0, []⟩, (plnF n (nx c.now.v) ls fs).1) else if full n.toNat c.now ⟨nx c.now.v, fs, plnP n ls fs⟩ = true then (⟨co0, []⟩, 10) else (goS n.toNat (told n.toNat (addO ⟨nx c.now.v, fs, plnP n ls fs⟩) ⟨⟨1, c.now, ⟨nx c.now.v, fs, plnP n ls fs⟩, c.num, c.wts⟩, []⟩), 0)) := by
      show _ = _
      unfold askS
      rw [if_neg (by simpa using h0)]
    have HH0 := hidp h0
    obtain ⟨v, hv⟩ : ∃ v, nx c.now.v = v := ⟨_, rfl⟩
    rw [hv] at HD0
    have hv' : IntKind.i64.wrap (c.now.v + 1) = v := hv
    clear hv
    have HB0 := hidp HA.out.box
    go_enter Try.func7, Try.ntmps7
    rw [h0]
    go_wp2_with fail
    unfold Aw at HA hE0
    rw [h0] at HA hE0
    obtain ⟨W1, hW1⟩ : ∃ W1, W1 = ((w.alloc (.cells #[.int .i64 0, .int .i64 c.now.v, .slice a.n.fo c.now.fs.length a.n.fc, .slice a.n.qo c.now.ps.length a.n.qc, .int .i64 c.nxt.v, .slice a.x.fo c.nxt.fs.length a.x.fc, .slice a.x.qo c.nxt.ps.length a.x.qc, .int .i64 c.num, .slice a.wo c.wts.length a.wc] 28)).alloc (.cells #[.int .i64 n, .slice ao len cap] 31)).alloc (.cells #[.int .i64 0, .int .i64 0, .slice none 0 0, .slice none 0 0, .int .i64 0, .slice none 0 0, .slice none 0 0, .int .i64 0, .slice none 0 0] 28) := ⟨_, rfl⟩
    rw [← hW1] at HA hE0 ⊢
    clear hW1 HB0
    refine Calls.mono (Plan_new n v ao len cap ls lo fs.length lc fs W1 hlen (hl.ext hE0) hx hI rfl (hf.ext hE0) hS hlx) ?_
    rintro e w2 ⟨pv, fo, fl, fc, qo, ql, qc, rfl, E2, hP⟩
    have hlA := HA.out.lt
    have hE2 := hE0.trans E2
    have HA2 := hidp (HA.out.ext E2)
    have hl2 := HA2.out.lt
    have hl20 : w.heap.size < w2.heap.size := by omega
    have hl21 : w.heap.size + 1 < w2.heap.size := by omega
    by_cases hp0 : (plnF n v ls fs).1 = 0
    · rcases hP with hP | ⟨_, e1, e2, e3, hU⟩
      · exact absurd hp0 hP.1
      obtain rfl := e1.symm
      obtain rfl := e2.symm
      obtain rfl := e3.symm
      clear e1 e2 e3
      have hgd := plan_good hp0
      have HOK := hidp (plan_ok hp0)
      obtain ⟨nn, rfl⟩ := Int.eq_ofNat_of_zero_le hgd.n0
      have hn8 : nn ≤ 8 := by have := hgd.n8; omega
      have HPN : Hid (PlNew W1.heap.size w2 ⟨v, fs, plnP nn ls fs⟩ ⟨fo, qo, fc, qc⟩) := fun U hs hb => ⟨(hU U hs hb).1, (hU U hs hb).2⟩
      have HP0 := hidp hp0
      rw [hp0]
      clear hU hgd hp0
      obtain ⟨y, hy⟩ : ∃ y, (plnF nn v ls fs).2 = y := ⟨_, rfl⟩
      rw [hy]
      clear hy
      obtain ⟨V2, hV2⟩ : ∃ V2, V2 = (w2.alloc (.cells #[.int .i64 v, .slice fo fs.length fc, .slice qo (plnP nn ls fs).length qc] 25)).alloc (.cells #[.int .i64 0, .int .i64 y] 64) := ⟨_, rfl⟩
      have E2' : Ext w2 V2 := by rw [hV2]; exact ((Ext.refl w2).alloc _).alloc _
      have HPB : Hid (∀ U, Ext V2 U → U.cell? ⟨w2.heap.size, 0, none⟩ = some (.int .i64 v) ∧ U.cell? ⟨w2.heap.size, 1, none⟩ = some (.slice fo fs.length fc) ∧ U.cell? ⟨w2.heap.size, 2, none⟩ = some (.slice qo (plnP nn ls fs).length qc) ∧ w2.heap.size < U.heap.size) := fun U hU => by
        have l0 : w2.heap.size < V2.heap.size := by rw [hV2]; simp; omega
        refine ⟨(hU.cells.1 _ _ l0).trans (by rw [hV2]; simp), (hU.cells.1 _ _ l0).trans (by rw [hV2]; simp), (hU.cells.1 _ _ l0).trans (by rw [hV2]; simp), Nat.lt_of_lt_of_le l0 hU.size⟩
      have HRM := hidp (haveRoom_any c.now ⟨v, fs, plnP nn ls fs⟩ a.n ⟨fo, qo, fc, qc⟩ nn V2 (h.hn.ext (hE2.trans E2')) (HPN.out.at.ext E2') hok.n HOK.out hn8)
      unfold pvl at HRM
      simp only at HRM
      have c1 : w2.cell? ⟨w.heap.size, 1, none⟩ = some (.int .i64 c.now.v) := World.rowIs.cell HA2.out.box (i := 1) (by omega)
      have c2 : w2.cell? ⟨w.heap.size, 2, none⟩ = some (.slice a.n.fo c.now.fs.length a.n.fc) := World.rowIs.cell HA2.out.box (i := 2) (by omega)
      have c3 : w2.cell? ⟨w.heap.size, 3, none⟩ = some (.slice a.n.qo c.now.ps.length a.n.qc) := World.rowIs.cell HA2.out.box (i := 3) (by omega)
      have n0 := HA2.out.n0
      go_wp2_with fail
      rw [← hV2]
      clear c1 c2 c3 n0 hV2
      refine Calls.mono HRM.out ?_
      rintro e w3 ⟨rfl, E3'⟩
      have E3 : Ext w2 w3 := E2'.trans E3'
      have HA3 := hidp (HA2.out.ext E3)
      have hl3 := HA3.out.lt
      have hl30 : w.heap.size < w3.heap.size := by omega
      have hl31 : w.heap.size + 1 < w3.heap.size := by omega
      clear HRM
      cases hfu : full nn c.now ⟨v, fs, plnP nn ls fs⟩ with
      | true =>
        have HD : Hid (askS c nn ls fs = (⟨co0, []⟩, 10)) := by
          show _ = _
          rw [HD0.out, if_neg (by simpa using HP0.out), show (nn : Int).toNat = nn from rfl, if_pos hfu]
        clear hfu
        go_wp2_with fail
        refine Calls.mono (refused_any 10 _) ?_
        rintro e w9 ⟨he, E9⟩
        have he' : e = .returned (.tuple #[.agg #[.int .i64 0, .int .i64 0, .slice none 0 0, .slice none 0 0, .int .i64 0, .slice none 0 0, .slice none 0 0, .int .i64 0, .slice none 0 0], .slice none 0 0, .int .i64 10]) := he
        subst he'
        clear he
        have E9' : Ext W1 w9 := E2.trans (E3.trans E9)
        have HA9 := hidp (HA.out.ext E9')
        obtain ⟨r0, r1, r2, r3, r4, r5, r6, r7, r8⟩ := HA9.out.zeros
        have z := box_frozen HA9.out.ans
        have z0 := z 0
        have z1 := z 1
        have z2 := z 2
        have z3 := z 3
        have z4 := z 4
        have z5 := z 5
        have z6 := z 6
        have z7 := z 7
        have z8 := z 8
        have hl9 := HA9.out.lt
        clear z
        go_wp2
        refine bodyPost_ret (v := .tuple #[.agg #[.int .i64 0, .int .i64 0, .slice none 0 0, .slice none 0 0, .int .i64 0, .slice none 0 0, .slice none 0 0, .int .i64 0, .slice none 0 0], .slice none 0 0, .int .i64 10]) (by simp [results, Try.results7, go_sem, r0, r1, r2, r3, r4, r5, r6, r7, r8]) rfl ?_
        rw [HD.out]
        exact go_none (by omega) (hE0.trans E9') _ _ _ _ _ _ _ _ _
      | false =>
        have HD : Hid (askS c nn ls fs = (goS nn (told nn (addO ⟨v, fs, plnP nn ls fs⟩) ⟨⟨1, c.now, ⟨v, fs, plnP nn ls fs⟩, c.num, c.wts⟩, []⟩), 0)) := by
          show _ = _
          rw [HD0.out, if_neg (by simpa using HP0.out), show (nn : Int).toNat = nn from rfl, if_neg (by simp [hfu])]
        clear hfu
        have HCH := hidp (changeOf_any c a nn ao len cap w3 (h.ext (hE2.trans E3)) hok)
        have c0 : w3.cell? ⟨w.heap.size, 0, none⟩ = some (.int .i64 0) := by rw [← HH0.out]; exact World.rowIs.cell HA3.out.box (i := 0) (by omega)
        have c1 : w3.cell? ⟨w.heap.size, 1, none⟩ = some (.int .i64 c.now.v) := World.rowIs.cell HA3.out.box (i := 1) (by omega)
        have c2 : w3.cell? ⟨w.heap.size, 2, none⟩ = some (.slice a.n.fo c.now.fs.length a.n.fc) := World.rowIs.cell HA3.out.box (i := 2) (by omega)
        have c3 : w3.cell? ⟨w.heap.size, 3, none⟩ = some (.slice a.n.qo c.now.ps.length a.n.qc) := World.rowIs.cell HA3.out.box (i := 3) (by omega)
        have c4 : w3.cell? ⟨w.heap.size, 4, none⟩ = some (.int .i64 c.nxt.v) := World.rowIs.cell HA3.out.box (i := 4) (by omega)
        have c5 : w3.cell? ⟨w.heap.size, 5, none⟩ = some (.slice a.x.fo c.nxt.fs.length a.x.fc) := World.rowIs.cell HA3.out.box (i := 5) (by omega)
        have c6 : w3.cell? ⟨w.heap.size, 6, none⟩ = some (.slice a.x.qo c.nxt.ps.length a.x.qc) := World.rowIs.cell HA3.out.box (i := 6) (by omega)
        have c7 : w3.cell? ⟨w.heap.size, 7, none⟩ = some (.int .i64 c.num) := World.rowIs.cell HA3.out.box (i := 7) (by omega)
        have c8 : w3.cell? ⟨w.heap.size, 8, none⟩ = some (.slice a.wo c.wts.length a.wc) := World.rowIs.cell HA3.out.box (i := 8) (by omega)
        have n0 := HA3.out.n0
        have n1 := HA3.out.n1
        unfold cvl at HCH
        rw [h0] at HCH
        go_wp2_with fail
        clear c0 c1 c2 c3 c4 c5 c6 c7 c8 n0 n1
        refine Calls.mono HCH.out ?_
        rintro e w4 ⟨P, w0, a3, wv, rfl, hC3, E0⟩
        have HC3 := hidp (hC3.monoB (show W1.heap.size ≤ w3.heap.size from Nat.le_trans E2.size E3.size))
        have hPl := hC3.row.lt
        have s0 : w4.cell? ⟨P, 0, none⟩ = some (.int .i64 c.st) := hC3.row.cell (i := 0) (by omega)
        have s4 : w4.cell? ⟨P, 4, none⟩ = some (.int .i64 c.nxt.v) := hC3.row.cell (i := 4) (by omega)
        have s5 : w4.cell? ⟨P, 5, none⟩ = some (.slice a3.x.fo c.nxt.fs.length a3.x.fc) := hC3.row.cell (i := 5) (by omega)
        have s6 : w4.cell? ⟨P, 6, none⟩ = some (.slice a3.x.qo c.nxt.ps.length a3.x.qc) := hC3.row.cell (i := 6) (by omega)
        have z0 := hC3.row.frozen 0
        have z4 := hC3.row.frozen 4
        have z5 := hC3.row.frozen 5
        have z6 := hC3.row.frozen 6
        have HE0 := hidp (E3.trans E0)
        have hE34 : Ext w3 w4 := E0.trans hC3.bel
        obtain ⟨b0, b1, b2, bl⟩ := HPB.out w4 (E3'.trans hE34)
        have HPne : Hid (w2.heap.size ≠ P) := fun e => by have := hC3.hP; have := E0.size; have := (HPB.out w3 E3').2.2.2; omega
        have hPne := HPne.out
        clear hC3 HCH
        go_upto_region 11 with fail
        obtain ⟨w5, hw5⟩ : ∃ w5, w5 = (((w4.setCell ⟨P, 4, none⟩ (.int .i64 v)).setCell ⟨P, 5, none⟩ (.slice fo fs.length fc)).setCell ⟨P, 6, none⟩ (.slice qo (plnP nn ls fs).length qc)).setCell ⟨P, 0, none⟩ (.int .i64 1) := ⟨_, rfl⟩
        have HC5 : Hid (CSt W1.heap.size (fun _ => True) P w0 w5 ⟨⟨1, c.now, ⟨v, fs, plnP nn ls fs⟩, c.num, c.wts⟩, []⟩ ⟨a3.n, ⟨fo, qo, fc, qc⟩, a3.wo, a3.wc⟩ nn wv (.slice none 0 0) []) := by
          have k := HC3.out
          have hp := k.hP
          rw [hw5]
          refine k.redo ?_ (fun b hb => ?_) (by simp) ?_ rfl rfl k.hn (HPN.out.ext HE0.out)
          · exact rowL_set (rowL_set (rowL_set (rowL_set k.row (i := 4) (by simp [chL]) _) (i := 5) (by simp [chL]) _) (i := 6) (by simp [chL]) _) (i := 0) (by simp [chL]) _
          · rw [blk_setCell_other _ _ _ _ hb, blk_setCell_other _ _ _ _ hb, blk_setCell_other _ _ _ _ hb, blk_setCell_other _ _ _ _ hb]
          · exact (((k.bel.setCell (by simpa using hp) _).setCell (by simpa using hp) _).setCell (by simpa using hp) _).setCell (by simpa using hp) _
        rw [← hw5]
        clear hw5 HC3 s0 s4 s5 s6 z0 z4 z5 z6 b0 b1 b2 bl hPl hE34
        have E5 : Ext w2 w5 := HE0.out.trans HC5.out.bel
        have HA5 := hidp (HA2.out.ext E5)
        obtain ⟨b0, b1, b2, bl⟩ := HPB.out w5 (E3'.trans (E0.trans HC5.out.bel))
        have n0 := HA5.out.n0
        have HAD := hidp (adding_any ⟨v, fs, plnP nn ls fs⟩ ⟨fo, qo, fc, qc⟩ nn w0 w5 (HPN.out.at.ext E5) HOK.out hn8)
        unfold pvl at HAD
        simp only at HAD
        go_wp2_with fail
        refine Calls.mono HAD.out ?_
        rintro e w6 ⟨p1, p2, rfl, E6, HST⟩
        clear b0 b1 b2 bl n0 HAD
        go_wp2_with fail
        refine Calls.mono (tell_any W1.heap.size (fun _ => True) 51 p1 p2 P nn (addO ⟨v, fs, plnP nn ls fs⟩) w0 w6 _ _ wv (.slice none 0 0) [] (HC5.out.ext E6) (Or.inl rfl) (fun _ _ => trivial) hn8 (Nat.le_trans hok.w (by decide)) (by simp) (step_tell HC5.out (fun _ _ => trivial) HST)) ?_
        rintro e w7 ⟨rfl, wv7, tv7, TV7, hC7, hK7⟩
        have HC7 := hidp hC7
        clear hC7 hK7 HST
        have HL7 := hidp (told_len (ord := addO ⟨v, fs, plnP nn ls fs⟩) (g := ⟨⟨1, c.now, ⟨v, fs, plnP nn ls fs⟩, c.num, c.wts⟩, []⟩) nn)
        go_wp2_with fail
        refine Calls.mono (goOn_any W1.heap.size P nn w0 w7 _ _ wv7 tv7 TV7 HC7.out hn8 hok.n HOK.out (by have h1 := HL7.out.1; have h2 := hok.w; exact Nat.le_trans h1 (by show c.wts.length + nn ≤ _; omega)) (by have := HL7.out.2; simp only [List.length_nil] at this; omega)) ?_
        intro e w9 hG
        obtain ⟨k0, k1, o2, l2, q2, o3, l3, q3, k4, o5, l5, q5, o6, l6, q6, k7, o8, l8, q8, tO, l9, tc, rfl, E9, HF⟩ := hG.letters
        clear hG
        have HA9 := hidp (HA2.out.ext (HE0.out.trans E9))
        obtain ⟨r0, r1, r2, r3, r4, r5, r6, r7, r8⟩ := HA9.out.zeros
        have z := box_frozen HA9.out.ans
        have z0 := z 0
        have z1 := z 1
        have z2 := z 2
        have z3 := z 3
        have z4 := z 4
        have z5 := z 5
        have z6 := z 6
        have z7 := z 7
        have z8 := z 8
        have hl9 := HA9.out.lt
        clear z
        go_wp2
        refine bodyPost_ret (v := .tuple #[.agg #[.int .i64 k0, .int .i64 k1, .slice o2 l2 q2, .slice o3 l3 q3, .int .i64 k4, .slice o5 l5 q5, .slice o6 l6 q6, .int .i64 k7, .slice o8 l8 q8], .slice tO l9 tc, .int .i64 0]) (by simp [results, Try.results7, go_sem, r0, r1, r2, r3, r4, r5, r6, r7, r8]) rfl ?_
        rw [HD.out]
        exact go_fin HF.out hlA (by omega) (hE2.trans (HE0.out.trans E9)) _ _ _ _ _ _ _ _ _
    · have HD : Hid (askS c n ls fs = (⟨co0, []⟩, (plnF n v ls fs).1)) := by
        show _ = _
        rw [HD0.out, if_pos hp0]
      have b0 : ((plnF n v ls fs).1 != 0) = true := by simpa using hp0
      clear hp0 hP
      go_wp2_with fail
      refine Calls.mono (refused_any (plnF n v ls fs).1 _) ?_
      rintro e w9 ⟨he, E9⟩
      have he' : e = .returned (.tuple #[.agg #[.int .i64 0, .int .i64 0, .slice none 0 0, .slice none 0 0, .int .i64 0, .slice none 0 0, .slice none 0 0, .int .i64 0, .slice none 0 0], .slice none 0 0, .int .i64 (plnF n v ls fs).1]) := he
      subst he'
      clear he
      have E9' : Ext W1 w9 := E2.trans ((((Ext.refl w2).alloc _).alloc _).trans E9)
      have HA9 := hidp (HA.out.ext E9')
      obtain ⟨r0, r1, r2, r3, r4, r5, r6, r7, r8⟩ := HA9.out.zeros
      have z := box_frozen HA9.out.ans
      have z0 := z 0
      have z1 := z 1
      have z2 := z 2
      have z3 := z 3
      have z4 := z 4
      have z5 := z 5
      have z6 := z 6
      have z7 := z 7
      have z8 := z 8
      have hl9 := HA9.out.lt
      clear z
      go_wp2
      refine bodyPost_ret (v := .tuple #[.agg #[.int .i64 0, .int .i64 0, .slice none 0 0, .slice none 0 0, .int .i64 0, .slice none 0 0, .slice none 0 0, .int .i64 0, .slice none 0 0], .slice none 0 0, .int .i64 (plnF n v ls fs).1]) (by simp [results, Try.results7, go_sem, r0, r1, r2, r3, r4, r5, r6, r7, r8]) rfl ?_
      rw [HD.out]
      exact go_none (by omega) (hE0.trans E9') _ _ _ _ _ _ _ _ _
  · have HD : Hid (askS c n ls fs = (⟨co0, []⟩, 11)) := by
      show _ = _
      unfold askS
      rw [if_pos h0]
    have b0 : (c.st != 0) = true := by simpa using h0
    clear h0
    go_enter Try.func7, Try.ntmps7
    go_wp2_with fail
    unfold Aw at HA hE0
    obtain ⟨W1, hW1⟩ : ∃ W1, W1 = ((w.alloc (.cells #[.int .i64 c.st, .int .i64 c.now.v, .slice a.n.fo c.now.fs.length a.n.fc, .slice a.n.qo c.now.ps.length a.n.qc, .int .i64 c.nxt.v, .slice a.x.fo c.nxt.fs.length a.x.fc, .slice a.x.qo c.nxt.ps.length a.x.qc, .int .i64 c.num, .slice a.wo c.wts.length a.wc] 28)).alloc (.cells #[.int .i64 n, .slice ao len cap] 31)).alloc (.cells #[.int .i64 0, .int .i64 0, .slice none 0 0, .slice none 0 0, .int .i64 0, .slice none 0 0, .slice none 0 0, .int .i64 0, .slice none 0 0] 28) := ⟨_, rfl⟩
    rw [← hW1] at HA hE0 ⊢
    clear hW1
    refine Calls.mono (refused_any 11 _) ?_
    rintro e w9 ⟨he, E9⟩
    have he' : e = .returned (.tuple #[.agg #[.int .i64 0, .int .i64 0, .slice none 0 0, .slice none 0 0, .int .i64 0, .slice none 0 0, .slice none 0 0, .int .i64 0, .slice none 0 0], .slice none 0 0, .int .i64 11]) := he
    subst he'
    clear he
    have E9' : Ext W1 w9 := E9
    have HA9 := hidp (HA.out.ext E9')
    obtain ⟨r0, r1, r2, r3, r4, r5, r6, r7, r8⟩ := HA9.out.zeros
    have z := box_frozen HA9.out.ans
    have z0 := z 0
    have z1 := z 1
    have z2 := z 2
    have z3 := z 3
    have z4 := z 4
    have z5 := z 5
    have z6 := z 6
    have z7 := z 7
    have z8 := z 8
    have hl9 := HA9.out.lt
    clear z
    go_wp2
    refine bodyPost_ret (v := .tuple #[.agg #[.int .i64 0, .int .i64 0, .slice none 0 0, .slice none 0 0, .int .i64 0, .slice none 0 0, .slice none 0 0, .int .i64 0, .slice none 0 0], .slice none 0 0, .int .i64 11]) (by simp [results, Try.results7, go_sem, r0, r1, r2, r3, r4, r5, r6, r7, r8]) rfl ?_
    rw [HD.out]
    exact go_none (by omega) (hE0.trans E9') _ _ _ _ _ _ _ _ _

end Go.Proofs.Ytgffkjjddhlbpaa.Ct

/- Answers that come, in words: whatever comes back, there is an end; what is looked at while other blocks are written. -/
namespace Go.Proofs.Ytgffkjjddhlbpaa.Ct
open Go.RowKit Go.Deep Stw Stp Tb Rul

/-- What holds wherever these blocks are as they are. -/
def Stb (Y : Nat → Prop) (w : World) (D : World → Prop) : Prop := ∀ U : World, w.heap.size ≤ U.heap.size → (∀ b, Y b → b < w.heap.size → U.heap[b]? = w.heap[b]?) → D U
theorem Stb.at {Y : Nat → Prop} {w : World} {D : World → Prop} (h : Stb Y w D) : D w := h w (Nat.le_refl _) (fun _ _ _ => rfl)
theorem Stb.step {Y : Nat → Prop} {w w' : World} {D : World → Prop} (h : Stb Y w D) (hs : w.heap.size ≤ w'.heap.size) (hb : ∀ b, Y b → b < w.heap.size → w'.heap[b]? = w.heap[b]?) : Stb Y w' D :=
  fun U hU kU => h U (Nat.le_trans hs hU) (fun b h1 h2 => (kU b h1 (Nat.lt_of_lt_of_le h2 hs)).trans (hb b h1 h2))
theorem Stb.ext {Y : Nat → Prop} {w w' : World} {D : World → Prop} (h : Stb Y w D) (E : Ext w w') : Stb Y w' D := h.step E.size (fun b _ h2 => Below.block E b h2)
theorem Stb.more {Y Y' : Nat → Prop} {w : World} {D : World → Prop} (h : Stb Y w D) (hY : ∀ b, Y b → b < w.heap.size → Y' b) : Stb Y' w D := fun U hU kU => h U hU (fun b h1 h2 => kU b (hY b h1 h2) h2)
theorem Stb.imp {Y : Nat → Prop} {w : World} {D D' : World → Prop} (h : Stb Y w D) (hD : ∀ U, D U → D' U) : Stb Y w D' := fun U hU kU => hD U (h U hU kU)
theorem Stb.and {Y : Nat → Prop} {w : World} {D D' : World → Prop} (h : Stb Y w D) (h' : Stb Y w D') : Stb Y w (fun U => D U ∧ D' U) := fun U hU kU => ⟨h U hU kU, h' U hU kU⟩
theorem ext_of {w U : World} (hs : w.heap.size ≤ U.heap.size) (hb : ∀ b, b < w.heap.size → U.heap[b]? = w.heap[b]?) : Ext w { w with heap := U.heap } := ⟨rfl, rfl, rfl, hs, hb⟩
theorem CoAt.stb {w : World} {c : Co} {a : CA} (h : CoAt w c a) : Stb (fun b => b < w.heap.size) w (fun U => CoAt U c a) := fun U hs hb => by
  have k := h.ext (ext_of hs (fun b h1 => hb b h1 h1))
  exact ⟨⟨k.hn.hf, k.hn.hq⟩, ⟨k.hx.hf, k.hx.hq⟩, k.hw⟩

/-- How many answers may come at most. -/
def pot (c : Co) : Nat := c.wts.length + if c.st = 1 then 8 else 0
theorem back_in {c : Co} {n : Nat} {ls : List Lk} {k : Int} (hw : (wrong n ls).1 = 0) (hk : k ∈ c.wts) : backS c n ls k = (goS n ⟨⟨c.st, c.now, c.nxt, c.num, c.wts.erase k⟩, []⟩, 0) := by
  unfold backS
  rw [if_neg (by simpa using hw), if_neg (by simpa using hk)]
  rfl
theorem goS_cases (n : Nat) (g : Cg) : (g.c.wts ≠ [] ∧ goS n g = g) ∨ (g.c.wts = [] ∧ g.c.st = 1 ∧ goS n g = calmS (told n (stpO g.c.now g.c.nxt) (setSt g 2))) ∨ (g.c.wts = [] ∧ g.c.st = 2 ∧ goS n g = setSt g 3) ∨ (g.c.wts = [] ∧ g.c.st = 4 ∧ goS n g = ⟨⟨0, g.c.nxt, pl0, g.c.num, g.c.wts⟩, g.out⟩) ∨ (g.c.wts = [] ∧ g.c.st ≠ 1 ∧ g.c.st ≠ 2 ∧ g.c.st ≠ 4 ∧ goS n g = g) := by
  unfold goS
  by_cases hw : g.c.wts = []
  · rw [if_neg (by simpa using hw)]
    by_cases h1 : g.c.st = 1
    · exact Or.inr (Or.inl ⟨hw, h1, by rw [if_pos h1]⟩)
    · by_cases h2 : g.c.st = 2
      · exact Or.inr (Or.inr (Or.inl ⟨hw, h2, by rw [if_neg h1, if_pos h2]⟩))
      · by_cases h4 : g.c.st = 4
        · exact Or.inr (Or.inr (Or.inr (Or.inl ⟨hw, h4, by rw [if_neg h1, if_neg h2, if_pos h4]⟩)))
        · exact Or.inr (Or.inr (Or.inr (Or.inr ⟨hw, h1, h2, h4, by rw [if_neg h1, if_neg h2, if_neg h4]⟩)))
  · exact Or.inl ⟨hw, by rw [if_pos hw]⟩
theorem pot_goS {n : Nat} {g : Cg} (hn : n ≤ 8) : pot (goS n g).c ≤ pot g.c := by
  rcases goS_cases n g with ⟨_, e⟩ | ⟨hw, h1, e⟩ | ⟨hw, h2, e⟩ | ⟨hw, h4, e⟩ | ⟨_, _, _, _, e⟩
  · rw [e]; exact Nat.le_refl _
  · rw [e]
    have hl := (told_len (ord := stpO g.c.now g.c.nxt) (g := setSt g 2) n).1
    have hs : (setSt g 2).c.wts = g.c.wts := rfl
    rw [hs, hw] at hl
    have hp : pot g.c = 8 := by unfold pot; rw [hw, if_pos h1]; rfl
    rw [hp]
    unfold calmS
    split
    · unfold pot; rw [if_neg (by simp [told, setSt])]; simp at hl; omega
    · unfold pot; rw [if_neg (by simp [setSt])]; simp [setSt] at hl ⊢; omega
  · rw [e]; unfold pot; rw [if_neg (by simp [setSt])]; simp [setSt, hw]
  · rw [e]; unfold pot; simp [hw]
  · rw [e]; exact Nat.le_refl _
theorem pot_back {c : Co} {n : Nat} {ls : List Lk} {k : Int} (hw : (wrong n ls).1 = 0) (hn : n ≤ 8) (hk : k ∈ c.wts) : pot (backS c n ls k).1.c < pot c := by
  rw [back_in hw hk]
  have h1 := pot_goS (n := n) (g := ⟨⟨c.st, c.now, c.nxt, c.num, c.wts.erase k⟩, []⟩) hn
  have h2 := List.length_erase_of_mem hk
  have h3 : 0 < c.wts.length := List.length_pos_of_mem hk
  refine Nat.lt_of_le_of_lt h1 ?_
  unfold pot
  simp only
  omega
theorem goS_ok {n : Nat} {g : Cg} (hn : n ≤ 8) (h1 : PlOk g.c.now) (h2 : PlOk g.c.nxt) (h3 : g.c.wts.length ≤ 16777200) : CoOk (goS n g).c := by
  rcases goS_cases n g with ⟨_, e⟩ | ⟨hw, _, e⟩ | ⟨hw, _, e⟩ | ⟨hw, _, e⟩ | ⟨_, _, _, _, e⟩
  · rw [e]; exact ⟨h1, h2, h3⟩
  · rw [e]
    have hl := (told_len (ord := stpO g.c.now g.c.nxt) (g := setSt g 2) n).1
    have hs : (setSt g 2).c.wts = g.c.wts := rfl
    rw [hs, hw] at hl
    unfold calmS
    split
    · exact ⟨h1, h2, by simp at hl; omega⟩
    · exact ⟨h1, h2, by show (told n _ _).c.wts.length ≤ _; simp at hl; omega⟩
  · rw [e]; exact ⟨h1, h2, h3⟩
  · rw [e]; exact ⟨h2, PlOk.zero, h3⟩
  · rw [e]; exact ⟨h1, h2, h3⟩
theorem back_ok {c : Co} {n : Nat} {ls : List Lk} {k : Int} (hw : (wrong n ls).1 = 0) (hn : n ≤ 8) (hk : k ∈ c.wts) (h : CoOk c) : CoOk (backS c n ls k).1.c := by
  rw [back_in hw hk]
  exact goS_ok hn h.n h.x (by have h1 := h.w; have h2 := List.length_erase_of_mem hk; show (c.wts.erase k).length ≤ _; omega)
/-- Answers come, one behind the other. -/
def Bks (n : Nat) (ls : List Lk) (c c' : Co) (outs : List (List (Nat × Wir.Od))) : Prop :=
  ∀ R : Co → List (List (Nat × Wir.Od)) → Prop, R c [] → (∀ (d : Co) (o : List (List (Nat × Wir.Od))) (k : Int), R d o → k ∈ d.wts → R (backS d n ls k).1.c (o ++ [(backS d n ls k).1.out])) → R c' outs
theorem Bks.refl {n : Nat} {ls : List Lk} (c : Co) : Bks n ls c c [] := fun _ h _ => h
theorem Bks.step {n : Nat} {ls : List Lk} {c c' : Co} {outs : List (List (Nat × Wir.Od))} (k : Int) (h : Bks n ls c c' outs) (hk : k ∈ c'.wts) : Bks n ls c (backS c' n ls k).1.c (outs ++ [(backS c' n ls k).1.out]) := fun R h0 hs => hs _ _ k (h R h0 hs) hk
theorem Bks.ind {n : Nat} {ls : List Lk} {c c' : Co} {outs : List (List (Nat × Wir.Od))} {R : Co → List (List (Nat × Wir.Od)) → Prop} (h : Bks n ls c c' outs) (h0 : R c [])
    (hs : ∀ (d : Co) (o : List (List (Nat × Wir.Od))) (k : Int), Bks n ls c d o → R d o → k ∈ d.wts → R (backS d n ls k).1.c (o ++ [(backS d n ls k).1.out])) : R c' outs :=
  (h (fun d o => Bks n ls c d o ∧ R d o) ⟨Bks.refl c, h0⟩ (fun d o k h hk => ⟨Bks.step k h.1 hk, hs d o k h.1 h.2 hk⟩)).2

end Go.Proofs.Ytgffkjjddhlbpaa.Ct

/- What settle does: all answers come, in whatever order. -/
namespace Go.Proofs.Ytgffkjjddhlbpaa.Ct
open Go.RowKit Go.Deep Stw Stp Tb Rul

/-- What was told, list by list. -/
def TossAt (U : World) : List Value → List (List (Nat × Wir.Od)) → Prop
  | [], [] => True
  | v :: vs, l :: ls => (∃ tO tc, v = .slice tO l.length tc ∧ TosAt U tO l) ∧ TossAt U vs ls
  | _, _ => False
theorem TossAt.len {U : World} : ∀ {vs : List Value} {ls : List (List (Nat × Wir.Od))}, TossAt U vs ls → vs.length = ls.length
  | [], [], _ => rfl
  | [], _ :: _, h => by cases h
  | _ :: _, [], h => by cases h
  | _ :: _, _ :: _, h => by simp [TossAt.len h.2]
theorem TossAt.snoc {U : World} {v : Value} {l : List (Nat × Wir.Od)} (hv : ∃ tO tc, v = .slice tO l.length tc ∧ TosAt U tO l) : ∀ {vs : List Value} {ls : List (List (Nat × Wir.Od))}, TossAt U vs ls → TossAt U (vs ++ [v]) (ls ++ [l])
  | [], [], _ => ⟨hv, trivial⟩
  | [], _ :: _, h => by cases h
  | _ :: _, [], h => by cases h
  | _ :: _, _ :: _, h => ⟨h.1, TossAt.snoc hv h.2⟩
theorem TossAt.get {U : World} : ∀ {vs : List Value} {ls : List (List (Nat × Wir.Od))} {i : Nat}, TossAt U vs ls → i < ls.length → ∃ tO tc, vs[i]? = some (.slice tO (ls.getD i []).length tc) ∧ TosAt U tO (ls.getD i [])
  | [], [], _, _, hi => by simp at hi
  | [], _ :: _, _, h, _ => by cases h
  | _ :: _, [], _, h, _ => by cases h
  | _ :: _, _ :: _, 0, h, _ => by
    obtain ⟨tO, tc, e, ht⟩ := h.1
    exact ⟨tO, tc, by simp [e], ht⟩
  | _ :: _, _ :: _, i + 1, h, hi => by
    obtain ⟨tO, tc, h1, h2⟩ := TossAt.get h.2 (i := i) (by simpa using hi)
    exact ⟨tO, tc, by simpa using h1, by simpa using h2⟩
theorem infoTs : (Try.prog.info? 32).map (fun i => (i.zero, i.size, i.bytes)) = some (some (.slice none 0 0), 1, 24) := by kernel_rfl

/-- What is kept while answers come. -/
structure SIn (Y : Nat → Prop) (w : World) (nn : Nat) (ls : List Lk) (nv : Value) (c c' : Co) (a' : CA) (outs : List (List (Nat × Wir.Od))) (ov : Value) (VS : List Value) (i : Nat) (wr : World) : Prop where
  bks : Bks nn ls c c' outs
  pt : pot c' + i ≤ 200
  ol : outs.length ≤ i
  ok : CoOk c'
  ab : AB wr w.heap.size c' a' nn nv
  st : Stb (fun b => (Y b ∨ w.heap.size ≤ b) ∧ b ≠ w.heap.size ∧ b ≠ w.heap.size + 1 + 1 ∧ ov.ownBlock ≠ some b) wr (fun U => CoAt U c' a' ∧ TossAt U VS outs)
  own : wr.ownsRow (w.heap.size + 1 + 1 + 1) 32 1 ov outs.length VS
  ex : Ext w wr
theorem SIn.ext {Y : Nat → Prop} {w wr wx : World} {nn i : Nat} {ls : List Lk} {nv ov : Value} {c c' : Co} {a' : CA} {outs : List (List (Nat × Wir.Od))} {VS : List Value} (h : SIn Y w nn ls nv c c' a' outs ov VS i wr) (E : Ext wr wx) : SIn Y w nn ls nv c c' a' outs ov VS i wx :=
  ⟨h.bks, h.pt, h.ol, h.ok, h.ab.ext E, h.st.ext E, own_extU h.own E, h.ex.trans E⟩
/-- One more answer has come. -/
theorem SIn.step {Y : Nat → Prop} {w wc wx wy w7 : World} {nn i g7 c7 db : Nat} {ls : List Lk} {nv ov : Value} {c c' : Co} {a' a'' : CA} {outs : List (List (Nat × Wir.Od))} {VS : List Value} {x : Int} {tO : Option Addr} {tc : Nat} {o : Obj} (h : SIn Y w nn ls nv c c' a' outs ov VS i wc) (hw : (wrong nn ls).1 = 0) (hn8 : nn ≤ 8) (hx : x ∈ c'.wts) (hEx : Ext wc wx)
    (hF : Stb (fun b => wc.heap.size ≤ b ∧ b ≠ db) wx (fun U => CoAt U (backS c' nn ls x).1.c a'' ∧ TosAt U tO (backS c' nn ls x).1.out)) (hys : wy.heap.size = wx.heap.size) (hyb : ∀ b, b ≠ w.heap.size → wy.heap[b]? = wx.heap[b]?) (hbx : BX wy w.heap.size (coL (backS c' nn ls x).1.c a'')) (hyE : Ext w wy)
    (hown : w7.ownsRow (w.heap.size + 1 + 1 + 1) 32 1 (.slice (some ⟨g7, 0, none⟩) (outs.length + 1) c7) (outs.length + 1) (VS ++ [.slice tO (backS c' nn ls x).1.out.length tc])) (hg : (wy.alloc o).grownBy w7 ov.ownBlock) (hat : ov.ownBlock = some g7 ∨ g7 = wy.heap.size + 1) :
    SIn Y w nn ls nv c (backS c' nn ls x).1.c a'' (outs ++ [(backS c' nn ls x).1.out]) (.slice (some ⟨g7, 0, none⟩) (outs.length + 1) c7) (VS ++ [.slice tO (backS c' nn ls x).1.out.length tc]) (i + 1) w7 := by
  have hl := h.ab.lt
  have hxs := hEx.size
  have hg7 := (hown.lt g7 rfl).1
  have hs7 := hg.size
  rw [World.size_alloc] at hs7
  have hnb : ∀ b, b < w.heap.size + 1 + 1 + 1 → ov.ownBlock ≠ some b := fun b hb e => by have := (h.own.lt b e).1; omega
  have hob : ∀ b, ov.ownBlock = some b → b < wc.heap.size := fun b e => (h.own.lt b e).2
  -- blocks that are as they were
  have k7 : ∀ b, b ≠ w.heap.size → ov.ownBlock ≠ some b → b < wx.heap.size → w7.heap[b]? = wx.heap[b]? := fun b h1 h2 h3 =>
    (hg.block b (by simp; omega) (fun e => h2 e.symm)).trans ((blk_alloc_lt _ _ _ (by omega)).trans (hyb b h1))
  have kc : ∀ b, b ≠ w.heap.size → ov.ownBlock ≠ some b → b < wc.heap.size → w7.heap[b]? = wc.heap[b]? := fun b h1 h2 h3 => (k7 b h1 h2 (by omega)).trans (Below.block hEx b h3)
  have kb : w7.heap[w.heap.size]? = wy.heap[w.heap.size]? := (hg.block _ (by simp; omega) (fun e => hnb _ (by omega) e.symm)).trans (blk_alloc_lt _ _ _ (by omega))
  refine ⟨Bks.step x h.bks hx, by have := pot_back hw hn8 hx; have := h.pt; omega, by have := h.ol; simp; omega, back_ok hw hn8 hx h.ok, ⟨World.rowIs.of_block hbx kb, ?_, ?_, ?_⟩, fun U hU kU => ?_, by simpa using hown, ?_⟩
  · exact (World.cell?_of_block (a := ⟨w.heap.size + 1, 0, none⟩) (kc (w.heap.size + 1) (by omega) (hnb _ (by omega)) (by omega))).trans h.ab.n0
  · exact (World.cell?_of_block (a := ⟨w.heap.size + 1, 1, none⟩) (kc (w.heap.size + 1) (by omega) (hnb _ (by omega)) (by omega))).trans h.ab.n1
  · exact (kc (w.heap.size + 1 + 1) (by omega) (hnb _ (by omega)) (by omega)).trans h.ab.ans
  · have hz : ∀ b, ov.ownBlock ≠ some b → b < wx.heap.size → (.slice (some ⟨g7, 0, none⟩) (outs.length + 1) c7 : Value).ownBlock ≠ some b := fun b h1 h2 e => by
      have e' : g7 = b := by simpa [Value.ownBlock] using e
      rcases hat with q | q
      · exact h1 (by rw [q, e'])
      · omega
    have t1 := h.st U (by omega) (fun b hb hlt => (kU b ⟨hb.1, hb.2.1, hb.2.2.1, hz b hb.2.2.2 (by omega)⟩ (by omega)).trans (kc b hb.2.1 hb.2.2.2 hlt))
    have t2 := hF U (by omega) (fun b hb hlt => by
      have hno : ov.ownBlock ≠ some b := fun e => by have := hob b e; omega
      exact (kU b ⟨Or.inr (by omega), by omega, by omega, hz b hno hlt⟩ (by omega)).trans (k7 b (by omega) hno hlt))
    exact ⟨t2.1, TossAt.snoc ⟨tO, tc, rfl, t2.2⟩ t1.2⟩
  · exact Below.grown (hyE.alloc o) hg (by have := hyE.size; simp; omega) (fun j hj => by have := (h.own.lt j hj).1; omega)
/-- Where all answers have come. -/
def SeOut (Y : Nat → Prop) (w : World) (nn : Nat) (ls : List Lk) (c : Co) (e : Ending) (w' : World) : Prop := ∃ c' a' outs oo oc VS, e = .returned (.tuple #[cvl c' a', .slice oo outs.length oc, .bool true]) ∧ Hid (Bks nn ls c c' outs ∧ c'.wts = [] ∧ CoOk c' ∧ Stb (fun b => (Y b ∨ w.heap.size ≤ b) ∧ b ≠ w.heap.size ∧ b ≠ w.heap.size + 1 + 1) w' (fun U => CoAt U c' a' ∧ TossAt U VS outs ∧ U.ownsRow (w.heap.size + 1 + 1 + 1) 32 1 (.slice oo outs.length oc) outs.length VS)) ∧ Ext w w'

theorem own_keep {w w' : World} {base : Nat} {e : TypeId} {size n : Nat} {v : Value} {xs : List Value} (h : w.ownsRow base e size v n xs) (hb : ∀ b, base ≤ b → b < w.heap.size → w'.heap[b]? = w.heap[b]?) : w'.ownsRow base e size v n xs := by
  refine ⟨h.1, ?_⟩
  rcases h.2 with h2 | ⟨g, cap, cur, h1, h2, h3, h4⟩
  · exact Or.inl h2
  · exact Or.inr ⟨g, cap, cur, h1, h2, (hb g h2 (Array.getElem?_eq_some_iff.1 h3).1).trans h3, h4⟩
theorem own_form {w : World} {base n : Nat} {e : TypeId} {v : Value} {xs : List Value} {size : Nat} (h : w.ownsRow base e size v n xs) : ∃ oo oc, v = .slice oo n oc := by
  rcases h.2 with ⟨h1, h2⟩ | ⟨g, c, cur, h1, _⟩
  · exact ⟨none, 0, by rw [h1, h2]⟩
  · exact ⟨_, _, h1⟩
/-- The answer is written: all is there. -/
theorem SIn.fin {Y : Nat → Prop} {w wr : World} {nn i : Nat} {ls : List Lk} {nv ov : Value} {c c' : Co} {a' : CA} {outs : List (List (Nat × Wir.Od))} {VS : List Value} {oo : Option Addr} {oc : Nat} (h : SIn Y w nn ls nv c c' a' outs ov VS i wr) (hw : c'.wts = []) (hov : ov = .slice oo outs.length oc) (x0 x1 x2 x3 x4 x5 x6 x7 x8 : Value) :
    SeOut Y w nn ls c (.returned (.tuple #[.agg #[.int .i64 c'.st, .int .i64 c'.now.v, .slice a'.n.fo c'.now.fs.length a'.n.fc, .slice a'.n.qo c'.now.ps.length a'.n.qc, .int .i64 c'.nxt.v, .slice a'.x.fo c'.nxt.fs.length a'.x.fc, .slice a'.x.qo c'.nxt.ps.length a'.x.qc, .int .i64 c'.num, .slice a'.wo 0 a'.wc], ov, .bool true])) (W9 wr (w.heap.size + 1 + 1) x0 x1 x2 x3 x4 x5 x6 x7 x8) := by
  have hl := h.ab.lt
  refine ⟨c', a', outs, oo, oc, VS, ?_, ⟨h.bks, hw, h.ok, fun U hU kU => ?_⟩, W9_ext0 h.ex (by omega)⟩
  · unfold cvl
    rw [hw, hov]
    rfl
  · rw [W9_size0] at hU kU
    have hk : ∀ b, (Y b ∨ w.heap.size ≤ b) → b ≠ w.heap.size → b ≠ w.heap.size + 1 + 1 → b < wr.heap.size → U.heap[b]? = wr.heap[b]? := fun b h0 h1 h2 h3 => (kU b ⟨h0, h1, h2⟩ h3).trans (W9_block0 b h2)
    have t := h.st U hU (fun b hb hlt => hk b hb.1 hb.2.1 hb.2.2.1 hlt)
    refine ⟨t.1, t.2, ?_⟩
    rw [← hov]
    exact own_keep h.own (fun b h1 h2 => hk b (Or.inr (by omega)) (by omega) (by omega) h2)
theorem zero_box {w w' : World} (E : Ext (w.alloc (.cells #[.int .i64 0, .int .i64 0, .slice none 0 0, .slice none 0 0, .int .i64 0, .slice none 0 0, .slice none 0 0, .int .i64 0, .slice none 0 0] 28)).drew w') : (w'.cell? ⟨w.heap.size, 0, none⟩ = some (.int .i64 0) ∧ w'.cell? ⟨w.heap.size, 1, none⟩ = some (.int .i64 0) ∧ w'.cell? ⟨w.heap.size, 2, none⟩ = some (.slice none 0 0) ∧ w'.cell? ⟨w.heap.size, 3, none⟩ = some (.slice none 0 0) ∧ w'.cell? ⟨w.heap.size, 4, none⟩ = some (.int .i64 0) ∧ w'.cell? ⟨w.heap.size, 5, none⟩ = some (.slice none 0 0) ∧ w'.cell? ⟨w.heap.size, 6, none⟩ = some (.slice none 0 0) ∧ w'.cell? ⟨w.heap.size, 7, none⟩ = some (.int .i64 0) ∧ w'.cell? ⟨w.heap.size, 8, none⟩ = some (.slice none 0 0)) ∧ ∀ i, w'.frozen? ⟨w.heap.size, i, none⟩ = false := by
  have hl : w.heap.size < (w.alloc (.cells #[.int .i64 0, .int .i64 0, .slice none 0 0, .slice none 0 0, .int .i64 0, .slice none 0 0, .slice none 0 0, .int .i64 0, .slice none 0 0] 28)).drew.heap.size := by rw [drew_heap]; simp
  have h : w'.heap[w.heap.size]? = some (.cells #[.int .i64 0, .int .i64 0, .slice none 0 0, .slice none 0 0, .int .i64 0, .slice none 0 0, .slice none 0 0, .int .i64 0, .slice none 0 0] 28 (0, 0)) := (Below.block E _ hl).trans (by rw [drew_heap]; exact blk_alloc_new _ _)
  exact ⟨⟨box_cell h 0, box_cell h 1, box_cell h 2, box_cell h 3, box_cell h 4, box_cell h 5, box_cell h 6, box_cell h 7, box_cell h 8⟩, fun i => box_frozen h i⟩
theorem zero_blk {w w' : World} {o : Obj} (E : Ext (w.alloc o).drew w') : w'.heap[w.heap.size]? = (w.alloc o).heap[w.heap.size]? := by
  have hl : w.heap.size < (w.alloc o).drew.heap.size := by rw [drew_heap]; simp
  exact (Below.block E _ hl).trans (by rw [drew_heap])
theorem box_lt {w w' : World} {o : Obj} (E : Ext (w.alloc o).drew w') : w.heap.size < w'.heap.size := by
  have := E.size
  rw [drew_heap] at this
  simp at this
  omega
theorem coL_of {c : Co} {a : CA} {l : List Value} (h : Value.agg l.toArray = cvl c a) : l = coL c a := by
  have e : cvl c a = .agg (coL c a).toArray := rfl
  rw [e] at h
  injection h with h
  exact congrArg Array.toList h

theorem box_put {w : World} {b : Nat} {l : List Value} (h : BX w b l) (x0 x1 x2 x3 x4 x5 x6 x7 x8 : Value) (hl : l.length = 9 := by rfl) : BX (W9 w b x0 x1 x2 x3 x4 x5 x6 x7 x8) b [x0, x1, x2, x3, x4, x5, x6, x7, x8] := by
  obtain ⟨y0, y1, y2, y3, y4, y5, y6, y7, y8, rfl⟩ : ∃ y0 y1 y2 y3 y4 y5 y6 y7 y8, l = [y0, y1, y2, y3, y4, y5, y6, y7, y8] := by
    match l, hl with
    | [y0, y1, y2, y3, y4, y5, y6, y7, y8], _ => exact ⟨y0, y1, y2, y3, y4, y5, y6, y7, y8, rfl⟩
  exact BX.set (BX.set (BX.set (BX.set (BX.set (BX.set (BX.set (BX.set (BX.set h (i := 0) (by simp) _) (i := 1) (by simp) _) (i := 2) (by simp) _) (i := 3) (by simp) _) (i := 4) (by simp) _) (i := 5) (by simp) _) (i := 6) (by simp) _) (i := 7) (by simp) _) (i := 8) (by simp) _
/-- An answer, in a box. -/
def DbOut (wc : World) (G : Cg) (dv lv ev : Value) (wx : World) : Prop := ∃ (db : Nat) (k0 k1 : Int) (o2 : Option Addr) (l2 q2 : Nat) (o3 : Option Addr) (l3 q3 : Nat) (k4 : Int) (o5 : Option Addr) (l5 q5 : Nat) (o6 : Option Addr) (l6 q6 : Nat) (k7 : Int) (o8 : Option Addr) (l8 q8 : Nat) (tO : Option Addr) (l9 tc : Nat), dv = .pointer (some ⟨db, 0, none⟩) ∧ lv = .slice tO l9 tc ∧ ev = .int .i64 0 ∧ wc.heap.size ≤ db ∧ Ext wc wx ∧ BX wx db [.int .i64 k0, .int .i64 k1, .slice o2 l2 q2, .slice o3 l3 q3, .int .i64 k4, .slice o5 l5 q5, .slice o6 l6 q6, .int .i64 k7, .slice o8 l8 q8] ∧ Hid (∃ a'', [.int .i64 k0, .int .i64 k1, .slice o2 l2 q2, .slice o3 l3 q3, .int .i64 k4, .slice o5 l5 q5, .slice o6 l6 q6, .int .i64 k7, .slice o8 l8 q8] = coL G.c a'' ∧ l9 = G.out.length ∧ Stb (fun b => wc.heap.size ≤ b ∧ b ≠ db) wx (fun U => CoAt U G.c a'' ∧ TosAt U tO G.out))
/-- The answer's box is made behind the call. -/
theorem db_late {wc w5 : World} {B : Nat} {G : Cg} {k0 k1 k4 k7 : Int} {o2 o3 o5 o6 o8 tO : Option Addr} {l2 q2 l3 q3 l5 q5 l6 q6 l8 q8 l9 tc : Nat} (hB : wc.heap.size ≤ B) (E : Ext wc w5)
    (h : ∃ a', Value.agg #[.int .i64 k0, .int .i64 k1, .slice o2 l2 q2, .slice o3 l3 q3, .int .i64 k4, .slice o5 l5 q5, .slice o6 l6 q6, .int .i64 k7, .slice o8 l8 q8] = cvl G.c a' ∧ l9 = G.out.length ∧ ∀ U : World, w5.heap.size ≤ U.heap.size → (∀ b, B ≤ b → b < w5.heap.size → U.heap[b]? = w5.heap[b]?) → CoAt U G.c a' ∧ TosAt U tO G.out) :
    DbOut wc G (.pointer (some ⟨w5.heap.size, 0, none⟩)) (.slice tO l9 tc) (.int .i64 0) (w5.alloc (.cells #[.int .i64 k0, .int .i64 k1, .slice o2 l2 q2, .slice o3 l3 q3, .int .i64 k4, .slice o5 l5 q5, .slice o6 l6 q6, .int .i64 k7, .slice o8 l8 q8] 28)) := by
  obtain ⟨a', e1, e2, h3⟩ := h
  have hs : Stb (fun b => B ≤ b) w5 (fun U => CoAt U G.c a' ∧ TosAt U tO G.out) := h3
  exact ⟨_, k0, k1, o2, l2, q2, o3, l3, q3, k4, o5, l5, q5, o6, l6, q6, k7, o8, l8, q8, tO, l9, tc, rfl, rfl, rfl, E.size, E.alloc _, box_row rfl _ _ _ _ _ _ _ _ _, a', coL_of e1, e2, (hs.more (fun b h1 h2 => ⟨by omega, by omega⟩)).ext ((Ext.refl w5).alloc _)⟩
/-- The answer's box was made ahead of the call. -/
theorem db_early {wc w5 : World} {B : Nat} {G : Cg} {k0 k1 k4 k7 : Int} {o2 o3 o5 o6 o8 tO : Option Addr} {l2 q2 l3 q3 l5 q5 l6 q6 l8 q8 l9 tc : Nat} (hB : wc.heap.size < B) (E : Ext wc w5) (hz : w5.heap[wc.heap.size]? = some (.cells #[.int .i64 0, .int .i64 0, .slice none 0 0, .slice none 0 0, .int .i64 0, .slice none 0 0, .slice none 0 0, .int .i64 0, .slice none 0 0] 28 (0, 0)))
    (h : ∃ a', Value.agg #[.int .i64 k0, .int .i64 k1, .slice o2 l2 q2, .slice o3 l3 q3, .int .i64 k4, .slice o5 l5 q5, .slice o6 l6 q6, .int .i64 k7, .slice o8 l8 q8] = cvl G.c a' ∧ l9 = G.out.length ∧ ∀ U : World, w5.heap.size ≤ U.heap.size → (∀ b, B ≤ b → b < w5.heap.size → U.heap[b]? = w5.heap[b]?) → CoAt U G.c a' ∧ TosAt U tO G.out) :
    DbOut wc G (.pointer (some ⟨wc.heap.size, 0, none⟩)) (.slice tO l9 tc) (.int .i64 0) (W9 w5 wc.heap.size (.int .i64 k0) (.int .i64 k1) (.slice o2 l2 q2) (.slice o3 l3 q3) (.int .i64 k4) (.slice o5 l5 q5) (.slice o6 l6 q6) (.int .i64 k7) (.slice o8 l8 q8)) := by
  obtain ⟨a', e1, e2, h3⟩ := h
  have hs : Stb (fun b => B ≤ b) w5 (fun U => CoAt U G.c a' ∧ TosAt U tO G.out) := h3
  have hr : BX w5 wc.heap.size [.int .i64 0, .int .i64 0, .slice none 0 0, .slice none 0 0, .int .i64 0, .slice none 0 0, .slice none 0 0, .int .i64 0, .slice none 0 0] := World.rowIs.of_block (box_row (W := wc) (T := 28) rfl (.int .i64 0) (.int .i64 0) (.slice none 0 0) (.slice none 0 0) (.int .i64 0) (.slice none 0 0) (.slice none 0 0) (.int .i64 0) (.slice none 0 0)) (hz.trans (blk_alloc_new _ _).symm)
  refine ⟨_, k0, k1, o2, l2, q2, o3, l3, q3, k4, o5, l5, q5, o6, l6, q6, k7, o8, l8, q8, tO, l9, tc, rfl, rfl, rfl, Nat.le_refl _, W9_ext0 E (Nat.le_refl _), ?_, a', coL_of e1, e2, (hs.more (fun b h1 h2 => ⟨by omega, by omega⟩)).step (by rw [W9_size0]; exact Nat.le_refl _) (fun b h1 _ => W9_block0 b h1.2)⟩
  exact BX.set (BX.set (BX.set (BX.set (BX.set (BX.set (BX.set (BX.set (BX.set hr (i := 0) (by simp) _) (i := 1) (by simp) _) (i := 2) (by simp) _) (i := 3) (by simp) _) (i := 4) (by simp) _) (i := 5) (by simp) _) (i := 6) (by simp) _) (i := 7) (by simp) _) (i := 8) (by simp) _

set_option maxRecDepth 100000 in
set_option maxHeartbeats 2000000 in
theorem settle_any (Y : Nat → Prop) (c : Co) (a : CA) (nn : Nat) (ao : Option Addr) (len cap : Nat) (ls : List Lk) (po : Option Addr) (pc : Nat) (ps : List Int) (w : World) (h : Stb Y w (fun U => CoAt U c a)) (hok : CoOk c) (hlen : ls.length = len) (hl : NetAt w ao ls) (hx : len ≤ 9223372036854775807) (hw : (wrong nn ls).1 = 0) (hn8 : nn ≤ 8) (hpt : pot c ≤ 200)
    (hp : ListAt w po ps) (hpi : ∀ x ∈ ps, I64 x) (hpl : ps.length ≤ 9223372036854775807) :
    Calls Try.prog 17 #[cvl c a, .agg #[.int .i64 nn, .slice ao len cap], .slice po ps.length pc] w fun e w' => SeOut Y w nn ls c e w' := by
  obtain ⟨i0, hi0, hz00, hz01, hz02⟩ := info_parts infoTs
  have HS : Hid (SIn Y w nn ls (.slice ao len cap) c c a [] (.slice none 0 0) [] 0 (Aw w c a nn (.slice ao len cap))) :=
    ⟨Bks.refl c, by omega, by simp, hok, Aw_ab w c a nn (.slice ao len cap), ((h.more (Y' := fun b => (Y b ∨ w.heap.size ≤ b) ∧ b ≠ w.heap.size ∧ b ≠ w.heap.size + 1 + 1 ∧ (.slice none 0 0 : Value).ownBlock ≠ some b) (fun b hb hlt => ⟨Or.inl hb, by omega, by omega, by simp [Value.ownBlock]⟩)).ext (Aw_ext w c a nn (.slice ao len cap))).and (fun U _ _ => trivial), World.ownsRow_nil _ _ _ _, Aw_ext w c a nn _⟩
  have HW := hidp hw
  have HPI := hidp hpi
  clear h hok hpt hw hpi
  unfold cvl
  go_enter Try.func17, Try.ntmps17
  go_wp2
  unfold Aw at HS
  obtain ⟨W1, hW1⟩ : ∃ W1, W1 = ((w.alloc (.cells #[.int .i64 c.st, .int .i64 c.now.v, .slice a.n.fo c.now.fs.length a.n.fc, .slice a.n.qo c.now.ps.length a.n.qc, .int .i64 c.nxt.v, .slice a.x.fo c.nxt.fs.length a.x.fc, .slice a.x.qo c.nxt.ps.length a.x.qc, .int .i64 c.num, .slice a.wo c.wts.length a.wc] 28)).alloc (.cells #[.int .i64 nn, .slice ao len cap] 31)).alloc (.cells #[.int .i64 0, .int .i64 0, .slice none 0 0, .slice none 0 0, .int .i64 0, .slice none 0 0, .slice none 0 0, .int .i64 0, .slice none 0 0] 28) := ⟨_, rfl⟩
  rw [← hW1] at HS ⊢
  clear hW1
  go_loopw [9, 10] (fun ov iv wr => ∃ (i : Nat), iv = .int .i64 i ∧ i ≤ 200 ∧ Hid (∃ c' a' outs VS, SIn Y w nn ls (.slice ao len cap) c c' a' outs ov VS i wr)) (fun _ iv _ => 300 - (intOf iv).toNat)
  case atStart => exact ⟨0, rfl, by omega, c, a, [], [], HS.out⟩
  case round =>
    clear HS
    obtain ⟨i, rfl, hi2, HI⟩ := hrel
    obtain ⟨c', a', outs, VS, hI⟩ := HI.out
    clear HI
    have HI := hidp hI
    have c8 : wr.cell? ⟨w.heap.size, 8, none⟩ = some (.slice a'.wo c'.wts.length a'.wc) := World.rowIs.cell hI.ab.box (i := 8) (by omega)
    have hlr := hI.ab.lt
    have hwl : c'.wts.length ≤ 16777200 := hI.ok.w
    have hpt := hI.pt
    have hpo : c'.wts.length ≤ pot c' := by unfold pot; omega
    clear hI
    by_cases hw0 : c'.wts = []
    · have HW0 := hidp hw0
      rw [hw0] at c8
      simp only [List.length_nil] at c8
      have e0 : wr.cell? ⟨w.heap.size, 0, none⟩ = some (.int .i64 c'.st) := World.rowIs.cell HI.out.ab.box (i := 0) (by omega)
      have e1 : wr.cell? ⟨w.heap.size, 1, none⟩ = some (.int .i64 c'.now.v) := World.rowIs.cell HI.out.ab.box (i := 1) (by omega)
      have e2 : wr.cell? ⟨w.heap.size, 2, none⟩ = some (.slice a'.n.fo c'.now.fs.length a'.n.fc) := World.rowIs.cell HI.out.ab.box (i := 2) (by omega)
      have e3 : wr.cell? ⟨w.heap.size, 3, none⟩ = some (.slice a'.n.qo c'.now.ps.length a'.n.qc) := World.rowIs.cell HI.out.ab.box (i := 3) (by omega)
      have e4 : wr.cell? ⟨w.heap.size, 4, none⟩ = some (.int .i64 c'.nxt.v) := World.rowIs.cell HI.out.ab.box (i := 4) (by omega)
      have e5 : wr.cell? ⟨w.heap.size, 5, none⟩ = some (.slice a'.x.fo c'.nxt.fs.length a'.x.fc) := World.rowIs.cell HI.out.ab.box (i := 5) (by omega)
      have e6 : wr.cell? ⟨w.heap.size, 6, none⟩ = some (.slice a'.x.qo c'.nxt.ps.length a'.x.qc) := World.rowIs.cell HI.out.ab.box (i := 6) (by omega)
      have e7 : wr.cell? ⟨w.heap.size, 7, none⟩ = some (.int .i64 c'.num) := World.rowIs.cell HI.out.ab.box (i := 7) (by omega)
      obtain ⟨r0, r1, r2, r3, r4, r5, r6, r7, r8⟩ := HI.out.ab.zeros
      have z := box_frozen HI.out.ab.ans
      have z0 := z 0
      have z1 := z 1
      have z2 := z 2
      have z3 := z 3
      have z4 := z 4
      have z5 := z 5
      have z6 := z 6
      have z7 := z 7
      have z8 := z 8
      have hlr0 : w.heap.size < wr.heap.size := by omega
      obtain ⟨oo, oc, hov⟩ := own_form HI.out.own
      have HOV := hidp hov
      clear z hpt hpo hw0 hov
      go_wp2
      refine bodyPost_ret (v := .tuple #[.agg #[.int .i64 c'.st, .int .i64 c'.now.v, .slice a'.n.fo c'.now.fs.length a'.n.fc, .slice a'.n.qo c'.now.ps.length a'.n.qc, .int .i64 c'.nxt.v, .slice a'.x.fo c'.nxt.fs.length a'.x.fc, .slice a'.x.qo c'.nxt.ps.length a'.x.qc, .int .i64 c'.num, .slice a'.wo 0 a'.wc], u9, .bool true]) (by simp [results, Try.results17, go_sem, r0, r1, r2, r3, r4, r5, r6, r7, r8]) rfl ?_
      have hq := SIn.fin HI.out HW0.out HOV.out (.int .i64 c'.st) (.int .i64 c'.now.v) (.slice a'.n.fo c'.now.fs.length a'.n.fc) (.slice a'.n.qo c'.now.ps.length a'.n.qc) (.int .i64 c'.nxt.v) (.slice a'.x.fo c'.nxt.fs.length a'.x.fc) (.slice a'.x.qo c'.nxt.ps.length a'.x.qc) (.int .i64 c'.num) (.slice a'.wo 0 a'.wc)
      unfold W9 at hq
      with_reducible exact hq
    · have hwp : 0 < c'.wts.length := List.length_pos_iff.2 hw0
      have i1 : i ≤ 199 := by omega
      obtain ⟨L, hL⟩ : ∃ L, c'.wts.length = L := ⟨_, rfl⟩
      rw [hL] at c8 hwl hwp
      have HL := hidp hL
      clear hL hpt hpo
      go_upto_if 27 with fail
      go_cut [11] (fun kv wc => ∃ k : Nat, kv = .int .i64 k ∧ k < L ∧ Ext wr wc)
      case first =>
        by_cases hps : ps = []
        · subst hps
          go_wp2
          go_meet
          exact ⟨0, rfl, hwp, Ext.refl wr⟩
        · have hpp : 0 < ps.length := List.length_pos_iff.2 hps
          obtain ⟨gp, op, rfl, hgp, hcp⟩ := (hp.ext HI.out.ex).get hpp
          obtain ⟨j, hj⟩ : ∃ j, i % ps.length = j := ⟨_, rfl⟩
          have hjl : j < ps.length := by rw [← hj]; exact Nat.mod_lt _ hpp
          have cj := hcp j hjl
          obtain ⟨x, hxx⟩ : ∃ x, ps.getD j 0 = x := ⟨_, rfl⟩
          rw [hxx] at cj
          clear hcp
          have ht1 : (i : Int).tmod (ps.length : Int) = (j : Int) := by rw [IntWalk.up_tmod rfl rfl, hj]
          obtain ⟨y, hy⟩ : ∃ y, x.tmod (L : Int) = y := ⟨_, rfl⟩
          have hy1 : -(L : Int) < y ∧ y < (L : Int) := by
            rw [← hy, tmod_eq_if]
            have hL0 : (0 : Int) < (L : Int) := by omega
            split
            · have := Int.emod_lt_of_pos x hL0; have := Int.emod_nonneg x (show (L : Int) ≠ 0 by omega); omega
            · have := Int.emod_lt_of_pos (-x) hL0; have := Int.emod_nonneg (-x) (show (L : Int) ≠ 0 by omega); omega
          have hp0 : ¬ (ps.length : Int) = 0 := by omega
          have hL0 : ¬ (L : Int) = 0 := by omega
          have hjl' : (j : Int) < (ps.length : Int) := by omega
          have hj0 : (0 : Int) ≤ (j : Int) := by omega
          have hI64 := Joins.in64_of_wf (HPI.out x (by rw [← hxx]; simp [List.getD_eq_getElem?_getD, hjl]))
          clear hj hxx hpp
          go_wp2
          go_region
          clear cj
          by_cases hyn : y < 0
          · have hy2 : y + (L : Int) ≤ 9223372036854775807 := by omega
            obtain ⟨k, hk⟩ := Int.eq_ofNat_of_zero_le (show 0 ≤ y + (L : Int) by omega)
            go_wp2
            go_meet
            exact ⟨k, by go_num, by omega, (Ext.refl wr).drew⟩
          · obtain ⟨k, hk⟩ := Int.eq_ofNat_of_zero_le (show 0 ≤ y by omega)
            go_wp2
            go_meet
            exact ⟨k, rfl, by omega, (Ext.refl wr).drew⟩
      case rest =>
        obtain ⟨k, rfl, hkL, hEc⟩ := hcut
        obtain ⟨wd, hwd⟩ : ∃ wd, wd = wc := ⟨_, rfl⟩
        subst hwd
        have HIc := hidp (HI.out.ext hEc)
        clear HI c8 hEc
        obtain ⟨gw, ow, hwo, hgw, hcw⟩ := HIc.out.st.at.1.hw.get (k := k) (by rw [HL.out]; exact hkL)
        have ck := hcw k (by rw [HL.out]; exact hkL)
        obtain ⟨x, hxx⟩ : ∃ x, c'.wts.getD k 0 = x := ⟨_, rfl⟩
        rw [hxx] at ck
        have hmem : x ∈ c'.wts := by rw [← hxx]; simp [List.getD_eq_getElem?_getD, show k < c'.wts.length by rw [HL.out]; exact hkL]
        have HM := hidp hmem
        have hd : Ext wd wd.drew := (Ext.refl wd).drew
        have hda : Ext wd (wd.alloc (.cells #[.int .i64 0, .int .i64 0, .slice none 0 0, .slice none 0 0, .int .i64 0, .slice none 0 0, .slice none 0 0, .int .i64 0, .slice none 0 0] 28)).drew := ((Ext.refl wd).alloc _).drew
        have HBK : Hid (∀ V, Ext wd V → Calls Try.prog 12 #[cvl c' a', .agg #[.int .i64 nn, .slice ao len cap], .int .i64 x] V fun e w' => GoOut V.heap.size V (backS c' nn ls x).1 0 e w') := fun V hV => by
          have := Back_any c' a' nn x ao len cap ls V (HIc.out.st.at.1.ext hV) HIc.out.ok hlen (hl.ext (HIc.out.ex.trans hV)) hx
          rwa [show (backS c' nn ls x).2 = 0 by rw [back_in HW.out hmem]] at this
        unfold cvl at HBK
        rw [HL.out] at HBK
        have HS12 : Hid (∀ V, Ext wd V → V.cell? ⟨w.heap.size, 0, none⟩ = some (.int .i64 c'.st) ∧ V.cell? ⟨w.heap.size, 1, none⟩ = some (.int .i64 c'.now.v) ∧ V.cell? ⟨w.heap.size, 2, none⟩ = some (.slice a'.n.fo c'.now.fs.length a'.n.fc) ∧ V.cell? ⟨w.heap.size, 3, none⟩ = some (.slice a'.n.qo c'.now.ps.length a'.n.qc) ∧ V.cell? ⟨w.heap.size, 4, none⟩ = some (.int .i64 c'.nxt.v) ∧ V.cell? ⟨w.heap.size, 5, none⟩ = some (.slice a'.x.fo c'.nxt.fs.length a'.x.fc) ∧ V.cell? ⟨w.heap.size, 6, none⟩ = some (.slice a'.x.qo c'.nxt.ps.length a'.x.qc) ∧ V.cell? ⟨w.heap.size, 7, none⟩ = some (.int .i64 c'.num) ∧ V.cell? ⟨w.heap.size, 8, none⟩ = some (.slice a'.wo L a'.wc) ∧ V.cell? ⟨w.heap.size + 1, 0, none⟩ = some (.int .i64 nn) ∧ V.cell? ⟨w.heap.size + 1, 1, none⟩ = some (.slice ao len cap) ∧ V.cell? ⟨gw, ow + k, none⟩ = some (.int .i64 x)) := fun V hV => by
          have q := HIc.out.ab.ext hV
          refine ⟨World.rowIs.cell q.box (i := 0) (by omega), World.rowIs.cell q.box (i := 1) (by omega), World.rowIs.cell q.box (i := 2) (by omega), World.rowIs.cell q.box (i := 3) (by omega), World.rowIs.cell q.box (i := 4) (by omega), World.rowIs.cell q.box (i := 5) (by omega), World.rowIs.cell q.box (i := 6) (by omega), World.rowIs.cell q.box (i := 7) (by omega), ?_, q.n0, q.n1, (hV.cells.1 _ _ hgw).trans ck⟩
          rw [← HL.out]
          exact World.rowIs.cell q.box (i := 8) (by omega)
        rw [hwo] at HS12 HBK
        have i2 : (k : Int) < (L : Int) := by omega
        have hlc := HIc.out.ab.lt
        have hlc0 : w.heap.size < wd.heap.size := by omega
        clear hcw ck hxx hmem hwo
        go_upto_region 12 with fail
        go_cut [12, 13, 14] (fun dv lv ev wx => DbOut wd (backS c' nn ls x).1 dv lv ev wx)
        case first =>
          go_region_held3 (fun V => V.cell? ⟨w.heap.size, 0, none⟩ = some (.int .i64 c'.st) ∧ V.cell? ⟨w.heap.size, 1, none⟩ = some (.int .i64 c'.now.v) ∧ V.cell? ⟨w.heap.size, 2, none⟩ = some (.slice a'.n.fo c'.now.fs.length a'.n.fc) ∧ V.cell? ⟨w.heap.size, 3, none⟩ = some (.slice a'.n.qo c'.now.ps.length a'.n.qc) ∧ V.cell? ⟨w.heap.size, 4, none⟩ = some (.int .i64 c'.nxt.v) ∧ V.cell? ⟨w.heap.size, 5, none⟩ = some (.slice a'.x.fo c'.nxt.fs.length a'.x.fc) ∧ V.cell? ⟨w.heap.size, 6, none⟩ = some (.slice a'.x.qo c'.nxt.ps.length a'.x.qc) ∧ V.cell? ⟨w.heap.size, 7, none⟩ = some (.int .i64 c'.num) ∧ V.cell? ⟨w.heap.size, 8, none⟩ = some (.slice (some ⟨gw, ow, none⟩) L a'.wc) ∧ V.cell? ⟨w.heap.size + 1, 0, none⟩ = some (.int .i64 nn) ∧ V.cell? ⟨w.heap.size + 1, 1, none⟩ = some (.slice ao len cap) ∧ V.cell? ⟨gw, ow + k, none⟩ = some (.int .i64 x))
            (first | with_reducible exact HS12.out _ hd | with_reducible exact HS12.out _ hda | with_reducible exact HS12.out _ mk1 | with_reducible exact HS12.out _ mkA | with_reducible exact HS12.out _ (mk1.alloc _) | with_reducible exact HS12.out _ (((((((((mkA.setCell (Nat.le_refl _) _).setCell (Nat.le_refl _) _).setCell (Nat.le_refl _) _).setCell (Nat.le_refl _) _).setCell (Nat.le_refl _) _).setCell (Nat.le_refl _) _).setCell (Nat.le_refl _) _).setCell (Nat.le_refl _) _).setCell (Nat.le_refl _) _))
            (first
            | (go_at_call 12
               refine (HBK.out _ hd).mono ?_
               intro e w5 hG
               obtain ⟨k0, k1, o2, l2, q2, o3, l3, q3, k4, o5, l5, q5, o6, l6, q6, k7, o8, l8, q8, tO, l9, tc, rfl, E9, HF⟩ := hG.letters
               have mk1 := hd.trans E9
               clear hG)
            | (go_at_call 12
               refine (HBK.out _ hda).mono ?_
               intro e w5 hG
               obtain ⟨k0, k1, o2, l2, q2, o3, l3, q3, k4, o5, l5, q5, o6, l6, q6, k7, o8, l8, q8, tO, l9, tc, rfl, E9, HF⟩ := hG.letters
               have mkA := hda.trans E9
               obtain ⟨⟨r0, r1, r2, r3, r4, r5, r6, r7, r8⟩, z⟩ := zero_box E9
               have z0 := z 0
               have z1 := z 1
               have z2 := z 2
               have z3 := z 3
               have z4 := z 4
               have z5 := z 5
               have z6 := z 6
               have z7 := z 7
               have z8 := z 8
               have hdb := box_lt E9
               have HZB := hidp (zero_blk E9)
               clear hG z)
            | fail)
          all_goals
            go_wp2_with fail
            go_meet
            first
            | (have _t := mkA
               have hq := db_early (tc := tc) (by rw [drew_heap]; simp) mkA (HZB.out.trans (blk_alloc_new _ _)) HF.out
               unfold W9 at hq
               with_reducible exact hq)
            | (have _t := mk1
               have hq := db_late (tc := tc) (Nat.le_refl _) mk1 HF.out
               with_reducible exact hq)
        case rest =>
          obtain ⟨db, k0, k1, o2, l2, q2, o3, l3, q3, k4, o5, l5, q5, o6, l6, q6, k7, o8, l8, q8, tO, l9, tc, rfl, rfl, rfl, hdb, hEx, hbx, HF⟩ := hcut
          obtain ⟨wx, hwx0⟩ : ∃ wx, wx = wc := ⟨_, rfl⟩
          subst hwx0
          obtain ⟨a'', ecl, el9, hSt⟩ := HF.out
          have HST := hidp hSt
          have HCL := hidp ecl
          have HL9 := hidp el9
          have hlx := hEx.size
          have hbl := World.rowIs.lt hbx
          have d0 : wx.cell? ⟨db, 0, none⟩ = some (.int .i64 k0) := World.rowIs.cell hbx (i := 0) (by omega)
          have d1 : wx.cell? ⟨db, 1, none⟩ = some (.int .i64 k1) := World.rowIs.cell hbx (i := 1) (by omega)
          have d2 : wx.cell? ⟨db, 2, none⟩ = some (.slice o2 l2 q2) := World.rowIs.cell hbx (i := 2) (by omega)
          have d3 : wx.cell? ⟨db, 3, none⟩ = some (.slice o3 l3 q3) := World.rowIs.cell hbx (i := 3) (by omega)
          have d4 : wx.cell? ⟨db, 4, none⟩ = some (.int .i64 k4) := World.rowIs.cell hbx (i := 4) (by omega)
          have d5 : wx.cell? ⟨db, 5, none⟩ = some (.slice o5 l5 q5) := World.rowIs.cell hbx (i := 5) (by omega)
          have d6 : wx.cell? ⟨db, 6, none⟩ = some (.slice o6 l6 q6) := World.rowIs.cell hbx (i := 6) (by omega)
          have d7 : wx.cell? ⟨db, 7, none⟩ = some (.int .i64 k7) := World.rowIs.cell hbx (i := 7) (by omega)
          have d8 : wx.cell? ⟨db, 8, none⟩ = some (.slice o8 l8 q8) := World.rowIs.cell hbx (i := 8) (by omega)
          have HAx := hidp (HIc.out.ab.ext hEx)
          obtain ⟨e0, e1, e2, e3, e4, e5, e6, e7, e8, _⟩ := HS12.out wx hEx
          have z := fun i => World.rowIs.frozen HAx.out.box i
          have z0 := z 0
          have z1 := z 1
          have z2 := z 2
          have z3 := z 3
          have z4 := z 4
          have z5 := z 5
          have z6 := z 6
          have z7 := z 7
          have z8 := z 8
          have hdne : db ≠ w.heap.size := by omega
          have hwx : w.heap.size < wx.heap.size := by omega
          clear ecl el9 hSt HF z hbx
          go_upto_region 16 with fail
          obtain ⟨wy, hwy⟩ : ∃ wy, wy = W9 wx w.heap.size (.int .i64 k0) (.int .i64 k1) (.slice o2 l2 q2) (.slice o3 l3 q3) (.int .i64 k4) (.slice o5 l5 q5) (.slice o6 l6 q6) (.int .i64 k7) (.slice o8 l8 q8) := ⟨_, rfl⟩
          have HY : Hid (wy.heap.size = wx.heap.size ∧ (∀ b, b ≠ w.heap.size → wy.heap[b]? = wx.heap[b]?) ∧ BX wy w.heap.size (coL (backS c' nn ls x).1.c a'') ∧ Ext w wy) := by
            rw [hwy, ← HCL.out]
            exact ⟨W9_size0, W9_block0, box_put HAx.out.box _ _ _ _ _ _ _ _ _, W9_ext0 (HIc.out.ex.trans hEx) (Nat.le_refl _)⟩
          unfold W9 at hwy
          rw [← hwy]
          clear hwy d0 d1 d2 d3 d4 d5 d6 d7 d8 e0 e1 e2 e3 e4 e5 e6 e7 e8 z0 z1 z2 z3 z4 z5 z6 z7 z8
          have HOY : Hid (wy.ownsRow (w.heap.size + 1 + 1 + 1) 32 1 u9 outs.length VS) := own_keep HIc.out.own (fun b h1 h2 => ((HY.out.2.1 b (by omega)).trans (Below.block hEx b h2)))
          have hol : outs.length ≤ 200 := Nat.le_trans HIc.out.ol hi2
          go_wp2_with (first | (at_builtin; refine wpList_append_lies _ rfl _ _ 49 rfl (w.heap.size + 1 + 1 + 1) 32 i0 (.slice none 0 0) 1 24 Try.underlying49 hi0 hz00 hz01 hz02 rfl (by decide) _ _ _ rfl (HOY.out.alloc _) ⟨wy.heap.size, 0, none⟩ 1 1 [.slice tO l9 tc] rfl rfl (news1' rfl _ _) (one1s _ _ _) (by decide) (by unfold maxLen; omega) (by omega) (by have := HY.out.1; simp; omega) _ rfl ?_) | go_in)
          intro g7 gc7 w7 hown7 hgr7 hat7 hlt7
          have H7 := hidp (HIc.out.step (tc := tc) HW.out hn8 HM.out hEx HST.out HY.out.1 HY.out.2.1 HY.out.2.2.1 HY.out.2.2.2 (by rw [← HL9.out]; exact hown7) hgr7 (hat7.imp id (fun h => by simpa using h)))
          clear hown7 hgr7 hat7 hlt7
          go_wp2
          exact ⟨⟨i + 1, by go_num, by omega, _, _, _, _, H7.out⟩, by simp [intOf]; omega⟩

end Go.Proofs.Ytgffkjjddhlbpaa.Ct

/- The closed fact that every law of chapter 7 asks first: it stands. -/
namespace Go.Proofs.Ytgffkjjddhlbpaa.Ct
open Go.RowKit Go.Deep Stw Stp Tb Rul

def n2 : List Lk := [⟨0, 1, 1⟩]
def f1 : List Stf.Fl := [⟨0, 1, [], []⟩]
def gA : Cg := (askS co0 2 n2 f1).1
theorem gA_ok : (askS co0 2 n2 f1).2 = 0 := by decide +kernel
theorem gA_st : gA.c.st = 1 := by decide +kernel
theorem gA_wts : gA.c.wts = [1] := by decide +kernel
theorem gA_out : gA.out.length = 1 := by decide +kernel
theorem n2_right : (wrong 2 n2).1 = 0 := by decide +kernel
def gB : Cg := (backS gA.c 2 n2 1).1
theorem gB_ok : (backS gA.c 2 n2 1).2 = 0 := by decide +kernel
theorem gB_st : gB.c.st = 2 := by decide +kernel
theorem gB_out : gB.out.length = 1 := by decide +kernel
theorem gB_k : gB.out.map (fun x => x.2.k) = [2] := by decide +kernel
theorem two_net {W : World} {b : Nat} (h : W.heap.size = b) : NetAt (W.alloc (.cells #[.int .i64 0, .int .i64 1, .int .i64 1] 123)) (some ⟨b, 0, none⟩) n2 := by
  subst h
  refine Or.inr ⟨_, 0, rfl, by simp, fun k hk => ?_⟩
  have hk1 : k < 1 := hk
  match k, hk1 with
  | 0, _ => simp [n2]
set_option maxHeartbeats 1000000 in
theorem two_any (w : World) : Calls Try.prog 39 #[] w fun e w' => ∃ ao, e = .returned (.agg #[.int .i64 2, .slice ao 1 1]) ∧ Hid (NetAt w' ao n2) ∧ Ext w w' := by
  go_enter Try.func39, Try.ntmps39
  go_wp2
  refine bodyPost_ret (v := .agg #[.int .i64 2, .slice (some ⟨w.heap.size + 1, 0, none⟩) 1 1]) (by simp [results, Try.results39, go_sem]) rfl ⟨_, rfl, two_net (by simp), ((Ext.refl w).alloc _).alloc _⟩
theorem f1_at {W : World} {b : Nat} (h : W.heap.size = b) : Fw.FlowsAt (W.alloc (.cells #[.int .i64 0, .int .i64 1, .slice none 0 0, .slice none 0 0] 91)) (some ⟨b, 0, none⟩) f1 := by
  subst h
  refine Or.inr ⟨_, 0, rfl, by simp, fun k hk => ?_⟩
  have hk1 : k < 1 := hk
  match k, hk1 with
  | 0, _ => exact ⟨.slice none 0 0, .slice none 0 0, by simp [f1], by simp [f1], by simp, by simp, ⟨none, 0, rfl, Or.inl rfl, Nat.le_refl _⟩, ⟨none, 0, rfl, Or.inl rfl, Nat.le_refl _⟩⟩
theorem f1_sm : Fw.Sm f1 := fun k h => by
  have hk1 : k < 1 := h
  match k, hk1 with
  | 0, _ => simp [f1]
theorem DbOut.mono {wa wb wx : World} {G : Cg} {dv lv ev : Value} (h : DbOut wb G dv lv ev wx) (E : Ext wa wb) : DbOut wa G dv lv ev wx := by
  obtain ⟨db, k0, k1, o2, l2, q2, o3, l3, q3, k4, o5, l5, q5, o6, l6, q6, k7, o8, l8, q8, tO, l9, tc, e1, e2, e3, h4, h5, h6, h7⟩ := h
  obtain ⟨a, f1, f2, f3⟩ := h7.out
  have := E.size
  exact ⟨db, k0, k1, o2, l2, q2, o3, l3, q3, k4, o5, l5, q5, o6, l6, q6, k7, o8, l8, q8, tO, l9, tc, e1, e2, e3, by omega, E.trans h5, h6, a, f1, f2, f3.more (fun b hb _ => ⟨by omega, hb.2⟩)⟩
theorem zero_boxN {w w' : World} (E : Ext (w.alloc (.cells #[.int .i64 0, .int .i64 0, .slice none 0 0, .slice none 0 0, .int .i64 0, .slice none 0 0, .slice none 0 0, .int .i64 0, .slice none 0 0] 28)) w') : (w'.cell? ⟨w.heap.size, 0, none⟩ = some (.int .i64 0) ∧ w'.cell? ⟨w.heap.size, 1, none⟩ = some (.int .i64 0) ∧ w'.cell? ⟨w.heap.size, 2, none⟩ = some (.slice none 0 0) ∧ w'.cell? ⟨w.heap.size, 3, none⟩ = some (.slice none 0 0) ∧ w'.cell? ⟨w.heap.size, 4, none⟩ = some (.int .i64 0) ∧ w'.cell? ⟨w.heap.size, 5, none⟩ = some (.slice none 0 0) ∧ w'.cell? ⟨w.heap.size, 6, none⟩ = some (.slice none 0 0) ∧ w'.cell? ⟨w.heap.size, 7, none⟩ = some (.int .i64 0) ∧ w'.cell? ⟨w.heap.size, 8, none⟩ = some (.slice none 0 0)) ∧ ∀ i, w'.frozen? ⟨w.heap.size, i, none⟩ = false := by
  have h : w'.heap[w.heap.size]? = some (.cells #[.int .i64 0, .int .i64 0, .slice none 0 0, .slice none 0 0, .int .i64 0, .slice none 0 0, .slice none 0 0, .int .i64 0, .slice none 0 0] 28 (0, 0)) := (Below.block E _ (by simp)).trans (blk_alloc_new _ _)
  exact ⟨⟨box_cell h 0, box_cell h 1, box_cell h 2, box_cell h 3, box_cell h 4, box_cell h 5, box_cell h 6, box_cell h 7, box_cell h 8⟩, fun i => box_frozen h i⟩
theorem zero_blkN {w w' : World} {o : Obj} (E : Ext (w.alloc o) w') : w'.heap[w.heap.size]? = (w.alloc o).heap[w.heap.size]? := Below.block E _ (by simp)
theorem co0_ok : CoOk co0 := ⟨PlOk.zero, PlOk.zero, by simp [co0]⟩

theorem ask_ok {c : Co} {n : Int} {ls : List Lk} {fs : List Stf.Fl} (hok : CoOk c) (hw : c.wts.length ≤ 16777000) (h : (askS c n ls fs).2 = 0) : CoOk (askS c n ls fs).1.c := by
  unfold askS at h ⊢
  split at h
  · cases h
  · rename_i h0
    rw [if_neg h0]
    split at h
    · rename_i h1; exact absurd h h1
    · rename_i h1
      rw [if_neg h1]
      have hp : (plnF n (nx c.now.v) ls fs).1 = 0 := by simpa using h1
      have hg := plan_good hp
      have hn : n.toNat ≤ 8 := by have := hg.n8; omega
      split at h
      · cases h
      · rename_i h2
        rw [if_neg h2]
        refine goS_ok hn hok.n (plan_ok hp) ?_
        have := (told_len (ord := addO ⟨nx c.now.v, fs, plnP n ls fs⟩) (g := ⟨⟨1, c.now, ⟨nx c.now.v, fs, plnP n ls fs⟩, c.num, c.wts⟩, []⟩) n.toNat).1
        exact Nat.le_trans this (by show c.wts.length + n.toNat ≤ _; omega)
theorem gA_cok : CoOk gA.c := ask_ok co0_ok (by simp [co0]) gA_ok

set_option maxRecDepth 100000 in
set_option maxHeartbeats 2000000 in
theorem alive_any (w : World) : Calls Try.prog 16 #[] w fun e w' => e = .returned (.bool true) ∧ Ext w w' := by
  go_enter Try.func16, Try.ntmps16
  go_wp2_with fail
  refine (two_any w).mono ?_
  rintro e w1 ⟨ao, rfl, HN, E1⟩
  go_wp2_with fail
  have E1' : Ext w1 (w1.alloc (.cells #[.int .i64 0, .int .i64 1, .slice none 0 0, .slice none 0 0] 91)) := (Ext.refl w1).alloc _
  have hA := Ask_any co0 ca0 2 ao 1 1 n2 (some ⟨w1.heap.size, 0, none⟩) 1 1 f1 _ (CoAt.zero _) co0_ok rfl (HN.out.ext E1') (by omega) (i64_small (by decide) (by decide)) rfl (f1_at rfl) f1_sm (by omega)
  rw [gA_ok] at hA
  refine Calls.mono hA ?_
  clear hA
  intro e w2 hG
  obtain ⟨k0, k1, o2, l2, q2, o3, l3, q3, k4, o5, l5, q5, o6, l6, q6, k7, o8, l8, q8, tO, l9, tc, rfl, E2, HF⟩ := hG.letters
  obtain ⟨aA, e1, e2, hU⟩ := HF.out
  have e2' : l9 = 1 := e2.trans gA_out
  have eco : [.int .i64 k0, .int .i64 k1, .slice o2 l2 q2, .slice o3 l3 q3, .int .i64 k4, .slice o5 l5 q5, .slice o6 l6 q6, .int .i64 k7, .slice o8 l8 q8] = coL gA.c aA := coL_of e1
  have ek0 : k0 = 1 := by
    have := eco
    unfold coL at this
    rw [gA_st] at this
    simp at this
    exact this.1
  have el8 : l8 = 1 := by
    have := eco
    unfold coL at this
    rw [gA_wts] at this
    simp at this
    exact this.2.2.2.2.2.2.2.2.2.1
  subst e2' ek0 el8
  have HU := hidp (show Stb (fun b => (w1.alloc (.cells #[.int .i64 0, .int .i64 1, .slice none 0 0, .slice none 0 0] 91)).heap.size ≤ b) w2 (fun U => CoAt U gA.c aA ∧ TosAt U tO gA.out) from hU)
  have HE := hidp e1
  have E12 : Ext w w2 := E1.trans (E1'.trans E2)
  clear hG HF e2 eco hU e1
  obtain ⟨gw, ow, hwo, hgw, hcw⟩ := HU.out.at.1.hw.get (k := 0) (by rw [gA_wts]; decide)
  have hc0 := hcw 0 (by rw [gA_wts]; decide)
  rw [gA_wts] at hc0
  have hc1 : w2.cell? ⟨gw, ow, none⟩ = some (.int .i64 1) := hc0
  have ho8 : o8 = some ⟨gw, ow, none⟩ := by
    have := coL_of (l := [.int .i64 1, .int .i64 k1, .slice o2 l2 q2, .slice o3 l3 q3, .int .i64 k4, .slice o5 l5 q5, .slice o6 l6 q6, .int .i64 k7, .slice o8 1 q8]) HE.out
    have h8 := congrArg (fun l => l.getD 8 vd) this
    simp [coL] at h8
    exact h8.1.trans hwo
  subst ho8
  go_wp2_with fail
  obtain ⟨wd, hwd⟩ : ∃ wd, wd = w2.alloc (.cells #[.int .i64 1, .int .i64 k1, .slice o2 l2 q2, .slice o3 l3 q3, .int .i64 k4, .slice o5 l5 q5, .slice o6 l6 q6, .int .i64 k7, .slice (some ⟨gw, ow, none⟩) 1 q8] 28) := ⟨_, rfl⟩
  have Ed : Ext w2 wd := by rw [hwd]; exact (Ext.refl w2).alloc _
  have HS10 : Hid (∀ V, Ext wd V → V.cell? ⟨w2.heap.size, 0, none⟩ = some (.int .i64 1) ∧ V.cell? ⟨w2.heap.size, 1, none⟩ = some (.int .i64 k1) ∧ V.cell? ⟨w2.heap.size, 2, none⟩ = some (.slice o2 l2 q2) ∧ V.cell? ⟨w2.heap.size, 3, none⟩ = some (.slice o3 l3 q3) ∧ V.cell? ⟨w2.heap.size, 4, none⟩ = some (.int .i64 k4) ∧ V.cell? ⟨w2.heap.size, 5, none⟩ = some (.slice o5 l5 q5) ∧ V.cell? ⟨w2.heap.size, 6, none⟩ = some (.slice o6 l6 q6) ∧ V.cell? ⟨w2.heap.size, 7, none⟩ = some (.int .i64 k7) ∧ V.cell? ⟨w2.heap.size, 8, none⟩ = some (.slice (some ⟨gw, ow, none⟩) 1 q8) ∧ V.cell? ⟨gw, ow, none⟩ = some (.int .i64 1)) := fun V hV => by
    have q : BX V w2.heap.size [.int .i64 1, .int .i64 k1, .slice o2 l2 q2, .slice o3 l3 q3, .int .i64 k4, .slice o5 l5 q5, .slice o6 l6 q6, .int .i64 k7, .slice (some ⟨gw, ow, none⟩) 1 q8] := World.rowIs.of_block (by rw [hwd]; exact box_row rfl _ _ _ _ _ _ _ _ _) (Below.block hV _ (by rw [hwd]; simp))
    exact ⟨World.rowIs.cell q (i := 0) (by omega), World.rowIs.cell q (i := 1) (by omega), World.rowIs.cell q (i := 2) (by omega), World.rowIs.cell q (i := 3) (by omega), World.rowIs.cell q (i := 4) (by omega), World.rowIs.cell q (i := 5) (by omega), World.rowIs.cell q (i := 6) (by omega), World.rowIs.cell q (i := 7) (by omega), World.rowIs.cell q (i := 8) (by omega), ((Ed.trans hV).cells.1 _ _ hgw).trans hc1⟩
  have HBK : Hid (∀ V, Ext wd V → ∀ ap, NetAt V ap n2 → Calls Try.prog 12 #[.agg #[.int .i64 1, .int .i64 k1, .slice o2 l2 q2, .slice o3 l3 q3, .int .i64 k4, .slice o5 l5 q5, .slice o6 l6 q6, .int .i64 k7, .slice (some ⟨gw, ow, none⟩) 1 q8], .agg #[.int .i64 2, .slice ap 1 1], .int .i64 1] V fun e w' => GoOut V.heap.size V gB 0 e w') := fun V hV ap hap => by
    have := Back_any gA.c aA 2 1 ap 1 1 n2 V (((HU.out.ext (Ed.trans hV)).at).1) gA_cok rfl hap (by omega)
    rw [gB_ok] at this
    rw [HE.out]
    exact this
  rw [← hwd]
  have hd : Ext wd wd.drew := (Ext.refl wd).drew
  have hda : Ext wd (wd.alloc (.cells #[.int .i64 0, .int .i64 0, .slice none 0 0, .slice none 0 0, .int .i64 0, .slice none 0 0, .slice none 0 0, .int .i64 0, .slice none 0 0] 28)).drew := ((Ext.refl wd).alloc _).drew
  have hwl : w2.heap.size < wd.heap.size := by rw [hwd]; simp
  have hdz : wd.heap.size < (wd.alloc (.cells #[.int .i64 0, .int .i64 0, .slice none 0 0, .slice none 0 0, .int .i64 0, .slice none 0 0, .slice none 0 0, .int .i64 0, .slice none 0 0] 28)).drew.heap.size := by rw [drew_heap]; simp
  clear hwd hcw hc0 hc1 hwo
  go_cut [4, 5, 3] (fun dv lv ev wx => DbOut wd gB dv lv ev wx)
  case first =>
    go_region_held3 (fun V => V.cell? ⟨w2.heap.size, 0, none⟩ = some (.int .i64 1) ∧ V.cell? ⟨w2.heap.size, 1, none⟩ = some (.int .i64 k1) ∧ V.cell? ⟨w2.heap.size, 2, none⟩ = some (.slice o2 l2 q2) ∧ V.cell? ⟨w2.heap.size, 3, none⟩ = some (.slice o3 l3 q3) ∧ V.cell? ⟨w2.heap.size, 4, none⟩ = some (.int .i64 k4) ∧ V.cell? ⟨w2.heap.size, 5, none⟩ = some (.slice o5 l5 q5) ∧ V.cell? ⟨w2.heap.size, 6, none⟩ = some (.slice o6 l6 q6) ∧ V.cell? ⟨w2.heap.size, 7, none⟩ = some (.int .i64 k7) ∧ V.cell? ⟨w2.heap.size, 8, none⟩ = some (.slice (some ⟨gw, ow, none⟩) 1 q8) ∧ V.cell? ⟨gw, ow, none⟩ = some (.int .i64 1))
      (first | with_reducible exact HS10.out _ hd | with_reducible exact HS10.out _ hda | with_reducible exact HS10.out _ mkT | with_reducible exact HS10.out _ mkTA | with_reducible exact HS10.out _ (mkT.alloc _) | with_reducible exact HS10.out _ mk1 | with_reducible exact HS10.out _ (mk1.alloc _) | with_reducible exact HS10.out _ mkA | with_reducible exact HS10.out _ mkB | with_reducible exact HS10.out _ (((((((((mkA.setCell (Nat.le_refl _) _).setCell (Nat.le_refl _) _).setCell (Nat.le_refl _) _).setCell (Nat.le_refl _) _).setCell (Nat.le_refl _) _).setCell (Nat.le_refl _) _).setCell (Nat.le_refl _) _).setCell (Nat.le_refl _) _).setCell (Nat.le_refl _) _) | with_reducible exact HS10.out _ (((((((((mkB.setCell hBl.out _).setCell hBl.out _).setCell hBl.out _).setCell hBl.out _).setCell hBl.out _).setCell hBl.out _).setCell hBl.out _).setCell hBl.out _).setCell hBl.out _))
      (first
      | (have _t := mkT
         go_at_call 12
         first
         | (refine (HBK.out _ mkT _ HNT.out).mono ?_
            intro e w5 hG
            obtain ⟨k0, k1', o2', l2', q2', o3', l3', q3', k4', o5', l5', q5', o6', l6', q6', k7', o8', l8', q8', tO', l9', tc', rfl, E9, HF⟩ := hG.letters
            have mk1 := mkT.trans E9
            clear hG)
         | (refine (HBK.out _ (mkT.alloc (.cells #[.int .i64 0, .int .i64 0, .slice none 0 0, .slice none 0 0, .int .i64 0, .slice none 0 0, .slice none 0 0, .int .i64 0, .slice none 0 0] 28)) _ (HNT.out.ext ((Ext.refl _).alloc _))).mono ?_
            intro e w5 hG
            obtain ⟨k0, k1', o2', l2', q2', o3', l3', q3', k4', o5', l5', q5', o6', l6', q6', k7', o8', l8', q8', tO', l9', tc', rfl, E9, HF⟩ := hG.letters
            have mkB := (mkT.alloc (.cells #[.int .i64 0, .int .i64 0, .slice none 0 0, .slice none 0 0, .int .i64 0, .slice none 0 0, .slice none 0 0, .int .i64 0, .slice none 0 0] 28)).trans E9
            have hBl : Hid (wd.heap.size ≤ wT.heap.size) := mkT.size
            obtain ⟨⟨r0, r1, r2, r3, r4, r5, r6, r7, r8⟩, z⟩ := zero_boxN E9
            have z0 := z 0
            have z1 := z 1
            have z2 := z 2
            have z3 := z 3
            have z4 := z 4
            have z5 := z 5
            have z6 := z 6
            have z7 := z 7
            have z8 := z 8
            have HZB := hidp (zero_blkN E9)
            have hdb : wT.heap.size < w5.heap.size := by have := E9.size; simp at this; omega
            clear hG z))
      | (have _t := mkTA
         go_at_call 12
         refine (HBK.out _ mkTA _ HNT.out).mono ?_
         intro e w5 hG
         obtain ⟨k0, k1', o2', l2', q2', o3', l3', q3', k4', o5', l5', q5', o6', l6', q6', k7', o8', l8', q8', tO', l9', tc', rfl, E9, HF⟩ := hG.letters
         have mkA := mkTA.trans E9
         obtain ⟨⟨r0, r1, r2, r3, r4, r5, r6, r7, r8⟩, z⟩ := zero_box (ETA.trans E9)
         have z0 := z 0
         have z1 := z 1
         have z2 := z 2
         have z3 := z 3
         have z4 := z 4
         have z5 := z 5
         have z6 := z 6
         have z7 := z 7
         have z8 := z 8
         have HZB := hidp (zero_blk (ETA.trans E9))
         have hdb := box_lt (ETA.trans E9)
         have hBA : Hid (wd.heap.size < wT.heap.size) := Nat.lt_of_lt_of_le hdz ETA.size
         clear hG z)
      | (go_at_call 39
         refine (two_any wd.drew).mono ?_
         rintro e wT ⟨ap, rfl, HNT, ET⟩
         have mkT := hd.trans ET)
      | (go_at_call 39
         refine (two_any (wd.alloc (.cells #[.int .i64 0, .int .i64 0, .slice none 0 0, .slice none 0 0, .int .i64 0, .slice none 0 0, .slice none 0 0, .int .i64 0, .slice none 0 0] 28)).drew).mono ?_
         rintro e wT ⟨ap, rfl, HNT, ETA⟩
         have mkTA := hda.trans ETA)
      | fail)
    all_goals
      go_wp2_with fail
      go_meet
      first
      | (have _t := mkA
         have hq := db_early (tc := tc') hBA.out mkA (HZB.out.trans (blk_alloc_new _ _)) HF.out
         unfold W9 at hq
         with_reducible exact hq)
      | (have _t := mkB
         have hq := db_early (wc := wT) (tc := tc') (by simp) (((Ext.refl wT).alloc _).trans E9) (HZB.out.trans (blk_alloc_new _ _)) HF.out
         have hq2 := hq.mono mkT
         unfold W9 at hq2
         with_reducible exact hq2)
      | (have _t := mk1
         have hq := db_late (tc := tc') (Nat.le_refl _) ((Ext.refl wT).trans E9) HF.out
         have hq2 := hq.mono mkT
         with_reducible exact hq2)
  case rest =>
    obtain ⟨db, k0', k1', o2', l2', q2', o3', l3', q3', k4', o5', l5', q5', o6', l6', q6', k7', o8', l8', q8', tO', l9', tc', rfl, rfl, rfl, hdb, hEx, hbx, HF⟩ := hcut
    obtain ⟨aB, ecl, el9, hSt⟩ := HF.out
    have ek : k0' = 2 := by
      have h8 := congrArg (fun l => l.getD 0 vd) ecl
      simp [coL, gB_st] at h8
      exact h8
    have el : l9' = 1 := el9.trans gB_out
    subst ek el
    obtain ⟨tb, tf, htO, htl, hts⟩ : ∃ tb tf, tO' = some ⟨tb, tf, none⟩ ∧ tb < wc.heap.size ∧ wc.cell? ⟨tb, tf + 1, none⟩ = some (.int .i64 2) := by
      rcases hSt.at.2 with h0 | ⟨b, off, h1, h2, h3⟩
      · have := gB_out; rw [h0] at this; simp at this
      · obtain ⟨ro, rc, fo, fc, _, c1, _⟩ := h3 0 (by rw [gB_out]; decide)
        have hk : (gB.out[0]'(by rw [gB_out]; decide)).2.k = 2 := by
          have := congrArg (fun l => l.getD 0 0) gB_k
          simpa [List.getD_eq_getElem?_getD, gB_out] using this
        rw [hk] at c1
        exact ⟨b, off, h1, h2, by simpa using c1⟩
    subst htO
    have d0 : wc.cell? ⟨db, 0, none⟩ = some (.int .i64 2) := World.rowIs.cell hbx (i := 0) (by omega)
    have E9 : Ext w wc := E12.trans (Ed.trans hEx)
    clear ecl el9 hSt HF hbx
    go_wp2
    go_ret
    exact ⟨rfl, E9⟩

end Go.Proofs.Ytgffkjjddhlbpaa.Ct

/- A change in words, from its beginning to its end. -/
namespace Go.Proofs.Ytgffkjjddhlbpaa.Ct
open Go.RowKit Go.Deep Stw Stp Tb Rul

/-- The new plan is on its way, or holds beside the elder one. -/
def PhA (now nxt : Pl) (c : Co) : Prop := c.now = now ∧ c.nxt = nxt ∧ ((c.st = 1 ∨ c.st = 2) ∧ c.wts ≠ [] ∨ c.st = 3 ∧ c.wts = [])
/-- The elder plan is on its way out, or is gone. -/
def PhB (now nxt : Pl) (c : Co) : Prop := (c.st = 4 ∧ c.wts ≠ [] ∧ c.now = now ∧ c.nxt = nxt) ∨ (c.st = 0 ∧ c.wts = [] ∧ c.now = nxt ∧ c.nxt = pl0)
theorem goS_A {n : Nat} {g : Cg} (h : g.c.st = 1 ∨ g.c.st = 2) : PhA g.c.now g.c.nxt (goS n g).c := by
  rcases goS_cases n g with ⟨hw, e⟩ | ⟨hw, h1, e⟩ | ⟨hw, h2, e⟩ | ⟨hw, h4, e⟩ | ⟨hw, n1, n2, n4, e⟩
  · rw [e]; exact ⟨rfl, rfl, Or.inl ⟨h, hw⟩⟩
  · rw [e]
    unfold calmS
    split
    · rename_i hw'; exact ⟨rfl, rfl, Or.inl ⟨Or.inr rfl, hw'⟩⟩
    · rename_i hw'
      refine ⟨rfl, rfl, Or.inr ⟨rfl, ?_⟩⟩
      show (told n _ _).c.wts = []
      simpa using hw'
  · rw [e]; exact ⟨rfl, rfl, Or.inr ⟨rfl, hw⟩⟩
  · omega
  · omega
theorem goS_B {n : Nat} {g : Cg} (h : g.c.st = 4) : PhB g.c.now g.c.nxt (goS n g).c := by
  rcases goS_cases n g with ⟨hw, e⟩ | ⟨hw, h1, e⟩ | ⟨hw, h2, e⟩ | ⟨hw, h4, e⟩ | ⟨hw, n1, n2, n4, e⟩
  · rw [e]; exact Or.inl ⟨h, hw, rfl, rfl⟩
  · omega
  · omega
  · rw [e]; exact Or.inr ⟨rfl, hw, rfl, rfl⟩
  · omega
theorem back_A {n : Nat} {ls : List Lk} {c : Co} {now nxt : Pl} {k : Int} (hw : (wrong n ls).1 = 0) (h : PhA now nxt c) (hk : k ∈ c.wts) : PhA now nxt (backS c n ls k).1.c := by
  rw [back_in hw hk]
  obtain ⟨h1, h2, h3⟩ := h
  rcases h3 with ⟨h3, _⟩ | ⟨_, h4⟩
  · have := goS_A (n := n) (g := ⟨⟨c.st, c.now, c.nxt, c.num, c.wts.erase k⟩, []⟩) h3
    rw [← h1, ← h2]
    exact this
  · rw [h4] at hk; simp at hk
theorem back_B {n : Nat} {ls : List Lk} {c : Co} {now nxt : Pl} {k : Int} (hw : (wrong n ls).1 = 0) (h : PhB now nxt c) (hk : k ∈ c.wts) : PhB now nxt (backS c n ls k).1.c := by
  rw [back_in hw hk]
  rcases h with ⟨h3, _, h1, h2⟩ | ⟨_, h4, _⟩
  · have := goS_B (n := n) (g := ⟨⟨c.st, c.now, c.nxt, c.num, c.wts.erase k⟩, []⟩) h3
    rw [← h1, ← h2]
    exact this
  · rw [h4] at hk; simp at hk
theorem bks_A {n : Nat} {ls : List Lk} {c c' : Co} {outs : List (List (Nat × Wir.Od))} {now nxt : Pl} (hw : (wrong n ls).1 = 0) (hb : Bks n ls c c' outs) (h : PhA now nxt c) : PhA now nxt c' := by
  exact hb.ind (R := fun d _ => PhA now nxt d) h (fun d o k _ ih hk => back_A hw ih hk)
theorem bks_B {n : Nat} {ls : List Lk} {c c' : Co} {outs : List (List (Nat × Wir.Od))} {now nxt : Pl} (hw : (wrong n ls).1 = 0) (hb : Bks n ls c c' outs) (h : PhB now nxt c) : PhB now nxt c' := by
  exact hb.ind (R := fun d _ => PhB now nxt d) h (fun d o k _ ih hk => back_B hw ih hk)
/-- What is asked for, and may be. -/
structure AskOk (c : Co) (n : Int) (ls : List Lk) (fs : List Stf.Fl) : Prop where
  hp : (plnF n (nx c.now.v) ls fs).1 = 0
  fl : full n.toNat c.now ⟨nx c.now.v, fs, plnP n ls fs⟩ = false
  eq : askS c n ls fs = (goS n.toNat (told n.toNat (addO ⟨nx c.now.v, fs, plnP n ls fs⟩) ⟨⟨1, c.now, ⟨nx c.now.v, fs, plnP n ls fs⟩, c.num, c.wts⟩, []⟩), 0)
theorem ask_cases {c : Co} {n : Int} {ls : List Lk} {fs : List Stf.Fl} (h : (askS c n ls fs).2 = 0) : AskOk c n ls fs := by
  unfold askS at h
  split at h
  · cases h
  · rename_i h0
    split at h
    · rename_i h1; exact absurd h h1
    · rename_i h1
      split at h
      · cases h
      · rename_i h2
        refine ⟨by simpa using h1, by simpa using h2, ?_⟩
        unfold askS
        rw [if_neg h0, if_neg h1, if_neg h2]
theorem AskOk.wrong {c : Co} {n : Int} {ls : List Lk} {fs : List Stf.Fl} (h : AskOk c n ls fs) : (Stw.wrong n ls).1 = 0 := by
  by_cases e : (Stw.wrong n ls).1 = 0
  · exact e
  · have := h.hp; rw [plnF_wrong e] at this; exact absurd this e
theorem AskOk.A {c : Co} {n : Int} {ls : List Lk} {fs : List Stf.Fl} (h : AskOk c n ls fs) : PhA c.now ⟨nx c.now.v, fs, plnP n ls fs⟩ (askS c n ls fs).1.c := by
  rw [h.eq]
  exact goS_A (n := n.toNat) (g := told n.toNat (addO ⟨nx c.now.v, fs, plnP n ls fs⟩) ⟨⟨1, c.now, ⟨nx c.now.v, fs, plnP n ls fs⟩, c.num, c.wts⟩, []⟩) (Or.inl rfl)
theorem AskOk.pot {c : Co} {n : Int} {ls : List Lk} {fs : List Stf.Fl} (h : AskOk c n ls fs) (hw : c.wts = []) : pot (askS c n ls fs).1.c ≤ 200 := by
  have hg := plan_good h.hp
  have hn : n.toNat ≤ 8 := by have := hg.n8; omega
  rw [h.eq]
  refine Nat.le_trans (pot_goS hn) ?_
  have := (told_len (ord := addO ⟨nx c.now.v, fs, plnP n ls fs⟩) (g := ⟨⟨1, c.now, ⟨nx c.now.v, fs, plnP n ls fs⟩, c.num, c.wts⟩, []⟩) n.toNat).1
  simp only [hw, List.length_nil] at this
  unfold Ct.pot
  simp only [hw]
  split <;> omega
theorem drop_calm {c : Co} {n : Nat} {ls : List Lk} (hw : (wrong n ls).1 = 0) (h : c.st = 3) : dropS c n ls = (goS n (told n (drpO c.now) ⟨⟨4, c.now, c.nxt, c.num, c.wts⟩, []⟩), 0) := by
  unfold dropS
  rw [if_neg (by simpa using hw), if_neg (by simpa using h)]
  rfl
theorem drop_B {c : Co} {n : Nat} {ls : List Lk} (hw : (wrong n ls).1 = 0) (h : c.st = 3) : PhB c.now c.nxt (dropS c n ls).1.c := by
  rw [drop_calm hw h]
  exact goS_B (n := n) (g := told n (drpO c.now) ⟨⟨4, c.now, c.nxt, c.num, c.wts⟩, []⟩) rfl
theorem drop_pot {c : Co} {n : Nat} {ls : List Lk} (hn : n ≤ 8) (hw : (wrong n ls).1 = 0) (h : c.st = 3) (hwt : c.wts = []) : pot (dropS c n ls).1.c ≤ 200 := by
  rw [drop_calm hw h]
  refine Nat.le_trans (pot_goS hn) ?_
  have := (told_len (ord := drpO c.now) (g := ⟨⟨4, c.now, c.nxt, c.num, c.wts⟩, []⟩) n).1
  simp only [hwt, List.length_nil] at this
  unfold pot
  simp only [hwt]
  split <;> omega
theorem drop_ok {c : Co} {n : Nat} {ls : List Lk} (hn : n ≤ 8) (hw : (wrong n ls).1 = 0) (h : c.st = 3) (hwt : c.wts = []) (hok : CoOk c) : CoOk (dropS c n ls).1.c := by
  rw [drop_calm hw h]
  refine goS_ok hn hok.n hok.x ?_
  have := (told_len (ord := drpO c.now) (g := ⟨⟨4, c.now, c.nxt, c.num, c.wts⟩, []⟩) n).1
  simp only [hwt, List.length_nil] at this
  simp only [hwt]
  omega
theorem bks_ok {n : Nat} {ls : List Lk} {c c' : Co} {outs : List (List (Nat × Wir.Od))} (hw : (wrong n ls).1 = 0) (hn : n ≤ 8) (hb : Bks n ls c c' outs) (h : CoOk c) : CoOk c' := by
  exact hb.ind (R := fun d _ => CoOk d) h (fun d o k _ ih hk => back_ok hw hn hk ih)

end Go.Proofs.Ytgffkjjddhlbpaa.Ct

/- Stamps come behind all rules, in words. -/
namespace Go.Proofs.Ytgffkjjddhlbpaa.Ct
open Go.RowKit Go.Deep Stw Stp Tb Rul

theorem told_mem {ord : Nat → Option Wir.Od} {g : Cg} {x : Nat × Wir.Od} : ∀ {m : Nat}, x ∈ (told m ord g).out → x ∈ g.out ∨ ∃ o, x.1 < m ∧ ord x.1 = some o ∧ x.2.k = o.k ∧ x.2.v = o.v ∧ x.2.rs = o.rs ∧ x.2.fs = o.fs
  | 0, h => Or.inl h
  | m + 1, h => by
    cases ho : ord m with
    | none =>
      rw [told_none ho] at h
      rcases told_mem h with h | ⟨o, h1, h2⟩
      · exact Or.inl h
      · exact Or.inr ⟨o, by omega, h2⟩
    | some o =>
      rw [told_some ho] at h
      rcases List.mem_append.1 h with h | h
      · rcases told_mem h with h | ⟨o, h1, h2⟩
        · exact Or.inl h
        · exact Or.inr ⟨o, by omega, h2⟩
      · rw [List.mem_singleton] at h
        subst h
        exact Or.inr ⟨o, Nat.lt_succ_self m, ho, rfl, rfl, rfl, rfl⟩
theorem told_same {ord : Nat → Option Wir.Od} {g : Cg} : ∀ m, (told m ord g).c.wts.length + g.out.length = (told m ord g).out.length + g.c.wts.length
  | 0 => Nat.add_comm _ _
  | m + 1 => by
    have ih := told_same (ord := ord) (g := g) m
    cases h : ord m with
    | none => rw [told_none h]; exact ih
    | some x => rw [told_some h]; simp only [List.length_append, List.length_cons, List.length_nil]; omega
theorem addO_k {p : Pl} {s : Nat} {o : Wir.Od} (h : addO p s = some o) : o.k = 1 := by
  unfold addO at h
  split at h
  · cases h
  · cases h; rfl
theorem stpO_k {a b : Pl} {s : Nat} {o : Wir.Od} (h : stpO a b s = some o) : o.k = 2 := by
  unfold stpO at h
  split at h
  · cases h
  · cases h; rfl
def cnt (l : List (Nat × Wir.Od)) : Nat := (l.filter (fun x => x.2.k == 1)).length
def stm (l : List (Nat × Wir.Od)) : Bool := l.any (fun x => x.2.k == 2)
theorem cnt_all {l : List (Nat × Wir.Od)} (h : ∀ x ∈ l, x.2.k = 1) : cnt l = l.length ∧ stm l = false := by
  refine ⟨?_, ?_⟩
  · unfold cnt
    rw [List.filter_eq_self.2 (fun x hx => by simp [h x hx])]
  · unfold stm
    rw [List.any_eq_false]
    intro x hx
    simp [h x hx]
theorem cnt_none {l : List (Nat × Wir.Od)} (h : ∀ x ∈ l, x.2.k = 2) : cnt l = 0 := by
  unfold cnt
  rw [List.length_eq_zero_iff, List.filter_eq_nil_iff]
  intro x hx
  simp [h x hx]
theorem goS_out2 {n : Nat} {g : Cg} (h : g.c.st = 1 ∨ g.c.st = 2) (ho : g.out = []) : (∀ x ∈ (goS n g).out, x.2.k = 2) ∧ ((goS n g).out ≠ [] → g.c.st = 1 ∧ g.c.wts = []) ∧ (g.c.st = 2 → (goS n g).c.st ≠ 1) ∧ ((goS n g).c.st = 1 → g.c.st = 1 ∧ (goS n g).c.wts = g.c.wts) := by
  rcases goS_cases n g with ⟨hw, e⟩ | ⟨hw, h1, e⟩ | ⟨hw, h2, e⟩ | ⟨hw, h4, e⟩ | ⟨hw, n1, n2, n4, e⟩
  · rw [e, ho]; exact ⟨by simp, by simp, fun h => by omega, fun h => ⟨h, rfl⟩⟩
  · have hk : ∀ x ∈ (told n (stpO g.c.now g.c.nxt) (setSt g 2)).out, x.2.k = 2 := fun x hx => by
      rcases told_mem hx with h | ⟨o, _, h1, h2, _⟩
      · have : x ∈ g.out := h
        rw [ho] at this; simp at this
      · rw [h2]; exact stpO_k h1
    rw [e]
    refine ⟨fun x hx => ?_, fun _ => ⟨h1, hw⟩, fun h => by omega, fun h => ?_⟩
    · unfold calmS at hx
      split at hx
      · exact hk x hx
      · exact hk x hx
    · unfold calmS at h
      split at h
      · simp [told, setSt] at h
      · simp [setSt] at h
  · rw [e]
    refine ⟨fun x hx => ?_, fun h => ?_, fun _ => by simp [setSt], fun h => by simp [setSt] at h⟩
    · have : x ∈ g.out := hx
      rw [ho] at this; simp at this
    · exact absurd ho h
  · omega
  · omega
/-- What Ask tells: rules alone, and as many are waited for; or stamps alone. -/
theorem ask_kinds {c : Co} {n : Int} {ls : List Lk} {fs : List Stf.Fl} (h : AskOk c n ls fs) (hw : c.wts = []) :
    ((askS c n ls fs).1.c.st = 1 ∧ cnt (askS c n ls fs).1.out = (askS c n ls fs).1.c.wts.length ∧ stm (askS c n ls fs).1.out = false) ∨ ((askS c n ls fs).1.c.st ≠ 1 ∧ cnt (askS c n ls fs).1.out = 0) := by
  rw [h.eq]
  generalize hp : (⟨nx c.now.v, fs, plnP n ls fs⟩ : Pl) = p
  obtain ⟨g, hg⟩ : ∃ g, g = told n.toNat (addO p) ⟨⟨1, c.now, p, c.num, c.wts⟩, []⟩ := ⟨_, rfl⟩
  have hs : g.c.st = 1 := by rw [hg]; rfl
  have hl : g.c.wts.length = g.out.length := by
    have := told_same (ord := addO p) (g := ⟨⟨1, c.now, p, c.num, c.wts⟩, []⟩) n.toNat
    rw [← hg] at this
    simpa [hw] using this
  have hk : ∀ x ∈ g.out, x.2.k = 1 := fun x hx => by
    rw [hg] at hx
    rcases told_mem hx with h | ⟨o, _, h1, h2, _⟩
    · simp at h
    · rw [h2]; exact addO_k h1
  rw [← hg]
  show ((goS n.toNat g).c.st = 1 ∧ cnt (goS n.toNat g).out = (goS n.toNat g).c.wts.length ∧ stm (goS n.toNat g).out = false) ∨ _
  by_cases hw0 : g.c.wts = []
  · have ho : g.out = [] := by rw [hw0] at hl; exact List.eq_nil_of_length_eq_zero hl.symm
    obtain ⟨k1, _, _, k4⟩ := goS_out2 (n := n.toNat) (g := g) (Or.inl hs) ho
    refine Or.inr ⟨fun e => ?_, cnt_none k1⟩
    obtain ⟨_, e2⟩ := k4 e
    have := (goS_A (n := n.toNat) (g := g) (Or.inl hs)).2.2
    rw [e2, hw0, e] at this
    simp at this
  · rw [goS_wait hw0]
    exact Or.inl ⟨hs, by rw [(cnt_all hk).1, hl], (cnt_all hk).2⟩
theorem back_kinds {c : Co} {n : Nat} {ls : List Lk} {now nxt : Pl} {k : Int} (hw : (wrong n ls).1 = 0) (h : PhA now nxt c) (hk : k ∈ c.wts) :
    (∀ x ∈ (backS c n ls k).1.out, x.2.k = 2) ∧ ((backS c n ls k).1.out ≠ [] → c.st = 1 ∧ c.wts.length = 1) ∧ (c.st ≠ 1 → (backS c n ls k).1.c.st ≠ 1) ∧ ((backS c n ls k).1.c.st = 1 → c.st = 1 ∧ (backS c n ls k).1.c.wts.length + 1 = c.wts.length) ∧ (c.st = 1 → (backS c n ls k).1.c.st ≠ 1 → c.wts.length = 1) := by
  rw [back_in hw hk]
  have hl := List.length_erase_of_mem hk
  have hp := List.length_pos_of_mem hk
  have hs : c.st = 1 ∨ c.st = 2 := by
    rcases h.2.2 with ⟨h, _⟩ | ⟨_, h⟩
    · exact h
    · rw [h] at hk; simp at hk
  obtain ⟨k1, k2, k3, k4⟩ := goS_out2 (n := n) (g := ⟨⟨c.st, c.now, c.nxt, c.num, c.wts.erase k⟩, []⟩) hs rfl
  refine ⟨k1, fun h => ?_, fun h => ?_, fun h => ?_, fun h1 h2 => ?_⟩
  · obtain ⟨e1, e2⟩ := k2 h
    have e2' : c.wts.erase k = [] := e2
    rw [e2'] at hl
    exact ⟨e1, by simp at hl; omega⟩
  · exact k3 (by rcases hs with h' | h'; exact absurd h' h; exact h')
  · obtain ⟨e1, e2⟩ := k4 h
    refine ⟨e1, ?_⟩
    show (goS n _).c.wts.length + 1 = _
    rw [e2]
    show (c.wts.erase k).length + 1 = _
    omega
  · by_cases he : c.wts.erase k = []
    · rw [he] at hl; simp at hl; omega
    · exfalso
      apply h2
      show (goS n ⟨⟨c.st, c.now, c.nxt, c.num, c.wts.erase k⟩, []⟩).c.st = 1
      rw [goS_wait he]
      exact h1

end Go.Proofs.Ytgffkjjddhlbpaa.Ct

/- What the law ControlOrder answers, for every net, flows and picks: true; nothing that was there is changed. -/
namespace Go.Proofs.Ytgffkjjddhlbpaa.Ct
open Go.RowKit Go.Deep Stw Stp Tb Rul

/-- A change that goes on, in its box. -/
structure Gng (wr : World) (bc nn : Nat) (ls : List Lk) (now nxt : Pl) (adds i : Nat) (c : Co) (a : CA) : Prop where
  ph : PhA now nxt c
  ok : CoOk c
  pt : pot c + i ≤ 100
  a1 : c.st = 1 → c.wts.length + i = adds
  a2 : c.st ≠ 1 → adds ≤ i
  box : BX wr bc (coL c a)
  at_ : Stb (fun b => b ≠ bc) wr (fun U => CoAt U c a)
theorem Gng.ext {wr wx : World} {bc nn adds i : Nat} {ls : List Lk} {now nxt : Pl} {c : Co} {a : CA} (h : Gng wr bc nn ls now nxt adds i c a) (E : Ext wr wx) : Gng wx bc nn ls now nxt adds i c a :=
  ⟨h.ph, h.ok, h.pt, h.a1, h.a2, World.rowIs.of_block h.box (Below.block E _ (World.rowIs.lt h.box)), h.at_.ext E⟩
theorem cnt_take {l : List (Nat × Wir.Od)} {k : Nat} (hk : k < l.length) : cnt (l.take (k + 1)) = cnt (l.take k) + (if (l[k]).2.k = 1 then 1 else 0) ∧ stm (l.take (k + 1)) = (stm (l.take k) || decide ((l[k]).2.k = 2)) := by
  rw [List.take_succ_eq_append_getElem hk]
  refine ⟨?_, ?_⟩
  · unfold cnt
    rw [List.filter_append, List.length_append]
    by_cases h : (l[k]).2.k = 1 <;> simp [h]
  · unfold stm
    rw [List.any_append]
    simp [Bool.beq_eq_decide_eq]
theorem cnt_le (l : List (Nat × Wir.Od)) : cnt l ≤ l.length := List.length_filter_le _ _
theorem goS_few (n : Nat) (g : Cg) : (goS n g).out.length ≤ g.out.length + n := by
  rcases goS_cases n g with ⟨_, e⟩ | ⟨_, _, e⟩ | ⟨_, _, e⟩ | ⟨_, _, e⟩ | ⟨_, _, _, _, e⟩
  · rw [e]; omega
  · rw [e]
    have := (told_len (ord := stpO g.c.now g.c.nxt) (g := setSt g 2) n).2
    have hs : (setSt g 2).out = g.out := rfl
    rw [hs] at this
    unfold calmS
    split
    · exact this
    · exact this
  · rw [e]; show g.out.length ≤ _; omega
  · rw [e]; show g.out.length ≤ _; omega
  · rw [e]; omega
theorem back_few {c : Co} {n : Nat} {ls : List Lk} {k : Int} (hw : (wrong n ls).1 = 0) (hn : n ≤ 8) (hk : k ∈ c.wts) : (backS c n ls k).1.out.length ≤ 8 := by
  rw [back_in hw hk]
  have := goS_few n ⟨⟨c.st, c.now, c.nxt, c.num, c.wts.erase k⟩, []⟩
  simp only [List.length_nil] at this
  exact Nat.le_trans this (by omega)
theorem AskOk.few {c : Co} {n : Int} {ls : List Lk} {fs : List Stf.Fl} (h : AskOk c n ls fs) : (askS c n ls fs).1.out.length ≤ 100 := by
  have hg := plan_good h.hp
  have hn : n.toNat ≤ 8 := by have := hg.n8; omega
  rw [h.eq]
  have h1 := (told_len (ord := addO ⟨nx c.now.v, fs, plnP n ls fs⟩) (g := ⟨⟨1, c.now, ⟨nx c.now.v, fs, plnP n ls fs⟩, c.num, c.wts⟩, []⟩) n.toNat).2
  simp only [List.length_nil] at h1
  generalize told n.toNat (addO ⟨nx c.now.v, fs, plnP n ls fs⟩) ⟨⟨1, c.now, ⟨nx c.now.v, fs, plnP n ls fs⟩, c.num, c.wts⟩, []⟩ = g at h1 ⊢
  exact Nat.le_trans (goS_few n.toNat g) (by omega)
theorem ask_pot {c : Co} {n : Int} {ls : List Lk} {fs : List Stf.Fl} (h : AskOk c n ls fs) (hw : c.wts = []) : pot (askS c n ls fs).1.c ≤ 16 := by
  have hg := plan_good h.hp
  have hn : n.toNat ≤ 8 := by have := hg.n8; omega
  rw [h.eq]
  refine Nat.le_trans (pot_goS hn) ?_
  have := (told_len (ord := addO ⟨nx c.now.v, fs, plnP n ls fs⟩) (g := ⟨⟨1, c.now, ⟨nx c.now.v, fs, plnP n ls fs⟩, c.num, c.wts⟩, []⟩) n.toNat).1
  simp only [hw, List.length_nil] at this
  unfold pot
  simp only [hw]
  split <;> omega
/-- One more answer. -/
theorem Gng.step {wr wx : World} {bc nn adds i db : Nat} {ls : List Lk} {now nxt : Pl} {c : Co} {a a' : CA} {x : Int} {tO : Option Addr} {l : List Value} {k0 k1 : Int} {o2 : Option Addr} {l2 q2 : Nat} {o3 : Option Addr} {l3 q3 : Nat} {k4 : Int} {o5 : Option Addr} {l5 q5 : Nat} {o6 : Option Addr} {l6 q6 : Nat} {k7 : Int} {o8 : Option Addr} {l8 q8 : Nat} (h : Gng wr bc nn ls now nxt adds i c a) (hw : (wrong nn ls).1 = 0) (hn : nn ≤ 8) (hx : x ∈ c.wts) (hc : [.int .i64 k0, .int .i64 k1, .slice o2 l2 q2, .slice o3 l3 q3, .int .i64 k4, .slice o5 l5 q5, .slice o6 l6 q6, .int .i64 k7, .slice o8 l8 q8] = coL (backS c nn ls x).1.c a') (hbl : bc < wr.heap.size)
    (hs : Stb (fun b => wr.heap.size ≤ b ∧ b ≠ db) wx (fun U => CoAt U (backS c nn ls x).1.c a' ∧ TosAt U tO (backS c nn ls x).1.out)) (hb : BX wx bc l) (hl : l.length = 9) : Gng (W9 wx bc (.int .i64 k0) (.int .i64 k1) (.slice o2 l2 q2) (.slice o3 l3 q3) (.int .i64 k4) (.slice o5 l5 q5) (.slice o6 l6 q6) (.int .i64 k7) (.slice o8 l8 q8)) bc nn ls now nxt adds (i + 1) (backS c nn ls x).1.c a' := by
  obtain ⟨_, _, q3, q4, q5⟩ := back_kinds hw h.ph hx
  refine ⟨back_A hw h.ph hx, back_ok hw hn hx h.ok, by have := pot_back hw hn hx; have := h.pt; omega, fun e => ?_, fun e => ?_, by rw [← hc]; exact box_put hb _ _ _ _ _ _ _ _ _ hl, ?_⟩
  · obtain ⟨e1, e2⟩ := q4 e
    have := h.a1 e1
    omega
  · by_cases e1 : c.st = 1
    · have := h.a1 e1; have := q5 e1 e; omega
    · have := h.a2 e1; omega
  · exact ((hs.imp (fun U h => h.1)).step (by rw [W9_size0]; exact Nat.le_refl _) (fun b hb _ => W9_block0 b (by omega))).more (fun b hb _ => by omega)

set_option maxRecDepth 100000 in
set_option maxHeartbeats 4000000 in
theorem controlOrder_any (n : Int) (ao : Option Addr) (len cap : Nat) (ls : List Lk) (lo : Option Addr) (lc : Nat) (fl : List Stf.Fl) (po : Option Addr) (pl pc : Nat) (w : World) (hlen : ls.length = len) (hl : NetAt w ao ls) (hx : len ≤ 9223372036854775807) (hI : I64 n)
    (hfl : Fw.FlowsAt w lo fl) (hSl : Fw.Sm fl) (hll : fl.length ≤ 9223372036854775807) :
    Calls Try.prog 6 #[.agg #[.int .i64 n, .slice ao len cap], .slice lo fl.length lc, .slice po pl pc] w fun e w' => e = .returned (.bool true) ∧ Ext w w' := by
  go_enter Try.func6, Try.ntmps6
  go_wp2_with fail
  refine (alive_any _).mono ?_
  rintro e w1 ⟨rfl, E1⟩
  have hE1 : Ext w w1 := ((Ext.refl w).alloc _).trans E1
  have n0 : w1.cell? ⟨w.heap.size, 0, none⟩ = some (.int .i64 n) := (E1.cells.1 _ _ (by simp)).trans (by simp)
  have n1 : w1.cell? ⟨w.heap.size, 1, none⟩ = some (.slice ao len cap) := (E1.cells.1 _ _ (by simp)).trans (by simp)
  have hl1 : w.heap.size < w1.heap.size := by have := E1.size; simp at this; omega
  have HN : Hid (∀ V, Ext w1 V → V.cell? ⟨w.heap.size, 0, none⟩ = some (.int .i64 n) ∧ V.cell? ⟨w.heap.size, 1, none⟩ = some (.slice ao len cap)) := fun V hV => ⟨(hV.cells.1 _ _ hl1).trans n0, (hV.cells.1 _ _ hl1).trans n1⟩
  have HAK := hidp (Ask_any co0 ca0 n ao len cap ls lo fl.length lc fl w1 (CoAt.zero _) co0_ok hlen (hl.ext hE1) hx hI rfl (hfl.ext hE1) hSl hll)
  go_wp2_with fail
  refine Calls.mono HAK.out ?_
  intro e w2 hG
  obtain ⟨k0, k1, o2, l2, q2, o3, l3, q3, k4, o5, l5, q5, o6, l6, q6, k7, o8, l8, q8, tO, l9, tc, rfl, E2, HF⟩ := hG.letters
  clear hG HAK n0 n1
  by_cases he : (askS co0 n ls fl).2 = 0
  · have HAO := hidp (ask_cases he)
    have HOK := hidp (ask_ok co0_ok (by simp [co0]) he)
    have hgd := plan_good HAO.out.hp
    obtain ⟨nn, rfl⟩ := Int.eq_ofNat_of_zero_le hgd.n0
    have hn8 : nn ≤ 8 := by have := hgd.n8; omega
    have HW := hidp HAO.out.wrong
    have HPA := hidp HAO.out.A
    have HKI := hidp (ask_kinds HAO.out rfl)
    have HPT := hidp (ask_pot HAO.out rfl)
    have hfew := HAO.out.few
    rw [he]
    clear he hgd
    obtain ⟨a1, e1, e2, hU⟩ := HF.out
    have HC1 := hidp (coL_of e1)
    have HS1 : Hid (Stb (fun b => w1.heap.size ≤ b) w2 (fun U => CoAt U (askS co0 nn ls fl).1.c a1 ∧ TosAt U tO (askS co0 nn ls fl).1.out)) := hU
    obtain ⟨out, hout⟩ : ∃ out, (askS co0 nn ls fl).1.out = out := ⟨_, rfl⟩
    rw [hout] at e2 HS1 HKI hfew
    subst e2
    clear e1 hU HF hout
    have hw2 : Ext w w2 := hE1.trans E2
    obtain ⟨w3, hw3⟩ : ∃ w3, w3 = w2.alloc (.cells #[.int .i64 k0, .int .i64 k1, .slice o2 l2 q2, .slice o3 l3 q3, .int .i64 k4, .slice o5 l5 q5, .slice o6 l6 q6, .int .i64 k7, .slice o8 l8 q8] 28) := ⟨_, rfl⟩
    have E3 : Ext w2 w3 := by rw [hw3]; exact (Ext.refl w2).alloc _
    have HS3 : Hid (w3.heap.size = w2.heap.size + 1) := by show _ = _; rw [hw3]; simp
    have HB3 : Hid (BX w3 w2.heap.size [.int .i64 k0, .int .i64 k1, .slice o2 l2 q2, .slice o3 l3 q3, .int .i64 k4, .slice o5 l5 q5, .slice o6 l6 q6, .int .i64 k7, .slice o8 l8 q8]) := by rw [hw3]; exact box_row rfl _ _ _ _ _ _ _ _ _
    have HT3 := hidp (HS1.out.ext E3).at.2
    go_wp2
    rw [← hw3]
    clear hw3
    obtain ⟨bc, hbc⟩ : ∃ bc, bc = w2.heap.size := ⟨_, rfl⟩
    rw [← hbc] at HS3 HB3 ⊢
    have HBC := hidp hbc
    clear hbc
    go_loopw [10, 11, 34] (fun av sv iv wr => ∃ k : Nat, k ≤ out.length ∧ iv = .int .i64 k ∧ av = .int .i64 (cnt (out.take k) : Nat) ∧ sv = .bool (stm (out.take k)) ∧ Ext w3 wr) (fun _ _ iv _ => out.length - (intOf iv).toNat)
    case atStart => exact ⟨0, Nat.zero_le _, rfl, rfl, rfl, Ext.refl w3⟩
    case round =>
      obtain ⟨k, hk, rfl, rfl, rfl, hEr⟩ := hrel
      by_cases hlt : k < out.length
      · rcases HT3.out.ext hEr with h0 | ⟨tb, tf, htO, htl, hts⟩
        · exfalso; rw [h0] at hlt; simp at hlt
        obtain ⟨ro, rc, fo, fc, t0, t1, t2, t3, t4, t5, _, _⟩ := hts k hlt
        have hct := cnt_take hlt
        obtain ⟨N, hN⟩ : ∃ N, cnt (out.take k) = N := ⟨_, rfl⟩
        obtain ⟨B, hB⟩ : ∃ B, stm (out.take k) = B := ⟨_, rfl⟩
        have hNl : N ≤ 100 := by rw [← hN]; exact Nat.le_trans (cnt_le _) (Nat.le_trans (List.length_take_le _ _) (by omega))
        rw [hN, hB] at hct
        rw [hN, hB]
        obtain ⟨⟨xs, ⟨xk, xn, xv, xr, xf⟩⟩, hxo⟩ : ∃ x, out[k] = x := ⟨_, rfl⟩
        rw [hxo] at t0 t1 t2 t3 t4 t5 hct
        simp only at t0 t1 t2 t3 t4 t5 hct
        have HCT := hidp hct
        have i1 : (k : Int) < (out.length : Int) := by omega
        subst htO
        have E4 := hEr.alloc (.cells #[.int .i64 (xs : Int), .int .i64 xk, .int .i64 xn, .int .i64 xv, .slice ro xr.length rc, .slice fo xf.length fc] 58)
        clear hct hN hB hts hxo
        by_cases h1 : xk = 1
        · subst h1
          cases B
          all_goals
            go_wp2
            exact ⟨⟨k + 1, by omega, by go_num, by rw [HCT.out.1]; go_num, by rw [HCT.out.2]; first | done | rfl, E4⟩, by simp [intOf]; omega⟩
        · have b1 : (xk == 1) = false := by simpa using h1
          by_cases h2 : xk = 2
          · subst h2
            cases B
            all_goals
              go_wp2
              exact ⟨⟨k + 1, by omega, by go_num, by rw [HCT.out.1]; first | done | rfl, by rw [HCT.out.2]; first | done | rfl, E4⟩, by simp [intOf]; omega⟩
          · have b2 : (xk == 2) = false := by simpa using h2
            have HD : Hid (decide (xk = 2) = false ∧ (if xk = 1 then 1 else 0) = 0) := ⟨by simpa using h2, by simp [h1]⟩
            clear h1 h2
            cases B
            all_goals
              go_wp2
              exact ⟨⟨k + 1, by omega, by go_num, by rw [HCT.out.1, HD.out.2]; first | done | rfl, by rw [HCT.out.2, HD.out.1]; first | done | rfl, E4⟩, by simp [intOf]; omega⟩
      · have i1 : ¬ (k : Int) < (out.length : Int) := by omega
        have hko : out.take k = out := List.take_of_length_le (by omega)
        rw [hko]
        obtain ⟨A, hA⟩ : ∃ A, cnt out = A := ⟨_, rfl⟩
        obtain ⟨B, hB⟩ : ∃ B, stm out = B := ⟨_, rfl⟩
        have hAl : A ≤ 100 := by rw [← hA]; exact Nat.le_trans (cnt_le _) hfew
        rw [hA, hB] at HKI
        rw [hA, hB]
        clear hko hA hB
        have HG0 : Hid (Gng wr bc nn ls co0.now ⟨nx co0.now.v, fl, plnP nn ls fl⟩ A 0 (askS co0 nn ls fl).1.c a1) := by
          refine ⟨HPA.out, HOK.out, by have := HPT.out; omega, fun e => ?_, fun e => ?_, ?_, ?_⟩
          · rcases HKI.out with ⟨_, h2, _⟩ | ⟨h1, _⟩
            · omega
            · exact absurd e h1
          · rcases HKI.out with ⟨h1, _⟩ | ⟨_, h2⟩
            · exact absurd h1 e
            · omega
          · rw [← HC1.out]; exact World.rowIs.of_block HB3.out (Below.block hEr _ (by have := HS3.out; omega))
          · exact (((HS1.out.imp (fun U h => h.1)).more (Y' := fun b => b ≠ bc) (fun b _ h2 => by have := HBC.out; omega)).ext (E3.trans hEr))
        go_upto_region 14 with fail
        go_cut [56] (fun v wx => v = .bool false ∧ wx = wr)
        case first =>
          by_cases hA0 : 0 < A
          · have i2 : (0 : Int) < (A : Int) := by omega
            have hB : B = false := by
              rcases HKI.out with ⟨_, _, h⟩ | ⟨_, h⟩
              · exact h
              · omega
            clear HKI HG0 hA0
            cases B
            · go_wp2_with fail
              go_meet
              exact ⟨rfl, rfl⟩
            · cases hB
          · have i2 : ¬ (0 : Int) < (A : Int) := by omega
            clear HKI HG0 hA0
            go_wp2_with fail
            go_meet
            exact ⟨rfl, rfl⟩
        case rest =>
          obtain ⟨rfl, rfl⟩ := hcut
          clear HKI
          have hE2r : Ext w2 wc := E3.trans hEr
          go_wp2
          go_loopw [14] (fun iv wx => ∃ i : Nat, iv = .int .i64 i ∧ i ≤ 100 ∧ Hid (∃ c a, Gng wx bc nn ls co0.now ⟨nx co0.now.v, fl, plnP nn ls fl⟩ A i c a) ∧ Ext w2 wx) (fun iv _ => 200 - (intOf iv).toNat)
          case atStart => exact ⟨0, rfl, by omega, ⟨_, _, HG0.out⟩, hE2r⟩
          case round =>
            clear HG0
            obtain ⟨i, rfl, hi, HGX, hEx⟩ := hrel
            obtain ⟨c, a, hG⟩ := HGX.out
            have HG := hidp hG
            have c8 : wr.cell? ⟨bc, 8, none⟩ = some (.slice a.wo c.wts.length a.wc) := World.rowIs.cell hG.box (i := 8) (by omega)
            have hbl := World.rowIs.lt hG.box
            have hpt := hG.pt
            have hpo : c.wts.length ≤ pot c := by unfold pot; omega
            have hwl : c.wts.length ≤ 16777200 := hG.ok.w
            clear HGX hG
            by_cases hw0 : c.wts = []
            · rw [hw0] at c8
              simp only [List.length_nil] at c8
              clear hw0 hpt hpo
              go_wp2
              go_ret
              exact ⟨rfl, hw2.trans hEx⟩
            · obtain ⟨m, hm⟩ : ∃ m, c.wts.length = m + 1 := ⟨c.wts.length - 1, by have := List.length_pos_iff.2 hw0; omega⟩
              have i99 : i < 100 := by omega
              have i2 : (i : Int) < 100 := by omega
              rw [hm] at c8
              obtain ⟨L, hL⟩ : ∃ L, L = m + 1 := ⟨_, rfl⟩
              rw [← hL] at c8 hm
              have HM := hidp hm
              have hml : m ≤ 100 := by omega
              obtain ⟨gw, ow, hwo, hgw, hcw⟩ := HG.out.at_.at.hw.get (k := m) (by omega)
              have ck := hcw m (by omega)
              obtain ⟨x, hxx⟩ : ∃ x, c.wts.getD m 0 = x := ⟨_, rfl⟩
              rw [hxx] at ck
              have hmem : x ∈ c.wts := by rw [← hxx]; simp [List.getD_eq_getElem?_getD, show m < c.wts.length by omega]
              have HX := hidp hmem
              have hd : Ext wr wr.drew := (Ext.refl wr).drew
              have hda : Ext wr (wr.alloc (.cells #[.int .i64 0, .int .i64 0, .slice none 0 0, .slice none 0 0, .int .i64 0, .slice none 0 0, .slice none 0 0, .int .i64 0, .slice none 0 0] 28)).drew := ((Ext.refl wr).alloc _).drew
              have hwx : Ext w wr := hw2.trans hEx
              have HBK : Hid (∀ V, Ext wr V → Calls Try.prog 12 #[cvl c a, .agg #[.int .i64 nn, .slice ao len cap], .int .i64 x] V fun e w' => GoOut V.heap.size V (backS c nn ls x).1 0 e w') := fun V hV => by
                have := Back_any c a nn x ao len cap ls V ((HG.out.at_.ext hV).at) HG.out.ok hlen (hl.ext (hwx.trans hV)) hx
                rwa [show (backS c nn ls x).2 = 0 by rw [back_in HW.out hmem]] at this
              unfold cvl at HBK
              rw [hm] at HBK
              have HS12 : Hid (∀ V, Ext wr V → V.cell? ⟨bc, 0, none⟩ = some (.int .i64 c.st) ∧ V.cell? ⟨bc, 1, none⟩ = some (.int .i64 c.now.v) ∧ V.cell? ⟨bc, 2, none⟩ = some (.slice a.n.fo c.now.fs.length a.n.fc) ∧ V.cell? ⟨bc, 3, none⟩ = some (.slice a.n.qo c.now.ps.length a.n.qc) ∧ V.cell? ⟨bc, 4, none⟩ = some (.int .i64 c.nxt.v) ∧ V.cell? ⟨bc, 5, none⟩ = some (.slice a.x.fo c.nxt.fs.length a.x.fc) ∧ V.cell? ⟨bc, 6, none⟩ = some (.slice a.x.qo c.nxt.ps.length a.x.qc) ∧ V.cell? ⟨bc, 7, none⟩ = some (.int .i64 c.num) ∧ V.cell? ⟨bc, 8, none⟩ = some (.slice a.wo L a.wc) ∧ V.cell? ⟨w.heap.size, 0, none⟩ = some (.int .i64 nn) ∧ V.cell? ⟨w.heap.size, 1, none⟩ = some (.slice ao len cap) ∧ V.cell? ⟨gw, ow + m, none⟩ = some (.int .i64 x)) := fun V hV => by
                have q : BX V bc (coL c a) := World.rowIs.of_block HG.out.box (Below.block hV _ hbl)
                obtain ⟨n0, n1⟩ := HN.out V (E2.trans (hEx.trans hV))
                refine ⟨World.rowIs.cell q (i := 0) (by omega), World.rowIs.cell q (i := 1) (by omega), World.rowIs.cell q (i := 2) (by omega), World.rowIs.cell q (i := 3) (by omega), World.rowIs.cell q (i := 4) (by omega), World.rowIs.cell q (i := 5) (by omega), World.rowIs.cell q (i := 6) (by omega), World.rowIs.cell q (i := 7) (by omega), ?_, n0, n1, (hV.cells.1 _ _ hgw).trans ck⟩
                rw [← HM.out]
                exact World.rowIs.cell q (i := 8) (by omega)
              rw [hwo] at HS12 HBK
              have hwlr : w.heap.size < wr.heap.size := by have := E2.size; have := hEx.size; omega
              have j1 : (m : Int) < (L : Int) := by omega
              have j0 : (0 : Int) ≤ (m : Int) := by omega
              have jw : IntKind.i64.wrap ((L : Int) - 1) = (m : Int) := by rw [IntKind.wrap_i64]; omega
              have jl : (0 : Int) < (L : Int) := by omega
              have HLm := hidp hL
              clear hcw ck hxx hmem hwo hpt hpo hwl hm hL
              go_upto_region 19 with fail
              go_cut [15, 16, 17] (fun dv lv ev wx => DbOut wr (backS c nn ls x).1 dv lv ev wx)
              case first =>
                clear c8
                go_region_held3 (fun V => V.cell? ⟨bc, 0, none⟩ = some (.int .i64 c.st) ∧ V.cell? ⟨bc, 1, none⟩ = some (.int .i64 c.now.v) ∧ V.cell? ⟨bc, 2, none⟩ = some (.slice a.n.fo c.now.fs.length a.n.fc) ∧ V.cell? ⟨bc, 3, none⟩ = some (.slice a.n.qo c.now.ps.length a.n.qc) ∧ V.cell? ⟨bc, 4, none⟩ = some (.int .i64 c.nxt.v) ∧ V.cell? ⟨bc, 5, none⟩ = some (.slice a.x.fo c.nxt.fs.length a.x.fc) ∧ V.cell? ⟨bc, 6, none⟩ = some (.slice a.x.qo c.nxt.ps.length a.x.qc) ∧ V.cell? ⟨bc, 7, none⟩ = some (.int .i64 c.num) ∧ V.cell? ⟨bc, 8, none⟩ = some (.slice (some ⟨gw, ow, none⟩) L a.wc) ∧ V.cell? ⟨w.heap.size, 0, none⟩ = some (.int .i64 nn) ∧ V.cell? ⟨w.heap.size, 1, none⟩ = some (.slice ao len cap) ∧ V.cell? ⟨gw, ow + m, none⟩ = some (.int .i64 x))
                  (first | with_reducible exact HS12.out _ hd | with_reducible exact HS12.out _ hda | with_reducible exact HS12.out _ mk1 | with_reducible exact HS12.out _ mkA | with_reducible exact HS12.out _ (mk1.alloc _) | with_reducible exact HS12.out _ (((((((((mkA.setCell (Nat.le_refl _) _).setCell (Nat.le_refl _) _).setCell (Nat.le_refl _) _).setCell (Nat.le_refl _) _).setCell (Nat.le_refl _) _).setCell (Nat.le_refl _) _).setCell (Nat.le_refl _) _).setCell (Nat.le_refl _) _).setCell (Nat.le_refl _) _))
                  (first
                  | (go_at_call 12
                     refine (HBK.out _ hd).mono ?_
                     intro e w5 hG
                     obtain ⟨k0', k1', o2', l2', q2', o3', l3', q3', k4', o5', l5', q5', o6', l6', q6', k7', o8', l8', q8', tO', l9', tc', rfl, E9, HF⟩ := hG.letters
                     have mk1 := hd.trans E9
                     clear hG)
                  | (go_at_call 12
                     refine (HBK.out _ hda).mono ?_
                     intro e w5 hG
                     obtain ⟨k0', k1', o2', l2', q2', o3', l3', q3', k4', o5', l5', q5', o6', l6', q6', k7', o8', l8', q8', tO', l9', tc', rfl, E9, HF⟩ := hG.letters
                     have mkA := hda.trans E9
                     obtain ⟨⟨r0, r1, r2, r3, r4, r5, r6, r7, r8⟩, z⟩ := zero_box E9
                     have z0 := z 0
                     have z1 := z 1
                     have z2 := z 2
                     have z3 := z 3
                     have z4 := z 4
                     have z5 := z 5
                     have z6 := z 6
                     have z7 := z 7
                     have z8 := z 8
                     have hdb := box_lt E9
                     have HZB := hidp (zero_blk E9)
                     clear hG z)
                  | fail)
                all_goals
                  go_wp2_with fail
                  go_meet
                  first
                  | (have _t := mkA
                     have hq := db_early (tc := tc') (by rw [drew_heap]; simp) mkA (HZB.out.trans (blk_alloc_new _ _)) HF.out
                     unfold W9 at hq
                     with_reducible exact hq)
                  | (have _t := mk1
                     have hq := db_late (tc := tc') (Nat.le_refl _) mk1 HF.out
                     with_reducible exact hq)
              case rest =>
                obtain ⟨db, k0', k1', o2', l2', q2', o3', l3', q3', k4', o5', l5', q5', o6', l6', q6', k7', o8', l8', q8', tO', l9', tc', rfl, rfl, rfl, hdb, hEy, hbx, HF⟩ := hcut
                obtain ⟨wy, hwy0⟩ : ∃ wy, wy = wc := ⟨_, rfl⟩
                subst hwy0
                obtain ⟨wo, hwo0⟩ : ∃ wo, wo = wr := ⟨_, rfl⟩
                subst hwo0
                obtain ⟨a', ecl, el9, hSt⟩ := HF.out
                have HST := hidp hSt
                have HCL := hidp ecl
                have HKB := hidp (back_kinds HW.out HG.out.ph HX.out)
                have hfb := back_few HW.out hn8 HX.out
                obtain ⟨bo, hbo⟩ : ∃ bo, (backS c nn ls x).1.out = bo := ⟨_, rfl⟩
                have HT5 : Hid (TosAt wy tO' bo) := by rw [← hbo]; exact hSt.at.2
                have HK2 : Hid ((∀ y ∈ bo, y.2.k = 2) ∧ (bo ≠ [] → ¬ ((i : Int) + 1 < (A : Int)))) := by
                  rw [← hbo]
                  refine ⟨HKB.out.1, fun h => ?_⟩
                  obtain ⟨q1, q2⟩ := HKB.out.2.1 h
                  have := HG.out.a1 q1
                  omega
                rw [hbo] at el9 hfb
                obtain rfl := el9.symm
                clear hbo ecl hSt HF HKB
                have hlx := hEy.size
                go_wp2
                go_loopw [86] (fun jv wx => ∃ j : Nat, j ≤ bo.length ∧ jv = .int .i64 j ∧ Ext wy wx) (fun jv _ => bo.length - (intOf jv).toNat)
                case atStart => exact ⟨0, Nat.zero_le _, rfl, Ext.refl wy⟩
                case round =>
                  obtain ⟨j, hj, rfl, hEz⟩ := hrel
                  by_cases hjl : j < bo.length
                  · rcases HT5.out.ext hEz with h0 | ⟨tb, tf, htO, htl, hts⟩
                    · exfalso; rw [h0] at hjl; simp at hjl
                    obtain ⟨ro, rc, fo, fc, t0, t1, t2, t3, t4, t5, _, _⟩ := hts j hjl
                    have hk2 := HK2.out.1 _ (List.getElem_mem hjl)
                    have i3 := HK2.out.2 (by intro h; rw [h] at hjl; simp at hjl)
                    obtain ⟨⟨xs, ⟨xk, xn, xv, xr, xf⟩⟩, hxo⟩ : ∃ x, bo[j] = x := ⟨_, rfl⟩
                    rw [hxo] at t0 t1 t2 t3 t4 t5 hk2
                    simp only at t0 t1 t2 t3 t4 t5 hk2
                    subst hk2
                    have i1 : (j : Int) < (bo.length : Int) := by omega
                    subst htO
                    have E4 := hEz.alloc (.cells #[.int .i64 (xs : Int), .int .i64 2, .int .i64 xn, .int .i64 xv, .slice ro xr.length rc, .slice fo xf.length fc] 58)
                    clear hts hxo
                    go_wp2
                    exact ⟨⟨j + 1, by omega, by go_num, E4⟩, by simp [intOf]; omega⟩
                  · have i1 : ¬ (j : Int) < (bo.length : Int) := by omega
                    have hEw := hEy.trans hEz
                    have hbz : BX wr db [.int .i64 k0', .int .i64 k1', .slice o2' l2' q2', .slice o3' l3' q3', .int .i64 k4', .slice o5' l5' q5', .slice o6' l6' q6', .int .i64 k7', .slice o8' l8' q8'] := World.rowIs.of_block hbx (Below.block hEz _ (World.rowIs.lt hbx))
                    have d0 : wr.cell? ⟨db, 0, none⟩ = some (.int .i64 k0') := World.rowIs.cell hbz (i := 0) (by omega)
                    have d1 : wr.cell? ⟨db, 1, none⟩ = some (.int .i64 k1') := World.rowIs.cell hbz (i := 1) (by omega)
                    have d2 : wr.cell? ⟨db, 2, none⟩ = some (.slice o2' l2' q2') := World.rowIs.cell hbz (i := 2) (by omega)
                    have d3 : wr.cell? ⟨db, 3, none⟩ = some (.slice o3' l3' q3') := World.rowIs.cell hbz (i := 3) (by omega)
                    have d4 : wr.cell? ⟨db, 4, none⟩ = some (.int .i64 k4') := World.rowIs.cell hbz (i := 4) (by omega)
                    have d5 : wr.cell? ⟨db, 5, none⟩ = some (.slice o5' l5' q5') := World.rowIs.cell hbz (i := 5) (by omega)
                    have d6 : wr.cell? ⟨db, 6, none⟩ = some (.slice o6' l6' q6') := World.rowIs.cell hbz (i := 6) (by omega)
                    have d7 : wr.cell? ⟨db, 7, none⟩ = some (.int .i64 k7') := World.rowIs.cell hbz (i := 7) (by omega)
                    have d8 : wr.cell? ⟨db, 8, none⟩ = some (.slice o8' l8' q8') := World.rowIs.cell hbz (i := 8) (by omega)
                    have hbl := World.rowIs.lt hbz
                    have HBB : Hid (BX wr bc (coL c a)) := World.rowIs.of_block HG.out.box (Below.block hEw _ (by omega))
                    obtain ⟨e0, e1, e2, e3, e4, e5, e6, e7, e8, _⟩ := HS12.out wr hEw
                    have z := fun i => World.rowIs.frozen HBB.out i
                    have z0 := z 0
                    have z1 := z 1
                    have z2 := z 2
                    have z3 := z 3
                    have z4 := z 4
                    have z5 := z 5
                    have z6 := z 6
                    have z7 := z 7
                    have z8 := z 8
                    have hdne : db ≠ bc := by omega
                    have hbcl : bc < wr.heap.size := by have := hEw.size; omega
                    have HFin : Hid (Gng (W9 wr bc (.int .i64 k0') (.int .i64 k1') (.slice o2' l2' q2') (.slice o3' l3' q3') (.int .i64 k4') (.slice o5' l5' q5') (.slice o6' l6' q6') (.int .i64 k7') (.slice o8' l8' q8')) bc nn ls co0.now ⟨nx co0.now.v, fl, plnP nn ls fl⟩ A (i + 1) (backS c nn ls x).1.c a' ∧ Ext w2 (W9 wr bc (.int .i64 k0') (.int .i64 k1') (.slice o2' l2' q2') (.slice o3' l3' q3') (.int .i64 k4') (.slice o5' l5' q5') (.slice o6' l6' q6') (.int .i64 k7') (.slice o8' l8' q8'))) :=
                      ⟨HG.out.step HW.out hn8 HX.out HCL.out (by omega) (HST.out.ext hEz) HBB.out rfl, W9_ext0 (hEx.trans hEw) (by have := HBC.out; omega)⟩
                    clear z hbz HS12 HBK
                    unfold W9 at HFin
                    go_wp2
                    exact ⟨⟨i + 1, by go_num, by omega, ⟨_, _, HFin.out.1⟩, HFin.out.2⟩, by simp [intOf]; omega⟩
  · have b0 : ((askS co0 n ls fl).2 != 0) = true := by simpa using he
    clear he
    go_wp2
    go_ret
    exact ⟨rfl, hE1.trans (E2.alloc _)⟩

theorem controlOrder_len (n : Int) (ao : Option Addr) (len cap : Nat) (ls : List Lk) (lo : Option Addr) (ll lc : Nat) (fl : List Stf.Fl) (po : Option Addr) (pl pc : Nat) (w : World) (e1 : fl.length = ll) (hlen : ls.length = len) (hl : NetAt w ao ls) (hx : len ≤ 9223372036854775807) (hI : I64 n)
    (hfl : Fw.FlowsAt w lo fl) (hSl : Fw.Sm fl) (hll : ll ≤ 9223372036854775807) :
    Calls Try.prog 6 #[.agg #[.int .i64 n, .slice ao len cap], .slice lo ll lc, .slice po pl pc] w fun e w' => e = .returned (.bool true) ∧ Ext w w' := by
  subst e1
  exact controlOrder_any n ao len cap ls lo lc fl po pl pc w hlen hl hx hI hfl hSl hll

end Go.Proofs.Ytgffkjjddhlbpaa.Ct

/- How a list of numbers that came in is read. -/
namespace Go.Proofs.Ytgffkjjddhlbpaa
open Go.ChangeShapes Go.WideShapes Go.ChangeAt Go.RowKit Go.Deep Go.Joins

theorem cell_lt {w : World} {a : Addr} {v : Value} (h : w.cell? a = some v) : a.block < w.heap.size := by
  rcases Nat.lt_or_ge a.block w.heap.size with h1 | h1
  · exact h1
  · have : w.heap[a.block]? = none := by simp [h1]
    simp [World.cell?, this] at h

section
variable {H : Type} {enc : TypeId × Value → H} {W : World}

set_option maxRecDepth 100000 in
theorem open_list {t : TypeId} (ht : Try.prog.underlying t = some (.slice 3)) {fuel : Nat} {cs : List Value} {x : DataW H × List MemPlace} (h : DataW.trod enc Try.prog W 0 (fun _ => true) true fuel t cs = some x)
    (hw : ∀ m ∈ x.1.weights Try.prog t, m ≤ reachBytes) :
    ∃ (ao : Option Addr) (len cap : Nat) (ps : List Int), cs = [.slice ao len cap] ∧ ps.length = len ∧ ListAt W ao ps ∧ (∀ y ∈ ps, I64 y) ∧ len * 8 ≤ 140737488351232 ∧ len ≤ cap ∧ cap ≤ 9223372036854775807 := by
  rcases open_ints ht Try.underlying3 Try.cells3 h with ⟨hcs, _⟩ | ⟨a, len, cap, zs, hcs, _, hl, hm, hz, hx, hcell, hwz⟩
  · exact ⟨none, 0, 0, [], hcs, rfl, Or.inl rfl, fun y hy => (by cases hy), by omega, by omega, by omega⟩
  · have hz' : zs.length = cap := by simpa using hz
    refine ⟨some a, len, cap, zs.take len, hcs, by simp; omega, ?_, fun y hy => hwz y (List.mem_of_mem_take hy), ?_, hl, by unfold maxLen at hm; omega⟩
    · by_cases h0 : len = 0
      · exact Or.inl (by simp [h0])
      · obtain ⟨b, off, spot⟩ := a
        have hc := hcell 0 (by omega)
        have hspot : spot = none := by simpa [Addr.add] using World.cell?_spot hc
        subst hspot
        refine Or.inr ⟨b, off, rfl, by have := cell_lt hc; simpa [Addr.add] using this, fun k hk => ?_⟩
        simp only [List.length_take] at hk
        have := hcell k (by omega)
        have e1 : (⟨b, off, none⟩ : Addr).add k = ⟨b, off + k, none⟩ := by
          unfold Addr.add
          split
          · simp_all
          · rfl
        rw [e1] at this
        rw [this]
        simp [List.getD_eq_getElem?_getD, show k < len by omega]
    · subst hx
      have := hw ((zs.take len).length * 8 + (zs.drop len).length * 8) (by simp [DataW.weights, ht, Try.bytes3, lits]; left; omega)
      simp [reachBytes] at this
      omega

theorem cells3_inv {w : World} {a : Addr} {cs : List Value} {x y z : Value} (h : w.cells? 0 a 3 = some cs) (e : cs = [x, y, z]) : w.cell? a = some x ∧ w.cell? (a.add 1) = some y ∧ w.cell? (a.add 2) = some z := by
  obtain ⟨_, _, hc⟩ := World.cells?_some h
  subst e
  exact ⟨by simpa [Addr.add] using hc 0 (by omega), hc 1 (by omega), hc 2 (by omega)⟩

theorem weights_arg {ts : List TypeId} {ds : List (DataW H)} (hsz : (DataW.weightsEach Try.prog ts ds).all (· ≤ reachBytes) = true) {j : Nat} {t : TypeId} {d : DataW H} (ht : ts[j]? = some t) (hd : ds[j]? = some d) : ∀ m ∈ d.weights Try.prog t, m ≤ reachBytes :=
  fun m hm => by simpa using List.all_eq_true.1 hsz _ (DataW.weights_mem_each ht hd m hm)

end

end Go.Proofs.Ytgffkjjddhlbpaa

/- How a net and a list of numbers that came in are read. -/
namespace Go.Proofs.Ytgffkjjddhlbpaa
open Go.ChangeShapes Go.WideShapes Go.ChangeAt Go.RowKit Go.Deep Go.Joins Stw

theorem Try.cells24 : Try.prog.cellsOf 31 = 2 := by kernel_rfl
theorem Try.cells43 : Try.prog.cellsOf 123 = 3 := by kernel_rfl
theorem Try.bytes43 : Try.prog.bytesOf 123 = 24 := by kernel_rfl

section
variable {H : Type} {enc : TypeId × Value → H} {W : World}

set_option maxRecDepth 100000 in
theorem open_links {fuel : Nat} {cs : List Value} {x : DataW H × List MemPlace} (h : DataW.trod enc Try.prog W 0 (fun _ => true) true fuel 29 cs = some x) (hw : ∀ m ∈ x.1.weights Try.prog 29, m ≤ reachBytes) :
    ∃ (ao : Option Addr) (len cap : Nat) (ls : List Lk), cs = [.slice ao len cap] ∧ ls.length = len ∧ NetAt W ao ls ∧ (∀ l ∈ ls, I64 l.a ∧ I64 l.b ∧ I64 l.c) ∧ len * 24 ≤ 140737488351232 ∧ len ≤ cap ∧ cap ≤ 9223372036854775807 := by
  rcases open_slice Try.underlying29 h with ⟨hcs, _⟩ | ⟨a, len, cap, m, n, D, Pl, hcs, _, hl, hm, hmm, hx, hel⟩
  · exact ⟨none, 0, 0, [], hcs, rfl, Or.inl rfl, fun y hy => (by cases hy), by omega, by omega, by omega⟩
  · have hmc : m = cap := by simpa using hmm
    have hfam : ∀ i, i < len → ∃ l : Int × Int × Int, (W.cell? (a.add (i * 3)) = some (.int .i64 l.1) ∧ W.cell? ((a.add (i * 3)).add 1) = some (.int .i64 l.2.1) ∧ W.cell? ((a.add (i * 3)).add 2) = some (.int .i64 l.2.2)) ∧ I64 l.1 ∧ I64 l.2.1 ∧ I64 l.2.2 := by
      intro i hi
      obtain ⟨cs', hcell, htr⟩ := hel i (by omega)
      rw [Try.cells43] at hcell
      obtain ⟨y0, y1, y2, n', _, hlen, t0, t1, t2⟩ := trod_struct3 Try.underlying123 htr
      rw [Try.cells43] at hlen
      match cs', hlen with
      | [c0, c1, c2], _ =>
        obtain ⟨a0, e0, _, w0⟩ := DataW.trod_int Try.underlying3 t0
        obtain ⟨a1, e1, _, w1⟩ := DataW.trod_int Try.underlying3 t1
        obtain ⟨a2, e2, _, w2⟩ := DataW.trod_int Try.underlying3 t2
        simp [Try.cells3] at e0 e1 e2
        subst e0 e1 e2
        exact ⟨(a0, a1, a2), cells3_inv hcell rfl, w0, w1, w2⟩
    obtain ⟨F, hF⟩ := choose_lt hfam
    refine ⟨some a, len, cap, (List.range len).map (fun i => ⟨(F i).1, (F i).2.1, (F i).2.2⟩), hcs, by simp, ?_, ?_, ?_, hl, by unfold maxLen at hm; omega⟩
    · by_cases h0 : len = 0
      · exact Or.inl (by simp [h0])
      · obtain ⟨b, off, spot⟩ := a
        have hc := (hF 0 (by omega)).1.1
        have hspot : spot = none := by simpa [Addr.add] using World.cell?_spot hc
        subst hspot
        refine Or.inr ⟨b, off, rfl, by have := cell_lt hc; simpa [Addr.add] using this, fun k hk => ?_⟩
        simp only [List.length_map, List.length_range] at hk
        obtain ⟨⟨g0, g1, g2⟩, _⟩ := hF k hk
        have e0 : (⟨b, off, none⟩ : Addr).add (k * 3) = ⟨b, off + k * 3, none⟩ := by
          unfold Addr.add
          split
          · simp_all
          · rfl
        rw [e0] at g0 g1 g2
        have e1 : ((List.range len).map (fun i => (⟨(F i).1, (F i).2.1, (F i).2.2⟩ : Lk))).getD k lk0 = ⟨(F k).1, (F k).2.1, (F k).2.2⟩ := by simp [List.getD_eq_getElem?_getD, hk]
        rw [e1]
        exact ⟨g0, by simpa [Addr.add] using g1, by simpa [Addr.add] using g2⟩
    · intro l hlm
      simp only [List.mem_map, List.mem_range] at hlm
      obtain ⟨i, hi, rfl⟩ := hlm
      exact (hF i hi).2
    · subst hx
      have := hw ((len + (m - len)) * 24) (by simp [DataW.weights, Try.underlying29, Try.bytes43])
      simp [reachBytes] at this
      omega

set_option maxRecDepth 100000 in
/-- A net that came in. -/
theorem open_topo {b0 : Nat} {v : Value} {d : DataW H} {p : List MemPlace} (hv : Value.okWide Try.prog W .any b0 31 v) (h : DataW.Trod enc Try.prog W 0 (fun _ => true) true 31 v d p)
    (hw : ∀ m ∈ d.weights Try.prog 31, m ≤ reachBytes) :
    ∃ (n : Int) (ao : Option Addr) (len cap : Nat) (ls : List Lk), v = .agg #[.int .i64 n, .slice ao len cap] ∧ I64 n ∧ ls.length = len ∧ NetAt W ao ls ∧ (∀ l ∈ ls, I64 l.a ∧ I64 l.b ∧ I64 l.c) ∧ len * 24 ≤ 140737488351232 ∧ len ≤ cap ∧ cap ≤ 9223372036854775807 := by
  obtain ⟨c0, c1, y0, y1, m, rfl, rfl, rfl, hy0, hy1⟩ := open_agg2 Try.underlying31 (by kernel_rfl) Try.cells24 hv h
  obtain ⟨n, e0, _, w0⟩ := DataW.trod_int Try.underlying3 hy0
  obtain ⟨ao, len, cap, ls, e1, r⟩ := open_links hy1 (fun m hm => hw m (by simp [DataW.weights, DataW.weightsEach, Try.underlying31]; exact Or.inr hm))
  simp at e0 e1
  subst e0 e1
  exact ⟨n, ao, len, cap, ls, rfl, w0, r⟩

end

end Go.Proofs.Ytgffkjjddhlbpaa

/- How a flow that came in is read. -/
namespace Go.Proofs.Ytgffkjjddhlbpaa
open Go.ChangeShapes Go.WideShapes Go.ChangeAt Go.RowKit Go.Deep Go.Joins Stw

theorem Try.cells28 : Try.prog.cellsOf 91 = 4 := by kernel_rfl

section
variable {H : Type} {enc : TypeId × Value → H} {W : World}

set_option maxRecDepth 100000 in
/-- A flow that came in. -/
theorem open_flow {b0 : Nat} {v : Value} {d : DataW H} {p : List MemPlace} (hv : Value.okWide Try.prog W .any b0 91 v) (h : DataW.Trod enc Try.prog W 0 (fun _ => true) true 91 v d p)
    (hw : ∀ m ∈ d.weights Try.prog 91, m ≤ reachBytes) :
    ∃ (f : Stf.Fl) (vo no : Option Addr) (vc nc : Nat), v = .agg #[.int .i64 f.fr, .int .i64 f.to, .slice vo f.via.length vc, .slice no f.nt.length nc] ∧ ListAt W vo f.via ∧ ListAt W no f.nt ∧ f.via.length * 8 ≤ 140737488351232 ∧ f.nt.length * 8 ≤ 140737488351232 ∧ f.via.length ≤ vc ∧ f.nt.length ≤ nc ∧ (∀ y ∈ f.via, I64 y) ∧ (∀ y ∈ f.nt, I64 y) := by
  obtain ⟨c0, c1, c2, c3, y0, y1, y2, y3, m, rfl, rfl, rfl, h0, h1, h2, h3⟩ := open_agg4 Try.underlying91 (by kernel_rfl) Try.cells28 hv h
  obtain ⟨a0, e0, _, w0⟩ := DataW.trod_int Try.underlying3 h0
  obtain ⟨a1, e1, _, w1⟩ := DataW.trod_int Try.underlying3 h1
  obtain ⟨vo, vl, vc, X, e2, hX, hvl, hvi, hvb, hvc, _⟩ := open_list Try.underlying26 h2 (fun m hm => hw m (by simp [DataW.weights, DataW.weightsEach, Try.underlying91]; exact Or.inr (Or.inr (Or.inl hm))))
  obtain ⟨no, nl, nc, Y, e3, hY, hnl, hni, hnb, hnc, _⟩ := open_list Try.underlying26 h3 (fun m hm => hw m (by simp [DataW.weights, DataW.weightsEach, Try.underlying91]; exact Or.inr (Or.inr (Or.inr hm))))
  simp at e0 e1 e2 e3
  subst e0 e1 e2 e3 hX hY
  exact ⟨⟨a0, a1, X, Y⟩, vo, no, vc, nc, rfl, hvl, hnl, hvb, hnb, hvc, hnc, hvi, hni⟩

end

end Go.Proofs.Ytgffkjjddhlbpaa

/- How flows that came in are read. -/
namespace Go.Proofs.Ytgffkjjddhlbpaa
open Go.ChangeShapes Go.WideShapes Go.ChangeAt Go.RowKit Go.Deep Go.Joins Stw

theorem Try.cells26 : Try.prog.cellsOf 26 = 1 := by kernel_rfl
theorem Try.bytes28 : Try.prog.bytesOf 91 = 64 := by kernel_rfl

section
variable {H : Type} {enc : TypeId × Value → H} {W : World}

theorem weights_all {e : TypeId} {d : DataW H} : ∀ {l : List (DataW H)}, d ∈ l → ∀ m ∈ d.weights Try.prog e, m ∈ DataW.weightsAll Try.prog e l
  | [], h, _, _ => by cases h
  | x :: r, h, m, hm => by
    rw [DataW.weightsAll, List.mem_append]
    rcases List.mem_cons.1 h with rfl | h
    · exact Or.inl hm
    · exact Or.inr (weights_all h m hm)

theorem cells4_inv {w : World} {a : Addr} {cs : List Value} {x y z u : Value} (h : w.cells? 0 a 4 = some cs) (e : cs = [x, y, z, u]) : w.cell? a = some x ∧ w.cell? (a.add 1) = some y ∧ w.cell? (a.add 2) = some z ∧ w.cell? (a.add 3) = some u := by
  obtain ⟨_, _, hc⟩ := World.cells?_some h
  subst e
  exact ⟨by simpa [Addr.add] using hc 0 (by omega), hc 1 (by omega), hc 2 (by omega), hc 3 (by omega)⟩
theorem four_of {cs : List Value} (h : cs.length = 4) : ∃ c0 c1 c2 c3, cs = [c0, c1, c2, c3] := by
  match cs, h with
  | [c0, c1, c2, c3], _ => exact ⟨c0, c1, c2, c3, rfl⟩

set_option maxRecDepth 100000 in
theorem open_flow4 {fuel : Nat} {cs : List Value} {x : DataW H × List MemPlace} (h : DataW.trod enc Try.prog W 0 (fun _ => true) true fuel 91 cs = some x) (hw : ∀ m ∈ x.1.weights Try.prog 91, m ≤ reachBytes) :
    ∃ (f : Stf.Fl) (v n : Value), cs = [.int .i64 f.fr, .int .i64 f.to, v, n] ∧ Fw.FV W f.via v ∧ Fw.FV W f.nt n ∧ f.via.length ≤ 4611686018427387904 ∧ f.nt.length ≤ 4611686018427387904 := by
  obtain ⟨y0, y1, y2, y3, n', rfl, hlen, t0, t1, t2, t3⟩ := trod_struct4 Try.underlying91 h
  rw [Try.cells28] at hlen
  obtain ⟨c0, c1, c2, c3, rfl⟩ : ∃ c0 c1 c2 c3, cs = [c0, c1, c2, c3] := four_of hlen
  obtain ⟨a0, e0, _, w0⟩ := DataW.trod_int Try.underlying3 t0
  obtain ⟨a1, e1, _, w1⟩ := DataW.trod_int Try.underlying3 t1
  obtain ⟨vo, vl, vc, X, e2, hX, hvl, hvi, hvb, hvc, _⟩ := open_list Try.underlying26 t2 (fun m hm => hw m (by simp [DataW.weights, DataW.weightsEach, Try.underlying91]; exact Or.inr (Or.inr (Or.inl hm))))
  obtain ⟨no, nl, nc, Y, e3, hY, hnl, hni, hnb, hnc, _⟩ := open_list Try.underlying26 t3 (fun m hm => hw m (by simp [DataW.weights, DataW.weightsEach, Try.underlying91]; exact Or.inr (Or.inr (Or.inr hm))))
  simp [Try.cells3, Try.cells26] at e0 e1 e2 e3
  subst e0 e1 e2 e3 hX hY
  exact ⟨⟨a0, a1, X, Y⟩, _, _, rfl, ⟨vo, vc, rfl, hvl, hvc⟩, ⟨no, nc, rfl, hnl, hnc⟩, by simp only; omega, by simp only; omega⟩

set_option maxRecDepth 100000 in
theorem open_flows {fuel : Nat} {cs : List Value} {x : DataW H × List MemPlace} (h : DataW.trod enc Try.prog W 0 (fun _ => true) true fuel 22 cs = some x) (hw : ∀ m ∈ x.1.weights Try.prog 22, m ≤ reachBytes) :
    ∃ (ao : Option Addr) (len cap : Nat) (fs : List Stf.Fl), cs = [.slice ao len cap] ∧ fs.length = len ∧ Fw.FlowsAt W ao fs ∧ len ≤ 9223372036854775807 ∧ Fw.Sm fs := by
  rcases open_slice Try.underlying22 h with ⟨hcs, _⟩ | ⟨a, len, cap, m, n, D, Pl, hcs, _, hl, hm, hmm, hx, hel⟩
  · exact ⟨none, 0, 0, [], hcs, rfl, Or.inl rfl, by omega, fun k hk => by simp at hk⟩
  · have hmc : m = cap := by simpa using hmm
    have hwD : ∀ i, i < len → ∀ m ∈ (D i).weights Try.prog 91, m ≤ reachBytes := fun i hi m hm => hw m (by
      rw [hx]
      simp only [DataW.weights, Try.underlying22]
      refine List.mem_cons_of_mem _ (List.mem_append_left _ (weights_all (List.mem_map.2 ⟨i, by simpa using hi, rfl⟩) m hm)))
    have hfam : ∀ i, i < len → ∃ q : (Int × Int × List Int × List Int) × Value × Value, (W.cell? (a.add (i * 4)) = some (.int .i64 q.1.1) ∧ W.cell? ((a.add (i * 4)).add 1) = some (.int .i64 q.1.2.1) ∧ W.cell? ((a.add (i * 4)).add 2) = some q.2.1 ∧ W.cell? ((a.add (i * 4)).add 3) = some q.2.2) ∧
        Fw.FV W q.1.2.2.1 q.2.1 ∧ Fw.FV W q.1.2.2.2 q.2.2 ∧ q.1.2.2.1.length ≤ 4611686018427387904 ∧ q.1.2.2.2.length ≤ 4611686018427387904 := by
      intro i hi
      obtain ⟨cs', hcell, htr⟩ := hel i (by omega)
      rw [Try.cells28] at hcell
      obtain ⟨f, v, nv, hc, h1, h2, h3, h4⟩ := open_flow4 htr (hwD i hi)
      exact ⟨((f.fr, f.to, f.via, f.nt), v, nv), cells4_inv hcell hc, h1, h2, h3, h4⟩
    have : Inhabited ((Int × Int × List Int × List Int) × Value × Value) := ⟨((0, 0, [], []), .int .i64 0, .int .i64 0)⟩
    obtain ⟨F, hF⟩ := choose_lt hfam
    have hget : ∀ k (h : k < ((List.range len).map (fun i => (⟨(F i).1.1, (F i).1.2.1, (F i).1.2.2.1, (F i).1.2.2.2⟩ : Stf.Fl))).length), ((List.range len).map (fun i => (⟨(F i).1.1, (F i).1.2.1, (F i).1.2.2.1, (F i).1.2.2.2⟩ : Stf.Fl)))[k] = ⟨(F k).1.1, (F k).1.2.1, (F k).1.2.2.1, (F k).1.2.2.2⟩ := fun k h => by simp
    refine ⟨some a, len, cap, (List.range len).map (fun i => ⟨(F i).1.1, (F i).1.2.1, (F i).1.2.2.1, (F i).1.2.2.2⟩), hcs, by simp, ?_, by unfold maxLen at hm; omega, fun k hk => ?_⟩
    · by_cases h0 : len = 0
      · exact Or.inl (by simp [h0])
      · obtain ⟨b, off, spot⟩ := a
        have hc := (hF 0 (by omega)).1.1
        have hspot : spot = none := by simpa [Addr.add] using World.cell?_spot hc
        subst hspot
        refine Or.inr ⟨b, off, rfl, by have := cell_lt hc; simpa [Addr.add] using this, fun k hk => ?_⟩
        have hk' : k < len := by simpa using hk
        obtain ⟨⟨g0, g1, g2, g3⟩, hv, hn, _⟩ := hF k hk'
        have e0 : (⟨b, off, none⟩ : Addr).add (k * 4) = ⟨b, off + k * 4, none⟩ := by
          unfold Addr.add
          split
          · simp_all
          · rfl
        rw [e0] at g0 g1 g2 g3
        rw [hget k hk]
        exact ⟨_, _, g0, by simpa [Addr.add] using g1, by simpa [Addr.add] using g2, by simpa [Addr.add] using g3, hv, hn⟩
    · have hk' : k < len := by simpa using hk
      rw [hget k hk]
      exact (hF k hk').2.2.2

end

end Go.Proofs.Ytgffkjjddhlbpaa

namespace Go.Proofs.Ytgffkjjddhlbpaa
open Go.ChangeShapes Go.WideShapes Go.ChangeAt Go.RowKit Go.Deep Go.Joins Stw

set_option maxRecDepth 100000 in
theorem controlOrder_lifted (os : Os) (started : os.Started) (H : Type) (enc : TypeId × Value → H) :
    ReturnsInHanded {} Try.checked os 6 .any (Rows.controlOrderSpec.pre6 enc Try.prog Try.f6 Rows.controlOrderRow.domain false) (Rows.controlOrderSpec.post enc Try.prog Try.f6 false true false false) := by
  refine returnsInHanded_of_change_sized (C := Try.checked) Try.own started (by kernel_rfl) Try.func6
    (ChangeSpec.witness6 (enc := enc) (C := Try.checked) false ⟨#[], #[.agg #[.int .i64 0, .slice none 0 0], .slice none 0 0, .slice none 0 0], []⟩ 8 (by kernel_rfl) (by kernel_rfl) (by kernel_rfl) (by kernel_rfl)) ?_
  intro W base args ds gs before hval0 hW hcnd hsz0 _
  have hval : ∀ (j : Nat) t v, Try.f6.params[j]? = some t → args[j]? = some v → Value.okWide Try.prog W .any base t v := hval0
  have hsz : (DataW.weightsEach Try.prog (Try.f6.params.toList ++ Rows.controlOrderSpec.plain.varTypes Try.prog) (ds ++ gs)).all (· ≤ reachBytes) = true := hsz0
  have hW' := hW
  obtain ⟨p, q, hA0, hV, rfl, hfz, hnd⟩ := hW
  have hA : DataW.TrodAll enc Try.prog W 0 (fun _ => true) true Try.f6.params.toList args.toList ds p := hA0
  rw [Try.params6] at hA hval hsz
  obtain ⟨v0, vs0, d0, ds0, p0, q0, hargs, rfl, rfl, h0, r0⟩ := trodAll_cons hA
  obtain ⟨v1, vs1, d1, ds1, p1, q1, rfl, rfl, rfl, h1, r1⟩ := trodAll_cons r0
  obtain ⟨v2, vs2, d2, ds2, p2, q2, rfl, rfl, rfl, h2, r2⟩ := trodAll_cons r1
  obtain ⟨rfl, rfl, rfl⟩ := trodAll_nil r2
  obtain rfl : args = #[v0, v1, v2] := by cases args; simp_all
  obtain ⟨rfl, rfl⟩ := trodVars_none hV
  have k0 := h0
  have lt0 : ∀ x ∈ p0, x.block < W.heap.size := by obtain ⟨m, hm⟩ := k0; exact DataW.trod_lt m _ _ _ hm
  have k1 := h1
  have lt1 : ∀ x ∈ p1, x.block < W.heap.size := by obtain ⟨m, hm⟩ := k1; exact DataW.trod_lt m _ _ _ hm
  have k2 := h2
  have lt2 : ∀ x ∈ p2, x.block < W.heap.size := by obtain ⟨m, hm⟩ := k2; exact DataW.trod_lt m _ _ _ hm
  obtain ⟨n0, ao0, len0, cap0, ls0, rfl, hn0, hlen0, hnet0, hlw0, hreach0, hcap0, hcm0⟩ := open_topo (hval 0 31 v0 rfl rfl) h0 (weights_arg hsz (j := 0) rfl rfl)
  obtain ⟨po1, pl1, pc1, rfl⟩ := okWide_slice Try.underlying22 (hval 1 22 v1 rfl rfl)
  obtain ⟨fuel1, hf1⟩ := h1
  obtain ⟨po1', pl1', pc1', fs1, ecs1, hfl1, hfa1, hfx1, hfs1⟩ := open_flows hf1 (weights_arg hsz (j := 1) rfl rfl)
  simp [Value.cells] at ecs1
  obtain ⟨rfl, rfl, rfl⟩ := ecs1
  obtain ⟨po2, pl2, pc2, rfl⟩ := okWide_slice Try.underlying26 (hval 2 26 v2 rfl rfl)
  obtain ⟨fuel2, hf2⟩ := h2
  obtain ⟨po2', pl2', pc2', ps2, ecs2, hpl2, hp2, hi2, hpx2, hpc2, hpm2⟩ := open_list Try.underlying26 hf2 (weights_arg hsz (j := 2) rfl rfl)
  simp [Value.cells] at ecs2
  obtain ⟨rfl, rfl, rfl⟩ := ecs2
  clear hA0 hval0 hsz0
  refine (Ct.controlOrder_len n0 ao0 len0 cap0 ls0 po1 pl1 pc1 fs1 po2 pl2 pc2 W hfl1 hlen0 hnet0 (by omega) hn0 hfa1 hfs1 hfx1).mono fun e W' ⟨he, bel0⟩ => ?_
  subst he
  have bel : Below W.heap.size W W' := bel0
  exact ⟨_, rfl, _, _, _, [], _, [], hW', trodAll_mk1 (shut_bool Try.underlying4 _), (trodAll_cons_mk (Below.trod Try.laidOut (by kernel_rfl) (of_decide_eq_true (by kernel_rfl)) k0 bel lt0) (trodAll_cons_mk (Below.trod Try.laidOut (by kernel_rfl) (of_decide_eq_true (by kernel_rfl)) k1 bel lt1) (trodAll_cons_mk (Below.trod Try.laidOut (by kernel_rfl) (of_decide_eq_true (by kernel_rfl)) k2 bel lt2) trodAll_mk0))), rfl, bel.frame _, fun h => by cases h⟩

theorem controlOrder_holds : Rows.ControlOrderSaid :=
  OpenClaim.holds_of_wide 6 Try.f6 rfl rfl rfl rfl rfl rfl rfl ⟨rfl, rfl, rfl, rfl, rfl⟩ rfl rfl rfl rfl rfl (by kernel_rfl) Try.func6 (by kernel_rfl)
    (of_decide_eq_true (by kernel_rfl)) (by unfold Func.isWrapper; first | (rw [if_pos (by decide +kernel)]; kernel_rfl) | (rw [if_neg (by decide +kernel)]; exact ⟨rfl, rfl⟩))
    (fun os started H enc _ => controlOrder_lifted os started H enc)

#print axioms controlOrder_holds
end Go.Proofs.Ytgffkjjddhlbpaa
