/- What the document's own Plan answers, for every net, number and flows; nothing that was there is changed. -/
import Derived.Test.YtagkbpckflineabT3
namespace Go.Proofs.Ytagkbpckflineab
open Go.RowKit Go.Maps Stw Go.Deep Stp

theorem plnF_wrong {n version : Int} {ls : List Lk} {fs : List Stf.Fl} (h : (wrong n ls).1 ≠ 0) : plnF n version ls fs = wrong n ls := by unfold plnF; rw [if_pos h]
theorem plnF_range {n version : Int} {ls : List Lk} {fs : List Stf.Fl} (h : (wrong n ls).1 = 0) (h1 : version < 1 ∨ 1000 < version) : plnF n version ls fs = (3, 0) := by unfold plnF; rw [if_neg (by simp [h]), if_pos h1]
theorem plnF_flows {n version : Int} {ls : List Lk} {fs : List Stf.Fl} (h : (wrong n ls).1 = 0) (h1 : ¬ (version < 1 ∨ 1000 < version)) (h2 : (Stf.wflows fs n).1 ≠ 0) : plnF n version ls fs = Stf.wflows fs n := by unfold plnF; rw [if_neg (by simp [h]), if_neg h1, if_pos h2]
theorem plnF_bad {n version : Int} {ls : List Lk} {fs : List Stf.Fl} {k : Nat} (h : (wrong n ls).1 = 0) (h1 : ¬ (version < 1 ∨ 1000 < version)) (h2 : (Stf.wflows fs n).1 = 0) (hk : k < fs.length) (hp : ∀ j, j < k → (fnd n ls (fs.getD j Fw.f0)).1 = 0) (hb : (fnd n ls (fs.getD k Fw.f0)).1 ≠ 0) : plnF n version ls fs = ((fnd n ls (fs.getD k Fw.f0)).1, (k : Int)) := by
  unfold plnF
  rw [if_neg (by simp [h]), if_neg h1, if_neg (by simp [h2]), Stf.firstBad_some hk hp hb]
theorem plnF_good {n version : Int} {ls : List Lk} {fs : List Stf.Fl} (h : (wrong n ls).1 = 0) (h1 : ¬ (version < 1 ∨ 1000 < version)) (h2 : (Stf.wflows fs n).1 = 0) (hp : ∀ j, j < fs.length → (fnd n ls (fs.getD j Fw.f0)).1 = 0) : plnF n version ls fs = (0, 0) := by
  unfold plnF
  rw [if_neg (by simp [h]), if_neg h1, if_neg (by simp [h2]), Stf.firstBad_none hp]
theorem refFlows_any (ao : Option Addr) (len cap : Nat) (n : Int) (fs : List Stf.Fl) (w : World) (hlen : fs.length = len) (hf : Fw.FlowsAt w ao fs) (hS : Fw.Sm fs) (hl : len ≤ 9223372036854775807) :
    Calls Try.prog 23 #[.slice ao len cap, .int .i64 n] w fun e w' => e = .returned (.agg #[.int .i64 (Stf.wflows fs n).1, .int .i64 (Stf.wflows fs n).2]) ∧ Ext w w' := by
  by_cases h : 12 < len
  · have e : Stf.wflows fs n = (5, 0) := by rw [Stf.wflows, if_pos (by omega)]
    rw [e]
    exact Fw.refWrong_many ao len cap n w h hl
  · exact Fw.refWrong_few ao len cap n fs w hlen hf hS h
theorem wflows_len {n : Int} {fs : List Stf.Fl} (h : (Stf.wflows fs n).1 = 0) : fs.length ≤ 12 := by
  by_cases h1 : 12 < fs.length
  · rw [Stf.wflows, if_pos h1] at h; simp at h
  · omega

/-- The blocks of a plan that is made: the net, the two answers. -/
structure PB (w w1 : World) (n : Int) (ao : Option Addr) (len cap : Nat) : Prop where
  sz : w.heap.size + 1 + 1 < w1.heap.size
  n0 : w1.cell? ⟨w.heap.size, 0, none⟩ = some (.int .i64 n)
  n1 : w1.cell? ⟨w.heap.size, 1, none⟩ = some (.slice ao len cap)
  p0 : w1.cell? ⟨w.heap.size + 1, 0, none⟩ = some (.int .i64 0)
  p1 : w1.cell? ⟨w.heap.size + 1, 1, none⟩ = some (.slice none 0 0)
  p2 : w1.cell? ⟨w.heap.size + 1, 2, none⟩ = some (.slice none 0 0)
  f0 : w1.cell? ⟨w.heap.size + 1 + 1, 0, none⟩ = some (.int .i64 0)
  f1 : w1.cell? ⟨w.heap.size + 1 + 1, 1, none⟩ = some (.int .i64 0)
  z1 : ∀ i, w1.frozen? ⟨w.heap.size + 1, i, none⟩ = false
  z2 : ∀ i, w1.frozen? ⟨w.heap.size + 1 + 1, i, none⟩ = false
theorem PB.below {w w1 w2 : World} {n : Int} {ao : Option Addr} {len cap B : Nat} (h : PB w w1 n ao len cap) (k : Below B w1 w2) (hB : w.heap.size + 1 + 1 < B) : PB w w2 n ao len cap := by
  have hs := k.size
  have e0 : w.heap.size < B := by omega
  have e1 : w.heap.size + 1 < B := by omega
  exact ⟨by have := h.sz; omega, (k.cell (p := ⟨w.heap.size, 0, none⟩) e0).trans h.n0, (k.cell (p := ⟨w.heap.size, 1, none⟩) e0).trans h.n1, (k.cell (p := ⟨w.heap.size + 1, 0, none⟩) e1).trans h.p0, (k.cell (p := ⟨w.heap.size + 1, 1, none⟩) e1).trans h.p1, (k.cell (p := ⟨w.heap.size + 1, 2, none⟩) e1).trans h.p2,
    (k.cell (p := ⟨w.heap.size + 1 + 1, 0, none⟩) hB).trans h.f0, (k.cell (p := ⟨w.heap.size + 1 + 1, 1, none⟩) hB).trans h.f1, fun i => (k.frozen (p := ⟨w.heap.size + 1, i, none⟩) e1).trans (h.z1 i), fun i => (k.frozen (p := ⟨w.heap.size + 1 + 1, i, none⟩) hB).trans (h.z2 i)⟩
theorem PB.ext {w w1 w2 : World} {n : Int} {ao : Option Addr} {len cap : Nat} (h : PB w w1 n ao len cap) (k : Ext w1 w2) : PB w w2 n ao len cap := h.below k h.sz
theorem box_cell {w : World} {b : Nat} {A : Array Value} {t : TypeId} (h : w.heap[b]? = some (.cells A t (0, 0))) (i : Nat) : w.cell? ⟨b, i, none⟩ = A[i]? := cell_of_row _ _ _ A t (0, 0) h
theorem box_frozen {w : World} {b : Nat} {A : Array Value} {t : TypeId} (h : w.heap[b]? = some (.cells A t (0, 0))) (i : Nat) : w.frozen? ⟨b, i, none⟩ = false := by simp [World.frozen?, h]
theorem PB.start (w : World) (n : Int) (ao : Option Addr) (len cap : Nat) : PB w (((w.alloc (.cells #[.int .i64 n, .slice ao len cap] 24)).alloc (.cells #[.int .i64 0, .slice none 0 0, .slice none 0 0] 36)).alloc (.cells #[.int .i64 0, .int .i64 0] 38)) n ao len cap := by
  have h0 : (((w.alloc (.cells #[.int .i64 n, .slice ao len cap] 24)).alloc (.cells #[.int .i64 0, .slice none 0 0, .slice none 0 0] 36)).alloc (.cells #[.int .i64 0, .int .i64 0] 38)).heap[w.heap.size]? = some (.cells #[.int .i64 n, .slice ao len cap] 24 (0, 0)) :=
    (blk_alloc_lt _ _ _ (by simp; omega)).trans ((blk_alloc_lt _ _ _ (by simp)).trans (blk_alloc_new _ _))
  have h1 : (((w.alloc (.cells #[.int .i64 n, .slice ao len cap] 24)).alloc (.cells #[.int .i64 0, .slice none 0 0, .slice none 0 0] 36)).alloc (.cells #[.int .i64 0, .int .i64 0] 38)).heap[w.heap.size + 1]? = some (.cells #[.int .i64 0, .slice none 0 0, .slice none 0 0] 36 (0, 0)) := by
    have := blk_alloc_new (w.alloc (.cells #[.int .i64 n, .slice ao len cap] 24)) (.cells #[.int .i64 0, .slice none 0 0, .slice none 0 0] 36)
    rw [World.size_alloc] at this
    exact (blk_alloc_lt _ _ _ (by simp)).trans this
  have h2 : (((w.alloc (.cells #[.int .i64 n, .slice ao len cap] 24)).alloc (.cells #[.int .i64 0, .slice none 0 0, .slice none 0 0] 36)).alloc (.cells #[.int .i64 0, .int .i64 0] 38)).heap[w.heap.size + 1 + 1]? = some (.cells #[.int .i64 0, .int .i64 0] 38 (0, 0)) := by
    have := blk_alloc_new ((w.alloc (.cells #[.int .i64 n, .slice ao len cap] 24)).alloc (.cells #[.int .i64 0, .slice none 0 0, .slice none 0 0] 36)) (.cells #[.int .i64 0, .int .i64 0] 38)
    rw [World.size_alloc, World.size_alloc] at this
    exact this
  exact ⟨by simp, box_cell h0 0, box_cell h0 1, box_cell h1 0, box_cell h1 1, box_cell h1 2, box_cell h2 0, box_cell h2 1, fun i => box_frozen h1 i, fun i => box_frozen h2 i⟩

/-- What lies in the blocks of the two answers. -/
structure C5 (W : World) (A B : Nat) (v0 v1 v2 u0 u1 : Value) : Prop where
  a0 : W.cell? ⟨A, 0, none⟩ = some v0
  a1 : W.cell? ⟨A, 1, none⟩ = some v1
  a2 : W.cell? ⟨A, 2, none⟩ = some v2
  b0 : W.cell? ⟨B, 0, none⟩ = some u0
  b1 : W.cell? ⟨B, 1, none⟩ = some u1
theorem C5.alloc {W : World} {A B : Nat} {v0 v1 v2 u0 u1 : Value} (h : C5 W A B v0 v1 v2 u0 u1) (hA : A < W.heap.size) (hB : B < W.heap.size) (o : Obj) : C5 (W.alloc o) A B v0 v1 v2 u0 u1 :=
  ⟨(World.cell?_alloc_past _ _ _ hA).trans h.a0, (World.cell?_alloc_past _ _ _ hA).trans h.a1, (World.cell?_alloc_past _ _ _ hA).trans h.a2, (World.cell?_alloc_past _ _ _ hB).trans h.b0, (World.cell?_alloc_past _ _ _ hB).trans h.b1⟩
theorem C5.drew {W : World} {A B : Nat} {v0 v1 v2 u0 u1 : Value} (h : C5 W A B v0 v1 v2 u0 u1) : C5 W.drew A B v0 v1 v2 u0 u1 := ⟨h.a0, h.a1, h.a2, h.b0, h.b1⟩
theorem c5_sets {W : World} {A B : Nat} {x0 x1 x2 y0 y1 v0 v1 v2 u0 u1 : Value} (hAB : A ≠ B) (h : C5 W A B x0 x1 x2 y0 y1) : C5 (((((W.setCell ⟨A, 0, none⟩ v0).setCell ⟨A, 1, none⟩ v1).setCell ⟨A, 2, none⟩ v2).setCell ⟨B, 0, none⟩ u0).setCell ⟨B, 1, none⟩ u1) A B v0 v1 v2 u0 u1 := by
  have ne : ∀ {a b c d : Nat}, a ≠ c ∨ b ≠ d → (⟨a, b, none⟩ : Addr) ≠ ⟨c, d, none⟩ := fun {a b c d} h e => by cases e; simp at h
  have oth : ∀ (X : World) {a b c d : Nat} (v : Value), a ≠ c ∨ b ≠ d → (X.setCell ⟨c, d, none⟩ v).cell? ⟨a, b, none⟩ = X.cell? ⟨a, b, none⟩ := fun X {a b c d} v h => World.cell?_setCell_other X ⟨c, d, none⟩ ⟨a, b, none⟩ v (fun e => by cases e; simp at h)
  refine ⟨?_, ?_, ?_, ?_, ?_⟩
  · rw [oth _ _ (Or.inl hAB), oth _ _ (Or.inl hAB), oth _ _ (Or.inr (by decide)), oth _ _ (Or.inr (by decide)), World.cell?_setCell_same _ _ _ h.a0]
  · rw [oth _ _ (Or.inl hAB), oth _ _ (Or.inl hAB), oth _ _ (Or.inr (by decide)), World.cell?_setCell_same _ _ _ ((oth _ _ (Or.inr (by decide))).trans h.a1)]
  · rw [oth _ _ (Or.inl hAB), oth _ _ (Or.inl hAB), World.cell?_setCell_same _ _ _ ((oth _ _ (Or.inr (by decide))).trans ((oth _ _ (Or.inr (by decide))).trans h.a2))]
  · have hBA : B ≠ A := fun e => hAB e.symm
    rw [oth _ _ (Or.inr (by decide)), World.cell?_setCell_same _ _ _ ((oth _ _ (Or.inl hBA)).trans ((oth _ _ (Or.inl hBA)).trans ((oth _ _ (Or.inl hBA)).trans h.b0)))]
  · have hBA : B ≠ A := fun e => hAB e.symm
    rw [World.cell?_setCell_same _ _ _ ((oth _ _ (Or.inr (by decide))).trans ((oth _ _ (Or.inl hBA)).trans ((oth _ _ (Or.inl hBA)).trans ((oth _ _ (Or.inl hBA)).trans h.b1))))]
theorem PB.c5 {w w1 : World} {n : Int} {ao : Option Addr} {len cap : Nat} (h : PB w w1 n ao len cap) : C5 w1 (w.heap.size + 1) (w.heap.size + 1 + 1) (.int .i64 0) (.slice none 0 0) (.slice none 0 0) (.int .i64 0) (.int .i64 0) := ⟨h.p0, h.p1, h.p2, h.f0, h.f1⟩
theorem plan_ret {W : World} {A B : Nat} {v0 v1 v2 u0 u1 : Value} {fn : Func} {tmps : Array Value} (hres : fn.results = #[.cell 6 36, .cell 7 38]) (h6 : tmps.getD 6 undef = .pointer (some ⟨A, 0, none⟩)) (h7 : tmps.getD 7 undef = .pointer (some ⟨B, 0, none⟩)) (h : C5 W A B v0 v1 v2 u0 u1) :
    (results fn tmps).run Try.prog W = .ok (.tuple #[.agg #[v0, v1, v2], .agg #[u0, u1]]) W := by
  have e1 : (loadVar 36 ⟨A, 0, none⟩).run Try.prog W = .ok (.agg [v0, v1, v2].toArray) W := run_loadVar_mid W A 0 36 [v0, v1, v2] _ (fun j v hj => by
    rw [Nat.zero_add]
    match j, hj with
    | 0, hj => simp at hj; subst hj; exact h.a0
    | 1, hj => simp at hj; subst hj; exact h.a1
    | 2, hj => simp at hj; subst hj; exact h.a2) Try.underlying36 rfl (by kernel_rfl)
  have e2 : (loadVar 38 ⟨B, 0, none⟩).run Try.prog W = .ok (.agg [u0, u1].toArray) W := run_loadVar_mid W B 0 38 [u0, u1] _ (fun j v hj => by
    rw [Nat.zero_add]
    match j, hj with
    | 0, hj => simp at hj; subst hj; exact h.b0
    | 1, hj => simp at hj; subst hj; exact h.b1) Try.underlying38 rfl (by kernel_rfl)
  have h6' : tmps[6]?.getD undef = .pointer (some ⟨A, 0, none⟩) := by simpa using h6
  have h7' : tmps[7]?.getD undef = .pointer (some ⟨B, 0, none⟩) := by simpa using h7
  simp [results, hres, h6', h7', asAddr, e1, e2]

theorem news1' {W : World} {n : Nat} (h : W.heap.size = n) (v : Value) (T : TypeId) : ∀ (j : Nat) (u : Value), [v][j]? = some u → (W.alloc (.cells #[v] T)).cell? ((⟨n, 0, none⟩ : Addr).add j) = some u := by
  intro j u hj
  subst h
  match j, hj with
  | 0, hj => simp at hj; subst hj; simp [Addr.add]
theorem one1s (o : Option Addr) (l c : Nat) : ∀ u ∈ [Value.slice o l c], u.oneCell' = true := by intro u hu; simp at hu; subst hu; rfl
/-- The cells of a plan. -/
def pF (v0 v1 v2 : Value) (j : Nat) : Value := if j = 0 then v0 else if j = 1 then v1 else v2
theorem pF_two {v0 v1 v2 v : Value} {j : Nat} (hj : j < 3) : (if j = 2 then v else pF v0 v1 v2 j) = pF v0 v1 v j := by
  unfold pF
  by_cases h : j = 2
  · subst h; simp
  · rw [if_neg h]
    by_cases h0 : j = 0
    · simp [h0]
    · simp [show j = 1 by omega]
theorem plan_row {W : World} {b : Nat} (h : W.heap.size = b) (v0 v1 v2 : Value) : (W.alloc (.cells #[v0, v1, v2] 36)).rowIs b 36 3 (pF v0 v1 v2) := by
  subst h
  have := World.rowIs_alloc W #[v0, v1, v2] 36 (pF v0 v1 v2) (fun i hi => by
    have hi' : i < 3 := hi
    match i, hi' with
    | 0, _ | 1, _ | 2, _ => simp [pF])
  exact this
/-- A path more, in a plan. -/
theorem plan_push {w0 w3 w4 : World} {o : Obj} {P k g c : Nat} {v0 v1 qv v : Value} {V : List Value} {ps : List (List Int)} {p : List Int} (hrow : w3.rowIs P 36 3 (pF v0 v1 qv)) (hown : w3.ownsRow (P + 1) 29 1 qv k V) (hl : LQs w3 (fun b => P + 1 ≤ b ∧ qv.ownBlock ≠ some b ∧ True) ps V) (hp : LQ w3 (fun b => P + 1 ≤ b ∧ qv.ownBlock ≠ some b ∧ True) p v)
    (hbel : Below P w0 w3) (hown4 : w4.ownsRow (P + 1) 29 1 (.slice (some ⟨g, 0, none⟩) (k + 1) c) (k + 1) (V ++ [v])) (hg : (w3.alloc o).grownBy w4 qv.ownBlock) (hat : qv.ownBlock = some g ∨ g = w3.heap.size + 1) :
    (w4.setCell ⟨P, 2, none⟩ (.slice (some ⟨g, 0, none⟩) (k + 1) c)).rowIs P 36 3 (pF v0 v1 (.slice (some ⟨g, 0, none⟩) (k + 1) c)) ∧ (w4.setCell ⟨P, 2, none⟩ (.slice (some ⟨g, 0, none⟩) (k + 1) c)).ownsRow (P + 1) 29 1 (.slice (some ⟨g, 0, none⟩) (k + 1) c) (k + 1) (V ++ [v]) ∧
      LQs (w4.setCell ⟨P, 2, none⟩ (.slice (some ⟨g, 0, none⟩) (k + 1) c)) (fun b => P + 1 ≤ b ∧ (Value.slice (some ⟨g, 0, none⟩) (k + 1) c).ownBlock ≠ some b ∧ True) (ps ++ [p]) (V ++ [v]) ∧ Below P w0 (w4.setCell ⟨P, 2, none⟩ (.slice (some ⟨g, 0, none⟩) (k + 1) c)) := by
  have hP := hrow.lt
  have hneP : some P ≠ qv.ownBlock := fun e => by have := (hown.lt P e.symm).1; omega
  have hat' : (Value.slice (some ⟨g, 0, none⟩) (k + 1) c).ownBlock = qv.ownBlock ∨ (Value.slice (some ⟨g, 0, none⟩) (k + 1) c).ownBlock = some (w3.alloc o).heap.size := by
    rcases hat with h | h
    · left; rw [h]; rfl
    · right; rw [World.size_alloc, h]; rfl
  have hlq := lqs_push (w := w3.alloc o) (w1 := w3) hl hp (by simp) (fun b hb => blk_alloc_lt _ _ _ hb) hg hat'
  refine ⟨((hrow.of_block ((hg.block P (by simp; omega) hneP).trans (blk_alloc_lt _ _ _ hP))).set 2 _).congr (fun j hj => pF_two hj), ownsRow_setCell_below hown4 (by simp) _, hlq.mono (fun b hb hlt => ⟨hb, by simpa using hlt, blk_setCell_other _ _ _ _ (by simp; omega)⟩), ?_⟩
  exact (Below.grown (hbel.alloc (by omega) o) hg (by simp; omega) (fun j hj => by have := (hown.lt j hj).1; omega)).setCell (by simp) _

/-- Paths behind what is written into the two answers. -/
theorem pths_sets {W : World} {P A B k : Nat} {qv v0 v1 v2 u0 u1 : Value} {V : List Value} {ps : List (List Int)} (hown : W.ownsRow (P + 1) 29 1 qv k V) (hl : LQs W (fun b => P + 1 ≤ b ∧ qv.ownBlock ≠ some b ∧ True) ps V) (hA : A < P + 1) (hB : B < P + 1) :
    ∃ qo qc, qv = .slice qo ps.length qc ∧ PthsAt (((((W.setCell ⟨A, 0, none⟩ v0).setCell ⟨A, 1, none⟩ v1).setCell ⟨A, 2, none⟩ v2).setCell ⟨B, 0, none⟩ u0).setCell ⟨B, 1, none⟩ u1) qo ps := by
  refine pths_own (ownsRow_setCell_below (ownsRow_setCell_below (ownsRow_setCell_below (ownsRow_setCell_below (ownsRow_setCell_below hown hA _) hA _) hA _) hB _) hB _) (hl.mono (Q' := fun _ => True) (fun b hb hlt => ⟨trivial, by simpa using hlt, ?_⟩))
  rw [blk_setCell_other _ _ _ _ (by simp; omega), blk_setCell_other _ _ _ _ (by simp; omega), blk_setCell_other _ _ _ _ (by simp; omega), blk_setCell_other _ _ _ _ (by simp; omega), blk_setCell_other _ _ _ _ (by simp; omega)]

set_option maxRecDepth 100000 in
set_option maxHeartbeats 4000000 in
theorem refPlan_any (n version : Int) (ao : Option Addr) (len cap : Nat) (ls : List Lk) (lo : Option Addr) (ll lc : Nat) (fs : List Stf.Fl) (w : World) (hlen : ls.length = len) (hl : NetAt w ao ls) (hx : len ≤ 9223372036854775807) (hcap : len ≤ cap)
    (hll : fs.length = ll) (hf : Fw.FlowsAt w lo fs) (hS : Fw.Sm fs) (hlx : ll ≤ 9223372036854775807) :
    Calls Try.prog 12 #[.agg #[.int .i64 n, .slice ao len cap], .int .i64 version, .slice lo ll lc] w fun e w' => PlanOut w w' e n version ls fs := by
  go_enter Try.func12, Try.ntmps12
  go_wp2_with fail
  refine (refWrong_any n ao len cap ls _ hlen (hl.ext ((((Ext.refl w).alloc _).alloc _).alloc _)) hx hcap).mono ?_
  rintro e w1 ⟨rfl, E1⟩
  have hw1 : Ext w w1 := ((((Ext.refl w).alloc _).alloc _).alloc _).trans E1
  have hpb := (PB.start w n ao len cap).ext E1
  have HPB := hidp hpb
  obtain ⟨s1, n0, n1, p0, p1, p2, f0, f1, z1, z2⟩ := hpb
  have s0 : w.heap.size + 1 < w1.heap.size := by omega
  have s00 : w.heap.size < w1.heap.size := by omega
  by_cases hr : (wrong n ls).1 = 0
  · have hright := right_of hr
    have HW := hidp hr
    rw [hright.wrong]
    clear hr
    by_cases hv : version < 1 ∨ 1000 < version
    · have HP := hidp (plnF_range (fs := fs) HW.out hv)
      rcases hv with hv | hv
      · go_wp2
        refine bodyPost_ret_by (plan_ret Try.results12 rfl rfl (((c5_sets (by omega) HPB.out.c5).alloc (by simp; omega) (by simp; omega) _))) rfl (plan_bad HP.out (by simp) ?_)
        exact ((((((hw1).setCell (by simp) _).setCell (by simp) _).setCell (by simp) _).setCell (by simp; omega) _).setCell (by simp; omega) _).alloc _
      · go_wp2
        refine bodyPost_ret_by (plan_ret Try.results12 rfl rfl (((c5_sets (by omega) HPB.out.c5).alloc (by simp; omega) (by simp; omega) _))) rfl (plan_bad HP.out (by simp) ?_)
        exact ((((((hw1).setCell (by simp) _).setCell (by simp) _).setCell (by simp) _).setCell (by simp; omega) _).setCell (by simp; omega) _).alloc _
    · have hv1 : ¬ version < 1 := fun h => hv (Or.inl h)
      have hv2 : ¬ 1000 < version := fun h => hv (Or.inr h)
      have HV := hidp hv
      clear hv
      go_wp2_with fail
      refine (refFlows_any lo ll lc n fs _ hll (hf.ext (hw1.alloc _)) hS hlx).mono ?_
      rintro e w2 ⟨rfl, E2⟩
      have E2' : Ext w1 w2 := ((Ext.refl w1).alloc _).trans E2
      have hw2 : Ext w w2 := hw1.trans E2'
      have hpb2 := HPB.out.ext E2'
      have HPB2 := hidp hpb2
      clear n0 n1 p0 p1 p2 f0 f1 z1 z2 HPB
      obtain ⟨s2, n0, n1, p0, p1, p2, f0, f1, z1, z2⟩ := hpb2
      have s02 : w.heap.size + 1 < w2.heap.size := by omega
      have s002 : w.heap.size < w2.heap.size := by omega
      by_cases hwf : (Stf.wflows fs n).1 = 0
      · have HWF := hidp hwf
        have h12 := wflows_len hwf
        obtain ⟨i0, hi, hz0, hz1, hz2⟩ := info_parts infoP
        have hw9 : Ext w (w2.alloc (.cells #[.int .i64 (Stf.wflows fs n).1, .int .i64 (Stf.wflows fs n).2] 38)) := hw2.alloc _
        have hp9 := HPB2.out.ext ((Ext.refl w2).alloc (.cells #[.int .i64 (Stf.wflows fs n).1, .int .i64 (Stf.wflows fs n).2] 38))
        obtain ⟨w9, hw9d⟩ : ∃ w9, w9 = w2.alloc (.cells #[.int .i64 (Stf.wflows fs n).1, .int .i64 (Stf.wflows fs n).2] 38) := ⟨_, rfl⟩
        rw [← hw9d] at hw9 hp9
        have HP9 := hidp hp9
        have HSz : Hid (w9.heap.size = w2.heap.size + 1) := by rw [hw9d]; exact hidp (by simp)
        have HD9 := hidp hw9d
        clear hp9 hw9d
        have hwf' : ((Stf.wflows fs n).1 != 0) = false := by simpa using hwf
        clear hwf
        go_wp2
        go_loopw [44] (fun iv wr => ∃ (k : Nat) (qv : Value) (V : List Value), k ≤ ll ∧ iv = .int .i64 k ∧ (∀ j, j < k → (fnd n ls (fs.getD j Fw.f0)).1 = 0) ∧ wr.rowIs (w2.heap.size + 1) 36 3 (pF (.int .i64 version) (.slice lo ll lc) qv) ∧ wr.ownsRow (w2.heap.size + 1 + 1) 29 1 qv k V ∧ LQs wr (fun b => w2.heap.size + 1 + 1 ≤ b ∧ qv.ownBlock ≠ some b ∧ True) ((plnP n ls fs).take k) V ∧ Below (w2.heap.size + 1) w9 wr) (fun iv _ => ll - (intOf iv).toNat)
        case atStart =>
          rw [← HD9.out]
          refine ⟨0, .slice none 0 0, [], Nat.zero_le _, rfl, fun j hj => by omega, plan_row HSz.out _ _ _, World.ownsRow_nil _ _ _ _, trivial, (Below.refl _ _).alloc (by rw [HSz.out]; exact Nat.le_refl _) _⟩
        case round =>
          clear n0 n1 p0 p1 p2 f0 f1 z1 z2
          obtain ⟨k, qv, V, hk, rfl, hpre, hrow, hown, hlq, hbel⟩ := hrel
          have hszr : w2.heap.size + 1 ≤ wr.heap.size := by have := hbel.size; have := HSz.out; omega
          have hpr := HP9.out.below hbel (by have := HSz.out; omega)
          have hEr : Ext w wr := Below.trans hw9 (hbel.mono (by omega))
          have hPr := hrow.lt
          have HPr := hidp hpr
          have HPre := hidp hpre
          clear hpre
          obtain ⟨sr, n0, n1, p0, p1, p2, f0, f1, z1, z2⟩ := hpr
          have sr0 : w.heap.size + 1 < wr.heap.size := by omega
          have sr00 : w.heap.size < wr.heap.size := by omega
          by_cases hlt : k < ll
          · obtain ⟨b, off, vo, vc, no, nc, a, t, X, Y, rfl, hb, hg, c0, c1, c2, c3, ⟨_, _, e1, hv, hvc⟩, ⟨_, _, e2, hn, hnc⟩⟩ := (hf.ext hEr).get (k := k) (by omega)
            cases e1
            cases e2
            have hsm := hS.get (k := k) (by omega) hg
            have HG := hidp hg
            have i1 : (k : Int) < (ll : Int) := by omega
            clear hg
            go_wp2_with fail
            refine (refFind_any n ao len cap ls ⟨a, t, X, Y⟩ vo no vc nc _ hlen (hl.ext (hEr.alloc _)) hx hcap (hv.ext ((Ext.refl wr).alloc _)) hsm.1 hvc (hn.ext ((Ext.refl wr).alloc _)) hsm.2 hnc).mono ?_
            rintro e w3 ⟨go, gc, rfl, hfn, E3⟩
            have E3' : Ext wr w3 := ((Ext.refl wr).alloc _).trans E3
            have hE3 := hEr.trans E3'
            have hP3 := HPr.out.ext E3'
            have HP3 := hidp hP3
            clear n0 n1 p0 p1 p2 f0 f1 z1 z2 c0 c1 c2 c3
            obtain ⟨s3, n0, n1, p0, p1, p2, f0, f1, z1, z2⟩ := hP3
            have s03 : w.heap.size + 1 < w3.heap.size := by omega
            obtain ⟨r, hr⟩ : ∃ r, r = fnd n ls ⟨a, t, X, Y⟩ := ⟨_, rfl⟩
            rw [← hr] at hfn ⊢
            have HR := hidp hr
            clear hr
            by_cases h0 : r.1 = 0
            · have hrow3 := hrow.of_block (Below.block E3' _ hPr)
              have hown3 := own_ext hown E3'
              have hlq3 : LQs w3 (fun b => w2.heap.size + 1 + 1 ≤ b ∧ qv.ownBlock ≠ some b ∧ True) ((plnP n ls fs).take k) V := hlq.mono (fun b hb hlt => ⟨hb, Nat.lt_of_lt_of_le hlt E3'.size, Below.block E3' b hlt⟩)
              have hfn3 : LQ w3 (fun b => w2.heap.size + 1 + 1 ≤ b ∧ qv.ownBlock ≠ some b ∧ True) r.2 (.slice go r.2.length gc) := hfn.lq.mono (fun b hb hlt => ⟨⟨by simp at hb; omega, fun e => by have := (hown.lt b e).2; simp at hb; omega, trivial⟩, hlt, rfl⟩)
              have hbel3 : Below (w2.heap.size + 1) w9 w3 := below_ext hbel E3' hszr
              have q2 := hrow3.cell (i := 2) (by omega)
              have qz := hrow3.frozen 2
              have q2' : w3.cell? ⟨w2.heap.size + 1, 2, none⟩ = some qv := q2
              have s93 := hrow3.lt
              clear q2 hrow hown hlq hbel hfn
              rw [h0]
              go_wp2_with (first | (at_builtin; refine wpList_append_lies _ rfl _ _ 34 rfl (w2.heap.size + 1 + 1) 29 i0 (.slice none 0 0) 1 24 Try.underlying34 hi hz0 hz1 hz2 rfl (by decide) _ _ _ rfl (hown3.alloc _) ⟨w3.heap.size, 0, none⟩ 1 1 [.slice go r.2.length gc] rfl rfl (news1' rfl _ _) (one1s _ _ _) (by decide) (by unfold maxLen; omega) (by omega) (by simp; omega) _ rfl ?_) | go_in)
              intro g gcap w4 hown4 hg4 hat4 hlt4
              have hb4P : w4.heap[w2.heap.size + 1]? = w3.heap[w2.heap.size + 1]? := (hg4.block _ (by simp; omega) (fun e => by have := (hown3.lt _ e.symm).1; omega)).trans (blk_alloc_lt _ _ _ s93)
              have q4 : w4.cell? ⟨w2.heap.size + 1, 2, none⟩ = some qv := (World.cell?_of_block (a := ⟨w2.heap.size + 1, 2, none⟩) hb4P).trans q2'
              have q4z : w4.frozen? ⟨w2.heap.size + 1, 2, none⟩ = false := (World.frozen?_of_block (a := ⟨w2.heap.size + 1, 2, none⟩) hb4P).trans qz
              have HP4 := hidp (plan_push hrow3 hown3 hlq3 hfn3 hbel3 hown4 hg4 (hat4.imp id (fun h => by simpa using h)))
              clear hrow3 hown3 hlq3 hfn3 hbel3 hown4 hg4 hat4
              go_wp2
              go_roundw
              case rel =>
                obtain ⟨m1, m2, m3, m4⟩ := HP4.out
                refine ⟨k + 1, _, _, by omega, by go_num, fun j hj => ?_, m1, m2, ?_, m4⟩
                · by_cases e : j = k
                  · subst e; rw [HG.out, ← HR.out, h0]
                  · exact HPre.out j (by omega)
                · rw [plnP_take (by omega), HG.out, ← HR.out]; exact m3
              case measure => simp [intOf]; omega
            · have HP := hidp (plnF_bad (version := version) HW.out HV.out HWF.out (k := k) (by omega) HPre.out (by rw [HG.out, ← HR.out]; exact h0))
              have h0' : (r.1 != 0) = true := by simpa using h0
              have HH := hidp h0
              clear h0
              go_wp2
              refine bodyPost_ret_by (plan_ret Try.results12 rfl rfl (c5_sets (by omega) HP3.out.c5)) rfl ?_
              have hq := plan_bad (w := w) (w' := ((((((w3.setCell ⟨w.heap.size + 1, 0, none⟩ (.int .i64 0)).setCell ⟨w.heap.size + 1, 1, none⟩ (.slice none 0 0)).setCell ⟨w.heap.size + 1, 2, none⟩ (.slice none 0 0)).setCell ⟨w.heap.size + 1 + 1, 0, none⟩ (.int .i64 r.1)).setCell ⟨w.heap.size + 1 + 1, 1, none⟩ (.int .i64 k)))) (r := (r.1, (k : Int))) (by rw [HP.out, HG.out, ← HR.out]) HH.out ((((((hE3).setCell (by simp) _).setCell (by simp) _).setCell (by simp) _).setCell (by simp; omega) _).setCell (by simp; omega) _)
              exact hq
          · have hkl : k = fs.length := by omega
            have HP := hidp (plnF_good (version := version) HW.out HV.out HWF.out (fun j hj => HPre.out j (by omega)))
            have ht : (plnP n ls fs).take k = plnP n ls fs := List.take_of_length_le (by simp [plnP]; omega)
            rw [ht] at hlq
            obtain ⟨qo, qc, rfl, hpt⟩ := pths_sets (A := w.heap.size + 1) (B := w.heap.size + 1 + 1) (v0 := .int .i64 version) (v1 := .slice lo ll lc) (v2 := qv) (u0 := .int .i64 0) (u1 := .int .i64 0) hown hlq (by omega) (by omega)
            have HT := hidp hpt
            have q0 : wr.cell? ⟨w2.heap.size + 1, 0, none⟩ = some (.int .i64 version) := hrow.cell (i := 0) (by omega)
            have q1 : wr.cell? ⟨w2.heap.size + 1, 1, none⟩ = some (.slice lo ll lc) := hrow.cell (i := 1) (by omega)
            have q2 : wr.cell? ⟨w2.heap.size + 1, 2, none⟩ = some (.slice qo (plnP n ls fs).length qc) := hrow.cell (i := 2) (by omega)
            have i1 : ¬ (k : Int) < (ll : Int) := by omega
            have HK := hidp hkl
            clear hpt hrow hown hlq hbel ht hkl
            go_wp2
            refine bodyPost_ret_by (plan_ret Try.results12 rfl rfl (c5_sets (by omega) HPr.out.c5)) rfl ?_
            have hE5 : Ext w (((((wr.setCell ⟨w.heap.size + 1, 0, none⟩ (.int .i64 version)).setCell ⟨w.heap.size + 1, 1, none⟩ (.slice lo ll lc)).setCell ⟨w.heap.size + 1, 2, none⟩ (.slice qo (plnP n ls fs).length qc)).setCell ⟨w.heap.size + 1 + 1, 0, none⟩ (.int .i64 0)).setCell ⟨w.heap.size + 1 + 1, 1, none⟩ (.int .i64 0)) :=
              ((((hEr.setCell (by simp) _).setCell (by simp) _).setCell (by simp) _).setCell (by simp; omega) _).setCell (by simp; omega) _
            exact ⟨version, lo, ll, lc, qo, _, qc, by rw [HP.out], hE5, Or.inr ⟨by rw [HP.out], rfl, hll.symm, hf.ext hE5, rfl, HT.out⟩⟩
      · have HP := hidp (plnF_flows (version := version) HW.out HV.out hwf)
        have hwf' : ((Stf.wflows fs n).1 != 0) = true := by simpa using hwf
        have HWF := hidp hwf
        clear hwf
        go_wp2
        go_region
        go_wp2
        refine bodyPost_ret_by (plan_ret Try.results12 rfl rfl (((c5_sets (by omega) HPB2.out.c5).alloc (by simp; omega) (by simp; omega) _).drew)) rfl (plan_bad HP.out HWF.out ?_)
        exact (((((((hw2).setCell (by simp) _).setCell (by simp) _).setCell (by simp) _).setCell (by simp; omega) _).setCell (by simp; omega) _).alloc _).drew
  · have HP := hidp (plnF_wrong (version := version) (fs := fs) hr)
    have hr' : ((wrong n ls).1 != 0) = true := by simpa using hr
    have HR := hidp hr
    clear hr
    go_wp2
    go_region
    go_wp2
    refine bodyPost_ret_by (plan_ret Try.results12 rfl rfl (((c5_sets (by omega) HPB.out.c5).alloc (by simp; omega) (by simp; omega) _).drew)) rfl (plan_bad HP.out HR.out ?_)
    exact (((((((hw1).setCell (by simp) _).setCell (by simp) _).setCell (by simp) _).setCell (by simp; omega) _).setCell (by simp; omega) _).alloc _).drew

end Go.Proofs.Ytagkbpckflineab
