/- Plans: what is wrong with what is asked for, in words; boxes of a plan that is made. -/
import Derived.Test.YtgffkjjddhlbpaaT3
namespace Go.Proofs.Ytgffkjjddhlbpaa
open Go.RowKit Go.Maps Stw Go.Deep Stp

theorem plnF_wrong {n version : Int} {ls : List Lk} {fs : List Stf.Fl} (h : (wrong n ls).1 ≠ 0) : plnF n version ls fs = wrong n ls := by unfold plnF; rw [if_pos h]
theorem plnF_range {n version : Int} {ls : List Lk} {fs : List Stf.Fl} (h : (wrong n ls).1 = 0) (h1 : version < 1 ∨ 1000 < version) : plnF n version ls fs = (3, 0) := by unfold plnF; rw [if_neg (by simp [h]), if_pos h1]
theorem plnF_flows {n version : Int} {ls : List Lk} {fs : List Stf.Fl} (h : (wrong n ls).1 = 0) (h1 : ¬ (version < 1 ∨ 1000 < version)) (h2 : (Stf.wflows fs n).1 ≠ 0) : plnF n version ls fs = Stf.wflows fs n := by unfold plnF; rw [if_neg (by simp [h]), if_neg h1, if_pos h2]
theorem plnF_bad {n version : Int} {ls : List Lk} {fs : List Stf.Fl} {k : Nat} (h : (wrong n ls).1 = 0) (h1 : ¬ (version < 1 ∨ 1000 < version)) (h2 : (Stf.wflows fs n).1 = 0) (hk : k < fs.length) (hp : ∀ j, j < k → (fnd n ls (fs.getD j Fw.f0)).1 = 0) (hb : (fnd n ls (fs.getD k Fw.f0)).1 ≠ 0) : plnF n version ls fs = ((fnd n ls (fs.getD k Fw.f0)).1, (k : Int)) := by
  unfold plnF
  rw [if_neg (by simp [h]), if_neg h1, if_neg (by simp [h2]), Stf.firstBad_some hk hp hb]
theorem plnF_good {n version : Int} {ls : List Lk} {fs : List Stf.Fl} (h : (wrong n ls).1 = 0) (h1 : ¬ (version < 1 ∨ 1000 < version)) (h2 : (Stf.wflows fs n).1 = 0) (hp : ∀ j, j < fs.length → (fnd n ls (fs.getD j Fw.f0)).1 = 0) : plnF n version ls fs = (0, 0) := by
  unfold plnF
  rw [if_neg (by simp [h]), if_neg h1, if_neg (by simp [h2]), Stf.firstBad_none hp]
theorem own_extU {w w' : World} {base : Nat} {e : TypeId} {size n : Nat} {v : Value} {xs : List Value} (h : w.ownsRow base e size v n xs) (k : Ext w w') : w'.ownsRow base e size v n xs := by
  refine ⟨h.1, ?_⟩
  rcases h.2 with h2 | ⟨g, cap, cur, h1, h2, h3, h4⟩
  · exact Or.inl h2
  · exact Or.inr ⟨g, cap, cur, h1, h2, (Below.block k g (Array.getElem?_eq_some_iff.1 h3).1).trans h3, h4⟩
theorem wflows_len {n : Int} {fs : List Stf.Fl} (h : (Stf.wflows fs n).1 = 0) : fs.length ≤ 12 := by
  by_cases h1 : 12 < fs.length
  · rw [Stf.wflows, if_pos h1] at h; simp at h
  · omega

/-- The blocks of a plan that is made: the net, the two answers. -/
structure PB (w w1 : World) (n : Int) (ao : Option Addr) (len cap : Nat) : Prop where
  sz : w.heap.size + 1 + 1 < w1.heap.size
  n0 : w1.cell? ⟨w.heap.size, 0, none⟩ = some (.int .i64 n)
  n1 : w1.cell? ⟨w.heap.size, 1, none⟩ = some (.slice ao len cap)
  p0 : w1.cell? ⟨w.heap.size + 1, 0, none⟩ = some (.int .i64 0)
  p1 : w1.cell? ⟨w.heap.size + 1, 1, none⟩ = some (.slice none 0 0)
  p2 : w1.cell? ⟨w.heap.size + 1, 2, none⟩ = some (.slice none 0 0)
  f0 : w1.cell? ⟨w.heap.size + 1 + 1, 0, none⟩ = some (.int .i64 0)
  f1 : w1.cell? ⟨w.heap.size + 1 + 1, 1, none⟩ = some (.int .i64 0)
  z1 : ∀ i, w1.frozen? ⟨w.heap.size + 1, i, none⟩ = false
  z2 : ∀ i, w1.frozen? ⟨w.heap.size + 1 + 1, i, none⟩ = false
theorem PB.below {w w1 w2 : World} {n : Int} {ao : Option Addr} {len cap B : Nat} (h : PB w w1 n ao len cap) (k : Below B w1 w2) (hB : w.heap.size + 1 + 1 < B) : PB w w2 n ao len cap := by
  have hs := k.size
  have e0 : w.heap.size < B := by omega
  have e1 : w.heap.size + 1 < B := by omega
  exact ⟨by have := h.sz; omega, (k.cell (p := ⟨w.heap.size, 0, none⟩) e0).trans h.n0, (k.cell (p := ⟨w.heap.size, 1, none⟩) e0).trans h.n1, (k.cell (p := ⟨w.heap.size + 1, 0, none⟩) e1).trans h.p0, (k.cell (p := ⟨w.heap.size + 1, 1, none⟩) e1).trans h.p1, (k.cell (p := ⟨w.heap.size + 1, 2, none⟩) e1).trans h.p2,
    (k.cell (p := ⟨w.heap.size + 1 + 1, 0, none⟩) hB).trans h.f0, (k.cell (p := ⟨w.heap.size + 1 + 1, 1, none⟩) hB).trans h.f1, fun i => (k.frozen (p := ⟨w.heap.size + 1, i, none⟩) e1).trans (h.z1 i), fun i => (k.frozen (p := ⟨w.heap.size + 1 + 1, i, none⟩) hB).trans (h.z2 i)⟩
theorem PB.ext {w w1 w2 : World} {n : Int} {ao : Option Addr} {len cap : Nat} (h : PB w w1 n ao len cap) (k : Ext w1 w2) : PB w w2 n ao len cap := h.below k h.sz
theorem box_cell {w : World} {b : Nat} {A : Array Value} {t : TypeId} (h : w.heap[b]? = some (.cells A t (0, 0))) (i : Nat) : w.cell? ⟨b, i, none⟩ = A[i]? := cell_of_row _ _ _ A t (0, 0) h
theorem box_frozen {w : World} {b : Nat} {A : Array Value} {t : TypeId} (h : w.heap[b]? = some (.cells A t (0, 0))) (i : Nat) : w.frozen? ⟨b, i, none⟩ = false := by simp [World.frozen?, h]
theorem PB.start (w : World) (n : Int) (ao : Option Addr) (len cap : Nat) : PB w (((w.alloc (.cells #[.int .i64 n, .slice ao len cap] 31)).alloc (.cells #[.int .i64 0, .slice none 0 0, .slice none 0 0] 25)).alloc (.cells #[.int .i64 0, .int .i64 0] 64)) n ao len cap := by
  have h0 : (((w.alloc (.cells #[.int .i64 n, .slice ao len cap] 31)).alloc (.cells #[.int .i64 0, .slice none 0 0, .slice none 0 0] 25)).alloc (.cells #[.int .i64 0, .int .i64 0] 64)).heap[w.heap.size]? = some (.cells #[.int .i64 n, .slice ao len cap] 31 (0, 0)) :=
    (blk_alloc_lt _ _ _ (by simp; omega)).trans ((blk_alloc_lt _ _ _ (by simp)).trans (blk_alloc_new _ _))
  have h1 : (((w.alloc (.cells #[.int .i64 n, .slice ao len cap] 31)).alloc (.cells #[.int .i64 0, .slice none 0 0, .slice none 0 0] 25)).alloc (.cells #[.int .i64 0, .int .i64 0] 64)).heap[w.heap.size + 1]? = some (.cells #[.int .i64 0, .slice none 0 0, .slice none 0 0] 25 (0, 0)) := by
    have := blk_alloc_new (w.alloc (.cells #[.int .i64 n, .slice ao len cap] 31)) (.cells #[.int .i64 0, .slice none 0 0, .slice none 0 0] 25)
    rw [World.size_alloc] at this
    exact (blk_alloc_lt _ _ _ (by simp)).trans this
  have h2 : (((w.alloc (.cells #[.int .i64 n, .slice ao len cap] 31)).alloc (.cells #[.int .i64 0, .slice none 0 0, .slice none 0 0] 25)).alloc (.cells #[.int .i64 0, .int .i64 0] 64)).heap[w.heap.size + 1 + 1]? = some (.cells #[.int .i64 0, .int .i64 0] 64 (0, 0)) := by
    have := blk_alloc_new ((w.alloc (.cells #[.int .i64 n, .slice ao len cap] 31)).alloc (.cells #[.int .i64 0, .slice none 0 0, .slice none 0 0] 25)) (.cells #[.int .i64 0, .int .i64 0] 64)
    rw [World.size_alloc, World.size_alloc] at this
    exact this
  exact ⟨by simp, box_cell h0 0, box_cell h0 1, box_cell h1 0, box_cell h1 1, box_cell h1 2, box_cell h2 0, box_cell h2 1, fun i => box_frozen h1 i, fun i => box_frozen h2 i⟩

/-- What lies in the blocks of the two answers. -/
structure C5 (W : World) (A B : Nat) (v0 v1 v2 u0 u1 : Value) : Prop where
  a0 : W.cell? ⟨A, 0, none⟩ = some v0
  a1 : W.cell? ⟨A, 1, none⟩ = some v1
  a2 : W.cell? ⟨A, 2, none⟩ = some v2
  b0 : W.cell? ⟨B, 0, none⟩ = some u0
  b1 : W.cell? ⟨B, 1, none⟩ = some u1
theorem C5.alloc {W : World} {A B : Nat} {v0 v1 v2 u0 u1 : Value} (h : C5 W A B v0 v1 v2 u0 u1) (hA : A < W.heap.size) (hB : B < W.heap.size) (o : Obj) : C5 (W.alloc o) A B v0 v1 v2 u0 u1 :=
  ⟨(World.cell?_alloc_past _ _ _ hA).trans h.a0, (World.cell?_alloc_past _ _ _ hA).trans h.a1, (World.cell?_alloc_past _ _ _ hA).trans h.a2, (World.cell?_alloc_past _ _ _ hB).trans h.b0, (World.cell?_alloc_past _ _ _ hB).trans h.b1⟩
theorem C5.drew {W : World} {A B : Nat} {v0 v1 v2 u0 u1 : Value} (h : C5 W A B v0 v1 v2 u0 u1) : C5 W.drew A B v0 v1 v2 u0 u1 := ⟨h.a0, h.a1, h.a2, h.b0, h.b1⟩
theorem c5_sets {W : World} {A B : Nat} {x0 x1 x2 y0 y1 v0 v1 v2 u0 u1 : Value} (hAB : A ≠ B) (h : C5 W A B x0 x1 x2 y0 y1) : C5 (((((W.setCell ⟨A, 0, none⟩ v0).setCell ⟨A, 1, none⟩ v1).setCell ⟨A, 2, none⟩ v2).setCell ⟨B, 0, none⟩ u0).setCell ⟨B, 1, none⟩ u1) A B v0 v1 v2 u0 u1 := by
  have ne : ∀ {a b c d : Nat}, a ≠ c ∨ b ≠ d → (⟨a, b, none⟩ : Addr) ≠ ⟨c, d, none⟩ := fun {a b c d} h e => by cases e; simp at h
  have oth : ∀ (X : World) {a b c d : Nat} (v : Value), a ≠ c ∨ b ≠ d → (X.setCell ⟨c, d, none⟩ v).cell? ⟨a, b, none⟩ = X.cell? ⟨a, b, none⟩ := fun X {a b c d} v h => World.cell?_setCell_other X ⟨c, d, none⟩ ⟨a, b, none⟩ v (fun e => by cases e; simp at h)
  refine ⟨?_, ?_, ?_, ?_, ?_⟩
  · rw [oth _ _ (Or.inl hAB), oth _ _ (Or.inl hAB), oth _ _ (Or.inr (by decide)), oth _ _ (Or.inr (by decide)), World.cell?_setCell_same _ _ _ h.a0]
  · rw [oth _ _ (Or.inl hAB), oth _ _ (Or.inl hAB), oth _ _ (Or.inr (by decide)), World.cell?_setCell_same _ _ _ ((oth _ _ (Or.inr (by decide))).trans h.a1)]
  · rw [oth _ _ (Or.inl hAB), oth _ _ (Or.inl hAB), World.cell?_setCell_same _ _ _ ((oth _ _ (Or.inr (by decide))).trans ((oth _ _ (Or.inr (by decide))).trans h.a2))]
  · have hBA : B ≠ A := fun e => hAB e.symm
    rw [oth _ _ (Or.inr (by decide)), World.cell?_setCell_same _ _ _ ((oth _ _ (Or.inl hBA)).trans ((oth _ _ (Or.inl hBA)).trans ((oth _ _ (Or.inl hBA)).trans h.b0)))]
  · have hBA : B ≠ A := fun e => hAB e.symm
    rw [World.cell?_setCell_same _ _ _ ((oth _ _ (Or.inr (by decide))).trans ((oth _ _ (Or.inl hBA)).trans ((oth _ _ (Or.inl hBA)).trans ((oth _ _ (Or.inl hBA)).trans h.b1))))]
theorem PB.c5 {w w1 : World} {n : Int} {ao : Option Addr} {len cap : Nat} (h : PB w w1 n ao len cap) : C5 w1 (w.heap.size + 1) (w.heap.size + 1 + 1) (.int .i64 0) (.slice none 0 0) (.slice none 0 0) (.int .i64 0) (.int .i64 0) := ⟨h.p0, h.p1, h.p2, h.f0, h.f1⟩
theorem plan_ret {W : World} {A B : Nat} {v0 v1 v2 u0 u1 : Value} {fn : Func} {tmps : Array Value} (hres : fn.results = #[.cell 6 25, .cell 7 64]) (h6 : tmps.getD 6 undef = .pointer (some ⟨A, 0, none⟩)) (h7 : tmps.getD 7 undef = .pointer (some ⟨B, 0, none⟩)) (h : C5 W A B v0 v1 v2 u0 u1) :
    (results fn tmps).run Try.prog W = .ok (.tuple #[.agg #[v0, v1, v2], .agg #[u0, u1]]) W := by
  have e1 : (loadVar 25 ⟨A, 0, none⟩).run Try.prog W = .ok (.agg [v0, v1, v2].toArray) W := run_loadVar_mid W A 0 25 [v0, v1, v2] _ (fun j v hj => by
    rw [Nat.zero_add]
    match j, hj with
    | 0, hj => simp at hj; subst hj; exact h.a0
    | 1, hj => simp at hj; subst hj; exact h.a1
    | 2, hj => simp at hj; subst hj; exact h.a2) Try.underlying25 rfl (by kernel_rfl)
  have e2 : (loadVar 64 ⟨B, 0, none⟩).run Try.prog W = .ok (.agg [u0, u1].toArray) W := run_loadVar_mid W B 0 64 [u0, u1] _ (fun j v hj => by
    rw [Nat.zero_add]
    match j, hj with
    | 0, hj => simp at hj; subst hj; exact h.b0
    | 1, hj => simp at hj; subst hj; exact h.b1) Try.underlying64 rfl (by kernel_rfl)
  have h6' : tmps[6]?.getD undef = .pointer (some ⟨A, 0, none⟩) := by simpa using h6
  have h7' : tmps[7]?.getD undef = .pointer (some ⟨B, 0, none⟩) := by simpa using h7
  simp [results, hres, h6', h7', asAddr, e1, e2]

theorem news1' {W : World} {n : Nat} (h : W.heap.size = n) (v : Value) (T : TypeId) : ∀ (j : Nat) (u : Value), [v][j]? = some u → (W.alloc (.cells #[v] T)).cell? ((⟨n, 0, none⟩ : Addr).add j) = some u := by
  intro j u hj
  subst h
  match j, hj with
  | 0, hj => simp at hj; subst hj; simp [Addr.add]
theorem one1s (o : Option Addr) (l c : Nat) : ∀ u ∈ [Value.slice o l c], u.oneCell' = true := by intro u hu; simp at hu; subst hu; rfl
/-- The cells of a plan. -/
def pF (v0 v1 v2 : Value) (j : Nat) : Value := if j = 0 then v0 else if j = 1 then v1 else v2
theorem pF_two {v0 v1 v2 v : Value} {j : Nat} (hj : j < 3) : (if j = 2 then v else pF v0 v1 v2 j) = pF v0 v1 v j := by
  unfold pF
  by_cases h : j = 2
  · subst h; simp
  · rw [if_neg h]
    by_cases h0 : j = 0
    · simp [h0]
    · simp [show j = 1 by omega]
theorem plan_row {W : World} {b : Nat} (h : W.heap.size = b) (v0 v1 v2 : Value) : (W.alloc (.cells #[v0, v1, v2] 25)).rowIs b 25 3 (pF v0 v1 v2) := by
  subst h
  have := World.rowIs_alloc W #[v0, v1, v2] 25 (pF v0 v1 v2) (fun i hi => by
    have hi' : i < 3 := hi
    match i, hi' with
    | 0, _ | 1, _ | 2, _ => simp [pF])
  exact this
/-- A path more, in a plan. -/
theorem plan_push {w0 w3 w4 : World} {o : Obj} {P k g c : Nat} {v0 v1 qv v : Value} {V : List Value} {ps : List (List Int)} {p : List Int} (hrow : w3.rowIs P 25 3 (pF v0 v1 qv)) (hown : w3.ownsRow (P + 1) 105 1 qv k V) (hl : LQs w3 (fun b => P + 1 ≤ b ∧ qv.ownBlock ≠ some b ∧ True) ps V) (hp : LQ w3 (fun b => P + 1 ≤ b ∧ qv.ownBlock ≠ some b ∧ True) p v)
    (hbel : Below P w0 w3) (hown4 : w4.ownsRow (P + 1) 105 1 (.slice (some ⟨g, 0, none⟩) (k + 1) c) (k + 1) (V ++ [v])) (hg : (w3.alloc o).grownBy w4 qv.ownBlock) (hat : qv.ownBlock = some g ∨ g = w3.heap.size + 1) :
    (w4.setCell ⟨P, 2, none⟩ (.slice (some ⟨g, 0, none⟩) (k + 1) c)).rowIs P 25 3 (pF v0 v1 (.slice (some ⟨g, 0, none⟩) (k + 1) c)) ∧ (w4.setCell ⟨P, 2, none⟩ (.slice (some ⟨g, 0, none⟩) (k + 1) c)).ownsRow (P + 1) 105 1 (.slice (some ⟨g, 0, none⟩) (k + 1) c) (k + 1) (V ++ [v]) ∧
      LQs (w4.setCell ⟨P, 2, none⟩ (.slice (some ⟨g, 0, none⟩) (k + 1) c)) (fun b => P + 1 ≤ b ∧ (Value.slice (some ⟨g, 0, none⟩) (k + 1) c).ownBlock ≠ some b ∧ True) (ps ++ [p]) (V ++ [v]) ∧ Below P w0 (w4.setCell ⟨P, 2, none⟩ (.slice (some ⟨g, 0, none⟩) (k + 1) c)) := by
  have hP := hrow.lt
  have hneP : some P ≠ qv.ownBlock := fun e => by have := (hown.lt P e.symm).1; omega
  have hat' : (Value.slice (some ⟨g, 0, none⟩) (k + 1) c).ownBlock = qv.ownBlock ∨ (Value.slice (some ⟨g, 0, none⟩) (k + 1) c).ownBlock = some (w3.alloc o).heap.size := by
    rcases hat with h | h
    · left; rw [h]; rfl
    · right; rw [World.size_alloc, h]; rfl
  have hlq := lqs_push (w := w3.alloc o) (w1 := w3) hl hp (by simp) (fun b hb => blk_alloc_lt _ _ _ hb) hg hat'
  refine ⟨((hrow.of_block ((hg.block P (by simp; omega) hneP).trans (blk_alloc_lt _ _ _ hP))).set 2 _).congr (fun j hj => pF_two hj), ownsRow_setCell_below hown4 (by simp) _, hlq.mono (fun b hb hlt => ⟨hb, by simpa using hlt, blk_setCell_other _ _ _ _ (by simp; omega)⟩), ?_⟩
  exact (Below.grown (hbel.alloc (by omega) o) hg (by simp; omega) (fun j hj => by have := (hown.lt j hj).1; omega)).setCell (by simp) _

/-- Paths behind what is written into the two answers. -/
theorem pths_sets {W : World} {P A B k : Nat} {qv v0 v1 v2 u0 u1 : Value} {V : List Value} {ps : List (List Int)} (hown : W.ownsRow (P + 1) 105 1 qv k V) (hl : LQs W (fun b => P + 1 ≤ b ∧ qv.ownBlock ≠ some b ∧ True) ps V) (hA : A < P + 1) (hB : B < P + 1) :
    ∃ qo qc, qv = .slice qo ps.length qc ∧ PthsAt (((((W.setCell ⟨A, 0, none⟩ v0).setCell ⟨A, 1, none⟩ v1).setCell ⟨A, 2, none⟩ v2).setCell ⟨B, 0, none⟩ u0).setCell ⟨B, 1, none⟩ u1) qo ps := by
  refine pths_own (ownsRow_setCell_below (ownsRow_setCell_below (ownsRow_setCell_below (ownsRow_setCell_below (ownsRow_setCell_below hown hA _) hA _) hA _) hB _) hB _) (hl.mono (Q' := fun _ => True) (fun b hb hlt => ⟨trivial, by simpa using hlt, ?_⟩))
  rw [blk_setCell_other _ _ _ _ (by simp; omega), blk_setCell_other _ _ _ _ (by simp; omega), blk_setCell_other _ _ _ _ (by simp; omega), blk_setCell_other _ _ _ _ (by simp; omega), blk_setCell_other _ _ _ _ (by simp; omega)]


end Go.Proofs.Ytgffkjjddhlbpaa
