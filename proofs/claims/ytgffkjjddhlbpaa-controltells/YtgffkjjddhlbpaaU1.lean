/- A plan that is made, in memory: flows of its own and paths of its own. -/
import Derived.Test.YtgffkjjddhlbpaaT4a
namespace Go.Proofs.Ytgffkjjddhlbpaa
open Go.RowKit Go.Maps Stw Go.Deep Stp

/-- The cells of flows. -/
def LFs (w : World) (Q : Nat → Prop) : List Stf.Fl → List Value → Prop
  | [], [] => True
  | f :: fs, a :: b :: c :: d :: vs => (a = .int .i64 f.fr ∧ b = .int .i64 f.to ∧ LQ w Q f.via c ∧ LQ w Q f.nt d) ∧ LFs w Q fs vs
  | _, _ => False
theorem LFs.nil_of {w : World} {Q : Nat → Prop} {vs : List Value} (h : LFs w Q [] vs) : vs = [] := by
  cases vs with
  | nil => rfl
  | cons => simp [LFs] at h
theorem LFs.cons_of {w : World} {Q : Nat → Prop} {f : Stf.Fl} {fs : List Stf.Fl} {vs : List Value} (h : LFs w Q (f :: fs) vs) : ∃ c d us, vs = .int .i64 f.fr :: .int .i64 f.to :: c :: d :: us ∧ LQ w Q f.via c ∧ LQ w Q f.nt d ∧ LFs w Q fs us := by
  match vs, h with
  | a :: b :: c :: d :: us, h =>
    obtain ⟨⟨rfl, rfl, h3, h4⟩, h5⟩ := h
    exact ⟨c, d, us, rfl, h3, h4, h5⟩
  | [], h => simp [LFs] at h
  | [_], h => simp [LFs] at h
  | [_, _], h => simp [LFs] at h
  | [_, _, _], h => simp [LFs] at h
theorem LFs.mono {w w' : World} {Q Q' : Nat → Prop} (H : ∀ b, Q b → b < w.heap.size → Q' b ∧ b < w'.heap.size ∧ w'.heap[b]? = w.heap[b]?) : ∀ {fs : List Stf.Fl} {vs : List Value}, LFs w Q fs vs → LFs w' Q' fs vs
  | [], vs, h => by rw [h.nil_of]; trivial
  | f :: fs, vs, h => by
    obtain ⟨c, d, us, rfl, h1, h2, h3⟩ := h.cons_of
    exact ⟨⟨rfl, rfl, h1.mono H, h2.mono H⟩, LFs.mono H h3⟩
theorem LFs.len {w : World} {Q : Nat → Prop} : ∀ {fs : List Stf.Fl} {vs : List Value}, LFs w Q fs vs → vs.length = fs.length * 4
  | [], vs, h => by rw [h.nil_of]; rfl
  | f :: fs, vs, h => by
    obtain ⟨c, d, us, rfl, _, _, h3⟩ := h.cons_of
    have := LFs.len h3
    simp only [List.length_cons]
    omega
theorem LFs.snoc {w : World} {Q : Nat → Prop} {f : Stf.Fl} {v n : Value} (kv : LQ w Q f.via v) (kn : LQ w Q f.nt n) : ∀ {fs : List Stf.Fl} {vs : List Value}, LFs w Q fs vs → LFs w Q (fs ++ [f]) (vs ++ [.int .i64 f.fr, .int .i64 f.to, v, n])
  | [], vs, h => by rw [h.nil_of]; exact ⟨⟨rfl, rfl, kv, kn⟩, trivial⟩
  | g :: fs, vs, h => by
    obtain ⟨c, d, us, rfl, h1, h2, h3⟩ := h.cons_of
    exact ⟨⟨rfl, rfl, h1, h2⟩, LFs.snoc kv kn h3⟩
theorem LFs.get {w : World} {Q : Nat → Prop} : ∀ {fs : List Stf.Fl} {vs : List Value} {i : Nat} (hi : i < fs.length), LFs w Q fs vs → ∃ c d, vs[i * 4]? = some (.int .i64 fs[i].fr) ∧ vs[i * 4 + 1]? = some (.int .i64 fs[i].to) ∧ vs[i * 4 + 2]? = some c ∧ vs[i * 4 + 3]? = some d ∧ LQ w Q fs[i].via c ∧ LQ w Q fs[i].nt d
  | [], _, _, hi, _ => by simp at hi
  | f :: fs, vs, 0, _, h => by
    obtain ⟨c, d, us, rfl, h1, h2, h3⟩ := h.cons_of
    exact ⟨c, d, rfl, rfl, rfl, rfl, h1, h2⟩
  | f :: fs, vs, i + 1, hi, h => by
    obtain ⟨c, d, us, rfl, h1, h2, h3⟩ := h.cons_of
    obtain ⟨c', d', k0, k1, k2, k3, k4, k5⟩ := LFs.get (i := i) (by simpa using hi) h3
    have e : (i + 1) * 4 = i * 4 + 4 := by omega
    refine ⟨c', d', ?_, ?_, ?_, ?_, k4, k5⟩
    · rw [e]; exact k0
    · rw [e]; exact k1
    · rw [e]; exact k2
    · rw [e]; exact k3
theorem flows_own {w : World} {base n : Nat} {e : TypeId} {v : Value} {vs : List Value} {fs : List Stf.Fl} {Q : Nat → Prop} (h : w.ownsRow base e 4 v n vs) (hp : LFs w Q fs vs) : ∃ fo fc, v = .slice fo fs.length fc ∧ Fw.FlowsAt w fo fs := by
  have hl := hp.len
  have hn : vs.length = n * 4 := h.1
  rcases h.2 with ⟨h1, h2⟩ | ⟨g, c, cur, hv, _⟩
  · have : fs = [] := List.eq_nil_of_length_eq_zero (by omega)
    subst this
    exact ⟨none, 0, h1, Or.inl rfl⟩
  · subst hv
    obtain rfl : n = fs.length := by omega
    refine ⟨some ⟨g, 0, none⟩, c, rfl, Or.inr ⟨g, 0, rfl, (h.lt g rfl).2, fun i hi => ?_⟩⟩
    obtain ⟨c', d', k0, k1, k2, k3, k4, k5⟩ := hp.get hi
    refine ⟨c', d', ?_, ?_, ?_, ?_, k4.fv, k5.fv⟩
    · rw [Nat.zero_add, h.cellAt _ (by omega)]; exact k0
    · rw [Nat.zero_add, h.cellAt _ (by omega)]; exact k1
    · rw [Nat.zero_add, h.cellAt _ (by omega)]; exact k2
    · rw [Nat.zero_add, h.cellAt _ (by omega)]; exact k3

/-- A block of a plan's own, but for its two lists. -/
def Qn (P : Nat) (fv qv : Value) (b : Nat) : Prop := P + 1 ≤ b ∧ qv.ownBlock ≠ some b ∧ fv.ownBlock ≠ some b
/-- A plan that is made. -/
structure PSt (P : Nat) (w0 w : World) (v0 fv qv : Value) (kf kq : Nat) (FV V : List Value) (fs : List Stf.Fl) (ps : List (List Int)) : Prop where
  row : w.rowIs P 25 3 (pF v0 fv qv)
  ownF : w.ownsRow (P + 1) 91 4 fv kf FV
  ownQ : w.ownsRow (P + 1) 105 1 qv kq V
  apart : ∀ b, fv.ownBlock = some b → qv.ownBlock ≠ some b
  lf : LFs w (Qn P fv qv) fs FV
  lq : LQs w (Qn P fv qv) ps V
  bel : Below P w0 w
theorem PSt.ext {P : Nat} {w0 w w' : World} {v0 fv qv : Value} {kf kq : Nat} {FV V : List Value} {fs : List Stf.Fl} {ps : List (List Int)} (h : PSt P w0 w v0 fv qv kf kq FV V fs ps) (E : Ext w w') : PSt P w0 w' v0 fv qv kf kq FV V fs ps := by
  have H : ∀ b, Qn P fv qv b → b < w.heap.size → Qn P fv qv b ∧ b < w'.heap.size ∧ w'.heap[b]? = w.heap[b]? := fun b hb hlt => ⟨hb, Nat.lt_of_lt_of_le hlt E.size, Below.block E b hlt⟩
  have hP := h.row.lt
  exact ⟨h.row.of_block (Below.block E _ hP), own_extU h.ownF E, own_extU h.ownQ E, h.apart, h.lf.mono H, h.lq.mono H, below_ext h.bel E (by omega)⟩
theorem pF_one {v0 v1 v2 v : Value} {j : Nat} (_hj : j < 3) : (if j = 1 then v else pF v0 v1 v2 j) = pF v0 v v2 j := by
  unfold pF
  by_cases h : j = 1
  · subst h; simp
  · rw [if_neg h]
    by_cases h0 : j = 0
    · simp [h0]
    · rw [if_neg h0, if_neg h, if_neg h0, if_neg h]
/-- A list in new blocks is none of the plan's. -/
theorem PSt.fresh {P : Nat} {w0 w w' : World} {v0 fv qv v : Value} {kf kq : Nat} {FV V : List Value} {fs : List Stf.Fl} {ps : List (List Int)} {p : List Int} (h : PSt P w0 w v0 fv qv kf kq FV V fs ps) (hp : LQ w' (fun b => w.heap.size ≤ b) p v) : LQ w' (Qn P fv qv) p v := by
  have hP := h.row.lt
  refine hp.mono (fun b hb hlt => ⟨⟨by omega, fun e => ?_, fun e => ?_⟩, hlt, rfl⟩)
  · have := (h.ownQ.lt b e).2; omega
  · have := (h.ownF.lt b e).2; omega
theorem PSt.pushF {P : Nat} {w0 w w' : World} {o : Obj} {v0 fv qv v n : Value} {kf kq g c : Nat} {FV V : List Value} {fs : List Stf.Fl} {ps : List (List Int)} {f : Stf.Fl} (h : PSt P w0 w v0 fv qv kf kq FV V fs ps) (kv : LQ w (Qn P fv qv) f.via v) (kn : LQ w (Qn P fv qv) f.nt n)
    (hown : w'.ownsRow (P + 1) 91 4 (.slice (some ⟨g, 0, none⟩) (kf + 1) c) (kf + 1) (FV ++ [.int .i64 f.fr, .int .i64 f.to, v, n])) (hg : (w.alloc o).grownBy w' fv.ownBlock) (hat : fv.ownBlock = some g ∨ g = w.heap.size + 1) :
    PSt P w0 (w'.setCell ⟨P, 1, none⟩ (.slice (some ⟨g, 0, none⟩) (kf + 1) c)) v0 (.slice (some ⟨g, 0, none⟩) (kf + 1) c) qv (kf + 1) kq (FV ++ [.int .i64 f.fr, .int .i64 f.to, v, n]) V (fs ++ [f]) ps := by
  have hP := h.row.lt
  have hneP : some P ≠ fv.ownBlock := fun e => by have := (h.ownF.lt P e.symm).1; omega
  have hge : P + 1 ≤ g := (hown.lt g rfl).1
  have hs := hg.size
  rw [World.size_alloc] at hs
  have H : ∀ b, Qn P fv qv b → b < w.heap.size → Qn P (.slice (some ⟨g, 0, none⟩) (kf + 1) c) qv b ∧ b < (w'.setCell ⟨P, 1, none⟩ (.slice (some ⟨g, 0, none⟩) (kf + 1) c)).heap.size ∧ (w'.setCell ⟨P, 1, none⟩ (.slice (some ⟨g, 0, none⟩) (kf + 1) c)).heap[b]? = w.heap[b]? := fun b hb hlt => by
    have hb1 := hb.1
    refine ⟨⟨hb.1, hb.2.1, fun e => ?_⟩, by simp; omega, (blk_setCell_other _ _ _ _ (by simp; omega)).trans ((hg.block b (by simp; omega) (fun e => hb.2.2 e.symm)).trans (blk_alloc_lt _ _ _ hlt))⟩
    have e' : g = b := by simpa [Value.ownBlock] using e
    rcases hat with k | k
    · exact hb.2.2 (by rw [k, e'])
    · omega
  refine ⟨((h.row.of_block ((hg.block P (by simp; omega) hneP).trans (blk_alloc_lt _ _ _ hP))).set 1 _).congr (fun j hj => pF_one hj), ownsRow_setCell_below hown (by simp) _, ownsRow_setCell_below ((h.ownQ.alloc o).kept hg ?_) (by simp) _, fun b e => ?_, LFs.snoc (kv.mono H) (kn.mono H) (h.lf.mono H), h.lq.mono H, ?_⟩
  · cases hq : qv.ownBlock with
    | none => exact Or.inl rfl
    | some b => exact Or.inr (fun e => h.apart b e.symm hq)
  · have e' : g = b := by simpa [Value.ownBlock] using e
    subst e'
    rcases hat with k | k
    · exact h.apart g k
    · intro hq; have := (h.ownQ.lt g hq).2; omega
  · exact (Below.grown (h.bel.alloc (by omega) o) hg (by simp; omega) (fun j hj => by have := (h.ownF.lt j hj).1; omega)).setCell (by simp) _
theorem PSt.pushQ {P : Nat} {w0 w w' : World} {o : Obj} {v0 fv qv v : Value} {kf kq g c : Nat} {FV V : List Value} {fs : List Stf.Fl} {ps : List (List Int)} {p : List Int} (h : PSt P w0 w v0 fv qv kf kq FV V fs ps) (kv : LQ w (Qn P fv qv) p v)
    (hown : w'.ownsRow (P + 1) 105 1 (.slice (some ⟨g, 0, none⟩) (kq + 1) c) (kq + 1) (V ++ [v])) (hg : (w.alloc o).grownBy w' qv.ownBlock) (hat : qv.ownBlock = some g ∨ g = w.heap.size + 1) :
    PSt P w0 (w'.setCell ⟨P, 2, none⟩ (.slice (some ⟨g, 0, none⟩) (kq + 1) c)) v0 fv (.slice (some ⟨g, 0, none⟩) (kq + 1) c) kf (kq + 1) FV (V ++ [v]) fs (ps ++ [p]) := by
  have hP := h.row.lt
  have hneP : some P ≠ qv.ownBlock := fun e => by have := (h.ownQ.lt P e.symm).1; omega
  have hge : P + 1 ≤ g := (hown.lt g rfl).1
  have hs := hg.size
  rw [World.size_alloc] at hs
  have H : ∀ b, Qn P fv qv b → b < w.heap.size → Qn P fv (.slice (some ⟨g, 0, none⟩) (kq + 1) c) b ∧ b < (w'.setCell ⟨P, 2, none⟩ (.slice (some ⟨g, 0, none⟩) (kq + 1) c)).heap.size ∧ (w'.setCell ⟨P, 2, none⟩ (.slice (some ⟨g, 0, none⟩) (kq + 1) c)).heap[b]? = w.heap[b]? := fun b hb hlt => by
    have hb1 := hb.1
    refine ⟨⟨hb.1, fun e => ?_, hb.2.2⟩, by simp; omega, (blk_setCell_other _ _ _ _ (by simp; omega)).trans ((hg.block b (by simp; omega) (fun e => hb.2.1 e.symm)).trans (blk_alloc_lt _ _ _ hlt))⟩
    have e' : g = b := by simpa [Value.ownBlock] using e
    rcases hat with k | k
    · exact hb.2.1 (by rw [k, e'])
    · omega
  refine ⟨((h.row.of_block ((hg.block P (by simp; omega) hneP).trans (blk_alloc_lt _ _ _ hP))).set 2 _).congr (fun j hj => pF_two hj), ownsRow_setCell_below ((h.ownF.alloc o).kept hg ?_) (by simp) _, ownsRow_setCell_below hown (by simp) _, fun b e hq => ?_, h.lf.mono H, LQs.snoc (h.lq.mono H) (kv.mono H), ?_⟩
  · cases hq : fv.ownBlock with
    | none => exact Or.inl rfl
    | some b => exact Or.inr (fun e => h.apart b hq e.symm)
  · have e' : g = b := by simpa [Value.ownBlock] using hq
    subst e'
    rcases hat with k | k
    · exact h.apart g e k
    · have := (h.ownF.lt g e).2; omega
  · exact (Below.grown (h.bel.alloc (by omega) o) hg (by simp; omega) (fun j hj => by have := (h.ownQ.lt j hj).1; omega)).setCell (by simp) _
/-- Behind what is written into the two answers: the flows and the paths. -/
theorem PSt.fin {P A B : Nat} {w0 w : World} {v0 fv qv a0 a1 a2 b0 b1 : Value} {kf kq : Nat} {FV V : List Value} {fs : List Stf.Fl} {ps : List (List Int)} (h : PSt P w0 w v0 fv qv kf kq FV V fs ps) (hA : A < P) (hB : B < P) :
    ∃ fo fc qo qc, fv = .slice fo fs.length fc ∧ qv = .slice qo ps.length qc ∧ Fw.FlowsAt (((((w.setCell ⟨A, 0, none⟩ a0).setCell ⟨A, 1, none⟩ a1).setCell ⟨A, 2, none⟩ a2).setCell ⟨B, 0, none⟩ b0).setCell ⟨B, 1, none⟩ b1) fo fs ∧ PthsAt (((((w.setCell ⟨A, 0, none⟩ a0).setCell ⟨A, 1, none⟩ a1).setCell ⟨A, 2, none⟩ a2).setCell ⟨B, 0, none⟩ b0).setCell ⟨B, 1, none⟩ b1) qo ps := by
  have H : ∀ b, Qn P fv qv b → b < w.heap.size → Qn P fv qv b ∧ b < (((((w.setCell ⟨A, 0, none⟩ a0).setCell ⟨A, 1, none⟩ a1).setCell ⟨A, 2, none⟩ a2).setCell ⟨B, 0, none⟩ b0).setCell ⟨B, 1, none⟩ b1).heap.size ∧ (((((w.setCell ⟨A, 0, none⟩ a0).setCell ⟨A, 1, none⟩ a1).setCell ⟨A, 2, none⟩ a2).setCell ⟨B, 0, none⟩ b0).setCell ⟨B, 1, none⟩ b1).heap[b]? = w.heap[b]? := fun b hb hlt => by
    have hb1 := hb.1
    refine ⟨hb, by simpa using hlt, ?_⟩
    rw [blk_setCell_other _ _ _ _ (by simp; omega), blk_setCell_other _ _ _ _ (by simp; omega), blk_setCell_other _ _ _ _ (by simp; omega), blk_setCell_other _ _ _ _ (by simp; omega), blk_setCell_other _ _ _ _ (by simp; omega)]
  have hA' : A < P + 1 := by omega
  have hB' : B < P + 1 := by omega
  obtain ⟨fo, fc, h1, h2⟩ := flows_own (ownsRow_setCell_below (ownsRow_setCell_below (ownsRow_setCell_below (ownsRow_setCell_below (ownsRow_setCell_below h.ownF (a := ⟨A, 0, none⟩) hA' a0) (a := ⟨A, 1, none⟩) hA' a1) (a := ⟨A, 2, none⟩) hA' a2) (a := ⟨B, 0, none⟩) hB' b0) (a := ⟨B, 1, none⟩) hB' b1) (h.lf.mono H)
  obtain ⟨qo, qc, h3, h4⟩ := pths_own (ownsRow_setCell_below (ownsRow_setCell_below (ownsRow_setCell_below (ownsRow_setCell_below (ownsRow_setCell_below h.ownQ (a := ⟨A, 0, none⟩) hA' a0) (a := ⟨A, 1, none⟩) hA' a1) (a := ⟨A, 2, none⟩) hA' a2) (a := ⟨B, 0, none⟩) hB' b0) (a := ⟨B, 1, none⟩) hB' b1) (h.lq.mono H)
  exact ⟨fo, fc, qo, qc, h1, h3, h2, h4⟩
/-- The flows and the paths of a plan that is made, wherever they are looked at. -/
theorem PSt.fin3 {P : Nat} {w0 w : World} {v0 fv qv : Value} {kf kq : Nat} {FV V : List Value} {fs : List Stf.Fl} {ps : List (List Int)} (h : PSt P w0 w v0 fv qv kf kq FV V fs ps) :
    ∃ fo fc qo qc, fv = .slice fo fs.length fc ∧ qv = .slice qo ps.length qc ∧ ∀ U : World, w.heap.size ≤ U.heap.size → (∀ b, P + 1 ≤ b → b < w.heap.size → U.heap[b]? = w.heap[b]?) → Fw.FlowsAt U fo fs ∧ PthsAt U qo ps := by
  have own : ∀ (U : World) (e : TypeId) (sz : Nat) (v : Value) (n : Nat) (xs : List Value), w.ownsRow (P + 1) e sz v n xs → (∀ b, P + 1 ≤ b → b < w.heap.size → U.heap[b]? = w.heap[b]?) → U.ownsRow (P + 1) e sz v n xs := fun U e sz v n xs ho hU => by
    refine ⟨ho.1, ?_⟩
    rcases ho.2 with h2 | ⟨g, cap, cur, h1, h2, h3, h4⟩
    · exact Or.inl h2
    · exact Or.inr ⟨g, cap, cur, h1, h2, (hU g h2 (Array.getElem?_eq_some_iff.1 h3).1).trans h3, h4⟩
  obtain ⟨fo, fc, h1, _⟩ := flows_own h.ownF h.lf
  obtain ⟨qo, qc, h3, _⟩ := pths_own h.ownQ h.lq
  refine ⟨fo, fc, qo, qc, h1, h3, fun U hs hU => ?_⟩
  have H : ∀ b, Qn P fv qv b → b < w.heap.size → Qn P fv qv b ∧ b < U.heap.size ∧ U.heap[b]? = w.heap[b]? := fun b hb hlt => ⟨hb, by omega, hU b hb.1 hlt⟩
  obtain ⟨fo', fc', k1, k2⟩ := flows_own (own U _ _ _ _ _ h.ownF hU) (h.lf.mono H)
  obtain ⟨qo', qc', k3, k4⟩ := pths_own (own U _ _ _ _ _ h.ownQ hU) (h.lq.mono H)
  rw [h1] at k1
  rw [h3] at k3
  cases k1
  cases k3
  exact ⟨k2, k4⟩
theorem pst_start {W : World} {b : Nat} (h : W.heap.size = b) (v0 : Value) : PSt b W (W.alloc (.cells #[v0, .slice none 0 0, .slice none 0 0] 25)) v0 (.slice none 0 0) (.slice none 0 0) 0 0 [] [] [] [] :=
  ⟨plan_row h _ _ _, World.ownsRow_nil _ _ _ _, World.ownsRow_nil _ _ _ _, fun b e => by simp [Value.ownBlock] at e, trivial, trivial, (Below.refl _ _).alloc (by omega) _⟩
theorem rng_len : ∀ (n : Nat) (l : List Int), l.Nodup → (∀ x ∈ l, 0 ≤ x ∧ x < (n : Int)) → l.length ≤ n := by
  intro n
  induction n with
  | zero => intro l _ h; cases l with
    | nil => simp
    | cons a r => have := h a (by simp); omega
  | succ n ih =>
    intro l hd h
    have h1 := ih (l.erase (n : Int)) (hd.erase _) (fun x hx => by
      have := (hd.mem_erase_iff).1 hx
      have := h x this.2
      omega)
    have h2 : l.length ≤ (l.erase (n : Int)).length + 1 := by
      rw [List.length_erase]
      split <;> omega
    omega
theorem wflows_all {fs : List Stf.Fl} {n : Int} (h : (Stf.wflows fs n).1 = 0) : ∀ k, k < fs.length → Stf.wflow (fs.getD k Fw.f0) n = 0 := by
  unfold Stf.wflows at h
  split at h
  · cases h
  · split at h
    · rename_i k hk
      rw [Stf.firstBad] at hk
      have := List.find?_some hk
      simp at this
      exact absurd h this
    · rename_i hk
      intro j hj
      rw [Stf.firstBad, List.find?_eq_none] at hk
      have := hk j (by simpa using hj)
      simpa [Fw.f0] using this
theorem fnd_none {n : Int} {ls : List Lk} {f : Stf.Fl} (h : (wrong n ls).1 = 0) (h1 : Stf.wflow f n = 0) (h2 : find (cost ls) f.fr f.to f.via f.nt = none) : fnd n ls f = (9, []) := by
  unfold fnd
  rw [if_neg (by simp [h]), if_neg (by simp [h1]), h2]
theorem fnd_some {n : Int} {ls : List Lk} {f : Stf.Fl} {p : List Int} {c : Int} (h : (wrong n ls).1 = 0) (h1 : Stf.wflow f n = 0) (h2 : find (cost ls) f.fr f.to f.via f.nt = some (p, c)) : fnd n ls f = (0, p) := by
  unfold fnd
  rw [if_neg (by simp [h]), if_neg (by simp [h1]), h2]
/-- What comes of a plan; its lists lie in new blocks. -/
def PlanNew (w w' : World) (e : Ending) (n version : Int) (ls : List Lk) (fs : List Stf.Fl) : Prop :=
  ∃ (pv : Int) (fo : Option Addr) (fl fc : Nat) (qo : Option Addr) (ql qc : Nat), e = .returned (.tuple #[.agg #[.int .i64 pv, .slice fo fl fc, .slice qo ql qc], .agg #[.int .i64 (plnF n version ls fs).1, .int .i64 (plnF n version ls fs).2]]) ∧ Ext w w' ∧
    (((plnF n version ls fs).1 ≠ 0 ∧ pv = 0 ∧ fl = 0 ∧ ql = 0) ∨ ((plnF n version ls fs).1 = 0 ∧ pv = version ∧ fl = fs.length ∧ ql = (plnP n ls fs).length ∧ ∀ U : World, w'.heap.size ≤ U.heap.size → (∀ b, w.heap.size ≤ b → b < w'.heap.size → U.heap[b]? = w'.heap[b]?) → Fw.FlowsAt U fo fs ∧ PthsAt U qo (plnP n ls fs)))
theorem planN_bad {w w' : World} {n version : Int} {ls : List Lk} {fs : List Stf.Fl} {r : Int × Int} (h : plnF n version ls fs = r) (hr : r.1 ≠ 0) (hE : Ext w w') : PlanNew w w' (.returned (.tuple #[.agg #[.int .i64 0, .slice none 0 0, .slice none 0 0], .agg #[.int .i64 r.1, .int .i64 r.2]])) n version ls fs :=
  ⟨0, none, 0, 0, none, 0, 0, by rw [h], hE, Or.inl ⟨by rw [h]; exact hr, rfl, rfl, rfl⟩⟩
theorem PlanNew.out {w w' : World} {e : Ending} {n version : Int} {ls : List Lk} {fs : List Stf.Fl} (h : PlanNew w w' e n version ls fs) : PlanOut w w' e n version ls fs := by
  obtain ⟨pv, fo, fl, fc, qo, ql, qc, h1, h2, h3⟩ := h
  refine ⟨pv, fo, fl, fc, qo, ql, qc, h1, h2, h3.imp id (fun ⟨k1, k2, k3, k4, k5⟩ => ?_)⟩
  have := k5 w' (Nat.le_refl _) (fun _ _ _ => rfl)
  exact ⟨k1, k2, k3, this.1, k4, this.2⟩
theorem infoFl : (Try.prog.info? 91).map (fun i => (i.zero, i.size, i.bytes)) = some (some (.agg #[.int .i64 0, .int .i64 0, .slice none 0 0, .slice none 0 0]), 4, 64) := by kernel_rfl
theorem one4s (a b : Int) (o o' : Option Addr) (l c l' c' : Nat) : ∀ u ∈ [Value.int .i64 a, .int .i64 b, .slice o l c, .slice o' l' c'], u.oneCell' = true := by
  intro u hu
  simp at hu
  rcases hu with rfl | rfl | rfl | rfl <;> rfl

end Go.Proofs.Ytgffkjjddhlbpaa
