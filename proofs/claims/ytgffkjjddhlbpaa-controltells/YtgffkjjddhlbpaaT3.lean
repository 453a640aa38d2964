/- Plans in plain words, and in memory: flows and their paths. -/
import Derived.Test.YtgffkjjddhlbpaaP7a
import Derived.Test.YtgffkjjddhlbpaaT2
namespace Go.Proofs.Ytgffkjjddhlbpaa
open Go.RowKit Go.Maps Stw Go.Deep Stp

/-- A list of numbers as a value, in a block of such a kind. -/
def LQ (w : World) (Q : Nat → Prop) (ps : List Int) (v : Value) : Prop := ∃ o c, v = .slice o ps.length c ∧ (ps = [] ∨ ∃ b off, o = some ⟨b, off, none⟩ ∧ Q b ∧ b < w.heap.size ∧ IntsAt w b off ps) ∧ ps.length ≤ c
theorem LQ.mono {w w' : World} {Q Q' : Nat → Prop} {ps : List Int} {v : Value} (h : LQ w Q ps v) (H : ∀ b, Q b → b < w.heap.size → Q' b ∧ b < w'.heap.size ∧ w'.heap[b]? = w.heap[b]?) : LQ w' Q' ps v := by
  obtain ⟨o, c, h1, h2, h3⟩ := h
  refine ⟨o, c, h1, h2.imp id (fun ⟨b, off, k1, k2, k3, k4⟩ => ?_), h3⟩
  obtain ⟨r1, r2, r3⟩ := H b k2 k3
  exact ⟨b, off, k1, r1, r2, fun i hi => (World.cell?_of_block (a := ⟨b, off + i, none⟩) r3).trans (k4 i hi)⟩
theorem LQ.fv {w : World} {Q : Nat → Prop} {ps : List Int} {v : Value} (h : LQ w Q ps v) : Fw.FV w ps v := by
  obtain ⟨o, c, h1, h2, h3⟩ := h
  exact ⟨o, c, h1, h2.imp id (fun ⟨b, off, k1, _, k3, k4⟩ => ⟨b, off, k1, k3, k4⟩), h3⟩
theorem FN.lq {B : Nat} {w : World} {ps : List Int} {v : Value} (h : FN B w ps v) : LQ w (fun b => B ≤ b) ps v := h
theorem LQ.one {w : World} {Q : Nat → Prop} {ps : List Int} {v : Value} (h : LQ w Q ps v) : v.oneCell' = true := by
  obtain ⟨o, c, rfl, _⟩ := h
  rfl

def LQs (w : World) (Q : Nat → Prop) : List (List Int) → List Value → Prop
  | [], [] => True
  | p :: ps, v :: vs => LQ w Q p v ∧ LQs w Q ps vs
  | _, _ => False
theorem LQs.mono {w w' : World} {Q Q' : Nat → Prop} (H : ∀ b, Q b → b < w.heap.size → Q' b ∧ b < w'.heap.size ∧ w'.heap[b]? = w.heap[b]?) : ∀ {ps : List (List Int)} {vs : List Value}, LQs w Q ps vs → LQs w' Q' ps vs
  | [], [], _ => trivial
  | [], _ :: _, h => by cases h
  | _ :: _, [], h => by cases h
  | _ :: _, _ :: _, h => ⟨h.1.mono H, LQs.mono H h.2⟩
theorem LQs.len {w : World} {Q : Nat → Prop} : ∀ {ps : List (List Int)} {vs : List Value}, LQs w Q ps vs → vs.length = ps.length
  | [], [], _ => rfl
  | [], _ :: _, h => by cases h
  | _ :: _, [], h => by cases h
  | _ :: _, _ :: _, h => by simp [LQs.len h.2]
theorem LQs.snoc {w : World} {Q : Nat → Prop} {p : List Int} {v : Value} : ∀ {ps : List (List Int)} {vs : List Value}, LQs w Q ps vs → LQ w Q p v → LQs w Q (ps ++ [p]) (vs ++ [v])
  | [], [], _, k => ⟨k, trivial⟩
  | [], _ :: _, h, _ => by cases h
  | _ :: _, [], h, _ => by cases h
  | _ :: _, _ :: _, h, k => ⟨h.1, LQs.snoc h.2 k⟩
theorem LQs.get {w : World} {Q : Nat → Prop} : ∀ {ps : List (List Int)} {vs : List Value} {i : Nat}, LQs w Q ps vs → i < ps.length → ∃ v, vs[i]? = some v ∧ LQ w Q (ps.getD i []) v
  | [], _, _, _, hi => by simp at hi
  | _ :: _, [], _, h, _ => by cases h
  | _ :: _, v :: _, 0, h, _ => ⟨v, rfl, h.1⟩
  | _ :: _, _ :: _, i + 1, h, hi => by
    obtain ⟨v, h1, h2⟩ := LQs.get h.2 (i := i) (by simpa using hi)
    exact ⟨v, by simpa using h1, by simpa using h2⟩

/-- Paths lie at this address. -/
def PthsAt (w : World) (qo : Option Addr) (ps : List (List Int)) : Prop := ps = [] ∨ ∃ g off, qo = some ⟨g, off, none⟩ ∧ g < w.heap.size ∧ ∀ i, i < ps.length → ∃ v, w.cell? ⟨g, off + i, none⟩ = some v ∧ Fw.FV w (ps.getD i []) v
theorem PthsAt.ext {w w' : World} {qo : Option Addr} {ps : List (List Int)} (h : PthsAt w qo ps) (k : Ext w w') : PthsAt w' qo ps := by
  rcases h with h | ⟨g, off, h1, h2, h3⟩
  · exact Or.inl h
  · refine Or.inr ⟨g, off, h1, Nat.lt_of_lt_of_le h2 k.size, fun i hi => ?_⟩
    obtain ⟨v, k1, k2⟩ := h3 i hi
    exact ⟨v, (k.cells.1 _ _ h2).trans k1, k2.ext k⟩
theorem pths_own {w : World} {base n : Nat} {e : TypeId} {v : Value} {vs : List Value} {ps : List (List Int)} {Q : Nat → Prop} (h : w.ownsRow base e 1 v n vs) (hp : LQs w Q ps vs) : ∃ qo qc, v = .slice qo ps.length qc ∧ PthsAt w qo ps := by
  have hl := hp.len
  have hn : vs.length = n := by have := h.1; omega
  rcases h.2 with ⟨h1, h2⟩ | ⟨g, c, cur, hv, _⟩
  · have : ps = [] := List.eq_nil_of_length_eq_zero (by omega)
    subst this
    exact ⟨none, 0, h1, Or.inl rfl⟩
  · subst hv
    refine ⟨some ⟨g, 0, none⟩, c, by rw [← hl, hn], Or.inr ⟨g, 0, rfl, (h.lt g rfl).2, fun i hi => ?_⟩⟩
    obtain ⟨u, k1, k2⟩ := hp.get hi
    exact ⟨u, by rw [Nat.zero_add, h.cellAt i (by omega)]; exact k1, k2.fv⟩

/-- What is wrong with what a plan is asked of. -/
def plnF (n version : Int) (ls : List Lk) (fs : List Stf.Fl) : Int × Int :=
  if (wrong n ls).1 ≠ 0 then wrong n ls else if version < 1 ∨ 1000 < version then (3, 0) else if (Stf.wflows fs n).1 ≠ 0 then Stf.wflows fs n
  else match Stf.firstBad (fun k => (fnd n ls (fs.getD k Fw.f0)).1) fs.length with
    | some k => ((fnd n ls (fs.getD k Fw.f0)).1, (k : Int))
    | none => (0, 0)
/-- The paths of flows, in their order. -/
def plnP (n : Int) (ls : List Lk) (fs : List Stf.Fl) : List (List Int) := fs.map fun f => (fnd n ls f).2
theorem plnP_take {n : Int} {ls : List Lk} {fs : List Stf.Fl} {k : Nat} (h : k < fs.length) : (plnP n ls fs).take (k + 1) = (plnP n ls fs).take k ++ [(fnd n ls (fs.getD k Fw.f0)).2] := by
  have h' : k < (plnP n ls fs).length := by simpa [plnP] using h
  rw [List.take_succ_eq_append_getElem h']
  simp [plnP, List.getD_eq_getElem?_getD, h]

/-- What comes of a plan. -/
def PlanOut (w w' : World) (e : Ending) (n version : Int) (ls : List Lk) (fs : List Stf.Fl) : Prop :=
  ∃ (pv : Int) (fo : Option Addr) (fl fc : Nat) (qo : Option Addr) (ql qc : Nat), e = .returned (.tuple #[.agg #[.int .i64 pv, .slice fo fl fc, .slice qo ql qc], .agg #[.int .i64 (plnF n version ls fs).1, .int .i64 (plnF n version ls fs).2]]) ∧ Ext w w' ∧
    (((plnF n version ls fs).1 ≠ 0 ∧ pv = 0 ∧ fl = 0 ∧ ql = 0) ∨ ((plnF n version ls fs).1 = 0 ∧ pv = version ∧ fl = fs.length ∧ Fw.FlowsAt w' fo fs ∧ ql = (plnP n ls fs).length ∧ PthsAt w' qo (plnP n ls fs)))
theorem plan_bad {w w' : World} {n version : Int} {ls : List Lk} {fs : List Stf.Fl} {r : Int × Int} (h : plnF n version ls fs = r) (hr : r.1 ≠ 0) (hE : Ext w w') : PlanOut w w' (.returned (.tuple #[.agg #[.int .i64 0, .slice none 0 0, .slice none 0 0], .agg #[.int .i64 r.1, .int .i64 r.2]])) n version ls fs :=
  ⟨0, none, 0, 0, none, 0, 0, by rw [h], hE, Or.inl ⟨by rw [h]; exact hr, rfl, rfl, rfl⟩⟩

theorem infoP : (Try.prog.info? 105).map (fun i => (i.zero, i.size, i.bytes)) = some (some (.slice none 0 0), 1, 24) := by kernel_rfl

/-- A path more. -/
theorem lqs_push {w w1 w' : World} {B : Nat} {qv v' v : Value} {V : List Value} {ps : List (List Int)} {p : List Int} {ex : Nat → Prop} (hl : LQs w1 (fun b => B ≤ b ∧ qv.ownBlock ≠ some b ∧ ex b) ps V) (hp : LQ w1 (fun b => B ≤ b ∧ qv.ownBlock ≠ some b ∧ ex b) p v)
    (hs : w1.heap.size ≤ w.heap.size) (hb : ∀ b, b < w1.heap.size → w.heap[b]? = w1.heap[b]?) (hg : w.grownBy w' qv.ownBlock) (hat : v'.ownBlock = qv.ownBlock ∨ v'.ownBlock = some w.heap.size) :
    LQs w' (fun b => B ≤ b ∧ v'.ownBlock ≠ some b ∧ ex b) (ps ++ [p]) (V ++ [v]) := by
  have H : ∀ b, (B ≤ b ∧ qv.ownBlock ≠ some b ∧ ex b) → b < w1.heap.size → (B ≤ b ∧ v'.ownBlock ≠ some b ∧ ex b) ∧ b < w'.heap.size ∧ w'.heap[b]? = w1.heap[b]? := fun b hQ hlt => by
    have hs' := hg.size
    refine ⟨⟨hQ.1, fun e => ?_, hQ.2.2⟩, by omega, (hg.block b (by omega) (fun e => hQ.2.1 e.symm)).trans (hb b hlt)⟩
    rcases hat with h | h
    · exact hQ.2.1 (h.symm.trans e)
    · rw [h] at e; injection e with e; omega
  exact LQs.snoc (hl.mono H) (hp.mono H)

end Go.Proofs.Ytgffkjjddhlbpaa
