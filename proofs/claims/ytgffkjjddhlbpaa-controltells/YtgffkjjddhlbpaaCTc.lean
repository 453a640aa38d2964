/- What the document's own Begin does: the walk. -/
import Derived.Test.YtgffkjjddhlbpaaCTb
import Derived.Deep.RegionLaw
import Derived.Laws.OwnMore
import Derived.Deep.RegionHeld3
import Derived.Deep.DeepCutAuto
import Derived.Test.YtgffkjjddhlbpaaCTa
/- Numbers appended to a row of one's own; the document's own control while it is changed, in memory. -/
namespace Go.Proofs.Ytgffkjjddhlbpaa.Ct
open Go.RowKit Go.Deep Stw Stp Tb Rul

/-- Numbers in a row of one's own. -/
abbrev OwI (w : World) (base : Nat) (v : Value) (xs : List Int) : Prop := w.ownsRow base 3 1 v xs.length (xs.map (Value.int .i64))
/-- A slice of numbers. -/
structure SlI (w : World) (ao : Option Addr) (len cap : Nat) (xs : List Int) : Prop where
  hlen : xs.length = len
  hat : ListAt w ao xs
  hnil : ao = none → len = 0 ∧ cap = 0
theorem SlI.ext {w w' : World} {ao : Option Addr} {len cap : Nat} {xs : List Int} (h : SlI w ao len cap xs) (E : Ext w w') : SlI w' ao len cap xs := ⟨h.hlen, h.hat.ext E, h.hnil⟩
theorem SlI.news {w : World} {ad : Addr} {len cap : Nat} {xs : List Int} (h : SlI w (some ad) len cap xs) : ∀ j u, (xs.map (Value.int .i64))[j]? = some u → w.cell? (ad.add j) = some u := fun j u hu => by
  rcases h.hat with h0 | ⟨b, off, h1, h2, h3⟩
  · rw [h0] at hu; simp at hu
  · cases h1
    rw [List.getElem?_map] at hu
    cases hx : xs[j]? with
    | none => rw [hx] at hu; cases hu
    | some x =>
      rw [hx] at hu
      have hj : j < xs.length := (List.getElem?_eq_some_iff.1 hx).1
      have := h3 j hj
      rw [List.getD_eq_getElem?_getD, hx] at this
      simp at hu
      subst hu
      have e : (⟨b, off, none⟩ : Addr).add j = ⟨b, off + j, none⟩ := by unfold Addr.add; split <;> simp_all
      rw [e]
      simpa using this
theorem ints_one (xs : List Int) : ∀ u ∈ xs.map (Value.int .i64), u.oneCell' = true := fun u hu => by
  obtain ⟨x, _, rfl⟩ := List.mem_map.1 hu
  rfl
theorem append_ints {W : World} {base : Nat} {v : Value} {xs ys : List Int} {bo : Option Addr} {lb cb : Nat} (ho : OwI W base v xs) (hb : SlI W bo lb cb ys) (hbase : base ≤ W.heap.size) (hn : (xs.length + lb) * 8 ≤ 140737488355328) :
    ∃ v' W', (∀ ty, (Builtin.append_ #[26, 26] ty #[v, .slice bo lb cb]).run Try.prog W = .ok v' W') ∧ OwI W' base v' (xs ++ ys) ∧ W.grownBy W' v.ownBlock := by
  obtain ⟨i0, hi0, hz0, hz1, hz2⟩ := info_parts infoI
  cases bo with
  | none =>
    obtain ⟨n1, n2⟩ := hb.hnil rfl
    have hrb : ys = [] := List.eq_nil_of_length_eq_zero (hb.hlen.trans n1)
    rw [n1, n2]
    exact ⟨v, W, fun ty => run_append_owned_none (P := Try.prog) (w := W) base 26 ty 3 i0 1 Try.underlying26 hi0 v _ _ ho, by rw [hrb, List.append_nil]; exact ho, World.grownBy.refl _ _⟩
  | some ad =>
    have hlen := hb.hlen
    obtain ⟨v', W', hr, h2, h3, _⟩ := run_append_own (P := Try.prog) W base 26 26 3 i0 (.int .i64 0) 1 8 Try.underlying26 hi0 hz0 hz1 hz2 rfl (by decide) v xs.length (xs.map (Value.int .i64)) ho ad lb cb (ys.map (Value.int .i64)) (by rw [List.length_map, hlen]; omega) hb.news (ints_one ys) (by unfold maxLen; omega) hn hbase
    refine ⟨v', W', fun ty => hr, ?_, h3⟩
    unfold OwI
    rw [List.map_append, List.length_append, hlen]
    exact h2
/-- Numbers appended, at a step of a region that draws its order. -/
theorem step_append_ints {ops : Array Oper} {o : Oper} {a : Act} {W : World} {K : Act → World → Prop} {Q : Exit → Act → World → Prop} {E : Prop} (hgd : o.guard = none) (s x : Operand)
    (ho : o.op = .call { callee := .builtin .append, args := #[s, x], argTypes := #[26, 26] }) {base : Nat} {v : Value} {xs ys : List Int} {bo : Option Addr} {lb cb : Nat}
    (hs : a.eval s = v) (hx : a.eval x = .slice bo lb cb) (hro : OwI W base v xs) (hb : SlI W bo lb cb ys) (hbase : base ≤ W.heap.size) (hn : (xs.length + lb) * 8 ≤ 140737488355328)
    (h : ∀ v' W', OwI W' base v' (xs ++ ys) → W.grownBy W' v.ownBlock → K (a.put o.dst v') W') :
    if Region.wanted o (yielded ops a.tmps) = true then Oper.wp Try.prog o a W K Q else E := by
  have hw : Region.wanted o (yielded ops a.tmps) = true := by simp [Region.wanted, hgd]
  rw [if_pos hw]
  obtain ⟨v', W', hrun, h2, h3⟩ := append_ints hro hb hbase hn
  unfold Oper.wp execOp
  simp only [ho, resolve, invoke, builtin, Sem.run_bind, Sem.run_pure, Result.andThen_ok, List.map_toArray, List.map_cons, List.map_nil, hs, hx, hrun]
  exact h v' W' h2 h3
theorem OwI.form {w : World} {base : Nat} {v : Value} {xs : List Int} (h : OwI w base v xs) : ∃ ao c, v = .slice ao xs.length c ∧ ListAt w ao xs ∧ (ao = none → c = 0) := by
  rcases h.2 with ⟨h1, h2⟩ | ⟨g, c, cur, hv, _⟩
  · exact ⟨none, 0, by rw [h1, h2], Or.inl (List.eq_nil_of_length_eq_zero h2), fun _ => rfl⟩
  · subst hv
    refine ⟨some ⟨g, 0, none⟩, c, rfl, Or.inr ⟨g, 0, rfl, (h.lt g rfl).2, fun i hi => ?_⟩, fun e => by cases e⟩
    rw [Nat.zero_add, h.cellAt i (by omega)]
    simp [List.getD_eq_getElem?_getD, hi]
theorem OwI.stb {w : World} {base c : Nat} {ao : Option Addr} {n : Nat} {xs : List Int} (h : OwI w base (.slice ao n c) xs) : Stb (fun b => base ≤ b) w (fun U => ListAt U ao xs) := fun U _ hb => by
  have hu : OwI U base (.slice ao n c) xs := own_keep h hb
  obtain ⟨ao', c', e, hl, _⟩ := OwI.form hu
  injection e with e
  rw [e]; exact hl
theorem own_emptyI {w : World} {b base : Nat} (hb : base ≤ b) (h : w.heap[b]? = some (.cells #[] 3 (0, 0))) : OwI w base (.slice (some ⟨b, 0, none⟩) 0 0) [] :=
  ⟨rfl, Or.inr ⟨b, 0, #[], rfl, hb, h, Nat.le_refl _, Nat.zero_le _, rfl, rfl⟩⟩

/-- What the document's own writes not. -/
def Qr (P O : Nat) (tv : Value) (b : Nat) : Prop := b ≠ P ∧ b ≠ O ∧ tv.ownBlock ≠ some b
def Qx (Z : Nat → Prop) (P O : Nat) (tv : Value) (b : Nat) : Prop := Qr P O tv b ∧ Z b
/-- The document's own control, in block P, and what it has told, in block O. -/
structure RSt (Z : Nat → Prop) (P O : Nat) (w0 w : World) (g : Cg) (a : CA) (tv : Value) (TV : List Value) : Prop where
  box : BX w P (coL g.c a)
  obx : w.rowIs O 36 1 (fun _ => tv)
  ownT : w.ownsRow w0.heap.size 84 6 tv g.out.length TV
  tP : tv.ownBlock ≠ some P
  tO : tv.ownBlock ≠ some O
  lt : LTs w (Qx Z P O tv) g.out TV
  at_ : Stb (Qx Z P O tv) w (fun U => CoAt U g.c a)
  wn : a.wo = none → a.wc = 0
  bel : Ext w0 w
  hP : w0.heap.size ≤ P
  hO : w0.heap.size ≤ O
  ne : P ≠ O
  new : ∀ b, w.heap.size ≤ b → Z b
/-- What is kept. -/
structure RKp (P O : Nat) (w : World) (tv : Value) (w' : World) (tv' : Value) : Prop where
  size : w.heap.size ≤ w'.heap.size
  block : ∀ b, Qr P O tv b → b < w.heap.size → Qr P O tv' b ∧ w'.heap[b]? = w.heap[b]?
theorem RKp.hx {Z : Nat → Prop} {P O : Nat} {w w' : World} {tv tv' : Value} (k : RKp P O w tv w' tv') : ∀ b, Qx Z P O tv b → b < w.heap.size → Qx Z P O tv' b ∧ b < w'.heap.size ∧ w'.heap[b]? = w.heap[b]? := fun b hb hlt => ⟨⟨(k.block b hb.1 hlt).1, hb.2⟩, Nat.lt_of_lt_of_le hlt k.size, (k.block b hb.1 hlt).2⟩
theorem RKp.ext {P O : Nat} {w w' : World} {tv : Value} (E : Ext w w') : RKp P O w tv w' tv := ⟨E.size, fun b hb hlt => ⟨hb, Below.block E b hlt⟩⟩
theorem RKp.trans {P O : Nat} {w w1 w2 : World} {tv tv1 tv2 : Value} (h : RKp P O w tv w1 tv1) (k : RKp P O w1 tv1 w2 tv2) : RKp P O w tv w2 tv2 :=
  ⟨Nat.le_trans h.size k.size, fun b hb hlt => by
    obtain ⟨q1, e1⟩ := h.block b hb hlt
    obtain ⟨q2, e2⟩ := k.block b q1 (Nat.lt_of_lt_of_le hlt h.size)
    exact ⟨q2, e2.trans e1⟩⟩
theorem Stb.keep {Z : Nat → Prop} {P O : Nat} {w w' : World} {tv tv' : Value} {D : World → Prop} (h : Stb (Qx Z P O tv) w D) (k : RKp P O w tv w' tv') : Stb (Qx Z P O tv') w' D :=
  fun U hU kU => h U (Nat.le_trans k.size hU) (fun b hb hlt => (kU b ⟨(k.block b hb.1 hlt).1, hb.2⟩ (Nat.lt_of_lt_of_le hlt k.size)).trans (k.block b hb.1 hlt).2)
theorem RSt.ext {Z : Nat → Prop} {P O : Nat} {w0 w w' : World} {g : Cg} {a : CA} {tv : Value} {TV : List Value} (h : RSt Z P O w0 w g a tv TV) (E : Ext w w') : RSt Z P O w0 w' g a tv TV :=
  ⟨World.rowIs.of_block h.box (Below.block E _ (World.rowIs.lt h.box)), h.obx.of_block (Below.block E _ h.obx.lt), own_extU h.ownT E, h.tP, h.tO, h.lt.mono (RKp.ext E).hx, h.at_.ext E, h.wn, h.bel.trans E, h.hP, h.hO, h.ne, fun b hb => h.new b (Nat.le_trans E.size hb)⟩
/-- The control's box is written. -/
theorem RSt.redo {Z : Nat → Prop} {P O : Nat} {w0 w w' : World} {g g' : Cg} {a a' : CA} {tv : Value} {TV : List Value} (h : RSt Z P O w0 w g a tv TV) (hbox : BX w' P (coL g'.c a')) (hK : ∀ b, b ≠ P → b < w.heap.size → w'.heap[b]? = w.heap[b]?) (hs : w.heap.size ≤ w'.heap.size) (hE : Ext w0 w') (ho : g'.out = g.out) (hat : Stb (Qx Z P O tv) w' (fun U => CoAt U g'.c a')) (hwn : a'.wo = none → a'.wc = 0) : RSt Z P O w0 w' g' a' tv TV ∧ RKp P O w tv w' tv := by
  have hk : RKp P O w tv w' tv := ⟨hs, fun b hb hlt => ⟨hb, hK b hb.1 hlt⟩⟩
  refine ⟨⟨hbox, h.obx.of_block (hK O (Ne.symm h.ne) h.obx.lt), ?_, h.tP, h.tO, by rw [ho]; exact h.lt.mono hk.hx, hat, hwn, hE, h.hP, h.hO, h.ne, fun b hb => h.new b (Nat.le_trans hs hb)⟩, hk⟩
  rw [ho]
  refine ⟨h.ownT.1, ?_⟩
  rcases h.ownT.2 with h2 | ⟨b, cap, cur, h1, h2, h3, h4⟩
  · exact Or.inl h2
  · exact Or.inr ⟨b, cap, cur, h1, h2, (hK b (fun e => h.tP (by rw [h1, e]; rfl)) (Array.getElem?_eq_some_iff.1 h3).1).trans h3, h4⟩
/-- One more that was told. -/
theorem RSt.pushT {Z : Nat → Prop} {P O g1 c : Nat} {w0 w w' : World} {g : Cg} {a : CA} {tv rv fv : Value} {TV : List Value} {x : Nat × Wir.Od} {o : Obj} (h : RSt Z P O w0 w g a tv TV) (kr : RQ w (Qx Z P O tv) x.2.rs rv) (kf : LQ w (Qx Z P O tv) x.2.fs fv)
    (hown : w'.ownsRow w0.heap.size 84 6 (.slice (some ⟨g1, 0, none⟩) (g.out.length + 1) c) (g.out.length + 1) (TV ++ [.int .i64 (x.1 : Int), .int .i64 x.2.k, .int .i64 x.2.n, .int .i64 x.2.v, rv, fv])) (hg : (w.alloc o).grownBy w' tv.ownBlock) (hat : tv.ownBlock = some g1 ∨ g1 = w.heap.size + 1) :
    w'.cell? ⟨O, 0, none⟩ = some tv ∧ w'.frozen? ⟨O, 0, none⟩ = false ∧ RSt Z P O w0 (w'.setCell ⟨O, 0, none⟩ (.slice (some ⟨g1, 0, none⟩) (g.out.length + 1) c)) ⟨g.c, g.out ++ [x]⟩ a (.slice (some ⟨g1, 0, none⟩) (g.out.length + 1) c) (TV ++ [.int .i64 (x.1 : Int), .int .i64 x.2.k, .int .i64 x.2.n, .int .i64 x.2.v, rv, fv]) ∧
    RKp P O w tv (w'.setCell ⟨O, 0, none⟩ (.slice (some ⟨g1, 0, none⟩) (g.out.length + 1) c)) (.slice (some ⟨g1, 0, none⟩) (g.out.length + 1) c) := by
  have hOl := h.obx.lt
  have hPl := World.rowIs.lt h.box
  have hs := hg.size
  rw [World.size_alloc] at hs
  have hneO : some O ≠ tv.ownBlock := fun e => h.tO e.symm
  have hneP : some P ≠ tv.ownBlock := fun e => h.tP e.symm
  have hbO : w'.heap[O]? = w.heap[O]? := (hg.block O (by simp; omega) hneO).trans (blk_alloc_lt _ _ _ hOl)
  have hr := h.obx.of_block hbO
  have gO : g1 ≠ O := fun e => by
    rcases hat with k | k
    · exact h.tO (by rw [k, e])
    · omega
  have gP : g1 ≠ P := fun e => by
    rcases hat with k | k
    · exact h.tP (by rw [k, e])
    · omega
  have hK : ∀ b, b < w.heap.size → b ≠ O → tv.ownBlock ≠ some b → (w'.setCell ⟨O, 0, none⟩ (.slice (some ⟨g1, 0, none⟩) (g.out.length + 1) c)).heap[b]? = w.heap[b]? := fun b hlt hb hne =>
    (blk_setCell_other _ _ _ _ (by simpa using hb)).trans ((hg.block b (by simp; omega) (fun e => hne e.symm)).trans (blk_alloc_lt _ _ _ hlt))
  have hk : RKp P O w tv (w'.setCell ⟨O, 0, none⟩ (.slice (some ⟨g1, 0, none⟩) (g.out.length + 1) c)) (.slice (some ⟨g1, 0, none⟩) (g.out.length + 1) c) := ⟨by simp; omega, fun b hb hlt => ⟨⟨hb.1, hb.2.1, fun e => by
    have e' : g1 = b := by simpa [Value.ownBlock] using e
    rcases hat with k | k
    · exact hb.2.2 (by rw [k, e'])
    · omega⟩, hK b hlt hb.2.1 hb.2.2⟩⟩
  refine ⟨hr.cell (i := 0) (by omega), hr.frozen 0, ⟨World.rowIs.of_block h.box (hK P hPl h.ne h.tP), (hr.set 0 _).congr (fun j hj => by simp; intro h; omega), ?_, fun e => gP (by simpa [Value.ownBlock] using e), fun e => gO (by simpa [Value.ownBlock] using e), LTs.snoc (kr.mono hk.hx) (kf.mono hk.hx) (h.lt.mono hk.hx), h.at_.keep hk, h.wn, ?_, h.hP, h.hO, h.ne, fun b hb => h.new b (by simp at hb; omega)⟩, hk⟩
  · simp only [List.length_append, List.length_cons, List.length_nil]
    refine ⟨hown.1, ?_⟩
    rcases hown.2 with ⟨h1, h2⟩ | ⟨b, cap, cur, e1, e2, e3, e4⟩
    · cases h1
    · cases e1
      exact Or.inr ⟨g1, c, cur, rfl, e2, (blk_setCell_other _ _ _ _ (by simpa using gO)).trans e3, e4⟩
  · exact (Below.grown (h.bel.alloc o) hg (by have := h.bel.size; simp; omega) (fun j hj => (h.ownT.lt j hj).1)).setCell (by simpa using h.hO) _

end Go.Proofs.Ytgffkjjddhlbpaa.Ct

/- What the document's own Tell does. -/
namespace Go.Proofs.Ytgffkjjddhlbpaa.Ct
open Go.RowKit Go.Deep Stw Stp Tb Rul

theorem infoRT : (Try.prog.info? 84).map (fun i => (i.zero, i.size, i.bytes)) = some (some (.agg #[.int .i64 0, .int .i64 0, .int .i64 0, .int .i64 0, .slice none 0 0, .slice none 0 0]), 6, 80) := by kernel_rfl
/-- Behind Tell. -/
def TlOut (Z : Nat → Prop) (P O : Nat) (w0 w : World) (G : Cg) (tv : Value) (e : Ending) (w' : World) : Prop := e = .returned (.tuple #[]) ∧ ∃ a' tv' TV', RSt Z P O w0 w' G a' tv' TV' ∧ RKp P O w tv w' tv'

/-- The number that follows is written. -/
theorem RSt.num {Z : Nat → Prop} {P O : Nat} {w0 w : World} {st num m : Int} {now nxt : Pl} {wts : List Int} {out : List (Nat × Wir.Od)} {a : CA} {tv : Value} {TV : List Value} (h : RSt Z P O w0 w ⟨⟨st, now, nxt, num, wts⟩, out⟩ a tv TV) (o : Obj) :
    RSt Z P O w0 ((w.setCell ⟨P, 7, none⟩ (.int .i64 m)).alloc o) ⟨⟨st, now, nxt, m, wts⟩, out⟩ a tv TV ∧ RKp P O w tv ((w.setCell ⟨P, 7, none⟩ (.int .i64 m)).alloc o) tv := by
  have hPl := World.rowIs.lt h.box
  have hK : ∀ b, b ≠ P → (w.setCell ⟨P, 7, none⟩ (.int .i64 m)).heap[b]? = w.heap[b]? := fun b hb => blk_setCell_other _ _ _ _ (by simpa using hb)
  have hbx : BX (w.setCell ⟨P, 7, none⟩ (.int .i64 m)) P (coL ⟨st, now, nxt, m, wts⟩ a) := by
    have e : (coL ⟨st, now, nxt, num, wts⟩ a).set 7 (.int .i64 m) = coL ⟨st, now, nxt, m, wts⟩ a := rfl
    rw [← e]
    exact BX.set h.box (i := 7) (by simp [coL]) _
  obtain ⟨h1, h2⟩ := h.redo (g' := ⟨⟨st, now, nxt, m, wts⟩, out⟩) (a' := a) (w' := w.setCell ⟨P, 7, none⟩ (.int .i64 m)) hbx (fun b hb _ => hK b hb) (by simp) (h.bel.setCell (by simpa using h.hP) _) rfl ((h.at_.step (by simp) (fun b hb _ => hK b hb.1.1)).imp (fun U k => ⟨k.hn, k.hx, k.hw⟩)) h.wn
  exact ⟨h1.ext ((Ext.refl _).alloc o), h2.trans (RKp.ext ((Ext.refl _).alloc o))⟩
/-- One more that is waited for. -/
theorem RSt.pushW {Z : Nat → Prop} {P O c5 : Nat} {w0 X w4 : World} {st num : Int} {now nxt : Pl} {wts L : List Int} {out : List (Nat × Wir.Od)} {a : CA} {tv : Value} {TV : List Value} {ao5 : Option Addr} (h : RSt Z P O w0 X ⟨⟨st, now, nxt, num, wts⟩, out⟩ a tv TV) (mk4 : Ext X w4) (h4 : OwI w4 X.heap.size (.slice ao5 L.length c5) L) (hn5 : ao5 = none → c5 = 0) :
    RSt Z P O w0 (w4.setCell ⟨P, 8, none⟩ (.slice ao5 L.length c5)) ⟨⟨st, now, nxt, num, L⟩, out⟩ ⟨a.n, a.x, ao5, c5⟩ tv TV ∧ RKp P O X tv (w4.setCell ⟨P, 8, none⟩ (.slice ao5 L.length c5)) tv := by
  have h' := h.ext mk4
  have hPl := World.rowIs.lt h.box
  have hOl := h.obx.lt
  have hs4 := mk4.size
  have hK : ∀ b, b ≠ P → (w4.setCell ⟨P, 8, none⟩ (.slice ao5 L.length c5)).heap[b]? = w4.heap[b]? := fun b hb => blk_setCell_other _ _ _ _ (by simpa using hb)
  have hbx : BX (w4.setCell ⟨P, 8, none⟩ (.slice ao5 L.length c5)) P (coL ⟨st, now, nxt, num, L⟩ ⟨a.n, a.x, ao5, c5⟩) := by
    have e : (coL ⟨st, now, nxt, num, wts⟩ a).set 8 (.slice ao5 L.length c5) = coL ⟨st, now, nxt, num, L⟩ ⟨a.n, a.x, ao5, c5⟩ := rfl
    rw [← e]
    exact BX.set h'.box (i := 8) (by simp [coL]) _
  have hl : Stb (Qx Z P O tv) (w4.setCell ⟨P, 8, none⟩ (.slice ao5 L.length c5)) (fun U => ListAt U ao5 L) :=
    ((OwI.stb h4).more (Y' := Qx Z P O tv) (fun b h1 h2 => ⟨⟨by omega, by omega, fun e => by have := (h.ownT.lt b e).2; omega⟩, h.new b h1⟩)).step (by simp) (fun b hb _ => hK b hb.1.1)
  have hc := h'.at_.step (w' := w4.setCell ⟨P, 8, none⟩ (.slice ao5 L.length c5)) (by simp) (fun b hb _ => hK b hb.1.1)
  obtain ⟨h1, h2⟩ := h'.redo (g' := ⟨⟨st, now, nxt, num, L⟩, out⟩) (a' := ⟨a.n, a.x, ao5, c5⟩) (w' := w4.setCell ⟨P, 8, none⟩ (.slice ao5 L.length c5)) hbx (fun b hb _ => hK b hb) (by simp) (h'.bel.setCell (by simpa using h.hP) _) rfl ((hc.and hl).imp (fun U k => ⟨k.1.hn, k.1.hx, k.2⟩)) hn5
  exact ⟨h1, (RKp.ext mk4).trans h2⟩

set_option maxRecDepth 100000 in
set_option maxHeartbeats 4000000 in
theorem refTell_any (Z : Nat → Prop) (P O s : Nat) (ok on ov : Int) (rs : List Ru) (fs : List Int) (ro fo : Option Addr) (rl rc fl fc : Nat) (w0 w : World) (g : Cg) (a : CA) (tv : Value) (TV : List Value) (h : RSt Z P O w0 w g a tv TV) (kr : RQ w (Qx Z P O tv) rs (.slice ro rl rc)) (kf : LQ w (Qx Z P O tv) fs (.slice fo fl fc)) (hwl : g.c.wts.length ≤ 16777216) (hol : g.out.length ≤ 100) :
    Calls Try.prog 29 #[.pointer (some ⟨P, 0, none⟩), .pointer (some ⟨O, 0, none⟩), .int .i64 s, .agg #[.int .i64 ok, .int .i64 on, .int .i64 ov, .slice ro rl rc, .slice fo fl fc]] w fun e w' => TlOut Z P O w0 w ⟨⟨g.c.st, g.c.now, g.c.nxt, nx g.c.num, g.c.wts ++ [nx g.c.num]⟩, g.out ++ [(s, ⟨ok, nx g.c.num, ov, rs, fs⟩)]⟩ tv e w' := by
  obtain ⟨⟨st, now, nxt, num, wts⟩, out⟩ := g
  simp only at hwl hol ⊢
  obtain ⟨m, hm⟩ : ∃ m, nx num = m := ⟨_, rfl⟩
  rw [hm]
  have hm' : IntKind.i64.wrap (num + 1) = m := hm
  have c7 : w.cell? ⟨P, 7, none⟩ = some (.int .i64 num) := World.rowIs.cell h.box (i := 7) (by omega)
  have z7 := World.rowIs.frozen h.box 7
  have hPl := World.rowIs.lt h.box
  have HR := hidp h
  have HKR := hidp (And.intro kr kf)
  clear h kr kf hm
  go_enter Try.func29, Try.ntmps29
  go_upto_region 3 with fail
  obtain ⟨X, hX⟩ : ∃ X, X = (w.setCell ⟨P, 7, none⟩ (.int .i64 m)).alloc (.cells #[.int .i64 ok, .int .i64 m, .int .i64 ov, .slice ro rl rc, .slice fo fl fc] 56) := ⟨_, rfl⟩
  have HRX : Hid (RSt Z P O w0 X ⟨⟨st, now, nxt, m, wts⟩, out⟩ a tv TV ∧ RKp P O w tv X tv) := by rw [hX]; exact HR.out.num _
  have HBX : Hid (X.heap[w.heap.size]? = some (.cells #[.int .i64 ok, .int .i64 m, .int .i64 ov, .slice ro rl rc, .slice fo fl fc] 56 (0, 0)) ∧ w.heap.size < X.heap.size ∧ Qr P O tv w.heap.size) := by
    refine ⟨?_, by rw [hX]; simp, by omega, by have := HR.out.obx.lt; omega, fun e => by have := (HR.out.ownT.lt _ e).2; omega⟩
    rw [hX]
    have := blk_alloc_new (w.setCell ⟨P, 7, none⟩ (.int .i64 m)) (.cells #[.int .i64 ok, .int .i64 m, .int .i64 ov, .slice ro rl rc, .slice fo fl fc] 56)
    rwa [show (w.setCell ⟨P, 7, none⟩ (.int .i64 m)).heap.size = w.heap.size by simp] at this
  rw [← hX]
  clear hX c7 z7
  have HSX : Hid (∀ V, Ext X V → V.cell? ⟨P, 7, none⟩ = some (.int .i64 m) ∧ V.cell? ⟨P, 8, none⟩ = some (.slice a.wo wts.length a.wc) ∧ V.frozen? ⟨P, 8, none⟩ = false) := fun V hV => by
    have q := (HRX.out.1.ext hV).box
    exact ⟨World.rowIs.cell q (i := 7) (by omega), World.rowIs.cell q (i := 8) (by omega), World.rowIs.frozen q 8⟩
  have HSL : Hid (SlI X a.wo wts.length a.wc wts) := by
    have hw := HRX.out.1.at_.at.hw
    refine ⟨rfl, hw, fun e => ⟨?_, HRX.out.1.wn e⟩⟩
    rcases hw with h0 | ⟨b, off, h1, _⟩
    · simp only at h0; rw [h0]; rfl
    · rw [e] at h1; cases h1
  have hPX : P < X.heap.size := World.rowIs.lt HRX.out.1.box
  have h0 : Ext X X.drew := (Ext.refl X).drew
  have hA : Ext X (X.alloc (.cells #[] 3)).drew := ((Ext.refl X).alloc _).drew
  have hB : Ext X (X.alloc (.cells #[.int .i64 m] 3)).drew := ((Ext.refl X).alloc _).drew
  have hAB : Ext X ((X.alloc (.cells #[] 3)).alloc (.cells #[.int .i64 m] 3)).drew := (((Ext.refl X).alloc _).alloc _).drew
  have hBA : Ext X ((X.alloc (.cells #[.int .i64 m] 3)).alloc (.cells #[] 3)).drew := (((Ext.refl X).alloc _).alloc _).drew
  have HFIN : Hid (∀ (w4 : World) (ao5 : Option Addr) (c5 : Nat), Ext X w4 → OwI w4 X.heap.size (.slice ao5 ([] ++ wts ++ [m]).length c5) ([] ++ wts ++ [m]) → (ao5 = none → c5 = 0) → (∃ a', RSt Z P O w0 (w4.setCell ⟨P, 8, none⟩ (.slice ao5 (wts.length + 1) c5)) ⟨⟨st, now, nxt, m, wts ++ [m]⟩, out⟩ a' tv TV ∧ RKp P O X tv (w4.setCell ⟨P, 8, none⟩ (.slice ao5 (wts.length + 1) c5)) tv) ∧ (w4.setCell ⟨P, 8, none⟩ (.slice ao5 (wts.length + 1) c5)).cell? ⟨P, 7, none⟩ = some (.int .i64 m) ∧ w4.cell? ⟨P, 8, none⟩ = some (.slice a.wo wts.length a.wc) ∧ w4.frozen? ⟨P, 8, none⟩ = false) := fun w4 ao5 c5 mk4 h4 hn5 => by
    have h1 := HRX.out.1.pushW (L := wts ++ [m]) mk4 h4 hn5
    rw [show (wts ++ [m]).length = wts.length + 1 by simp] at h1
    exact ⟨⟨_, h1⟩, World.rowIs.cell h1.1.box (i := 7) (by omega), (HSX.out w4 mk4).2⟩
  obtain ⟨c7, c8, z8⟩ := HSX.out X (Ext.refl X)
  go_cut [] (fun wx => Hid (∃ a', RSt Z P O w0 wx ⟨⟨st, now, nxt, m, wts ++ [m]⟩, out⟩ a' tv TV ∧ RKp P O X tv wx tv))
  case first =>
    have roA : Hid (OwI (X.alloc (.cells #[] 3)).drew X.heap.size (.slice (some ⟨X.heap.size, 0, none⟩) 0 0) []) := own_emptyI (Nat.le_refl _) (by rw [drew_heap]; exact blk_alloc_new X _)
    have roB : Hid (OwI ((X.alloc (.cells #[] 3)).alloc (.cells #[.int .i64 m] 3)).drew X.heap.size (.slice (some ⟨X.heap.size, 0, none⟩) 0 0) []) := own_emptyI (Nat.le_refl _) (by rw [drew_heap]; exact (blk_alloc_lt _ _ _ (by simp)).trans (blk_alloc_new X _))
    have roC : Hid (OwI ((X.alloc (.cells #[.int .i64 m] 3)).alloc (.cells #[] 3)).drew X.heap.size (.slice (some ⟨X.heap.size + 1, 0, none⟩) 0 0) []) := own_emptyI (by omega) (by
      rw [drew_heap]
      have := blk_alloc_new (X.alloc (.cells #[.int .i64 m] 3)) (.cells #[] 3)
      rwa [World.size_alloc] at this)
    have okOf : ∀ (Y : World) (b : Nat), Y.heap[b]? = some (.cells #[.int .i64 m] 3 (0, 0)) → SlI Y (some ⟨b, 0, none⟩) 1 1 [m] := fun Y b hY =>
      ⟨rfl, Or.inr ⟨b, 0, rfl, (Array.getElem?_eq_some_iff.1 hY).1, fun k hk => by
        have hk0 : k = 0 := by simpa using hk
        subst hk0
        simp [World.cell?, hY]⟩, fun h => by cases h⟩
    have okNew : Hid (∀ W : World, SlI (W.alloc (.cells #[.int .i64 m] 3)) (some ⟨W.heap.size, 0, none⟩) 1 1 [m]) := fun W => okOf _ _ (blk_alloc_new W _)
    have okrB : Hid (∀ Y : World, ((X.alloc (.cells #[] 3)).alloc (.cells #[.int .i64 m] 3)).drew.grownBy Y (some X.heap.size) → SlI Y (some ⟨X.heap.size + 1, 0, none⟩) 1 1 [m]) := fun Y hY => okOf Y _ (by
      rw [hY.block (X.heap.size + 1) (by simp) (by simp), drew_heap]
      have := blk_alloc_new (X.alloc (.cells #[] 3)) (.cells #[.int .i64 m] 3)
      rwa [World.size_alloc] at this)
    have okrC : Hid (∀ Y : World, ((X.alloc (.cells #[.int .i64 m] 3)).alloc (.cells #[] 3)).drew.grownBy Y (some (X.heap.size + 1)) → SlI Y (some ⟨X.heap.size, 0, none⟩) 1 1 [m]) := fun Y hY => okOf Y _ (by
      rw [hY.block X.heap.size (by simp; omega) (by simp), drew_heap]
      exact (blk_alloc_lt _ _ _ (by simp)).trans (blk_alloc_new X _))
    clear okOf
    go_region_law
      (first
      | (have _t := mkB
         refine step_append_ints (base := X.heap.size) (xs := [] ++ wts) (ys := [m]) rfl (.tmp 27) (.tmp 32) rfl rfl rfl ?_ ?_ ?_ ?_ ?_
         · exact hO3
         · exact okR3
         · exact mk3.size
         · first | (simp; done) | (simp; omega)
         intro v4 w4 hO4 hg4
         have mk4 : Ext X w4 := Below.grown mk3 hg4 mk3.size (fun j hj => (hO3.lt j hj).1)
         obtain ⟨ao5, c5, rfl, _, hn5⟩ := OwI.form hO4
         have hq := HFIN.out w4 ao5 c5 mk4 hO4 hn5
         have HG := hidp (And.intro hq.1 hq.2.1)
         have y8 := hq.2.2.1
         have y9 := hq.2.2.2
         clear hO3 hg4 hO4 hq)
      | (have _t := mkA
         refine step_append_ints (base := X.heap.size) (xs := [] ++ wts) (ys := [m]) rfl (.tmp 27) (.tmp 32) rfl rfl rfl ?_ ?_ ?_ ?_ ?_
         · exact own_extU hO3 ((Ext.refl w3).alloc _)
         · exact okNew.out w3
         · have := mk3.size; simp; omega
         · first | (simp; done) | (simp; omega)
         intro v4 w4 hO4 hg4
         have mk4 : Ext X w4 := Below.grown (mk3.alloc _) hg4 (by have := mk3.size; simp; omega) (fun j hj => (hO3.lt j hj).1)
         obtain ⟨ao5, c5, rfl, _, hn5⟩ := OwI.form hO4
         have hq := HFIN.out w4 ao5 c5 mk4 hO4 hn5
         have HG := hidp (And.intro hq.1 hq.2.1)
         have y8 := hq.2.2.1
         have y9 := hq.2.2.2
         clear hO3 hg4 hO4 hq)
      | (refine step_append_ints (W := (X.alloc (.cells #[] 3)).drew) (base := X.heap.size) (xs := []) (ys := wts) rfl (.tmp 22) (.tmp 26) rfl rfl rfl ?_ ?_ ?_ ?_ ?_
         · exact roA.out
         · exact HSL.out.ext hA
         · first | (simp; done) | (simp; omega)
         · first | (simp; done) | (simp; omega)
         intro v3 w3 hO3 hg3
         have mk3 : Ext X w3 := Below.grown hA hg3 (by first | (simp; done) | (simp; omega)) (fun j hj => (roA.out.lt j hj).1)
         obtain ⟨x7, x8, x9⟩ := HSX.out w3 mk3
         have mkA : True := trivial
         clear hg3)
      | (refine step_append_ints (W := ((X.alloc (.cells #[] 3)).alloc (.cells #[.int .i64 m] 3)).drew) (base := X.heap.size) (xs := []) (ys := wts) rfl (.tmp 22) (.tmp 26) rfl rfl rfl ?_ ?_ ?_ ?_ ?_
         · exact roB.out
         · exact HSL.out.ext hAB
         · first | (simp; done) | (simp; omega)
         · first | (simp; done) | (simp; omega)
         intro v3 w3 hO3 hg3
         have mk3 : Ext X w3 := Below.grown hAB hg3 (by first | (simp; done) | (simp; omega)) (fun j hj => (roB.out.lt j hj).1)
         obtain ⟨x7, x8, x9⟩ := HSX.out w3 mk3
         have okR3 : SlI w3 (some ⟨X.heap.size + 1, 0, none⟩) 1 1 [m] := okrB.out w3 hg3
         have mkB : True := trivial
         clear hg3)
      | (refine step_append_ints (W := ((X.alloc (.cells #[.int .i64 m] 3)).alloc (.cells #[] 3)).drew) (base := X.heap.size) (xs := []) (ys := wts) rfl (.tmp 22) (.tmp 26) rfl rfl rfl ?_ ?_ ?_ ?_ ?_
         · exact roC.out
         · exact HSL.out.ext hBA
         · first | (simp; done) | (simp; omega)
         · first | (simp; done) | (simp; omega)
         intro v3 w3 hO3 hg3
         have mk3 : Ext X w3 := Below.grown hBA hg3 (by first | (simp; done) | (simp; omega)) (fun j hj => (roC.out.lt j hj).1)
         obtain ⟨x7, x8, x9⟩ := HSX.out w3 mk3
         have okR3 : SlI w3 (some ⟨X.heap.size, 0, none⟩) 1 1 [m] := okrC.out w3 hg3
         have mkB : True := trivial
         clear hg3))
    all_goals
      go_wp2_with fail
      go_meet
      exact HG.out.1
  case rest =>
    obtain ⟨a', hR', hK'⟩ := hcut.out
    obtain ⟨w8, hw8⟩ : ∃ w8, w8 = wc := ⟨_, rfl⟩
    subst hw8
    have HR8 := hidp hR'
    have HK8 := hidp (HRX.out.2.trans hK')
    have hb := (hK'.block w.heap.size HBX.out.2.2 HBX.out.2.1).2.trans HBX.out.1
    have hb8 : w.heap.size < w8.heap.size := Nat.lt_of_lt_of_le HBX.out.2.1 hK'.size
    have q0 : w8.cell? ⟨O, 0, none⟩ = some tv := hR'.obx.cell (i := 0) (by omega)
    have hOl := hR'.obx.lt
    have o0 : w8.cell? ⟨w.heap.size, 0, none⟩ = some (.int .i64 ok) := box_cell hb 0
    have o1 : w8.cell? ⟨w.heap.size, 1, none⟩ = some (.int .i64 m) := box_cell hb 1
    have o2 : w8.cell? ⟨w.heap.size, 2, none⟩ = some (.int .i64 ov) := box_cell hb 2
    have o3 : w8.cell? ⟨w.heap.size, 3, none⟩ = some (.slice ro rl rc) := box_cell hb 3
    have o4 : w8.cell? ⟨w.heap.size, 4, none⟩ = some (.slice fo fl fc) := box_cell hb 4
    clear hcut hR' hK' hb HR HRX HBX HSX HSL HFIN hA hB hAB hBA h0 c7 c8 z8 hPX
    obtain ⟨j0, hj0, hy0, hy1, hy2⟩ := info_parts infoRT
    have HFIN : Hid (∀ (g6 gc6 : Nat) (w6 : World), w6.ownsRow w0.heap.size 84 6 (.slice (some ⟨g6, 0, none⟩) (out.length + 1) gc6) (out.length + 1) (TV ++ [.int .i64 (s : Int), .int .i64 ok, .int .i64 m, .int .i64 ov, .slice ro rl rc, .slice fo fl fc]) → (w8.alloc (.cells #[.int .i64 (s : Int), .int .i64 ok, .int .i64 m, .int .i64 ov, .slice ro rl rc, .slice fo fl fc] 84)).grownBy w6 tv.ownBlock → (tv.ownBlock = some g6 ∨ g6 = w8.heap.size + 1) →
        w6.cell? ⟨O, 0, none⟩ = some tv ∧ w6.frozen? ⟨O, 0, none⟩ = false ∧ Hid (RSt Z P O w0 (w6.setCell ⟨O, 0, none⟩ (.slice (some ⟨g6, 0, none⟩) (out.length + 1) gc6)) ⟨⟨st, now, nxt, m, wts ++ [m]⟩, out ++ [(s, ⟨ok, m, ov, rs, fs⟩)]⟩ a' (.slice (some ⟨g6, 0, none⟩) (out.length + 1) gc6) (TV ++ [.int .i64 (s : Int), .int .i64 ok, .int .i64 m, .int .i64 ov, .slice ro rl rc, .slice fo fl fc]) ∧ RKp P O w tv (w6.setCell ⟨O, 0, none⟩ (.slice (some ⟨g6, 0, none⟩) (out.length + 1) gc6)) (.slice (some ⟨g6, 0, none⟩) (out.length + 1) gc6))) := fun g6 gc6 w6 hown6 hgr6 hat6 => by
      obtain ⟨r1, r2, r3, r4⟩ := HR8.out.pushT (x := (s, ⟨ok, m, ov, rs, fs⟩)) (HKR.out.1.mono HK8.out.hx) (HKR.out.2.mono HK8.out.hx) hown6 hgr6 hat6
      exact ⟨r1, r2, r3, HK8.out.trans r4⟩
    go_upto_region 4 with fail
    go_region_law
      (refine step_append_lies _ ?_ (.tmp 39) (.tmp 43) 36 ?_ w0.heap.size 84 j0 (.agg #[.int .i64 0, .int .i64 0, .int .i64 0, .int .i64 0, .slice none 0 0, .slice none 0 0]) 6 80 Try.underlying36 hj0 hy0 hy1 hy2 rfl (by decide) tv out.length TV ?_ ?_ ⟨w8.heap.size, 0, none⟩ 1 1 [.int .i64 (s : Int), .int .i64 ok, .int .i64 m, .int .i64 ov, .slice ro rl rc, .slice fo fl fc] ?_ ?_ ?_ (one6s _ _ _ _ _ _ _ _ _ _) ?_ ?_ ?_ ?_ _ rfl ?_
       · rfl
       · rfl
       · rfl
       · exact own_extU HR8.out.ownT ((Ext.refl w8).alloc _).drew
       · rfl
       · rfl
       · exact World.news_of_block (cs := #[.int .i64 (s : Int), .int .i64 ok, .int .i64 m, .int .i64 ov, .slice ro rl rc, .slice fo fl fc]) (blk_alloc_new w8 _)
       · omega
       · unfold maxLen; omega
       · omega
       · have := HR8.out.bel.size; simp; omega
       intro g6 gc6 w6 hown6 hgr6 hat6 hlt6
       have hfin := HFIN.out g6 gc6 w6 hown6 ⟨hgr6.os, hgr6.tape, hgr6.output, hgr6.size, hgr6.block⟩ (hat6.imp id (fun h => by simpa using h))
       have q1 := hfin.1
       have q2 := hfin.2.1
       have HG6 := hidp hfin.2.2.out
       clear hown6 hgr6 hat6 hlt6 hfin)
    all_goals
      clear q0 o0 o1 o2 o3 o4 HFIN
      go_wp2
      go_end0
      exact ⟨rfl, _, _, _, HG6.out.1, HG6.out.2⟩

end Go.Proofs.Ytgffkjjddhlbpaa.Ct

/- What the document's own Begin does. -/
namespace Go.Proofs.Ytgffkjjddhlbpaa.Ct
open Go.RowKit Go.Deep Stw Stp Tb Rul

theorem OwI.lq {w : World} {base : Nat} {v : Value} {xs : List Int} {Q : Nat → Prop} (h : OwI w base v xs) (hQ : ∀ b, base ≤ b → b < w.heap.size → Q b) : LQ w Q xs v := by
  rcases h.2 with ⟨h1, h2⟩ | ⟨g, c, cur, hv, hb, hh, hle, _⟩
  · exact ⟨none, 0, by rw [h1, h2], Or.inl (List.eq_nil_of_length_eq_zero h2), by omega⟩
  · subst hv
    have hl := (h.lt g rfl).2
    refine ⟨some ⟨g, 0, none⟩, c, rfl, Or.inr ⟨g, 0, rfl, hQ g hb hl, hl, fun i hi => ?_⟩, hle⟩
    rw [Nat.zero_add, h.cellAt i (by omega)]
    simp [List.getD_eq_getElem?_getD, hi]
theorem RSt.fresh {Z : Nat → Prop} {P O : Nat} {w0 w : World} {g : Cg} {a : CA} {tv : Value} {TV : List Value} (h : RSt Z P O w0 w g a tv TV) : ∀ b, w.heap.size ≤ b → Qx Z P O tv b := fun b hb => by
  have hP := World.rowIs.lt h.box
  have hO := h.obx.lt
  exact ⟨⟨by omega, by omega, fun e => by have := (h.ownT.lt b e).2; omega⟩, h.new b hb⟩
theorem goS_told {n : Nat} {g : Cg} (h : g.c.st = 1) (hw : g.c.wts = []) : goS n g = goS n (told n (stpO g.c.now g.c.nxt) (setSt g 2)) := by
  have e1 : goS n g = calmS (told n (stpO g.c.now g.c.nxt) (setSt g 2)) := by
    rcases goS_cases n g with ⟨k, _⟩ | ⟨_, _, e⟩ | ⟨_, k, _⟩ | ⟨_, k, _⟩ | ⟨_, k, _⟩
    · exact absurd hw k
    · exact e
    · omega
    · omega
    · exact absurd h k
  rw [e1]
  have hs : (told n (stpO g.c.now g.c.nxt) (setSt g 2)).c.st = 2 := rfl
  generalize told n (stpO g.c.now g.c.nxt) (setSt g 2) = G at hs ⊢
  unfold calmS
  rcases goS_cases n G with ⟨k, e⟩ | ⟨_, k, _⟩ | ⟨k, _, e⟩ | ⟨_, k, _⟩ | ⟨_, _, k, _⟩
  · rw [e, if_pos k]
  · omega
  · rw [e, if_neg (by simpa using k)]
  · omega
  · exact absurd hs k
/-- The stage is written. -/
theorem RSt.stage {Z : Nat → Prop} {P O : Nat} {w0 w : World} {st k num : Int} {now nxt : Pl} {wts : List Int} {out : List (Nat × Wir.Od)} {a : CA} {tv : Value} {TV : List Value} (h : RSt Z P O w0 w ⟨⟨st, now, nxt, num, wts⟩, out⟩ a tv TV) :
    RSt Z P O w0 (w.setCell ⟨P, 0, none⟩ (.int .i64 k)) ⟨⟨k, now, nxt, num, wts⟩, out⟩ a tv TV ∧ RKp P O w tv (w.setCell ⟨P, 0, none⟩ (.int .i64 k)) tv := by
  have hK : ∀ b, b ≠ P → (w.setCell ⟨P, 0, none⟩ (.int .i64 k)).heap[b]? = w.heap[b]? := fun b hb => blk_setCell_other _ _ _ _ (by simpa using hb)
  have hbx : BX (w.setCell ⟨P, 0, none⟩ (.int .i64 k)) P (coL ⟨k, now, nxt, num, wts⟩ a) := by
    have e : (coL ⟨st, now, nxt, num, wts⟩ a).set 0 (.int .i64 k) = coL ⟨k, now, nxt, num, wts⟩ a := rfl
    rw [← e]
    exact BX.set h.box (i := 0) (by simp [coL]) _
  exact h.redo (g' := ⟨⟨k, now, nxt, num, wts⟩, out⟩) (a' := a) hbx (fun b hb _ => hK b hb) (by simp) (h.bel.setCell (by simpa using h.hP) _) rfl ((h.at_.step (by simp) (fun b hb _ => hK b hb.1.1)).imp (fun U k => ⟨k.hn, k.hx, k.hw⟩)) h.wn
/-- The next plan holds. -/
theorem RSt.turn {Z : Nat → Prop} {P O : Nat} {w0 w : World} {st num : Int} {now nxt : Pl} {wts : List Int} {out : List (Nat × Wir.Od)} {a : CA} {tv : Value} {TV : List Value} (h : RSt Z P O w0 w ⟨⟨st, now, nxt, num, wts⟩, out⟩ a tv TV) :
    RSt Z P O w0 (((((((w.setCell ⟨P, 0, none⟩ (.int .i64 0)).setCell ⟨P, 1, none⟩ (.int .i64 nxt.v)).setCell ⟨P, 2, none⟩ (.slice a.x.fo nxt.fs.length a.x.fc)).setCell ⟨P, 3, none⟩ (.slice a.x.qo nxt.ps.length a.x.qc)).setCell ⟨P, 4, none⟩ (.int .i64 0)).setCell ⟨P, 5, none⟩ (.slice none 0 0)).setCell ⟨P, 6, none⟩ (.slice none 0 0)) ⟨⟨0, nxt, pl0, num, wts⟩, out⟩ ⟨a.x, pa0, a.wo, a.wc⟩ tv TV ∧ RKp P O w tv (((((((w.setCell ⟨P, 0, none⟩ (.int .i64 0)).setCell ⟨P, 1, none⟩ (.int .i64 nxt.v)).setCell ⟨P, 2, none⟩ (.slice a.x.fo nxt.fs.length a.x.fc)).setCell ⟨P, 3, none⟩ (.slice a.x.qo nxt.ps.length a.x.qc)).setCell ⟨P, 4, none⟩ (.int .i64 0)).setCell ⟨P, 5, none⟩ (.slice none 0 0)).setCell ⟨P, 6, none⟩ (.slice none 0 0)) tv := by
  obtain ⟨w', hw'⟩ : ∃ w', w' = (((((((w.setCell ⟨P, 0, none⟩ (.int .i64 0)).setCell ⟨P, 1, none⟩ (.int .i64 nxt.v)).setCell ⟨P, 2, none⟩ (.slice a.x.fo nxt.fs.length a.x.fc)).setCell ⟨P, 3, none⟩ (.slice a.x.qo nxt.ps.length a.x.qc)).setCell ⟨P, 4, none⟩ (.int .i64 0)).setCell ⟨P, 5, none⟩ (.slice none 0 0)).setCell ⟨P, 6, none⟩ (.slice none 0 0)) := ⟨_, rfl⟩
  have hp := h.hP
  have hK : ∀ b, b ≠ P → w'.heap[b]? = w.heap[b]? := fun b hb => by
    rw [hw']
    simp only [blk_setCell_other _ _ _ _ (show b ≠ (⟨P, 0, none⟩ : Addr).block from hb), blk_setCell_other _ _ _ _ (show b ≠ (⟨P, 1, none⟩ : Addr).block from hb), blk_setCell_other _ _ _ _ (show b ≠ (⟨P, 2, none⟩ : Addr).block from hb), blk_setCell_other _ _ _ _ (show b ≠ (⟨P, 3, none⟩ : Addr).block from hb), blk_setCell_other _ _ _ _ (show b ≠ (⟨P, 4, none⟩ : Addr).block from hb), blk_setCell_other _ _ _ _ (show b ≠ (⟨P, 5, none⟩ : Addr).block from hb), blk_setCell_other _ _ _ _ (show b ≠ (⟨P, 6, none⟩ : Addr).block from hb)]
  have hbx : BX w' P (coL ⟨0, nxt, pl0, num, wts⟩ ⟨a.x, pa0, a.wo, a.wc⟩) := by
    have e : (((((((coL ⟨st, now, nxt, num, wts⟩ a).set 0 (.int .i64 0)).set 1 (.int .i64 nxt.v)).set 2 (.slice a.x.fo nxt.fs.length a.x.fc)).set 3 (.slice a.x.qo nxt.ps.length a.x.qc)).set 4 (.int .i64 0)).set 5 (.slice none 0 0)).set 6 (.slice none 0 0) = coL ⟨0, nxt, pl0, num, wts⟩ ⟨a.x, pa0, a.wo, a.wc⟩ := rfl
    rw [← e, hw']
    exact BX.set (BX.set (BX.set (BX.set (BX.set (BX.set (BX.set h.box (i := 0) (by simp [coL]) _) (i := 1) (by simp [coL]) _) (i := 2) (by simp [coL]) _) (i := 3) (by simp [coL]) _) (i := 4) (by simp [coL]) _) (i := 5) (by simp [coL]) _) (i := 6) (by simp [coL]) _
  have hE : Ext w0 w' := by
    rw [hw']
    exact ((((((h.bel.setCell (by simpa using hp) _).setCell (by simpa using hp) _).setCell (by simpa using hp) _).setCell (by simpa using hp) _).setCell (by simpa using hp) _).setCell (by simpa using hp) _).setCell (by simpa using hp) _
  have hs : w'.heap.size = w.heap.size := by rw [hw']; simp
  rw [← hw']
  exact h.redo (g' := ⟨⟨0, nxt, pl0, num, wts⟩, out⟩) (a' := ⟨a.x, pa0, a.wo, a.wc⟩) hbx (fun b hb _ => hK b hb) (by omega) hE rfl ((h.at_.step (by omega) (fun b hb _ => hK b hb.1.1)).imp (fun U k => ⟨k.hx, PlAt.zero U, k.hw⟩)) h.wn

end Go.Proofs.Ytgffkjjddhlbpaa.Ct

namespace Go.Proofs.Ytgffkjjddhlbpaa.Ct
open Go.RowKit Go.Deep Stw Stp Tb Rul

/-- What is kept while stages begin. -/
def BInv (Z : Nat → Prop) (P O n : Nat) (w0 w1 : World) (tv : Value) (g : Cg) (wr : World) : Prop := ∃ g' a' tv' TV', RSt Z P O w0 wr g' a' tv' TV' ∧ RKp P O w1 tv wr tv' ∧ (g' = g ∨ (g.c.st = 1 ∧ g.c.wts = [] ∧ g' = told n (stpO g.c.now g.c.nxt) (setSt g 2)))
theorem RSt.rkW {Z : Nat → Prop} {P O : Nat} {w0 w : World} {g : Cg} {a : CA} {tv : Value} {TV : List Value} (h : RSt Z P O w0 w g a tv TV) : Ct.rkW P w = rk g.c.st := by
  have : w.cell? ⟨P, 0, none⟩ = some (.int .i64 g.c.st) := World.rowIs.cell h.box (i := 0) (by omega)
  unfold Ct.rkW; rw [this]

set_option maxRecDepth 100000 in
set_option maxHeartbeats 4000000 in
theorem refBegin_any (Z : Nat → Prop) (P O n : Nat) (ao : Option Addr) (len cap : Nat) (w0 w : World) (g : Cg) (a : CA) (tv : Value) (TV : List Value) (h : RSt Z P O w0 w g a tv TV) (hn : n ≤ 8) (hnf : g.c.now.fs.length ≤ 16777216) (hxf : g.c.nxt.fs.length ≤ 16777216) (hol : g.out.length ≤ 50) :
    Calls Try.prog 30 #[.pointer (some ⟨P, 0, none⟩), .agg #[.int .i64 n, .slice ao len cap], .pointer (some ⟨O, 0, none⟩)] w fun e w' => TlOut Z P O w0 w (goS n g) tv e w' := by
  have HR0 := hidp h
  have htb := (h.fresh w.heap.size (Nat.le_refl _)).1
  clear h
  go_enter Try.func30, Try.ntmps30
  go_wp2
  obtain ⟨w1, hw1⟩ : ∃ w1, w1 = w.alloc (.cells #[.int .i64 n, .slice ao len cap] 31) := ⟨_, rfl⟩
  have HR1 : Hid (RSt Z P O w0 w1 g a tv TV ∧ RKp P O w tv w1 tv ∧ w1.cell? ⟨w.heap.size, 0, none⟩ = some (.int .i64 n) ∧ w.heap.size < w1.heap.size) := by
    rw [hw1]
    exact ⟨HR0.out.ext ((Ext.refl w).alloc _), RKp.ext ((Ext.refl w).alloc _), by simp, by simp⟩
  rw [← hw1]
  clear hw1 HR0
  have HTB := hidp htb
  clear htb
  go_loopw [] (fun wr => Hid (BInv Z P O n w0 w1 tv g wr)) (fun wr => rkW P wr)
  case atStart => exact ⟨g, a, tv, TV, HR1.out.1, RKp.ext (Ext.refl _), Or.inl rfl⟩
  case round =>
    obtain ⟨g', a', tv', TV', hR, hK, hg⟩ := hrel.out
    have HG := hidp hg
    have HR := hidp hR
    have HK := hidp hK
    have HRK := hidp hR.rkW
    clear hrel hR hK hg
    have c0 : wr.cell? ⟨P, 0, none⟩ = some (.int .i64 g'.c.st) := World.rowIs.cell HR.out.box (i := 0) (by omega)
    have c8 : wr.cell? ⟨P, 8, none⟩ = some (.slice a'.wo g'.c.wts.length a'.wc) := World.rowIs.cell HR.out.box (i := 8) (by omega)
    have z0 := World.rowIs.frozen HR.out.box 0
    have HEQ : Hid (goS n g' = goS n g) := by
      show goS n g' = goS n g
      rcases HG.out with e | ⟨h1, h2, e⟩
      · rw [e]
      · rw [e]; exact (goS_told h1 h2).symm
    obtain ⟨⟨st, now, nxt, num, wts⟩, out⟩ := g'
    simp only at c0 c8
    by_cases hw : wts = []
    · subst hw
      simp only [List.length_nil] at c8
      by_cases h4 : st = 4
      · subst h4
        have HE : Hid (goS n g = ⟨⟨0, nxt, pl0, num, []⟩, out⟩) := HEQ.out.symm.trans rfl
        have c1 : wr.cell? ⟨P, 1, none⟩ = some (.int .i64 now.v) := World.rowIs.cell HR.out.box (i := 1) (by omega)
        have c2 : wr.cell? ⟨P, 2, none⟩ = some (.slice a'.n.fo now.fs.length a'.n.fc) := World.rowIs.cell HR.out.box (i := 2) (by omega)
        have c3 : wr.cell? ⟨P, 3, none⟩ = some (.slice a'.n.qo now.ps.length a'.n.qc) := World.rowIs.cell HR.out.box (i := 3) (by omega)
        have c4 : wr.cell? ⟨P, 4, none⟩ = some (.int .i64 nxt.v) := World.rowIs.cell HR.out.box (i := 4) (by omega)
        have c5 : wr.cell? ⟨P, 5, none⟩ = some (.slice a'.x.fo nxt.fs.length a'.x.fc) := World.rowIs.cell HR.out.box (i := 5) (by omega)
        have c6 : wr.cell? ⟨P, 6, none⟩ = some (.slice a'.x.qo nxt.ps.length a'.x.qc) := World.rowIs.cell HR.out.box (i := 6) (by omega)
        have z1 := World.rowIs.frozen HR.out.box 1
        have z2 := World.rowIs.frozen HR.out.box 2
        have z3 := World.rowIs.frozen HR.out.box 3
        have z4 := World.rowIs.frozen HR.out.box 4
        have z5 := World.rowIs.frozen HR.out.box 5
        have z6 := World.rowIs.frozen HR.out.box 6
        have HT := hidp HR.out.turn
        go_wp2
        go_end0
        exact ⟨rfl, _, _, _, by rw [HE.out]; exact HT.out.1, HR1.out.2.1.trans (HK.out.trans HT.out.2)⟩
      · by_cases h2 : st = 2
        · subst h2
          have HE : Hid (goS n g = ⟨⟨3, now, nxt, num, []⟩, out⟩) := HEQ.out.symm.trans rfl
          have HT := hidp (HR.out.stage (k := 3))
          go_wp2
          go_end0
          exact ⟨rfl, _, _, _, by rw [HE.out]; exact HT.out.1, HR1.out.2.1.trans (HK.out.trans HT.out.2)⟩
        · by_cases h1 : st = 1
          · subst h1
            have hge : g = ⟨⟨1, now, nxt, num, []⟩, out⟩ := by
              rcases HG.out with e | ⟨_, _, e⟩
              · exact e.symm
              · have := congrArg (fun x : Cg => x.c.st) e
                simp [told, setSt] at this
            have HE : Hid (goS n g = goS n (told n (stpO now nxt) ⟨⟨2, now, nxt, num, []⟩, out⟩) ∧ g.c.st = 1 ∧ g.c.wts = [] ∧ told n (stpO g.c.now g.c.nxt) (setSt g 2) = told n (stpO now nxt) ⟨⟨2, now, nxt, num, []⟩, out⟩) := by
              subst hge
              exact ⟨goS_told rfl rfl, rfl, rfl, rfl⟩
            rw [hge] at hnf hxf hol
            simp only at hnf hxf hol
            clear hge HEQ HG h2 h4
            obtain ⟨wo, hwo⟩ : ∃ wo, wo = wr := ⟨_, rfl⟩
            subst hwo
            obtain ⟨w2, hw2⟩ : ∃ w2, w2 = wo.setCell ⟨P, 0, none⟩ (.int .i64 2) := ⟨_, rfl⟩
            have HR2 : Hid (RSt Z P O w0 w2 ⟨⟨2, now, nxt, num, []⟩, out⟩ a' tv' TV' ∧ RKp P O w1 tv w2 tv') := by
              have hst := HR.out.stage (k := 2)
              rw [← hw2] at hst
              exact ⟨hst.1, HK.out.trans hst.2⟩
            obtain ⟨i0, hi0, hz00, hz01, hz02⟩ := info_parts infoI
            go_upto_region 7 with fail
            rw [← hw2]
            clear hw2 c0 c8 z0
            go_wp2
            go_loopw [6] (fun sv wx => ∃ s : Nat, s ≤ n ∧ sv = .int .i64 s ∧ Hid (∃ a2 tv2 TV2, RSt Z P O w0 wx (told s (stpO now nxt) ⟨⟨2, now, nxt, num, []⟩, out⟩) a2 tv2 TV2 ∧ RKp P O w1 tv wx tv2)) (fun sv _ => n - (intOf sv).toNat)
            case atStart => exact ⟨0, Nat.zero_le _, rfl, _, _, _, HR2.out.1, HR2.out.2⟩
            case round =>
              obtain ⟨s, hs, rfl, HX⟩ := hrel
              obtain ⟨a2, tv2, TV2, hR2, hK2⟩ := HX.out
              have HR3 := hidp hR2
              have HK3 := hidp hK2
              have HL := hidp (told_len (ord := stpO now nxt) (g := ⟨⟨2, now, nxt, num, []⟩, out⟩) s)
              clear HX hR2 hK2
              have t0 : wr.cell? ⟨w.heap.size, 0, none⟩ = some (.int .i64 n) := (World.cell?_of_block (a := ⟨w.heap.size, 0, none⟩) (HK3.out.block w.heap.size HTB.out HR1.out.2.2.2).2).trans HR1.out.2.2.1
              have htl : w.heap.size < wr.heap.size := Nat.lt_of_lt_of_le HR1.out.2.2.2 HK3.out.size
              by_cases hlt : s < n
              · have i1 : (s : Int) < (n : Int) := by omega
                have hPl := World.rowIs.lt HR3.out.box
                have HCX : Hid (∀ V, Ext wr V → V.cell? ⟨P, 2, none⟩ = some (.slice a2.n.fo now.fs.length a2.n.fc) ∧ V.cell? ⟨P, 4, none⟩ = some (.int .i64 nxt.v) ∧ V.cell? ⟨P, 5, none⟩ = some (.slice a2.x.fo nxt.fs.length a2.x.fc)) := fun V hV => by
                  have q := (HR3.out.ext hV).box
                  exact ⟨World.rowIs.cell q (i := 2) (by omega), World.rowIs.cell q (i := 4) (by omega), World.rowIs.cell q (i := 5) (by omega)⟩
                have HFX : Hid (Fw.FlowsAt wr a2.x.fo nxt.fs ∧ Fw.FlowsAt wr a2.n.fo now.fs) := ⟨HR3.out.at_.at.hx.hf, HR3.out.at_.at.hn.hf⟩
                obtain ⟨_, _, c5⟩ := HCX.out wr (Ext.refl wr)
                obtain ⟨wq, hwq⟩ : ∃ wq, wq = wr := ⟨_, rfl⟩
                subst hwq
                go_wp2
                go_loopw [7, 82] (fun lv iv wy => ∃ (i : Nat) (fv : Value), i ≤ nxt.fs.length ∧ iv = .int .i64 i ∧ lv = fv ∧ Hid (OwI wy wq.heap.size fv (beg s nxt.fs i)) ∧ Ext wq wy) (fun _ iv _ => nxt.fs.length - (intOf iv).toNat)
                case atStart => exact ⟨0, .slice none 0 0, Nat.zero_le _, rfl, rfl, World.ownsRow_nil _ _ _ _, Ext.refl _⟩
                case round =>
                  obtain ⟨i, fv, hi, rfl, hlv, HIO, hEy⟩ := hrel
                  obtain rfl := hlv.symm
                  have hqs := hEy.size
                  by_cases hil : i < nxt.fs.length
                  · obtain ⟨b, off, vo, vc, no', nc', fa, ft, X, Y, hxo, hb, hg, d0, d1, d2, d3, ⟨_, _, e1, hv, hvc⟩, ⟨_, _, e2, hn', hnc⟩⟩ := (HFX.out.1.ext hEy).get (k := i) hil
                    cases e1
                    cases e2
                    rw [hxo]
                    have i2 : (i : Int) < (nxt.fs.length : Int) := by omega
                    have HGT := hidp hg
                    have E4 := (Ext.refl wr).alloc (.cells #[.int .i64 fa, .int .i64 ft, .slice vo X.length vc, .slice no' Y.length nc'] 91)
                    clear hg hv hvc hn' hnc hxo
                    by_cases hfa : fa = s
                    · have HB : Hid (beg s nxt.fs (i + 1) = beg s nxt.fs i ++ [(i : Int)]) := by show _ = _; rw [beg, HGT.out, if_pos hfa]
                      have hbl := beg_len (s := s) (fs := nxt.fs) i
                      subst hfa
                      obtain ⟨L, hL⟩ : ∃ L, beg s nxt.fs i = L := ⟨_, rfl⟩
                      rw [hL] at HIO HB hbl
                      clear hL
                      obtain ⟨wf, hwf⟩ : ∃ wf, wf = wr.alloc (.cells #[.int .i64 (s : Int), .int .i64 ft, .slice vo X.length vc, .slice no' Y.length nc'] 91) := ⟨_, rfl⟩
                      have HIF : Hid (OwI wf wq.heap.size fv L) := by show OwI _ _ _ _; rw [hwf]; exact own_extU HIO.out E4
                      have hEf : Ext wq wf := by rw [hwf]; exact hEy.trans E4
                      have hfs : wf.heap.size = wr.heap.size + 1 := by rw [hwf]; simp
                      go_wp2_with (first | (at_builtin; rw [← hwf, ← hfs]; refine wpList_append_lies _ rfl _ _ 26 rfl wq.heap.size 3 i0 (.int .i64 0) 1 8 Try.underlying26 hi0 hz00 hz01 hz02 rfl (by decide) _ _ _ rfl (HIF.out.alloc _) ⟨wf.heap.size, 0, none⟩ 1 1 [.int .i64 (i : Int)] rfl rfl (news1' rfl _ _) (one1i _) (by decide) (by unfold maxLen; omega) (by omega) (by simp; omega) _ rfl ?_) | go_in)
                      intro g7 gc7 w7 hown7 hgr7 hat7 hlt7
                      have H7 : Hid (OwI w7 wq.heap.size (.slice (some ⟨g7, 0, none⟩) (L.length + 1) gc7) (L ++ [(i : Int)])) := by
                        show OwI _ _ _ _
                        unfold OwI
                        rw [List.map_append, List.length_append]
                        exact hown7
                      have hE7 : Ext wq w7 := Below.grown ((hEy.trans E4).alloc _) hgr7 (by simp; omega) (fun j hj => (HIO.out.lt j hj).1)
                      clear hown7 hgr7 hat7
                      go_wp2
                      exact ⟨⟨i + 1, _, by omega, by go_num, rfl, by rw [HB.out]; exact H7.out, hE7⟩, by simp [intOf]; omega⟩
                    · have HB : Hid (beg s nxt.fs (i + 1) = beg s nxt.fs i) := by show _ = _; rw [beg, HGT.out, if_neg hfa, List.append_nil]
                      have b1 : (fa == (s : Int)) = false := by simpa using hfa
                      clear hfa
                      go_wp2
                      exact ⟨⟨i + 1, fv, by omega, by go_num, rfl, by rw [HB.out]; exact own_extU HIO.out E4, hEy.trans E4⟩, by simp [intOf]; omega⟩
                  · have i2 : ¬ (i : Int) < (nxt.fs.length : Int) := by omega
                    have hil' : i = nxt.fs.length := by omega
                    rw [hil'] at HIO
                    clear hil'
                    obtain ⟨L, hL⟩ : ∃ L, beg s nxt.fs nxt.fs.length = L := ⟨_, rfl⟩
                    have HLL := hidp hL
                    have hLl : L.length ≤ 16777216 := by rw [← hL]; exact Nat.le_trans (beg_len _) hxf
                    rw [hL] at HIO
                    clear hL
                    obtain ⟨lo', lc', hfv, _, _⟩ := OwI.form HIO.out
                    subst hfv
                    obtain ⟨c2, c4, _⟩ := HCX.out wr hEy
                    obtain ⟨wy, hwy⟩ : ∃ wy, wy = wr := ⟨_, rfl⟩
                    subst hwy
                    go_wp2
                    go_loopw [8, 102] (fun bv iv wz => ∃ j : Nat, j ≤ now.fs.length ∧ iv = .int .i64 j ∧ bv = .bool (decide (beg s now.fs j ≠ [])) ∧ Ext wy wz) (fun _ iv _ => now.fs.length - (intOf iv).toNat)
                    case atStart => exact ⟨0, Nat.zero_le _, rfl, rfl, Ext.refl _⟩
                    case round =>
                      obtain ⟨j, hj, rfl, rfl, hEz⟩ := hrel
                      by_cases hjl : j < now.fs.length
                      · obtain ⟨b, off, vo, vc, no', nc', fa, ft, X, Y, hxo, hb, hg, d0, d1, d2, d3, ⟨_, _, e1, hv, hvc⟩, ⟨_, _, e2, hn', hnc⟩⟩ := (HFX.out.2.ext (hEy.trans hEz)).get (k := j) hjl
                        cases e1
                        cases e2
                        rw [hxo]
                        have i3 : (j : Int) < (now.fs.length : Int) := by omega
                        have HB : Hid (decide (beg s now.fs (j + 1) ≠ []) = (decide (beg s now.fs j ≠ []) || (fa == (s : Int)))) := by
                          show _ = _
                          rw [beg, hg]
                          by_cases h : fa = s
                          · simp [h]
                          · simp [h]
                        have E4 := hEz.alloc (.cells #[.int .i64 fa, .int .i64 ft, .slice vo X.length vc, .slice no' Y.length nc'] 91)
                        clear hg hv hvc hn' hnc hxo
                        obtain ⟨B, hB⟩ : ∃ B, decide (beg s now.fs j ≠ []) = B := ⟨_, rfl⟩
                        rw [hB] at HB ⊢
                        clear hB
                        cases B
                        · go_wp2
                          exact ⟨⟨j + 1, by omega, by go_num, by rw [HB.out]; first | done | rfl, E4⟩, by simp [intOf]; omega⟩
                        · go_wp2
                          exact ⟨⟨j + 1, by omega, by go_num, by rw [HB.out]; first | done | rfl, E4⟩, by simp [intOf]; omega⟩
                      · have i3 : ¬ (j : Int) < (now.fs.length : Int) := by omega
                        have hjl' : j = now.fs.length := by omega
                        rw [hjl']
                        clear hjl'
                        have hEq : Ext wq wr := hEy.trans hEz
                        have HRr := hidp (HR3.out.ext hEq)
                        have HKr := hidp (HK3.out.trans (RKp.ext hEq))
                        have HSO : Hid (stpO now nxt s = if L = [] ∧ beg s now.fs now.fs.length = [] then none else some ⟨2, 0, nxt.v, [], L⟩) := by show _ = _; unfold stpO; rw [HLL.out]
                        obtain ⟨M, hM⟩ : ∃ M, beg s now.fs now.fs.length = M := ⟨_, rfl⟩
                        rw [hM] at HSO ⊢
                        clear hM
                        obtain ⟨_, e4, _⟩ := HCX.out wr hEq
                        by_cases hboth : L = [] ∧ M = []
                        · have HN : Hid (told (s + 1) (stpO now nxt) ⟨⟨2, now, nxt, num, []⟩, out⟩ = told s (stpO now nxt) ⟨⟨2, now, nxt, num, []⟩, out⟩) := told_none (by rw [HSO.out, if_pos hboth])
                          obtain ⟨h1, h2⟩ := hboth
                          subst h1 h2
                          simp only [List.length_nil]
                          go_wp2
                          exact ⟨⟨s + 1, by omega, by go_num, _, _, _, by rw [HN.out]; exact HRr.out, HKr.out⟩, by simp [intOf]; omega⟩
                        · have HN := hidp (told_some (g := ⟨⟨2, now, nxt, num, []⟩, out⟩) (show stpO now nxt s = some ⟨2, 0, nxt.v, [], L⟩ by rw [HSO.out, if_neg hboth]))
                          have HTL := hidp (refTell_any Z P O s 2 0 nxt.v [] L none lo' 0 0 L.length lc' w0 wr _ a2 tv2 TV2 HRr.out (RQ.nil _ _) (OwI.lq (own_extU HIO.out hEz) (fun b hb hlt => HR3.out.fresh b hb)) (by have h : _ ≤ 0 + s := HL.out.1; omega) (by have h : _ ≤ out.length + s := HL.out.2; omega))
                          have HCond : Hid (0 < L.length ∨ M ≠ []) := by
                            by_cases hL0 : L = []
                            · exact Or.inr (fun h => hboth ⟨hL0, h⟩)
                            · exact Or.inl (List.length_pos_iff.2 hL0)
                          clear hboth
                          by_cases hM0 : M = []
                          · have iL : (0 : Int) < (L.length : Int) := by rcases HCond.out with h | h; omega; exact absurd hM0 h
                            have bM : decide (M ≠ []) = false := by simpa using hM0
                            rw [bM]
                            clear bM hM0
                            go_wp2_with (go_at_call 29; refine Calls.mono HTL.out ?_; rintro e w5 ⟨rfl, a5, tv5, TV5, hR5, hK5⟩; have HR5 := hidp hR5; have HK5 := hidp hK5; clear hR5 hK5)
                            exact ⟨⟨s + 1, by omega, by go_num, _, _, _, by rw [HN.out]; exact HR5.out, HKr.out.trans HK5.out⟩, by simp [intOf]; omega⟩
                          · have bM : decide (M ≠ []) = true := by simpa using hM0
                            rw [bM]
                            clear bM hM0
                            go_wp2_with (go_at_call 29; refine Calls.mono HTL.out ?_; rintro e w5 ⟨rfl, a5, tv5, TV5, hR5, hK5⟩; have HR5 := hidp hR5; have HK5 := hidp hK5; clear hR5 hK5)
                            exact ⟨⟨s + 1, by omega, by go_num, _, _, _, by rw [HN.out]; exact HR5.out, HKr.out.trans HK5.out⟩, by simp [intOf]; omega⟩
              · have i1 : ¬ (s : Int) < (n : Int) := by omega
                have hsn : s = n := by omega
                rw [hsn] at HR3
                clear hsn
                go_wp2
                exact ⟨⟨_, a2, tv2, TV2, HR3.out, HK3.out, Or.inr ⟨HE.out.2.1, HE.out.2.2.1, HE.out.2.2.2.symm⟩⟩, by rw [HRK.out, HR3.out.rkW]; show rk 2 < rk 1; decide⟩
          · have b1 : (st == 1) = false := by simpa using h1
            have b2 : (st == 2) = false := by simpa using h2
            have b4 : (st == 4) = false := by simpa using h4
            have HE : Hid (goS n g = ⟨⟨st, now, nxt, num, []⟩, out⟩) := HEQ.out.symm.trans (by unfold goS; simp [h1, h2, h4])
            clear h1 h2 h4
            go_wp2
            go_end0
            exact ⟨rfl, _, _, _, by rw [HE.out]; exact HR.out, HR1.out.2.1.trans HK.out⟩
    · have b0 : ((wts.length : Int) == 0) = false := by simpa using hw
      have HE : Hid (goS n g = ⟨⟨st, now, nxt, num, wts⟩, out⟩) := HEQ.out.symm.trans (goS_wait hw)
      clear hw
      go_wp2
      go_end0
      exact ⟨rfl, _, _, _, by rw [HE.out]; exact HR.out, HR1.out.2.1.trans HK.out⟩

end Go.Proofs.Ytgffkjjddhlbpaa.Ct
