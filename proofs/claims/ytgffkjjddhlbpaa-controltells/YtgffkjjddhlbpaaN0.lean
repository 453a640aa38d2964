/- What is kept: rows of rules in memory. -/
import Derived.Test.YtgffkjjddhlbpaaN0a
import Derived.Test.YtgffkjjddhlbpaaV0
namespace Go.Proofs.Ytgffkjjddhlbpaa.Tb
open Go.RowKit Go.Deep Rul

abbrev r0 : Ru := (0, 0, 0)
theorem Gb.refl (w : World) (r : Option Nat) : w.grownBy w r := ⟨rfl, rfl, rfl, Nat.le_refl _, fun _ _ _ => rfl⟩
/-- Rules lie where a slice says. -/
def RsAt (w : World) (ao : Option Addr) (rs : List Ru) : Prop :=
  rs = [] ∨ ∃ g off, ao = some ⟨g, off, none⟩ ∧ g < w.heap.size ∧ ∀ k, k < rs.length → w.cell? ⟨g, off + k * 3, none⟩ = some (.int .i64 (rs.getD k (0, 0, 0)).1) ∧ w.cell? ⟨g, off + k * 3 + 1, none⟩ = some (.int .i64 (rs.getD k (0, 0, 0)).2.1) ∧ w.cell? ⟨g, off + k * 3 + 2, none⟩ = some (.int .i64 (rs.getD k (0, 0, 0)).2.2)
theorem RsAt.ext {w w' : World} {ao : Option Addr} {rs : List Ru} (h : RsAt w ao rs) (E : Ext w w') : RsAt w' ao rs := by
  rcases h with h | ⟨g, off, h1, h2, h3⟩
  · exact Or.inl h
  · exact Or.inr ⟨g, off, h1, Nat.lt_of_lt_of_le h2 E.size, fun k hk => by
      obtain ⟨c0, c1, c2⟩ := h3 k hk
      exact ⟨(E.cells.1 _ _ h2).trans c0, (E.cells.1 _ _ h2).trans c1, (E.cells.1 _ _ h2).trans c2⟩⟩
theorem RsAt.get {w : World} {ao : Option Addr} {rs : List Ru} (h : RsAt w ao rs) {k : Nat} (hk : k < rs.length) : ∃ g off, ao = some ⟨g, off, none⟩ ∧ g < w.heap.size ∧ ∀ k, k < rs.length → w.cell? ⟨g, off + k * 3, none⟩ = some (.int .i64 (rs.getD k (0, 0, 0)).1) ∧ w.cell? ⟨g, off + k * 3 + 1, none⟩ = some (.int .i64 (rs.getD k (0, 0, 0)).2.1) ∧ w.cell? ⟨g, off + k * 3 + 2, none⟩ = some (.int .i64 (rs.getD k (0, 0, 0)).2.2) := by
  rcases h with h | h
  · rw [h] at hk; simp at hk
  · exact h

def rcs (rs : List Ru) : List Value := rs.flatMap (fun r => [.int .i64 r.1, .int .i64 r.2.1, .int .i64 r.2.2])
theorem rcs_cons (r : Ru) (rs : List Ru) : rcs (r :: rs) = [.int .i64 r.1, .int .i64 r.2.1, .int .i64 r.2.2] ++ rcs rs := by simp [rcs]
theorem rcs_len : ∀ rs : List Ru, (rcs rs).length = rs.length * 3
  | [] => rfl
  | r :: rs => by rw [rcs_cons, List.length_append, rcs_len rs]; simp; omega
theorem rcs_append (x y : List Ru) : rcs (x ++ y) = rcs x ++ rcs y := by simp [rcs]
theorem rcs_one (rs : List Ru) : ∀ u ∈ rcs rs, u.oneCell' = true := by
  intro u hu
  simp only [rcs, List.mem_flatMap, List.mem_cons, List.not_mem_nil, or_false] at hu
  obtain ⟨l, _, rfl | rfl | rfl⟩ := hu <;> rfl
theorem rcs_at : ∀ (rs : List Ru) (k : Nat), k < rs.length → (rcs rs)[k * 3]? = some (.int .i64 (rs.getD k r0).1) ∧ (rcs rs)[k * 3 + 1]? = some (.int .i64 (rs.getD k r0).2.1) ∧ (rcs rs)[k * 3 + 2]? = some (.int .i64 (rs.getD k r0).2.2)
  | [], k, h => by simp at h
  | r :: rs, 0, _ => by simp [rcs]
  | r :: rs, k + 1, h => by
    have ih := rcs_at rs k (by simpa using h)
    rw [rcs_cons]
    simp only [List.getElem?_append, List.length_cons, List.length_nil, show ¬ (k + 1) * 3 < 0 + 1 + 1 + 1 by omega, show ¬ (k + 1) * 3 + 1 < 0 + 1 + 1 + 1 by omega, show ¬ (k + 1) * 3 + 2 < 0 + 1 + 1 + 1 by omega, if_false, show (k + 1) * 3 - (0 + 1 + 1 + 1) = k * 3 by omega, show (k + 1) * 3 + 1 - (0 + 1 + 1 + 1) = k * 3 + 1 by omega, show (k + 1) * 3 + 2 - (0 + 1 + 1 + 1) = k * 3 + 2 by omega]
    simpa using ih
theorem add_none (g off j : Nat) : (⟨g, off, none⟩ : Addr).add j = ⟨g, off + j, none⟩ := by
  unfold Addr.add
  split
  · simp_all
  · rfl
theorem rcs_cells {W : World} {g off : Nat} {rs : List Ru} (h : ∀ k, k < rs.length → W.cell? ⟨g, off + k * 3, none⟩ = some (.int .i64 (rs.getD k r0).1) ∧ W.cell? ⟨g, off + k * 3 + 1, none⟩ = some (.int .i64 (rs.getD k r0).2.1) ∧ W.cell? ⟨g, off + k * 3 + 2, none⟩ = some (.int .i64 (rs.getD k r0).2.2)) :
    ∀ j u, (rcs rs)[j]? = some u → W.cell? ((⟨g, off, none⟩ : Addr).add j) = some u := fun j u hu => by
  have hj : j < rs.length * 3 := by have := (List.getElem?_eq_some_iff.1 hu).1; rwa [rcs_len] at this
  obtain ⟨a0, a1, a2⟩ := rcs_at rs (j / 3) (by omega)
  obtain ⟨c0, c1, c2⟩ := h (j / 3) (by omega)
  rw [add_none]
  rcases (show j % 3 = 0 ∨ j % 3 = 1 ∨ j % 3 = 2 by omega) with e | e | e
  · rw [show j / 3 * 3 = j by omega] at a0 c0; rw [c0, ← a0, hu]
  · rw [show j / 3 * 3 + 1 = j by omega] at a1; rw [show off + j / 3 * 3 + 1 = off + j by omega] at c1; rw [c1, ← a1, hu]
  · rw [show j / 3 * 3 + 2 = j by omega] at a2; rw [show off + j / 3 * 3 + 2 = off + j by omega] at c2; rw [c2, ← a2, hu]
/-- Rules of one's own, in a row of one's own. -/
def RO (w : World) (base : Nat) (v : Value) (rs : List Ru) : Prop := w.ownsRow base 116 3 v rs.length (rcs rs)
theorem RO.form {w : World} {base : Nat} {v : Value} {rs : List Ru} (h : RO w base v rs) : ∃ ao cap, v = .slice ao rs.length cap ∧ RsAt w ao rs ∧ (ao = none → rs = [] ∧ cap = 0) ∧ rs.length ≤ cap ∧ cap ≤ maxLen := by
  rcases h.2 with ⟨hv, h0⟩ | ⟨g, cap, cur, hv, hb, hg, hn, hm, hc, ht⟩
  · exact ⟨none, 0, by rw [h0]; exact hv, Or.inl (List.eq_nil_of_length_eq_zero h0), fun _ => ⟨List.eq_nil_of_length_eq_zero h0, rfl⟩, by omega, Nat.zero_le _⟩
  · refine ⟨some ⟨g, 0, none⟩, cap, hv, Or.inr ⟨g, 0, rfl, (Array.getElem?_eq_some_iff.1 hg).1, fun k hk => ?_⟩, (fun h => by cases h), hn, hm⟩
    have hcell : ∀ j u, j < rs.length * 3 → (rcs rs)[j]? = some u → w.cell? ⟨g, 0 + j, none⟩ = some u := fun j u hj hu => by
      rw [← ht, List.getElem?_take_of_lt hj] at hu
      simp [World.cell?, hg]
      simpa using hu
    obtain ⟨a0, a1, a2⟩ := rcs_at rs k hk
    exact ⟨hcell _ _ (by omega) a0, hcell _ _ (by omega) a1, hcell _ _ (by omega) a2⟩
theorem RO.ext {w w' : World} {base : Nat} {v : Value} {rs : List Ru} (h : RO w base v rs) (k : Ext w w') : RO w' base v rs := by
  refine ⟨h.1, ?_⟩
  rcases h.2 with h2 | ⟨g, cap, cur, h1, h2, h3, h4⟩
  · exact Or.inl h2
  · exact Or.inr ⟨g, cap, cur, h1, h2, (Below.block k g (Array.getElem?_eq_some_iff.1 h3).1).trans h3, h4⟩
theorem RO.nil (w : World) (base : Nat) : RO w base (.slice none 0 0) [] := World.ownsRow_nil _ _ _ _
theorem infoR : (Try.prog.info? 116).map (fun i => (i.zero, i.size, i.bytes)) = some (some (.agg #[.int .i64 0, .int .i64 0, .int .i64 0]), 3, 24) := by kernel_rfl
theorem infoR' : ∃ i, Try.prog.info? 116 = some i ∧ i.zero = some (.agg #[.int .i64 0, .int .i64 0, .int .i64 0]) ∧ i.size = 3 ∧ i.bytes = 24 := by
  have h := infoR
  cases e : Try.prog.info? 116 with
  | none => rw [e] at h; simp at h
  | some i => rw [e] at h; simp at h; exact ⟨i, rfl, h.1, h.2.1, h.2.2⟩

theorem cells3n {W : World} {n : Nat} (h : W.heap.size = n) (v0 v1 v2 : Value) (T : TypeId) (i : Nat) (u : Value) (hu : [v0, v1, v2][i]? = some u) : (W.alloc (.cells #[v0, v1, v2] T)).cell? ((⟨n, 0, none⟩ : Addr).add i) = some u := by
  subst h
  rw [add_none]
  match i, hu with
  | 0, hu => simp at hu; subst hu; simp
  | 1, hu => simp at hu; subst hu; simp
  | 2, hu => simp at hu; subst hu; simp
  | i + 3, hu => simp at hu
theorem RO.block {w : World} {base : Nat} {v : Value} {rs : List Ru} (h : RO w base v rs) : ∀ k, v.ownBlock = some k → base ≤ k ∧ k < w.heap.size := h.lt

/-- What a slice that came in is like. -/
structure SlOk (w : World) (ao : Option Addr) (len cap : Nat) (rs : List Ru) : Prop where
  hlen : rs.length = len
  hat : RsAt w ao rs
  hnil : ao = none → len = 0 ∧ cap = 0
theorem SlOk.ext {w w' : World} {ao : Option Addr} {len cap : Nat} {rs : List Ru} (h : SlOk w ao len cap rs) (E : Ext w w') : SlOk w' ao len cap rs := ⟨h.hlen, h.hat.ext E, h.hnil⟩
/-- Its cells, to be appended. -/
theorem SlOk.news {w : World} {a : Addr} {len cap : Nat} {rs : List Ru} (h : SlOk w (some a) len cap rs) : ∀ j u, (rcs rs)[j]? = some u → w.cell? (a.add j) = some u := by
  rcases h.hat with h0 | ⟨g, off, h1, h2, h3⟩
  · intro j u hu; rw [h0] at hu; simp [rcs] at hu
  · cases h1
    exact rcs_cells h3

/-- One more slice behind the row of one's own. -/
theorem RO.more {w w5 : World} {base : Nat} {v v' : Value} {rs ls : List Ru} (_ : RO w base v rs) (h : w5.ownsRow base 116 3 v' (rs.length + ls.length) (rcs rs ++ rcs ls)) : RO w5 base v' (rs ++ ls) := by
  unfold RO; rw [rcs_append, List.length_append]; exact h

theorem own_emptyR {W : World} {base g : Nat} (hb : base ≤ g) (h : W.heap[g]? = some (.cells #[] 116 (0, 0))) : RO W base (.slice (some ⟨g, 0, none⟩) 0 0) [] :=
  ⟨by simp [rcs], Or.inr ⟨g, 0, #[], rfl, hb, h, Nat.le_refl _, Nat.zero_le _, rfl, rfl⟩⟩
/-- Rules appended to a row of one's own, whatever slice they come in. -/
theorem append_rules {W : World} {base : Nat} {v : Value} {rs rb : List Ru} {bo : Option Addr} {lb cb : Nat} (ho : RO W base v rs) (hb : SlOk W bo lb cb rb) (hbase : base ≤ W.heap.size) (hn : (rs.length + lb) * 24 ≤ 140737488355328) :
    ∃ v' W', (∀ ty, (Builtin.append_ #[54, 54] ty #[v, .slice bo lb cb]).run Try.prog W = .ok v' W') ∧ RO W' base v' (rs ++ rb) ∧ W.grownBy W' v.ownBlock := by
  obtain ⟨i3, hi3, hz0, hz1, hz2⟩ := infoR'
  cases bo with
  | none =>
    obtain ⟨n1, n2⟩ := hb.hnil rfl
    have hrb : rb = [] := List.eq_nil_of_length_eq_zero (hb.hlen.trans n1)
    rw [n1, n2]
    exact ⟨v, W, fun ty => run_append_owned_none (P := Try.prog) (w := W) base 54 ty 116 i3 3 Try.underlying54 hi3 v _ _ ho, by rw [hrb, List.append_nil]; exact ho, Gb.refl _ _⟩
  | some ad =>
    have hlen := hb.hlen
    obtain ⟨v', W', hr, h2, h3, _⟩ := run_append_own (P := Try.prog) W base 54 54 116 i3 (.agg #[.int .i64 0, .int .i64 0, .int .i64 0]) 3 24 Try.underlying54 hi3 hz0 hz1 hz2 rfl (by decide) v rs.length (rcs rs) ho ad lb cb (rcs rb) (by rw [rcs_len, hlen]) hb.news (rcs_one rb) (by unfold maxLen; omega) hn hbase
    refine ⟨v', W', fun ty => hr, ?_, h3⟩
    exact ho.more (ls := rb) (w5 := W') (v' := v') (by rw [hlen]; exact h2)
/-- Rules appended to a row of one's own, at a step of a region that draws its order. -/
theorem step_append_rules {ops : Array Oper} {o : Oper} {a : Act} {W : World} {K : Act → World → Prop} {Q : Exit → Act → World → Prop} {E : Prop} (hgd : o.guard = none) (s x : Operand)
    (ho : o.op = .call { callee := .builtin .append, args := #[s, x], argTypes := #[54, 54] }) {base : Nat} {v : Value} {rs rb : List Ru} {bo : Option Addr} {lb cb : Nat}
    (hs : a.eval s = v) (hx : a.eval x = .slice bo lb cb) (hro : RO W base v rs) (hb : SlOk W bo lb cb rb) (hbase : base ≤ W.heap.size) (hn : (rs.length + lb) * 24 ≤ 140737488355328)
    (h : ∀ v' W', RO W' base v' (rs ++ rb) → W.grownBy W' v.ownBlock → K (a.put o.dst v') W') :
    if Region.wanted o (yielded ops a.tmps) = true then Oper.wp Try.prog o a W K Q else E := by
  have hw : Region.wanted o (yielded ops a.tmps) = true := by simp [Region.wanted, hgd]
  rw [if_pos hw]
  obtain ⟨v', W', hrun, h2, h3⟩ := append_rules hro hb hbase hn
  unfold Oper.wp execOp
  simp only [ho, resolve, invoke, builtin, Sem.run_bind, Sem.run_pure, Result.andThen_ok, List.map_toArray, List.map_cons, List.map_nil, hs, hx, hrun]
  exact h v' W' h2 h3

end Go.Proofs.Ytgffkjjddhlbpaa.Tb
