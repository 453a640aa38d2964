/- Sets of numbers, kept as maps that the call has made. -/
import Derived.Test.YtbfgioinjggkkaaW7
import Derived.Deep.OwnRows
namespace Go.Proofs.Ytbfgioinjggkkaa
open Go.RowKit Go.Maps Stw

theorem law3 : Keyed Try.prog 3 := int_keyed Try.underlying3
theorem zero4 (w : World) : (zeroValue 4).run Try.prog w = .ok (.bool false) w := by kernel_rfl

theorem plainElem_bool_inv {P : Program} {e : TypeId} {H : Type} (he : P.underlying e = some .bool) {v : Value} {z : DataW H × List MemPlace} (h : plainElem P e v = some z) : ∃ a, v = .bool a ∧ z = (.lit (.bool a), []) := by
  unfold plainElem at h
  rw [he] at h
  cases v <;> simp at h
  rename_i a
  exact ⟨a, rfl, h.symm⟩

/-- Block m is a map of these numbers, and no other ones. -/
def SetMap (w : World) (m : Nat) (L : List Int) : Prop :=
  ∃ n, n ≤ L.length ∧ ∃ D : DataW Unit, w.ownsMap Try.prog 3 (plainElem Try.prog 4) m n D ∧ ∀ x, I64 x → D.atKey (.int .i64 x) (.lit (.bool false)) = .lit (.bool (decide (x ∈ L)))

theorem SetMap.lt {w : World} {m : Nat} {L : List Int} (h : SetMap w m L) : m < w.heap.size := by
  obtain ⟨n, hn, D, hown, hD⟩ := h
  exact hown.lt
theorem SetMap.of_block {w w' : World} {m : Nat} {L : List Int} (h : SetMap w m L) (e : w'.heap[m]? = w.heap[m]?) : SetMap w' m L := by
  obtain ⟨n, hn, D, ⟨es, cl, hb, r⟩, hD⟩ := h
  exact ⟨n, hn, D, ⟨es, cl, e.trans hb, r⟩, hD⟩
theorem SetMap.ext {w w' : World} {m : Nat} {L : List Int} (h : SetMap w m L) (k : Ext w w') : SetMap w' m L := h.of_block (Below.block k m h.lt)
theorem SetMap.made (w : World) : SetMap (w.alloc (.map #[] 0)) w.heap.size [] :=
  ⟨0, by simp, .map [], World.ownsMap_made (H := Unit) _ _ _ _, fun x _ => by simp; rfl⟩
theorem SetMap.look {w : World} {m : Nat} {L : List Int} (h : SetMap w m L) {x : Int} (ix : I64 x) :
    (Instr.lookup 39 (.map (some m)) (.int .i64 x) false).run Try.prog w = .ok (.bool (decide (x ∈ L))) w := by
  obtain ⟨n, hn, D, hown, hD⟩ := h
  obtain ⟨v, ps, hrun, hv⟩ := hown.lookup law3 Try.underlying39 (zero4 w) (plainElem_bool Try.underlying4 false) (keyOf_int_mk Try.underlying3 ix)
  obtain ⟨a, rfl, ha⟩ := plainElem_bool_inv Try.underlying4 hv
  rw [hrun]
  rw [hD x ix] at ha
  simp at ha
  rw [← ha.1]
theorem SetMap.put {w : World} {m : Nat} {L : List Int} (h : SetMap w m L) {x : Int} (ix : I64 x) (hs : L.length < maxLen) :
    ∃ w', (Instr.mapUpdate 39 (.map (some m)) (.int .i64 x) (.bool true)).run Try.prog w = .ok () w' ∧ SetMap w' m (L ++ [x]) ∧ w.grownBy w' (some m) := by
  obtain ⟨n, hn, D, hown, hD⟩ := h
  obtain ⟨w', hrun, hown', hg⟩ := hown.update law3 Try.underlying39 (Nat.lt_of_le_of_lt hn hs) (keyOf_int_mk Try.underlying3 ix) (plainElem_bool Try.underlying4 true)
  refine ⟨w', hrun, ⟨n + 1, by simp; omega, _, hown', fun y iy => ?_⟩, hg⟩
  by_cases e : y = x
  · subst e
    rw [atKey_put_same hown.isMap (law3.key (keyOf_int_mk Try.underlying3 ix))]
    simp
  · rw [atKey_put_other (by intro h; injection h with _ h; exact e h), hD y iy]
    simp [e]

/-- A slice of k sets, of those that each reaches. -/
def Sets (nn : Nat) (ls : List Lk) (wr : World) (R k : Nat) : Prop :=
  ∃ (M : Nat → Nat) (Lf : Nat → List Int), wr.rowIs R 39 nn (fun j => if j < k then .map (some (M j)) else .map none) ∧ ∀ j, j < k → SetMap wr (M j) (Lf j) ∧ RL nn ls j (Lf j)

theorem Sets.ext {nn : Nat} {ls : List Lk} {w w' : World} {R k : Nat} (h : Sets nn ls w R k) (e : Ext w w') : Sets nn ls w' R k := by
  obtain ⟨M, Lf, h1, h2⟩ := h
  exact ⟨M, Lf, h1.of_block (Below.block e R h1.lt), fun j hj => ⟨(h2 j hj).1.ext e, (h2 j hj).2⟩⟩
theorem Sets.lt {nn : Nat} {ls : List Lk} {w : World} {R k : Nat} (h : Sets nn ls w R k) : R < w.heap.size := by
  obtain ⟨M, Lf, h1, h2⟩ := h
  exact h1.lt

/-- The next set is filled. -/
theorem Sets.next {nn : Nat} {ls : List Lk} {w w' : World} {R k m : Nat} {L : List Int} (h : Sets nn ls w R k) (e : ∀ b, b < w.heap.size → b ≠ R → w'.heap[b]? = w.heap[b]?)
    (hrow : ∀ f, w.rowIs R 39 nn f → w'.rowIs R 39 nn (fun j => if j = k then .map (some m) else f j)) (hm : SetMap w' m L) (hL : RL nn ls k L) : Sets nn ls w' R (k + 1) := by
  obtain ⟨M, Lf, h1, h2⟩ := h
  refine ⟨fun j => if j = k then m else M j, fun j => if j = k then L else Lf j, (hrow _ h1).congr (fun i _ => ?_), fun j hj => ?_⟩
  · by_cases e1 : i = k
    · subst e1; simp
    · by_cases e2 : i < k
      · simp [e1, e2, show i < k + 1 by omega]
      · simp [e1, e2, show ¬ i < k + 1 by omega]
  · by_cases e1 : j = k
    · subst e1; simpa using ⟨hm, hL⟩
    · have h3 := h2 j (by omega)
      have hne : M j ≠ R := by
        intro e4
        obtain ⟨n, _, D, ⟨es, cl, hb, _⟩, _⟩ := h3.1
        obtain ⟨c, hc, _⟩ := h1
        rw [e4, hc] at hb
        cases hb
      simp only [e1, if_false]
      exact ⟨h3.1.of_block (e _ h3.1.lt hne), h3.2⟩

end Go.Proofs.Ytbfgioinjggkkaa
