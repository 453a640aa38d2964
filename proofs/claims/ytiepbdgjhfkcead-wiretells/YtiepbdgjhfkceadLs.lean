/- A region that draws its order, of which the last operation writes what the others read: a condition on the world that is kept behind all operations but that one. -/
import Derived.OrdersHeld
import Derived.WalkKit
namespace Go.Last

section
variable {P : Program} {ops : Array Oper} {Q : Exit → Act → World → Prop} {md : Region.Mode} {S : World → Prop} {m : Nat}

/-- Whatever order is picked from here on; S is kept behind each operation but number m. -/
def LH (P : Program) (md : Region.Mode) (ops : Array Oper) (Q : Exit → Act → World → Prop) (S : World → Prop) (m : Nat) : Nat → Array Bool → Act → World → Prop
  | 0, l, a, w => Region.ready md ops l = [] ∧ Q .normal a w
  | n + 1, l, a, w => (Region.ready md ops l = [] → Q .normal a w) ∧ ∀ i ∈ Region.ready md ops l,
      wpOp P ops Q i (fun a' w' => (i ≠ m → S w') ∧ LH P md ops Q S m n (l.setIfInBounds i true) a' w') a w

theorem LH.any : ∀ (n : Nat) (l : Array Bool) (a : Act) (w : World), LH P md ops Q S m n l a w → wpAny P md ops Q n l a w
  | 0, _, _, _, h => h
  | n + 1, _, _, _, h => ⟨h.1, fun i hi => wpOp_mono (fun a' w' h' => LH.any n _ a' w' h'.2) (h.2 i hi)⟩

/-- Number m waits for number i. -/
def waits (md : Region.Mode) (ops : Array Oper) (m i : Nat) : Bool := match ops[m]? with
  | some o => o.after.any (fun e => Region.binds md e && e.on == i)
  | none => false
theorem waits_spec {i : Nat} (h : waits md ops m i = true) : ∃ o, ops[m]? = some o ∧ ∃ e ∈ o.after, Region.binds md e = true ∧ e.on = i := by
  unfold waits at h
  split at h
  · rename_i o ho
    rw [Array.any_eq_true'] at h
    obtain ⟨e, he, hb⟩ := h
    simp only [Bool.and_eq_true, beq_iff_eq] at hb
    exact ⟨o, ho, e, he, hb.1, hb.2⟩
  · cases h
/-- Who is still to come up is not listed. -/
theorem unlisted {i : Nat} {l : Array Bool} (hr : i ∈ Region.ready md ops l) (h1 : l.getD i false = true) : False := by
  have h0 := (mem_ready.1 hr).1
  by_cases hil : i < l.size
  · rw [Array.getD_eq_getD_getElem?, Array.getElem?_eq_getElem hil] at h0 h1
    simp only [Option.getD_some] at h0 h1
    rw [h0] at h1; cases h1
  · rw [Array.getD_eq_getD_getElem?, Array.getElem?_eq_none (by omega)] at h1
    cases h1

theorem LH.first {i : Nat} {oi : Oper} {v : Value} (hi : ops[i]? = some oi) (hsel : ∀ (j : Nat) (o : Oper) cs b, ops[j]? = some o → o.op ≠ .select cs b) (hm : waits md ops m i = true)
    (hQ : ∀ c a w, Q (.panic c) (a.put oi.dst v) w → Q (.panic c) a w) : ∀ (n : Nat) (l : Array Bool) (a : Act) (w : World),
    (∀ j oj, ops[j]? = some oj → j ≠ i → l.getD j true = false → (∀ e ∈ oj.after, Region.binds md e = true → e.on ≠ i) → oi.apart ops oj = true) →
    i ∈ Region.ready md ops l → YieldsIf P ops S oi v a → S w → LH P md ops Q S m n (l.setIfInBounds i true) (a.put oi.dst v) w → LH P md ops Q S m (n + 1) l a w := by
  intro n
  induction n with
  | zero =>
    intro l a w _ hr hy hS H
    refine ⟨fun h => absurd hr (by rw [h]; exact List.not_mem_nil), fun j hj => ?_⟩
    by_cases he : j = i
    · subst he
      exact hy.wpOp hi hS ⟨fun _ => hS, H⟩
    · exact absurd (ready_mono hj he) (by rw [H.1]; exact List.not_mem_nil)
  | succ n ih =>
    intro l a w hfree hr hy hS H
    refine ⟨fun h => absurd hr (by rw [h]; exact List.not_mem_nil), fun j hj => ?_⟩
    by_cases he : j = i
    · subst he
      exact hy.wpOp hi hS ⟨fun _ => hS, H⟩
    · obtain ⟨hjl, oj, hoj, hall⟩ := mem_ready.1 hj
      have hno : ∀ e ∈ oj.after, Region.binds md e = true → e.on ≠ i := fun e he hb heq => unlisted hr (by rw [← heq]; exact hall e he hb)
      have hjm : j ≠ m := fun hjm => by
        obtain ⟨o, ho, e, he, hb, heq⟩ := waits_spec hm
        rw [← hjm, hoj] at ho
        cases ho
        exact hno e he hb heq
      have h2 := wpOp_putIf hoj (hfree j oj hoj he hjl hno) (fun cs b => hsel i oi cs b hi) (fun cs b => hsel j oj cs b hoj) hQ hy (H.2 j (ready_mono hj he))
      refine wpOp_mono (fun a' w' h3 => ?_) h2
      obtain ⟨hy', hS', hL⟩ := h3
      have hc : (l.setIfInBounds i true).setIfInBounds j true = (l.setIfInBounds j true).setIfInBounds i true := Array.setIfInBounds_comm _ _ (Ne.symm he)
      rw [hc] at hL
      refine ⟨fun _ => hS' hjm, ih _ a' w' (fun k ok hk hki hun hn => hfree k ok hk hki ?_ hn) (ready_mono hr (Ne.symm he)) hy' (hS' hjm) hL⟩
      by_cases hjk : j = k
      · subst hjk; exact hjl
      · rw [getD_set_ne true hjk] at hun; exact hun

/-- Number i is taken first. -/
theorem LH.take {i : Nat} {oi : Oper} {v : Value} {n : Nat} {l : Array Bool} {a : Act} {w : World} (hi : ops[i]? = some oi) (hs : Region.noSelect ops = true) (hf : Region.free md ops l i = true) (hr : (Region.ready md ops l).contains i = true) (hm : waits md ops m i = true)
    (hQ : ∀ c a w, Q (.panic c) (a.put oi.dst v) w → Q (.panic c) a w) (hw : Region.wanted oi (yielded ops a.tmps) = true) (hy : ∀ w, S w → (execOp a.eval oi).run P w = .ok (.value v) w) (hS : S w)
    (h : LH P md ops Q S m n (l.setIfInBounds i true) (a.put oi.dst v) w) : LH P md ops Q S m (n + 1) l a w :=
  LH.first hi (Region.noSelect_spec hs) hm hQ n l a w (Region.free_spec hi hf) (by simpa using hr) (Or.inl ⟨hw, hy⟩) hS h
/-- Only number i may come up. -/
theorem LH.one {i : Nat} {oi : Oper} {n : Nat} {l : Array Bool} {a : Act} {w : World} (hr : Region.ready md ops l = [i]) (hi : ops[i]? = some oi)
    (h : ∀ K' : Act → World → Prop, (∀ a' w', (i ≠ m → S w') → LH P md ops Q S m n (l.setIfInBounds i true) a' w' → K' a' w') → if Region.wanted oi (yielded ops a.tmps) = true then Oper.wp P oi a w K' Q else K' (a.put oi.dst undef) w) : LH P md ops Q S m (n + 1) l a w := by
  refine ⟨fun h0 => absurd (hr.symm.trans h0) (by simp), fun j hj => ?_⟩
  rw [hr, List.mem_singleton] at hj
  subst hj
  have := h (fun a' w' => (j ≠ m → S w') ∧ LH P md ops Q S m n (l.setIfInBounds j true) a' w') (fun a' w' h1 h2 => ⟨h1, h2⟩)
  unfold wpOp
  simp only [hi]
  split
  · rename_i hw; rw [if_pos hw] at this; exact Or.inl this
  · rename_i hw; rw [if_neg hw] at this; exact this
theorem LH.done {n : Nat} {l : Array Bool} {a : Act} {w : World} (hr : Region.ready md ops l = []) (h : Q .normal a w) : LH P md ops Q S m n l a w := by
  cases n with
  | zero => exact ⟨hr, h⟩
  | succ n => exact ⟨fun _ => h, fun j hj => absurd hj (by rw [hr]; exact List.not_mem_nil)⟩
/-- The beginning. -/
theorem LH.start {id : Nat} {a : Act} {w : World} (hp : P.follows .mixedOrders = true) (h : LH P .any ops Q S m ops.size (Array.replicate ops.size false) a w.drew) : (Code.region id ops true).wp P Q a w :=
  wp_region_any hp (LH.any _ _ _ _ h)

end
end Go.Last
