/- Paths in plain words: all ways from a switch on, one by one, and the first of those that cost least; no net is named here, but what each step costs. -/
import Derived.Test.YtgffkjjddhlbpaaM2
namespace Stp

/-- What a list of switches costs, step by step. -/
def pc (C : Int → Int → Int) : List Int → Int
  | [] => 0
  | [_] => 0
  | a :: b :: r => C a b + pc C (b :: r)
/-- Each step goes over a link. -/
def chain (C : Int → Int → Int) : List Int → Prop
  | [] => True
  | [_] => True
  | a :: b :: r => 0 < C a b ∧ chain C (b :: r)
/-- The next that is to be met is met. -/
def mtv (via : List Int) (m : Nat) (s : Int) : Nat := if via[m]? = some s then m + 1 else m
def metOf (via : List Int) (m : Nat) (q : List Int) : Nat := q.foldl (mtv via) m
/-- The first of two in order, switch by switch. -/
def llt : List Int → List Int → Prop
  | a :: p, b :: q => a < b ∨ (a = b ∧ llt p q)
  | _, _ => False

/-- All ways on from a switch to the end, over none that is closed, of so many switches at most, in order. -/
def ext (C : Int → Int → Int) (to : Int) : Nat → List Int → Int → List (List Int)
  | 0, _, _ => []
  | k + 1, cl, at' => if at' = to then [[at']] else
      (List.range 8).flatMap fun (s : Nat) => if 0 < C at' (s : Int) ∧ ¬ (s : Int) ∈ at' :: cl then (ext C to k (at' :: cl) (s : Int)).map (at' :: ·) else []

/-- The better one of what is kept and what is met: the kept one, if it costs no more. -/
def pick (b : Option (List Int × Int)) (x : List Int × Int) : Option (List Int × Int) := if b.any (fun y => decide (y.2 ≤ x.2)) then b else some x

/-- A search that goes all ways and keeps the first of the cheapest; it turns back where a way costs no less already. -/
def ent (C : Int → Int → Int) (to : Int) (via : List Int) : Nat → List Int → List Int → Int → Int → Nat → Option (List Int × Int) → Option (List Int × Int)
  | 0, _, _, _, _, _, b => b
  | k + 1, cl, way, at', c, m, b => if b.any (fun y => decide (y.2 ≤ c)) then b else
      if at' = to then (if mtv via m at' = via.length then some (way ++ [at'], c) else b) else
      (List.range 8).foldl (fun b (s : Nat) => if 0 < C at' (s : Int) ∧ ¬ (s : Int) ∈ at' :: cl then ent C to via k (at' :: cl) (way ++ [at']) (s : Int) (c + C at' (s : Int)) (mtv via m at') b else b) b

/-- Those of the ways that meet all, with what they cost. -/
def cand (C : Int → Int → Int) (via way : List Int) (c : Int) (m : Nat) (q : List Int) : List (List Int × Int) := if metOf via m q = via.length then [(way ++ q, c + pc C q)] else []

theorem pc_nonneg {C : Int → Int → Int} (hC : ∀ a b, 0 ≤ C a b) : ∀ q, 0 ≤ pc C q
  | [] => by simp [pc]
  | [_] => by simp [pc]
  | a :: b :: r => by
    have h1 := hC a b
    have h2 := pc_nonneg hC (b :: r)
    simp only [pc]; omega

theorem ext_head {C : Int → Int → Int} {to : Int} : ∀ {k : Nat} {cl : List Int} {a : Int} {q : List Int}, q ∈ ext C to k cl a → ∃ r, q = a :: r
  | 0, _, _, _, h => by cases h
  | k + 1, cl, a, q, h => by
    unfold ext at h
    split at h
    · simp at h; exact ⟨[], h⟩
    · simp only [List.mem_flatMap, List.mem_range] at h
      obtain ⟨s, _, h⟩ := h
      split at h
      · simp only [List.mem_map] at h
        obtain ⟨r, _, rfl⟩ := h
        exact ⟨r, rfl⟩
      · cases h

theorem pick_any {b : Option (List Int × Int)} {c : Int} (h : b.any (fun y => decide (y.2 ≤ c)) = true) : ∀ {L : List (List Int × Int)}, (∀ x ∈ L, c ≤ x.2) → L.foldl pick b = b
  | [], _ => rfl
  | x :: L, hL => by
    have h1 : pick b x = b := by
      unfold pick
      cases b with
      | none => simp at h
      | some y =>
        simp only [Option.any_some, decide_eq_true_eq] at h
        have := hL x (by simp)
        rw [if_pos]
        simp only [Option.any_some, decide_eq_true_eq]
        omega
    simp only [List.foldl_cons, h1]
    exact pick_any h (fun y hy => hL y (by simp [hy]))

theorem foldl_flat {α β γ : Type} (f : β → γ → β) (g : α → List γ) : ∀ (l : List α) (b : β), (l.flatMap g).foldl f b = l.foldl (fun b a => (g a).foldl f b) b
  | [], _ => rfl
  | a :: l, b => by simp only [List.flatMap_cons, List.foldl_append, List.foldl_cons]; exact foldl_flat f g l _

theorem foldl_congr {α β : Type} {f g : β → α → β} : ∀ (l : List α) (b : β), (∀ b a, a ∈ l → f b a = g b a) → l.foldl f b = l.foldl g b
  | [], _, _ => rfl
  | a :: l, b, h => by
    simp only [List.foldl_cons, h b a (by simp)]
    exact foldl_congr l _ (fun b x hx => h b x (by simp [hx]))

theorem flat_congr {α β : Type} {f g : α → List β} : ∀ (l : List α), (∀ a, a ∈ l → f a = g a) → l.flatMap f = l.flatMap g
  | [], _ => rfl
  | a :: l, h => by
    simp only [List.flatMap_cons, h a (by simp)]
    rw [flat_congr l (fun x hx => h x (by simp [hx]))]

theorem cand_step {C : Int → Int → Int} {via way : List Int} {c : Int} {m : Nat} {a s : Int} {r : List Int} : cand C via way c m (a :: s :: r) = cand C via (way ++ [a]) (c + C a s) (mtv via m a) (s :: r) := by
  unfold cand
  have e1 : metOf via m (a :: s :: r) = metOf via (mtv via m a) (s :: r) := rfl
  have e2 : pc C (a :: s :: r) = C a s + pc C (s :: r) := rfl
  rw [e1, e2, Int.add_assoc, List.append_assoc]
  rfl

/-- What the search comes to: the best of what was kept and of all ways that meet all. -/
theorem ent_eq {C : Int → Int → Int} (hC : ∀ a b, 0 ≤ C a b) (to : Int) (via : List Int) : ∀ (k : Nat) (cl way : List Int) (a c : Int) (m : Nat) (b : Option (List Int × Int)),
    ent C to via k cl way a c m b = ((ext C to k cl a).flatMap (cand C via way c m)).foldl pick b
  | 0, _, _, _, _, _, _ => rfl
  | k + 1, cl, way, a, c, m, b => by
    unfold ent
    by_cases hp : b.any (fun y => decide (y.2 ≤ c)) = true
    · rw [if_pos hp]
      refine (pick_any hp (fun x hx => ?_)).symm
      simp only [List.mem_flatMap] at hx
      obtain ⟨q, _, hx⟩ := hx
      unfold cand at hx
      split at hx
      · simp at hx
        subst hx
        have := pc_nonneg hC q
        simp; omega
      · cases hx
    · rw [if_neg hp]
      by_cases ht : a = to
      · rw [if_pos ht, ext, if_pos ht]
        have e0 : cand C via way c m [a] = if mtv via m a = via.length then [(way ++ [a], c + 0)] else [] := rfl
        simp only [List.flatMap_cons, List.flatMap_nil, List.append_nil, e0]
        by_cases hm : mtv via m a = via.length
        · rw [if_pos hm, if_pos hm]
          simp only [List.foldl_cons, List.foldl_nil, pick, Int.add_zero]
          rw [if_neg hp]
        · rw [if_neg hm, if_neg hm]; rfl
      · rw [if_neg ht, ext, if_neg ht, List.flatMap_assoc, foldl_flat]
        refine foldl_congr _ _ (fun b s _ => ?_)
        split
        · rw [ent_eq hC to via k]
          congr 1
          rw [List.flatMap_map]
          refine flat_congr _ (fun q hq => ?_)
          obtain ⟨r, rfl⟩ := ext_head hq
          exact cand_step.symm
        · rfl

end Stp
