/- What the document's own Add makes of two rows of rules, in words: the same. -/
import Derived.Test.YtmjddnnjjmnddadV24
namespace Go.Proofs.Ytmjddnnjjmnddad.Tb
open Go.RowKit Go.Deep Rul Go.Sort

/-- how many stand ahead of a rule -/
def pre (r : Ru) (o : List Ru) : Nat := (o.takeWhile (fun x => !lt r x)).length
def insD (r : Ru) (o : List Ru) : List Ru := if 0 < pre r o ∧ o.getD (pre r o - 1) r0 = r then o else o.take (pre r o) ++ [r] ++ o.drop (pre r o)
theorem take_pre (r : Ru) (o : List Ru) : o.take (pre r o) = o.takeWhile (fun x => !lt r x) := by
  have e := List.takeWhile_append_dropWhile (p := fun x => !lt r x) (l := o)
  conv => lhs; rw [← e]
  rw [pre, List.take_left']
  rw [e]
theorem drop_pre (r : Ru) (o : List Ru) : o.drop (pre r o) = o.dropWhile (fun x => !lt r x) := by
  have e := List.takeWhile_append_dropWhile (p := fun x => !lt r x) (l := o)
  conv => lhs; rw [← e]
  rw [pre, List.drop_left']
  rw [e]
theorem dd_head : ∀ (l : List Ru), (dd l).head? = l.head?
  | [] => rfl
  | [a] => rfl
  | a :: b :: l => by
    rw [dd]
    split
    · rename_i h; subst h; rw [dd_head (a :: l)]; rfl
    · rfl
theorem dd_split : ∀ (A B : List Ru), (∀ a, A.getLast? = some a → B.head? ≠ some a) → dd (A ++ B) = dd A ++ dd B
  | [], B, _ => rfl
  | [a], [], _ => rfl
  | [a], b :: B, h => by
    have hab : ¬ a = b := fun e => h a rfl (by rw [e]; rfl)
    show dd (a :: b :: B) = [a] ++ dd (b :: B)
    rw [dd, if_neg hab]; rfl
  | a :: c :: A, B, h => by
    have ih := dd_split (c :: A) B (fun x hx => h x (by rw [List.getLast?_cons_cons]; exact hx))
    show dd (a :: c :: (A ++ B)) = _
    rw [dd, dd, show c :: (A ++ B) = (c :: A) ++ B from rfl, ih]
    split <;> rfl
theorem tw_all {r : Ru} : ∀ {A B : List Ru}, (∀ x ∈ A, lt r x = false) → (∀ x, B.head? = some x → lt r x = true) → (A ++ B).takeWhile (fun x => !lt r x) = A
  | [], [], _, _ => rfl
  | [], b :: B, _, h => by simp [h b rfl]
  | a :: A, B, h, h2 => by
    rw [List.cons_append, List.takeWhile_cons, if_pos (by simp [h a (by simp)]), tw_all (fun x hx => h x (by simp [hx])) h2]
theorem mem_last {A : List Ru} {a : Ru} (h : A.getLast? = some a) : a ∈ A := List.mem_of_getLast? h
theorem dd_ins {r : Ru} {Z : List Ru} (hZ : Srt Z) : dd (ins r Z) = insD r (dd Z) := by
  obtain ⟨A, hA⟩ : ∃ A, A = Z.takeWhile (fun x => !lt r x) := ⟨_, rfl⟩
  obtain ⟨B, hB⟩ : ∃ B, B = Z.dropWhile (fun x => !lt r x) := ⟨_, rfl⟩
  have e : A ++ B = Z := by rw [hA, hB]; exact List.takeWhile_append_dropWhile
  have h1 : ∀ x ∈ A, lt r x = false := fun x hx => by rw [hA] at hx; exact take_le x hx
  have h2 : ∀ x ∈ B, lt r x = true := fun x hx => by rw [hB] at hx; exact drop_lt hZ x hx
  have hh : ∀ x, B.head? = some x → lt r x = true := fun x hx => h2 x (List.mem_of_head? hx)
  have s1 : dd Z = dd A ++ dd B := by
    rw [← e]
    exact dd_split A B (fun a ha hb => by have := h1 a (mem_last ha); rw [hh a hb] at this; cases this)
  have s2 : dd (A ++ r :: B) = dd (A ++ [r]) ++ dd B := by
    rw [show A ++ r :: B = (A ++ [r]) ++ B by simp]
    refine dd_split _ B (fun a ha hb => ?_)
    have har : a = r := by simpa using ha.symm
    have := hh a hb
    rw [har, swo.irrefl] at this
    cases this
  have htw : (dd Z).takeWhile (fun x => !lt r x) = dd A := by
    rw [s1]
    exact tw_all (fun x hx => h1 x ((dd_mem _ _).1 hx)) (fun x hx => hh x (by rw [← dd_head]; exact hx))
  have hpre : pre r (dd Z) = (dd A).length := by rw [pre, htw]
  have ht : (dd Z).take (pre r (dd Z)) = dd A := by rw [take_pre, htw]
  have hd : (dd Z).drop (pre r (dd Z)) = dd B := by rw [hpre, s1, List.drop_left']; rfl
  have hins : ins r Z = A ++ r :: B := by rw [ins, ← hA, ← hB]
  rw [hins, s2, dd_snoc, insD, ht, hd]
  have hlast : (0 < pre r (dd Z) ∧ (dd Z).getD (pre r (dd Z) - 1) r0 = r) ↔ A.getLast? = some r := by
    rw [hpre, ← dd_last A]
    cases hl : (dd A).getLast? with
    | none =>
      have : dd A = [] := List.getLast?_eq_none_iff.1 hl
      simp [this]
    | some x =>
      have hne : dd A ≠ [] := fun h => by rw [h] at hl; simp at hl
      have hpos : 0 < (dd A).length := List.length_pos_iff.2 hne
      have hx : (dd Z).getD ((dd A).length - 1) r0 = x := by
        rw [s1, List.getD_eq_getElem?_getD, List.getElem?_append_left (by omega), ← List.getLast?_eq_getElem?, hl]; rfl
      rw [hx]
      constructor
      · rintro ⟨_, h⟩; rw [h]
      · intro h; cases h; exact ⟨hpos, rfl⟩
  by_cases hc : A.getLast? = some r
  · rw [if_pos hc, if_pos (hlast.2 hc), s1]
  · rw [if_neg hc, if_neg (fun h => hc (hlast.1 h)), List.append_assoc]
theorem dd_ris : ∀ {l : List Ru}, Ris l → dd l = l
  | [], _ => rfl
  | [a], _ => rfl
  | a :: b :: l, h => by
    have h' := List.pairwise_cons.1 h
    have hab : ¬ a = b := fun e => by have := h'.1 b (by simp); rw [e, swo.irrefl] at this; cases this
    rw [dd, if_neg hab, dd_ris h'.2]
theorem sst_snoc (x : List Ru) (r : Ru) : sst (x ++ [r]) = ins r (sst x) := by rw [sst, List.foldl_append]; rfl
/-- what the document's loop has made behind so many of those that are added -/
theorem addD_step {l more : List Ru} {k : Nat} (hk : k < more.length) : dd (sst (l ++ more.take (k + 1))) = insD (more.getD k r0) (dd (sst (l ++ more.take k))) := by
  have e : more.getD k r0 = more[k] := by simp [List.getD_eq_getElem?_getD, hk]
  rw [List.take_succ_eq_append_getElem hk, ← List.append_assoc, sst_snoc, dd_ins (sst_ok _).1, e]
theorem addD_zero {l : List Ru} (h : Ris l) : dd (sst (l ++ ([] : List Ru))) = l := by
  rw [List.append_nil, ← sst_of h.srt (Sm.refl l), dd_ris h]

end Go.Proofs.Ytmjddnnjjmnddad.Tb
