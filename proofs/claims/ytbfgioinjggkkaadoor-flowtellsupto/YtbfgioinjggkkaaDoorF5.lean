/- Flows in words: a line is read in one way alone. -/
import Derived.Test.YtbfgioinjggkkaaDoorF4
namespace Stf
open Go.Lib

theorem ofNat_dig {c : UInt8} (h : dig c = true) : UInt8.ofNat (48 + (c.toNat - 48)) = c := by
  have h1 : 48 ≤ c.toNat ∧ c.toNat ≤ 57 := of_decide_eq_true h
  have h2 : 48 + (c.toNat - 48) = c.toNat := by omega
  rw [h2]
  exact UInt8.ofNat_toNat
theorem dval_ge (l : Bs) : ∀ x : Nat, x ≤ dval x l := by
  induction l with
  | nil => intro x; exact Nat.le_refl _
  | cons c l ih =>
    intro x
    rw [dval_cons]
    refine Nat.le_trans ?_ (ih _)
    unfold dstep
    omega
theorem dval_pos {l : Bs} (h0 : l ≠ []) (hd : l.all dig = true) (hh : l.head? ≠ some 48) : 1 ≤ dval 0 l := by
  cases l with
  | nil => exact absurd rfl h0
  | cons c r =>
    rw [List.all_cons, Bool.and_eq_true] at hd
    have h1 : 48 ≤ c.toNat ∧ c.toNat ≤ 57 := of_decide_eq_true hd.1
    have h2 : c.toNat ≠ 48 := fun e => hh (by
      have : c = 48 := UInt8.toNat_inj.1 e
      rw [this]; rfl)
    rw [dval_cons]
    refine Nat.le_trans ?_ (dval_ge r _)
    unfold dstep
    omega
theorem snoc_of {l : Bs} (h : l ≠ []) : ∃ l' c, l = l' ++ [c] := ⟨l.dropLast, l.getLast h, (List.dropLast_concat_getLast h).symm⟩
theorem dec_dval : ∀ (n : Nat) (l : Bs), l.length = n → l ≠ [] → l.all dig = true → (l.length = 1 ∨ l.head? ≠ some 48) → decDigits (dval 0 l) = l
  | 0, l, hn, h0, _, _ => absurd (List.eq_nil_of_length_eq_zero hn) h0
  | n + 1, l, hn, h0, hd, hh => by
    obtain ⟨l', c, rfl⟩ := snoc_of h0
    rw [List.all_append, Bool.and_eq_true] at hd
    have hc : dig c = true := by simpa using hd.2
    have hc' : 48 ≤ c.toNat ∧ c.toNat ≤ 57 := of_decide_eq_true hc
    rw [dval_snoc]
    by_cases hl : l' = []
    · subst hl
      rw [dval_nil, decDigits, dif_pos (by unfold dstep; omega)]
      unfold dstep
      rw [Nat.mul_zero, Nat.zero_add, ofNat_dig hc]; rfl
    · have hne : l'.length ≠ 0 := fun e => hl (List.eq_nil_of_length_eq_zero e)
      have hh' : l'.head? ≠ some 48 := by
        rcases hh with h | h
        · simp only [List.length_append, List.length_cons, List.length_nil] at h; omega
        · intro e
          refine h ?_
          cases l' with
          | nil => exact absurd rfl hl
          | cons b r => simpa using e
      have hp := dval_pos hl hd.1 hh'
      have ih := dec_dval n l' (by simp at hn; omega) hl hd.1 (Or.inr hh')
      have e1 : dstep (dval 0 l') c / 10 = dval 0 l' := by unfold dstep; omega
      have e2 : dstep (dval 0 l') c % 10 = c.toNat - 48 := by unfold dstep; omega
      rw [decDigits, dif_neg (by unfold dstep; omega), e1, e2, ih, ofNat_dig hc]
theorem num_itoa {l : Bs} {x : Int} (h : num l = some x) : itoa x = l := by
  unfold num at h
  split at h
  · cases h
  · rename_i h1
    simp only [not_or, Bool.not_eq_false] at h1
    cases h
    have hb : ¬ (l.length < 1 ∨ 4 < l.length ∨ (1 < l.length ∧ l.head? = some 48)) := fun e => h1.1 (decide_eq_true e)
    rw [itoa_nonneg]
    refine dec_dval _ l rfl (fun e => hb (Or.inl (by rw [e]; decide))) h1.2 ?_
    by_cases e : l.length = 1
    · exact Or.inl e
    · refine Or.inr (fun e2 => hb (Or.inr (Or.inr ⟨?_, e2⟩)))
      have : ¬ l.length < 1 := fun e3 => hb (Or.inl e3)
      omega

theorem toNat_ofNat {d : Nat} (h : d < 10) : (UInt8.ofNat (48 + d)).toNat = 48 + d := by
  rw [UInt8.toNat_ofNat']
  exact Nat.mod_eq_of_lt (by omega)
theorem dig_ofNat {d : Nat} (h : d < 10) : dig (UInt8.ofNat (48 + d)) = true := by
  unfold dig
  rw [toNat_ofNat h]
  exact decide_eq_true (by omega)
theorem decD (u : Nat) : (decDigits u).all dig = true ∧ dval 0 (decDigits u) = u ∧ decDigits u ≠ [] ∧ (1 ≤ u → (decDigits u).head? ≠ some 48) := by
  induction u using Nat.strongRecOn with
  | _ u ih =>
    by_cases h : u < 10
    · rw [decDigits, dif_pos h]
      refine ⟨by simpa using dig_ofNat h, ?_, by simp, fun h1 => ?_⟩
      · rw [dval_cons, dval_nil]; unfold dstep; rw [toNat_ofNat h]; omega
      · intro e
        simp only [List.head?_cons, Option.some.injEq] at e
        have := congrArg UInt8.toNat e
        rw [toNat_ofNat h] at this
        have h48 : (48 : UInt8).toNat = 48 := rfl
        omega
    · obtain ⟨i1, i2, i3, i4⟩ := ih (u / 10) (by omega)
      have hm : u % 10 < 10 := Nat.mod_lt _ (by decide)
      rw [decDigits, dif_neg h]
      refine ⟨?_, ?_, by simp, fun _ => ?_⟩
      · rw [List.all_append, i1]; simpa using dig_ofNat hm
      · rw [dval_snoc, i2]; unfold dstep; rw [toNat_ofNat hm]; omega
      · have := i4 (by omega)
        cases hq : decDigits (u / 10) with
        | nil => exact absurd hq i3
        | cons b r => rw [hq] at this; simpa using this
theorem decLen {u : Nat} (h : u < 10000) : (decDigits u).length ≤ 4 := by
  rw [decDigits]
  split
  · simp
  · rw [List.length_append, decDigits]
    split
    · simp
    · rw [List.length_append, decDigits]
      split
      · simp
      · rw [List.length_append, decDigits, dif_pos (by omega)]
        simp
/-- Numbers that a text can hold. -/
def SmN (x : Int) : Prop := 0 ≤ x ∧ x < 10000
theorem itoa_num {x : Int} (h : SmN x) : num (itoa x) = some x := by
  obtain ⟨u, rfl⟩ : ∃ u : Nat, x = u := ⟨x.toNat, by have := h.1; omega⟩
  rw [itoa_nonneg]
  obtain ⟨h1, h2, h3, h4⟩ := decD u
  have hl := decLen (u := u) (by have := h.2; omega)
  have hne : (decDigits u).length ≠ 0 := fun e => h3 (List.eq_nil_of_length_eq_zero e)
  have hb : badNum (decDigits u) = false := by
    refine decide_eq_false ?_
    rintro (e | e | ⟨e, e2⟩)
    · omega
    · omega
    · by_cases hu : u < 10
      · rw [decDigits, dif_pos hu] at e; simp at e
      · exact h4 (by omega) e2
  unfold num
  rw [if_neg (by simp [hb, h1]), h2]
theorem itoa_dig {x : Int} (h : 0 ≤ x) : ∀ c ∈ itoa x, dig c = true := by
  obtain ⟨u, rfl⟩ : ∃ u : Nat, x = u := ⟨x.toNat, by omega⟩
  rw [itoa_nonneg]
  exact fun c hc => List.all_eq_true.1 (decD u).1 c hc
theorem num_smN {l : Bs} {x : Int} (h : num l = some x) : SmN x := by
  unfold num at h
  split at h
  · cases h
  · rename_i h1
    simp only [not_or, Bool.not_eq_false] at h1
    cases h
    have hb : ¬ (l.length < 1 ∨ 4 < l.length ∨ (1 < l.length ∧ l.head? = some 48)) := fun e => h1.1 (decide_eq_true e)
    have h4 : ¬ 4 < l.length := fun e => hb (Or.inr (Or.inl e))
    have h2 := dval_lt l 0 h1.2
    have h3 : 10 ^ l.length ≤ 10 ^ 4 := Nat.pow_le_pow_right (by decide) (by omega)
    refine ⟨by omega, ?_⟩
    omega

/-- parts with commas between -/
def joinC : List Bs → Bs
  | [] => []
  | p :: r => p ++ r.flatMap (fun q => 44 :: q)
theorem joinC_hdc (c : UInt8) {L : List Bs} (h : L ≠ []) : joinC (hdc c L) = c :: joinC L := by
  cases L with
  | nil => exact absurd rfl h
  | cons p r => rfl
theorem join_sp : ∀ s : Bs, joinC (sp s) = s
  | [] => rfl
  | c :: l => by
    rw [sp]
    split
    · rename_i h
      subst h
      have ih := join_sp l
      cases hs : sp l with
      | nil => exact absurd hs (sp_ne l)
      | cons p r =>
        rw [hs] at ih
        show [] ++ ((44 :: p) ++ r.flatMap (fun q => 44 :: q)) = 44 :: l
        rw [List.nil_append, List.cons_append]
        exact congrArg _ ih
    · rw [joinC_hdc _ (sp_ne l), join_sp l]
theorem sp_one : ∀ {p : Bs}, 44 ∉ p → sp p = [p]
  | [], _ => rfl
  | c :: p, h => by
    have hc : c ≠ 44 := fun e => h (by rw [e]; simp)
    rw [sp, if_neg hc, sp_one (fun e => h (by simp [e]))]
    rfl
theorem sp_cons : ∀ {p : Bs} (s : Bs), 44 ∉ p → sp (p ++ 44 :: s) = p :: sp s
  | [], s, _ => by rw [List.nil_append, sp, if_pos rfl]
  | c :: p, s, h => by
    have hc : c ≠ 44 := fun e => h (by rw [e]; simp)
    rw [List.cons_append, sp, if_neg hc, sp_cons s (fun e => h (by simp [e]))]
    rfl
theorem nd44 {x : Int} (h : 0 ≤ x) (c : UInt8) (hc : dig c = false) : c ∉ itoa x := fun e => by rw [itoa_dig h c e] at hc; cases hc
theorem sp_txt : ∀ (r : List Int) (x : Int), 0 ≤ x → (∀ y ∈ r, 0 ≤ y) → sp (itoa x ++ txtR r) = itoa x :: r.map itoa
  | [], x, hx, _ => by
    rw [show txtR [] = [] from rfl, List.append_nil, sp_one (nd44 hx 44 (by decide))]; rfl
  | y :: r, x, hx, h => by
    have : txtR (y :: r) = 44 :: (itoa y ++ txtR r) := by simp [txtR]
    rw [this, sp_cons _ (nd44 hx 44 (by decide)), sp_txt r y (h y (by simp)) (fun z hz => h z (by simp [hz]))]; rfl
theorem nums_map : ∀ {L : List Int}, (∀ y ∈ L, SmN y) → nums (L.map itoa) = some L
  | [], _ => rfl
  | x :: r, h => by
    rw [List.map_cons, nums_cons, itoa_num (h x (by simp)), nums_map (fun y hy => h y (by simp [hy]))]
theorem nums_join : ∀ {L : List Bs} {xs : List Int}, nums L = some xs → L = xs.map itoa
  | [], xs, h => by simp [nums] at h; subst h; rfl
  | p :: r, xs, h => by
    rw [nums_cons] at h
    cases hp : num p with
    | none => rw [hp] at h; cases h
    | some x =>
      cases hr : nums r with
      | none => rw [hp, hr] at h; cases h
      | some ys =>
        rw [hp, hr] at h
        cases h
        rw [List.map_cons, num_itoa hp, ← nums_join hr]
theorem nums_sm : ∀ {L : List Bs} {xs : List Int}, nums L = some xs → ∀ x ∈ xs, SmN x
  | [], xs, h => by simp [nums] at h; subst h; intro x hx; cases hx
  | p :: r, xs, h => by
    rw [nums_cons] at h
    cases hp : num p with
    | none => rw [hp] at h; cases h
    | some x =>
      cases hr : nums r with
      | none => rw [hp, hr] at h; cases h
      | some ys =>
        rw [hp, hr] at h
        cases h
        intro y hy
        rcases List.mem_cons.1 hy with rfl | hy
        · exact num_smN hp
        · exact nums_sm hr y hy
/-- a list that is read is the one that is written -/
theorem lst_txt {there : Bool} {s word : Bs} {xs : List Int} (h : lst there s = some xs) : (if there then word ++ s else []) = txtL word xs ∧ ∀ x ∈ xs, SmN x := by
  unfold lst at h
  split at h
  · rename_i ht
    rw [if_pos ht]
    refine ⟨?_, nums_sm h⟩
    have h1 := nums_join h
    have h2 := join_sp s
    rw [h1] at h2
    cases xs with
    | nil => exact absurd h1 (sp_ne s)
    | cons x r =>
      rw [← h2]
      simp only [txtL, joinC, List.map_cons, txtR, List.flatMap_map, List.append_assoc]
  · rename_i ht
    cases h
    rw [if_neg ht]
    exact ⟨rfl, fun x hx => by cases hx⟩
theorem txt_lst {x : Int} {r : List Int} (h : ∀ y ∈ x :: r, SmN y) : lst true (itoa x ++ txtR r) = some (x :: r) := by
  unfold lst
  rw [if_pos rfl, sp_txt r x (h x (by simp)).1 (fun y hy => (h y (by simp [hy])).1)]
  have := nums_map h
  rwa [List.map_cons] at this

end Stf
