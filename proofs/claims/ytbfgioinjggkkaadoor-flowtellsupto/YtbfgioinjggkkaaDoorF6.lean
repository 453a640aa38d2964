/- Flows in words: what is written is read, in one way alone. -/
import Derived.Test.YtbfgioinjggkkaaDoorF5
namespace Stf
open Go.Lib

theorem occ_get {s sub : Bs} {i k : Nat} {c : UInt8} (h : occAt s sub i = true) (hk : sub[k]? = some c) : s[i + k]? = some c := by
  have h1 : sub <+: s.drop i := by simpa [occAt] using h
  obtain ⟨t, ht⟩ := h1
  have h2 : (s.drop i)[k]? = some c := by
    rw [← ht, List.getElem?_append_left (List.getElem?_eq_some_iff.1 hk).1]
    exact hk
  rwa [List.getElem?_drop] at h2
theorem cut_of_index {s sep : Bs} {i : Nat} (h : index s sep = i) : cut s sep = (s.take i, s.drop (i + sep.length), true) := by
  unfold cut
  rw [h, if_pos (by omega)]
  simp
theorem cut_none {s sep : Bs} {c : UInt8} (hc : c ∈ sep) (h : c ∉ s) : cut s sep = (s, [], false) := by
  rcases index_spec s sep with ⟨h1, _⟩ | ⟨i, h1, _, h3, _⟩
  · unfold cut; rw [h1, if_neg (by decide)]
  · obtain ⟨k, hk, rfl⟩ := List.getElem_of_mem hc
    have := occ_get h3 (List.getElem?_eq_getElem hk)
    exact absurd (List.mem_of_getElem? this) h
theorem occ_at (a sep b : Bs) : occAt (a ++ sep ++ b) sep a.length = true := by
  unfold occAt
  rw [List.append_assoc, List.drop_left]
  simp
theorem cut_at {a sep b : Bs} (h : ∀ i, i < a.length → occAt (a ++ sep ++ b) sep i = false) : cut (a ++ sep ++ b) sep = (a, b, true) := by
  have h0 := occ_at a sep b
  rcases index_spec (a ++ sep ++ b) sep with ⟨h1, h2⟩ | ⟨i, h1, _, h3, h4⟩
  · rw [h2 a.length (by simp)] at h0; cases h0
  · have hi : i = a.length := by
      rcases Nat.lt_trichotomy i a.length with hl | hl | hl
      · rw [h i hl] at h3; cases h3
      · exact hl
      · have := h4 a.length hl
        rw [this] at h0; cases h0
    subst hi
    rw [cut_of_index h1]
    simp
/-- a word of more than one sign, whose second sign stands nowhere ahead -/
theorem cut_word {a b r : Bs} {x c : UInt8} (hc : c ∉ a) (hx : x ≠ c) : cut (a ++ (x :: c :: r) ++ b) (x :: c :: r) = (a, b, true) := by
  refine cut_at fun i hi => ?_
  cases ho : occAt (a ++ (x :: c :: r) ++ b) (x :: c :: r) i with
  | false => rfl
  | true =>
    have h1 := occ_get ho (k := 1) (c := c) rfl
    exfalso
    rw [List.append_assoc] at h1
    rcases Nat.lt_or_ge (i + 1) a.length with hl | hl
    · rw [List.getElem?_append_left hl] at h1
      exact hc (List.mem_of_getElem? h1)
    · have he : i + 1 = a.length := by omega
      rw [he, List.getElem?_append_right (Nat.le_refl _), Nat.sub_self] at h1
      simp only [List.cons_append, List.getElem?_cons_zero, Option.some.injEq] at h1
      exact hx h1
theorem cut_sign {a b : Bs} {c : UInt8} (hc : c ∉ a) : cut (a ++ [c] ++ b) [c] = (a, b, true) := by
  refine cut_at fun i hi => ?_
  cases ho : occAt (a ++ [c] ++ b) [c] i with
  | false => rfl
  | true =>
    have h1 := occ_get ho (k := 0) (c := c) rfl
    exfalso
    rw [List.append_assoc, Nat.add_zero, List.getElem?_append_left hi] at h1
    exact hc (List.mem_of_getElem? h1)

theorem cut_parts1 {s sep : Bs} : s = (cut s sep).1 ++ (if (cut s sep).2.2 then sep ++ (cut s sep).2.1 else []) := by
  cases h : (cut s sep).2.2 with
  | true => have := cut_true h; rw [if_pos rfl, ← List.append_assoc]; exact this
  | false => rw [cut_false h]; simp
def SmF (f : Fl) : Prop := SmN f.fr ∧ SmN f.to ∧ (∀ x ∈ f.via, SmN x) ∧ ∀ x ∈ f.nt, SmN x
/-- a line that is read is the one that is written -/
theorem rl_line {l : Bs} {f : Fl} (h : rl l = some f) : l = lineB f ∧ SmF f := by
  unfold rl at h
  split at h
  · rename_i a b v n e1 e2 e3 e4
    cases h
    obtain ⟨t3, s3⟩ := lst_txt (word := wVia) e3
    obtain ⟨t4, s4⟩ := lst_txt (word := wNot) e4
    have p1 : l = (c1 l).1 ++ txtL wNot n := by rw [← t4]; exact cut_parts1
    have p2 : (c1 l).1 = (c2 l).1 ++ txtL wVia v := by rw [← t3]; exact cut_parts1
    have p3 : (c2 l).1 = itoa a ++ [62] ++ itoa b := by
      have q := cut_parts1 (s := (c2 l).1) (sep := [62])
      rw [num_itoa e1, num_itoa e2]
      cases hq : (c3 l).2.2 with
      | true =>
        have hq' : (cut (c2 l).1 [62]).2.2 = true := hq
        rw [hq', if_pos rfl, ← List.append_assoc] at q
        exact q
      | false =>
        have hq' : (cut (c2 l).1 [62]).2.2 = false := hq
        have : (c3 l).2.1 = [] := by unfold c3; rw [cut_false hq']
        rw [this] at e2
        cases e2
    refine ⟨?_, num_smN e1, num_smN e2, s3, s4⟩
    show l = itoa a ++ [62] ++ itoa b ++ txtL wVia v ++ txtL wNot n
    rw [← p3, ← p2, ← p1]
  · cases h

theorem not_itoa {x : Int} (h : SmN x) {c : UInt8} (hc : dig c = false) : c ∉ itoa x := nd44 h.1 c hc
theorem not_txtR {L : List Int} (h : ∀ x ∈ L, SmN x) {c : UInt8} (hc : dig c = false) (h44 : c ≠ 44) : c ∉ txtR L := by
  intro e
  simp only [txtR, List.mem_flatMap, List.mem_cons] at e
  obtain ⟨y, hy, e | e⟩ := e
  · exact h44 e
  · exact not_itoa (h y hy) hc e
theorem not_txtL {word : Bs} {L : List Int} (h : ∀ x ∈ L, SmN x) {c : UInt8} (hc : dig c = false) (h44 : c ≠ 44) (hw : c ∉ word) : c ∉ txtL word L := by
  cases L with
  | nil => intro e; cases e
  | cons x r =>
    intro e
    simp only [txtL, List.mem_append] at e
    rcases e with (e | e) | e
    · exact hw e
    · exact not_itoa (h x (by simp)) hc e
    · exact not_txtR (fun y hy => h y (by simp [hy])) hc h44 e
theorem not_head {f : Fl} (h : SmF f) {c : UInt8} (hc : dig c = false) (h62 : c ≠ 62) : c ∉ itoa f.fr ++ [62] ++ itoa f.to := by
  intro e
  simp only [List.mem_append, List.mem_singleton] at e
  rcases e with (e | e) | e
  · exact not_itoa h.1 hc e
  · exact h62 e
  · exact not_itoa h.2.1 hc e
def hdT : List Int → Bs
  | [] => []
  | x :: r => itoa x ++ txtR r
theorem c1_line {f : Fl} (h : SmF f) : c1 (lineB f) = (itoa f.fr ++ [62] ++ itoa f.to ++ txtL wVia f.via, hdT f.nt, !f.nt.isEmpty) := by
  have hA : (110 : UInt8) ∉ itoa f.fr ++ [62] ++ itoa f.to ++ txtL wVia f.via := by
    intro e
    rcases List.mem_append.1 e with e | e
    · exact not_head h (by decide) (by decide) e
    · exact not_txtL h.2.2.1 (by decide) (by decide) (by decide) e
  unfold c1 lineB
  cases hn : f.nt with
  | nil =>
    rw [show txtL wNot [] = [] from rfl, List.append_nil, cut_none (c := 110) (by decide) hA]; rfl
  | cons x r =>
    rw [show txtL wNot (x :: r) = wNot ++ (itoa x ++ txtR r) by simp [txtL], ← List.append_assoc]
    exact cut_word (x := 32) (c := 110) (r := [111, 116, 32]) hA (by decide)
theorem c2_line {f : Fl} (h : SmF f) : c2 (lineB f) = (itoa f.fr ++ [62] ++ itoa f.to, hdT f.via, !f.via.isEmpty) := by
  have hA : (118 : UInt8) ∉ itoa f.fr ++ [62] ++ itoa f.to := not_head h (by decide) (by decide)
  unfold c2
  rw [c1_line h]
  cases hn : f.via with
  | nil =>
    rw [show txtL wVia [] = [] from rfl, List.append_nil, cut_none (c := 118) (by decide) hA]; rfl
  | cons x r =>
    rw [show txtL wVia (x :: r) = wVia ++ (itoa x ++ txtR r) by simp [txtL], ← List.append_assoc]
    exact cut_word (x := 32) (c := 118) (r := [105, 97, 32]) hA (by decide)
theorem c3_line {f : Fl} (h : SmF f) : c3 (lineB f) = (itoa f.fr, itoa f.to, true) := by
  unfold c3
  rw [c2_line h]
  exact cut_sign (not_itoa h.1 (by decide))
theorem lst_match {L : List Int} (h : ∀ x ∈ L, SmN x) : lst (!L.isEmpty) (hdT L) = some L := by
  cases L with
  | nil => rfl
  | cons x r => exact txt_lst h
/-- what is written is read -/
theorem line_rl {f : Fl} (h : SmF f) : rl (lineB f) = some f := by
  unfold rl
  rw [c3_line h, c2_line h, c1_line h]
  simp only [itoa_num h.1, itoa_num h.2.1, lst_match h.2.2.1, lst_match h.2.2.2]
theorem not_line {f : Fl} (h : SmF f) : (10 : UInt8) ∉ lineB f := by
  intro e
  unfold lineB at e
  rcases List.mem_append.1 e with e | e
  · rcases List.mem_append.1 e with e | e
    · exact not_head h (by decide) (by decide) e
    · exact not_txtL h.2.2.1 (by decide) (by decide) (by decide) e
  · exact not_txtL h.2.2.2 (by decide) (by decide) (by decide) e
theorem pstep_line {f : Fl} (h : SmF f) (r : Bs) : pstep (lineT f ++ r) = some (f, r) := by
  unfold pstep lineT
  rw [cut_sign (not_line h)]
  simp [line_rl h]
theorem pstep_text {r : Bs} {f : Fl} {rest : Bs} (h : pstep r = some (f, rest)) : r = lineT f ++ rest ∧ SmF f := by
  obtain ⟨line, h1, h2, _⟩ := pstep_inv h
  obtain ⟨h3, h4⟩ := rl_line h2
  exact ⟨by rw [h1, h3]; rfl, h4⟩
theorem par_text : ∀ (n : Nat) {a : Nat} {r : Bs} {l : List Fl}, par n a r = .ok l → r.length ≤ n → r = text l ∧ ∀ f ∈ l, SmF f
  | 0, a, r, l, h, hn => by
    have : r = [] := List.eq_nil_of_length_eq_zero (by omega)
    subst this
    cases h
    exact ⟨rfl, fun f hf => by cases hf⟩
  | n + 1, a, r, l, h, hn => by
    by_cases hr : r = []
    · subst hr
      rw [par_succ, if_pos rfl] at h
      cases h
      exact ⟨rfl, fun f hf => by cases hf⟩
    · obtain ⟨g, rest, l', h1, rfl, h2⟩ := par_ok_inv h hr
      have hlt := pstep_lt h1
      obtain ⟨h3, h4⟩ := par_text n h2 (by omega)
      obtain ⟨h5, h6⟩ := pstep_text h1
      refine ⟨?_, fun f hf => ?_⟩
      · rw [h5, h3]; simp [text]
      · rcases List.mem_cons.1 hf with rfl | hf
        · exact h6
        · exact h4 f hf
theorem lineT_len (f : Fl) : 1 ≤ (lineT f).length := by simp [lineT]
theorem text_par : ∀ (l : List Fl), (∀ f ∈ l, SmF f) → ∀ n a, (text l).length ≤ n → par n a (text l) = .ok l
  | [], _, n, a, _ => by cases n <;> rfl
  | f :: l, h, n, a, hn => by
    have e : text (f :: l) = lineT f ++ text l := by simp [text]
    have h1 := lineT_len f
    rw [e, List.length_append] at hn
    obtain ⟨n, rfl⟩ : ∃ m, n = m + 1 := ⟨n - 1, by omega⟩
    have ih := text_par l (fun g hg => h g (by simp [hg])) n
    rw [par_succ, e, if_neg (fun e2 => by have := congrArg List.length e2; rw [List.length_append] at this; simp only [List.length_nil] at this; omega), pstep_line (h f (by simp))]
    simp only
    rw [ih _ (by omega)]
/-- what is read, is written as it was -/
theorem pres_text {s : Bs} {l : List Fl} (h : pres s = .ok l) : s = text l ∧ ∀ f ∈ l, SmF f := par_text _ (pres_ok h).2 (Nat.le_refl _)
/-- right flows come back from their text -/
theorem text_pres {l : List Fl} (h : ∀ f ∈ l, SmF f) (hl : (text l).length ≤ 2000) : pres (text l) = .ok l := pres_mk hl (text_par l h _ _ (Nat.le_refl _))

end Stf
