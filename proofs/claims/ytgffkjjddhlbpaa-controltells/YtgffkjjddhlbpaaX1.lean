/- Orders as bytes, in words: what is wrong with an order, its bytes, the order of bytes; what is written is read, in one way alone; one byte that is another one is found. -/
namespace Wir

structure Od where
  k : Int
  n : Int
  v : Int
  rs : List (Int × Int × Int)
  fs : List Int

def od0 : Od := ⟨0, 0, 0, [], []⟩
def badR (v : Int) (r : Int × Int × Int) : Bool := decide (r.1 ≠ v ∨ r.2.1 < 0 ∨ 11 < r.2.1 ∨ r.2.2 < 0 ∨ 7 < r.2.2)
def badF : Int → List Int → Bool
  | _, [] => false
  | last, f :: r => if f ≤ last ∨ 11 < f then true else badF f r
def wrong (o : Od) : Int :=
  if o.n < 1 ∨ 100000 < o.n ∨ o.v < 1 ∨ 1000 < o.v then 3
  else if o.k = 1 then (if 16 < o.rs.length then 5 else if o.rs.any (badR o.v) then 3 else 0)
  else if o.k = 2 then (if 12 < o.fs.length then 5 else if badF (-1) o.fs then 3 else 0)
  else if o.k = 3 then 0 else 1
def bare (o : Od) : Od := ⟨o.k, o.n, o.v, if o.k = 1 then o.rs else [], if o.k = 2 then o.fs else []⟩
/-- A byte of the sum. -/
def turn (n c : Nat) : Nat := (2 * n % 256 + n / 128 + c) % 256
def sumFrom (n : Nat) (b : List Nat) : Nat := b.foldl turn n
def sum (b : List Nat) : Nat := sumFrom 0 b
def two : List (Int × Int × Int) → List Nat
  | [] => []
  | r :: t => r.2.1.toNat :: r.2.2.toNat :: two t
def one (fs : List Int) : List Nat := fs.map Int.toNat
def head (o : Od) : List Nat := [o.k.toNat, o.n.toNat / 65536, o.n.toNat / 256 % 256, o.n.toNat % 256, o.v.toNat / 256, o.v.toNat % 256]
def body (o : Od) : List Nat := head o ++ (if o.k = 1 then o.rs.length :: two o.rs else if o.k = 2 then o.fs.length :: one o.fs else [])
def full (o : Od) : List Nat := body o ++ [sum (body o)]
def bts (o : Od) : List Nat × Int := if wrong o ≠ 0 then ([], wrong o) else (full o, 0)
def prs (v : Int) : List Nat → List (Int × Int × Int)
  | a :: b :: r => (v, (a : Int), (b : Int)) :: prs v r
  | _ => []
def ints (b : List Nat) : List Int := b.map (fun x : Nat => (x : Int))
/-- The order of bytes that have their form, without the sum. -/
def form : List Nat → Option Od
  | k :: n0 :: n1 :: n2 :: v0 :: v1 :: r =>
    if k = 1 then (match r with
      | [] => none
      | c :: t => if t.length = 2 * c then some ⟨1, 65536 * (n0 : Int) + 256 * n1 + n2, 256 * (v0 : Int) + v1, prs (256 * (v0 : Int) + v1) t, []⟩ else none)
    else if k = 2 then (match r with
      | [] => none
      | c :: t => if t.length = c then some ⟨2, 65536 * (n0 : Int) + 256 * n1 + n2, 256 * (v0 : Int) + v1, [], ints t⟩ else none)
    else (match r with
      | [] => some ⟨k, 65536 * (n0 : Int) + 256 * n1 + n2, 256 * (v0 : Int) + v1, [], []⟩
      | _ :: _ => none)
  | _ => none
def parse (b : List Nat) : Od × Int :=
  if b.length < 7 ∨ sum (b.take (b.length - 1)) ≠ b.getD (b.length - 1) 0 then (od0, 2)
  else match form (b.take (b.length - 1)) with
    | none => (od0, 2)
    | some o => if wrong o ≠ 0 then (od0, wrong o) else (o, 0)

theorem sumFrom_append (n : Nat) (x y : List Nat) : sumFrom n (x ++ y) = sumFrom (sumFrom n x) y := by simp [sumFrom]
theorem turn_lt (n c : Nat) : turn n c < 256 := by unfold turn; omega
theorem sumFrom_lt : ∀ (b : List Nat) (n : Nat), n < 256 → sumFrom n b < 256
  | [], _, h => h
  | c :: r, n, _ => by have := sumFrom_lt r (turn n c) (turn_lt n c); exact this
theorem sum_lt (b : List Nat) : sum b < 256 := sumFrom_lt b 0 (by omega)
theorem turn_inj {n m c d : Nat} (hn : n < 256) (hm : m < 256) (hc : c < 256) (hd : d < 256) (h : turn n c = turn m d) (e : n = m ∨ c = d) : n = m ∧ c = d := by
  unfold turn at h
  rcases e with e | e <;> subst e
  · omega
  · have r1 : ∀ x : Nat, x < 256 → (x < 128 ∧ 2 * x % 256 + x / 128 = 2 * x) ∨ (128 ≤ x ∧ 2 * x % 256 + x / 128 + 255 = 2 * x) := fun x hx => by omega
    rcases r1 n hn with ⟨a1, a2⟩ | ⟨a1, a2⟩ <;> rcases r1 m hm with ⟨b1, b2⟩ | ⟨b1, b2⟩ <;> omega
theorem sumFrom_inj : ∀ (b : List Nat) {n m : Nat}, (∀ c ∈ b, c < 256) → n < 256 → m < 256 → sumFrom n b = sumFrom m b → n = m
  | [], _, _, _, _, _, h => h
  | c :: r, n, m, hb, hn, hm, h => by
    have h2 := sumFrom_inj r (fun x hx => hb x (List.mem_cons_of_mem _ hx)) (turn_lt n c) (turn_lt m c) h
    have hc := hb c List.mem_cons_self
    exact (turn_inj hn hm hc hc h2 (Or.inr rfl)).1
/-- One byte that is another one gives another sum. -/
theorem sum_set {b : List Nat} {i c : Nat} (hb : ∀ x ∈ b, x < 256) (hi : i < b.length) (hc : c < 256) (hne : c ≠ b[i]) : sum (b.set i c) ≠ sum b := by
  intro h
  have e1 : b.set i c = b.take i ++ c :: b.drop (i + 1) := by rw [List.set_eq_take_append_cons_drop, if_pos hi]
  have e2 : b = b.take i ++ b[i] :: b.drop (i + 1) := by rw [List.getElem_cons_drop hi, List.take_append_drop]
  have h2 : sumFrom 0 (b.take i ++ c :: b.drop (i + 1)) = sumFrom 0 (b.take i ++ b[i] :: b.drop (i + 1)) := by
    rw [← e1, ← e2]; exact h
  rw [sumFrom_append, sumFrom_append] at h2
  have hs := sumFrom_lt (b.take i) 0 (by omega)
  have h3 := sumFrom_inj (b.drop (i + 1)) (fun x hx => hb x (List.mem_of_mem_drop hx)) (turn_lt _ c) (turn_lt _ b[i]) h2
  exact hne (turn_inj hs hs hc (hb _ (List.getElem_mem hi)) h3 (Or.inl rfl)).2

theorem two_len : ∀ rs : List (Int × Int × Int), (two rs).length = 2 * rs.length
  | [] => rfl
  | r :: t => by simp only [two, List.length_cons, two_len t]; omega
theorem prs_two {v : Int} : ∀ {rs : List (Int × Int × Int)}, rs.any (badR v) = false → prs v (two rs) = rs
  | [], _ => rfl
  | r :: t, h => by
    simp only [List.any_cons, Bool.or_eq_false_iff] at h
    have h1 : ¬ (r.1 ≠ v ∨ r.2.1 < 0 ∨ 11 < r.2.1 ∨ r.2.2 < 0 ∨ 7 < r.2.2) := of_decide_eq_false h.1
    rw [two, prs, prs_two h.2, show ((r.2.1.toNat : Nat) : Int) = r.2.1 by omega, show ((r.2.2.toNat : Nat) : Int) = r.2.2 by omega]
    have : v = r.1 := by omega
    rw [this]
theorem two_prs {v : Int} : ∀ (c : Nat) {t : List Nat}, t.length = 2 * c → two (prs v t) = t ∧ (prs v t).length = c
  | 0, t, h => by
    have : t = [] := List.eq_nil_of_length_eq_zero (by omega)
    subst this; exact ⟨rfl, rfl⟩
  | c + 1, a :: b :: t, h => by
    have ih := two_prs (v := v) c (t := t) (by simp only [List.length_cons] at h; omega)
    simp only [prs, two, Int.toNat_natCast, ih.1, List.length_cons, ih.2, and_self]
  | c + 1, [a], h => by simp only [List.length_cons, List.length_nil] at h; omega
  | c + 1, [], h => by simp only [List.length_nil] at h; omega
theorem badF_range : ∀ {last : Int} {fs : List Int}, -1 ≤ last → badF last fs = false → ∀ f ∈ fs, 0 ≤ f ∧ f ≤ 11
  | _, [], _, _, f, hf => by cases hf
  | last, x :: r, hl, h, f, hf => by
    rw [badF] at h
    by_cases hx : x ≤ last ∨ 11 < x
    · rw [if_pos hx] at h; cases h
    · rw [if_neg hx] at h
      rcases List.mem_cons.1 hf with rfl | hf
      · omega
      · exact badF_range (by omega) h f hf
theorem ints_one : ∀ {fs : List Int}, (∀ f ∈ fs, 0 ≤ f ∧ f ≤ 11) → ints (one fs) = fs
  | [], _ => rfl
  | x :: r, h => by
    have ih := ints_one (fs := r) (fun f hf => h f (List.mem_cons_of_mem _ hf))
    have hx := h x List.mem_cons_self
    unfold ints one at ih ⊢
    rw [List.map_cons, List.map_cons, ih, show ((x.toNat : Nat) : Int) = x by omega]
theorem one_ints : ∀ t : List Nat, one (ints t) = t
  | [] => rfl
  | x :: r => by
    have ih := one_ints r
    unfold one ints at ih ⊢
    rw [List.map_cons, List.map_cons, ih, Int.toNat_natCast]

/-- What a right order's kind has. -/
theorem right_cases {o : Od} (h : wrong o = 0) : (1 ≤ o.n ∧ o.n ≤ 100000 ∧ 1 ≤ o.v ∧ o.v ≤ 1000) ∧ ((o.k = 1 ∧ o.rs.length ≤ 16 ∧ o.rs.any (badR o.v) = false) ∨ (o.k = 2 ∧ o.fs.length ≤ 12 ∧ badF (-1) o.fs = false) ∨ o.k = 3) := by
  unfold wrong at h
  split at h
  · omega
  · rename_i h1
    refine ⟨by omega, ?_⟩
    split at h
    · rename_i h2
      split at h
      · omega
      · rename_i h3
        split at h
        · omega
        · rename_i h4
          exact Or.inl ⟨h2, by omega, by simpa using h4⟩
    · split at h
      · rename_i h2
        split at h
        · omega
        · rename_i h3
          split at h
          · omega
          · rename_i h4
            exact Or.inr (Or.inl ⟨h2, by omega, by simpa using h4⟩)
      · split at h
        · rename_i h2
          exact Or.inr (Or.inr h2)
        · omega
theorem wrong_bare (o : Od) : wrong (bare o) = wrong o := by
  obtain ⟨k, n, v, rs, fs⟩ := o
  unfold wrong bare
  by_cases h1 : k = 1
  · subst h1; simp
  · by_cases h2 : k = 2
    · subst h2; simp
    · simp [h1, h2]

theorem form_body {o : Od} (h : wrong o = 0) : form (body o) = some (bare o) := by
  obtain ⟨⟨n1, n2, v1, v2⟩, hk⟩ := right_cases h
  have en : 65536 * ((o.n.toNat / 65536 : Nat) : Int) + 256 * ((o.n.toNat / 256 % 256 : Nat) : Int) + ((o.n.toNat % 256 : Nat) : Int) = o.n := by omega
  have ev : 256 * ((o.v.toNat / 256 : Nat) : Int) + ((o.v.toNat % 256 : Nat) : Int) = o.v := by omega
  rcases hk with ⟨hk, hl, hb⟩ | ⟨hk, hl, hb⟩ | hk
  · have e : body o = head o ++ (o.rs.length :: two o.rs) := by rw [body, if_pos hk]
    rw [e, head, hk]
    simp only [List.cons_append, List.nil_append, form, if_pos (show (1 : Int).toNat = 1 from rfl), two_len, if_true, en, ev, prs_two hb, bare, hk, if_neg (show ¬ (1 : Int) = 2 by omega)]
  · have hk1 : ¬ o.k = 1 := by omega
    have e : body o = head o ++ (o.fs.length :: one o.fs) := by rw [body, if_neg hk1, if_pos hk]
    have hl2 : (one o.fs).length = o.fs.length := by simp [one]
    rw [e, head, hk]
    simp only [List.cons_append, List.nil_append, form, if_neg (show ¬ (2 : Int).toNat = 1 by decide), if_pos (show (2 : Int).toNat = 2 from rfl), hl2, if_true, en, ev, ints_one (badF_range (Int.le_refl _) hb), bare, hk, if_neg (show ¬ (2 : Int) = 1 by omega)]
  · have hk1 : ¬ o.k = 1 := by omega
    have hk2 : ¬ o.k = 2 := by omega
    have e : body o = head o ++ [] := by rw [body, if_neg hk1, if_neg hk2]
    rw [e, head, hk]
    simp only [List.cons_append, List.nil_append, form, if_neg (show ¬ (3 : Int).toNat = 1 by decide), if_neg (show ¬ (3 : Int).toNat = 2 by decide), en, ev, bare, hk, if_neg (show ¬ (3 : Int) = 1 by omega), if_neg (show ¬ (3 : Int) = 2 by omega)]
    rfl

theorem body_len (o : Od) : (body o).length = if o.k = 1 then 7 + 2 * o.rs.length else if o.k = 2 then 7 + o.fs.length else 6 := by
  unfold body head
  by_cases h1 : o.k = 1
  · simp only [if_pos h1, List.length_append, List.length_cons, List.length_nil, two_len]; omega
  · by_cases h2 : o.k = 2
    · simp only [if_neg h1, if_pos h2, List.length_append, List.length_cons, List.length_nil, one, List.length_map]; omega
    · simp only [if_neg h1, if_neg h2, List.length_append, List.length_cons, List.length_nil]
theorem full_len (o : Od) : (full o).length = if o.k = 1 then 8 + 2 * o.rs.length else if o.k = 2 then 8 + o.fs.length else 7 := by
  unfold full
  rw [List.length_append, body_len, List.length_singleton]
  split
  · omega
  · split <;> omega

theorem take_full (o : Od) : (full o).take ((full o).length - 1) = body o := by simp [full]
theorem last_full (o : Od) : (full o).getD ((full o).length - 1) 0 = sum (body o) := by simp [full, List.getD_eq_getElem?_getD]
/-- What is written is read. -/
theorem parse_full {o : Od} (h : wrong o = 0) : parse (full o) = (bare o, 0) := by
  have h7 : ¬ (full o).length < 7 := by rw [full_len]; split; omega; split <;> omega
  unfold parse
  rw [take_full, last_full, if_neg (fun hh => hh.elim h7 (fun hh => hh rfl)), form_body h]
  simp only [wrong_bare, h, ne_eq, not_true_eq_false, if_false]

theorem parse_fail {b : List Nat} (h : (parse b).2 ≠ 0) : (parse b).1 = od0 := by
  unfold parse at h ⊢
  split
  · rfl
  · rename_i hc
    rw [if_neg hc] at h
    split
    · rfl
    · rename_i o ho
      rw [ho] at h
      simp only at h ⊢
      split
      · rfl
      · rename_i hw
        rw [if_neg hw] at h
        exact absurd rfl h

theorem form_inv {c : List Nat} {o : Od} (hc : ∀ x ∈ c, x < 256) (h : form c = some o) (hw : wrong o = 0) : body o = c ∧ bare o = o := by
  unfold form at h
  split at h
  · rename_i k n0 n1 n2 v0 v1 r
    have b1 := hc n1 (by simp)
    have b2 := hc n2 (by simp)
    have b4 := hc v1 (by simp)
    have hn : ∀ m : Int, m = 65536 * (n0 : Int) + 256 * n1 + n2 → m.toNat / 65536 = n0 ∧ m.toNat / 256 % 256 = n1 ∧ m.toNat % 256 = n2 := fun m e => by omega
    have hv : ∀ m : Int, m = 256 * (v0 : Int) + v1 → m.toNat / 256 = v0 ∧ m.toNat % 256 = v1 := fun m e => by omega
    obtain ⟨e1, e2, e3⟩ := hn _ rfl
    obtain ⟨e4, e5⟩ := hv _ rfl
    split at h
    · rename_i hk
      subst hk
      split at h
      · cases h
      · rename_i c t
        split at h
        · rename_i hl
          cases h
          obtain ⟨t1, t2⟩ := two_prs (v := 256 * (v0 : Int) + v1) c hl
          refine ⟨?_, by simp [bare]⟩
          unfold body head
          simp only [if_true, t1, t2, e1, e2, e3, e4, e5]
          rfl
        · cases h
    · rename_i hk1
      split at h
      · rename_i hk
        subst hk
        split at h
        · cases h
        · rename_i c t
          split at h
          · rename_i hl
            cases h
            refine ⟨?_, by simp [bare]⟩
            unfold body head
            simp only [if_neg (show ¬ (2 : Int) = 1 by omega), if_true, one_ints, e1, e2, e3, e4, e5, show (ints t).length = t.length by simp [ints], hl]
            rfl
          · cases h
      · rename_i hk2
        split at h
        · cases h
          refine ⟨?_, ?_⟩
          · unfold body head
            simp only [if_neg (show ¬ (k : Int) = 1 by omega), if_neg (show ¬ (k : Int) = 2 by omega), e1, e2, e3, e4, e5, Int.toNat_natCast]
            rfl
          · simp only [bare, if_neg (show ¬ (k : Int) = 1 by omega), if_neg (show ¬ (k : Int) = 2 by omega)]
        · cases h
  · cases h

/-- In one way alone. -/
theorem full_parse {b : List Nat} (hb : ∀ x ∈ b, x < 256) (h : (parse b).2 = 0) : wrong (parse b).1 = 0 ∧ full (parse b).1 = b ∧ bare (parse b).1 = (parse b).1 := by
  unfold parse at h ⊢
  split
  · rename_i hc; rw [if_pos hc] at h; cases h
  · rename_i hc
    rw [if_neg hc] at h
    split
    · rename_i ho; rw [ho] at h; cases h
    · rename_i o ho
      rw [ho] at h
      simp only at h ⊢
      split
      · rename_i hw; rw [if_pos hw] at h; exact absurd h hw
      · rename_i hw
        have hw0 : wrong o = 0 := by simpa using hw
        obtain ⟨f1, f2⟩ := form_inv (fun x hx => hb x (List.mem_of_mem_take hx)) ho hw0
        refine ⟨hw0, ?_, f2⟩
        unfold full
        rw [f1]
        have hs : sum (b.take (b.length - 1)) = b.getD (b.length - 1) 0 := by
          refine Classical.byContradiction fun hh => hc (Or.inr hh)
        have h7 : ¬ b.length < 7 := fun hh => hc (Or.inl hh)
        rw [hs]
        have hlt : b.length - 1 < b.length := by omega
        have : b.getD (b.length - 1) 0 = b[b.length - 1] := by simp [List.getD_eq_getElem?_getD, hlt]
        rw [this]
        have e := List.take_succ_eq_append_getElem hlt
        rw [← e, List.take_of_length_le (by omega)]

theorem two_lt {v : Int} : ∀ {rs : List (Int × Int × Int)}, rs.any (badR v) = false → ∀ x ∈ two rs, x < 256
  | [], _, x, hx => by cases hx
  | r :: t, h, x, hx => by
    simp only [List.any_cons, Bool.or_eq_false_iff] at h
    have h1 : ¬ (r.1 ≠ v ∨ r.2.1 < 0 ∨ 11 < r.2.1 ∨ r.2.2 < 0 ∨ 7 < r.2.2) := of_decide_eq_false h.1
    rw [two] at hx
    rcases List.mem_cons.1 hx with rfl | hx
    · omega
    · rcases List.mem_cons.1 hx with rfl | hx
      · omega
      · exact two_lt h.2 x hx
theorem body_lt {o : Od} (h : wrong o = 0) : ∀ x ∈ body o, x < 256 := by
  obtain ⟨⟨n1, n2, v1, v2⟩, hk⟩ := right_cases h
  intro x hx
  rw [body, List.mem_append] at hx
  rcases hx with hx | hx
  · simp only [head, List.mem_cons, List.not_mem_nil, or_false] at hx
    omega
  · rcases hk with ⟨hk, hl, hb⟩ | ⟨hk, hl, hb⟩ | hk
    · rw [if_pos hk] at hx
      rcases List.mem_cons.1 hx with rfl | hx
      · omega
      · exact two_lt hb x hx
    · rw [if_neg (by omega), if_pos hk] at hx
      rcases List.mem_cons.1 hx with rfl | hx
      · omega
      · simp only [one, List.mem_map] at hx
        obtain ⟨f, hf, rfl⟩ := hx
        have := badF_range (Int.le_refl _) hb f hf
        omega
    · rw [if_neg (by omega), if_neg (by omega)] at hx
      cases hx
theorem full_lt {o : Od} (h : wrong o = 0) : ∀ x ∈ full o, x < 256 := by
  intro x hx
  rw [full, List.mem_append] at hx
  rcases hx with hx | hx
  · exact body_lt h x hx
  · rw [List.mem_singleton.1 hx]; exact sum_lt _
/-- One byte that is another one is found. -/
theorem spoilt {o : Od} (h : wrong o = 0) {i c : Nat} (hi : i < (full o).length) (hc : c < 256) (hne : c ≠ (full o)[i]) : parse ((full o).set i c) = (od0, 2) := by
  have hl : ((full o).set i c).length = (body o).length + 1 := by simp [full]
  have hcond : ((full o).set i c).length < 7 ∨ sum (((full o).set i c).take (((full o).set i c).length - 1)) ≠ ((full o).set i c).getD (((full o).set i c).length - 1) 0 := by
    right
    rw [hl, Nat.add_sub_cancel]
    have hfl : (full o).length = (body o).length + 1 := by simp [full]
    by_cases hlast : i = (body o).length
    · subst hlast
      have e1 : ((full o).set (body o).length c).take (body o).length = body o := by
        rw [List.take_set_of_le (Nat.le_refl _)]; simp [full]
      have e2 : ((full o).set (body o).length c).getD (body o).length 0 = c := by simp [List.getD_eq_getElem?_getD, hfl]
      rw [e1, e2]
      intro hh
      apply hne
      rw [← hh]
      simp [full]
    · have hib : i < (body o).length := by omega
      have e1 : ((full o).set i c).take (body o).length = (body o).set i c := by
        rw [full, List.set_append_left _ _ hib]; simp
      have e2 : ((full o).set i c).getD (body o).length 0 = sum (body o) := by
        rw [full, List.set_append_left _ _ hib]; simp [List.getD_eq_getElem?_getD]
      rw [e1, e2]
      have hg : (full o)[i] = (body o)[i] := by simp [full, List.getElem_append_left hib]
      rw [hg] at hne
      exact sum_set (body_lt h) hib hc hne
  unfold parse
  rw [if_pos hcond]

end Wir
