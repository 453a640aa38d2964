/- Rules in plain words: sorting block by block; tables, and what is wrong with them; what is added, dropped and found. -/
import Derived.Test.YtmjddnnjjmnddadV1
namespace Rul
open Go.Sort

/-! ### an insertion sort keeps those of one place as they stood -/
theorem swp_sm {d : Array Ru} {j x y : Nat} (hl : lt d[j + 1]! d[j]! = true) (hx : x ≤ j) (hy : j + 2 ≤ y) (hs : y ≤ d.size) : Sm (seg (swp d (j + 1) j) x y) (seg d x y) := by
  have e : ∀ D : Array Ru, seg D x y = seg D x j ++ ([D[j]!] ++ [D[j + 1]!]) ++ seg D (j + 2) y := fun D => by
    rw [seg_append D hx (by omega), seg_append D (a := j) (m := j + 2) (by omega) hy, seg_append D (a := j) (m := j + 1) (b := j + 2) (by omega) (by omega), seg_one, seg_one]; simp
  rw [e, e d, swp_right _ _ _ (by omega), swp_left _ _ _ (by omega) (by omega)]
  rw [seg_congr (d := d) (d' := swp d (j + 1) j) (a := x) (b := j) fun i _ _ => swp_other _ _ _ _ (by omega) (by omega), seg_congr (d := d) (d' := swp d (j + 1) j) (a := j + 2) (b := y) fun i _ _ => swp_other _ _ _ _ (by omega) (by omega)]
  refine ((Sm.refl _).app (Sm.swap fun a ha b hb => ?_)).app (Sm.refl _)
  rw [List.mem_singleton] at ha hb
  subst ha hb
  exact lt_ne_key hl
theorem insInner_sm {a x y : Nat} (hx : x ≤ a) : ∀ (j : Nat) (d : Array Ru), j < y → y ≤ d.size → Sm (seg (insInner lt a j d) x y) (seg d x y)
  | 0, d, _, _ => Sm.refl _
  | j + 1, d, hj, hs => by
    rw [insInner]
    split
    · rename_i h
      simp at h
      exact (insInner_sm hx j _ (by omega) (by rw [size_swp]; exact hs)).trans (swp_sm h.2 (by omega) (by omega) hs)
    · exact Sm.refl _
theorem insInner_size {a : Nat} : ∀ (j : Nat) (d : Array Ru), (insInner lt a j d).size = d.size
  | 0, d => rfl
  | j + 1, d => by
    rw [insInner]
    split
    · rw [insInner_size j, size_swp]
    · rfl
theorem insOuter_sm {a b : Nat} : ∀ (g i : Nat) (d : Array Ru), b - i ≤ g → a ≤ i → b ≤ d.size → Sm (seg (insOuter lt a b i d) a b) (seg d a b)
  | 0, i, d, hg, _, _ => by rw [insOuter, if_neg (by omega)]; exact Sm.refl _
  | g + 1, i, d, hg, ha, hb => by
    rw [insOuter]
    split
    · exact (insOuter_sm g (i + 1) _ (by omega) (by omega) (by rw [insInner_size]; exact hb)).trans (insInner_sm (Nat.le_refl _) i d (by omega) hb)
    · exact Sm.refl _
theorem ins_mrg {a b : Nat} {d : Array Ru} (hab : a ≤ b) (hb : b ≤ d.size) : Mrg a b d (insertionSort lt d a b) := by
  obtain ⟨h1, h2⟩ := insertionSort_holds swo d a b hab hb
  exact ⟨⟨h1.1, h1.2.1⟩, h2, insOuter_sm _ _ d (Nat.le_refl _) (by omega) hb⟩

/-! ### block by block -/
theorem dvd_step {c s a : Nat} (h1 : c ∣ s) (h2 : c ∣ a) (h : s < a) : s + c ≤ a := by
  have := Nat.le_of_dvd (by omega) (Nat.dvd_sub h2 h1)
  omega
/-- each block is sorted -/
def Bl (c n : Nat) (d : Array Ru) : Prop := ∀ s, c ∣ s → SortedIn lt s (min (s + c) n) d
/-- blocks of twice the length up to a, of once the length from a on -/
structure Bm (c n a : Nat) (d : Array Ru) : Prop where
  at_ : 2 * c ∣ a
  an : a ≤ n
  left : ∀ s, 2 * c ∣ s → s < a → SortedIn lt s (s + 2 * c) d
  right : ∀ s, c ∣ s → a ≤ s → SortedIn lt s (min (s + c) n) d
theorem Bl.start {c n : Nat} {d : Array Ru} (h : Bl c n d) : Bm c n 0 d := ⟨Nat.dvd_zero _, Nat.zero_le _, fun s _ hs => by omega, fun s h1 _ => h s h1⟩
theorem Bm.one {c n a : Nat} {d : Array Ru} (h : Bm c n a d) (hn : a + c ≤ n) : SortedIn lt a (a + c) d := by
  have := h.right a (Nat.dvd_trans (Nat.dvd_mul_left c 2) h.at_) (Nat.le_refl _)
  rwa [Nat.min_eq_left hn] at this
theorem Bm.two {c n a : Nat} {d : Array Ru} (h : Bm c n a d) : SortedIn lt (a + c) (min (a + 2 * c) n) d := by
  have := h.right (a + c) (Nat.dvd_add (Nat.dvd_trans (Nat.dvd_mul_left c 2) h.at_) (Nat.dvd_refl _)) (by omega)
  rwa [show a + c + c = a + 2 * c by omega] at this
theorem Bm.step {c n a : Nat} {d d' : Array Ru} (h : Bm c n a d) (hn : a + 2 * c ≤ n) (m : Mrg a (a + 2 * c) d d') : Bm c n (a + 2 * c) d' := by
  refine ⟨Nat.dvd_add h.at_ (Nat.dvd_refl _), hn, fun s h1 h2 => ?_, fun s h1 h2 => m.1.sorted_right h2 (h.right s h1 (by omega))⟩
  by_cases e : s < a
  · exact m.1.sorted_left (dvd_step h1 h.at_ e) (h.left s h1 e)
  · have : s = a := by
      by_cases e2 : a < s
      · have := dvd_step h.at_ h1 e2; omega
      · omega
    subst this
    exact m.2.1
theorem Bm.fin {c n a : Nat} {d d' : Array Ru} (h : Bm c n a d) (hn : n < a + 2 * c) (m : Mrg a n d d') : Bl (2 * c) n d' := fun s hs => by
  by_cases e : s < a
  · have := dvd_step hs h.at_ e
    rw [Nat.min_eq_left (by have := h.an; omega)]
    exact m.1.sorted_left this (h.left s hs e)
  · by_cases e2 : a < s
    · have := dvd_step h.at_ hs e2
      intro i j h1 h2 h3
      omega
    · have : s = a := by omega
      subst this
      rw [Nat.min_eq_right (by omega)]
      exact m.2.1
theorem Bm.fin' {c n a : Nat} {d : Array Ru} (h : Bm c n a d) (hc : 0 < c) (hn : n ≤ a + c) : Bl (2 * c) n d := by
  refine h.fin (by omega) (Mrg.same ?_)
  have := h.right a (Nat.dvd_trans (Nat.dvd_mul_left c 2) h.at_) (Nat.le_refl _)
  rwa [Nat.min_eq_right hn] at this
theorem Bl.all {c n : Nat} {d : Array Ru} (h : Bl c n d) (hn : n ≤ c) : SortedIn lt 0 n d := by
  have := h 0 (Nat.dvd_zero _)
  rwa [Nat.zero_add, Nat.min_eq_right hn] at this
/-- the first blocks, up to a -/
structure B0 (c a : Nat) (d : Array Ru) : Prop where
  at_ : c ∣ a
  left : ∀ s, c ∣ s → s < a → SortedIn lt s (s + c) d
theorem B0.start (c : Nat) (d : Array Ru) : B0 c 0 d := ⟨Nat.dvd_zero _, fun s _ h => by omega⟩
theorem B0.step {c a : Nat} {d d' : Array Ru} (h : B0 c a d) (m : Mrg a (a + c) d d') : B0 c (a + c) d' := by
  refine ⟨Nat.dvd_add h.at_ (Nat.dvd_refl _), fun s h1 h2 => ?_⟩
  by_cases e : s < a
  · exact m.1.sorted_left (dvd_step h1 h.at_ e) (h.left s h1 e)
  · have : s = a := by
      by_cases e2 : a < s
      · have := dvd_step h.at_ h1 e2; omega
      · omega
    subst this
    exact m.2.1
theorem B0.fin {c n a : Nat} {d d' : Array Ru} (h : B0 c a d) (han : a ≤ n) (hn : n < a + c) (m : Mrg a n d d') : Bl c n d' := fun s hs => by
  by_cases e : s < a
  · have := dvd_step hs h.at_ e
    rw [Nat.min_eq_left (by omega)]
    exact m.1.sorted_left this (h.left s hs e)
  · by_cases e2 : a < s
    · have := dvd_step h.at_ hs e2
      intro i j h1 h2 h3
      omega
    · have : s = a := by omega
      subst this
      rw [Nat.min_eq_right (by omega)]
      exact m.2.1

/-! ### the one sorted row -/
def ins (r : Ru) (l : List Ru) : List Ru := l.takeWhile (fun x => !lt r x) ++ r :: l.dropWhile (fun x => !lt r x)
theorem drop_lt {r : Ru} : ∀ {l : List Ru}, Srt l → ∀ x ∈ l.dropWhile (fun x => !lt r x), lt r x = true
  | [], _, x, hx => by simp at hx
  | a :: l, h, x, hx => by
    have h' := List.pairwise_cons.1 h
    rw [List.dropWhile_cons] at hx
    split at hx
    · exact drop_lt h'.2 x hx
    · rename_i hn
      simp at hn
      rcases List.mem_cons.1 hx with rfl | hx
      · exact hn
      · exact lt_of_lt_le hn (h'.1 x hx)
theorem take_le {r : Ru} : ∀ {l : List Ru}, ∀ x ∈ l.takeWhile (fun x => !lt r x), lt r x = false
  | [], x, hx => by simp at hx
  | a :: l, x, hx => by
    rw [List.takeWhile_cons] at hx
    split at hx
    · rename_i hn
      simp at hn
      rcases List.mem_cons.1 hx with rfl | hx
      · exact hn
      · exact take_le x hx
    · simp at hx
theorem ins_ok {r : Ru} {l : List Ru} (h : Srt l) : Srt (ins r l) ∧ Sm (ins r l) (l ++ [r]) := by
  have e := List.takeWhile_append_dropWhile (p := fun x => !lt r x) (l := l)
  have := ins_back (y := r) (X1 := l.takeWhile (fun x => !lt r x)) (X2 := l.dropWhile (fun x => !lt r x)) (by rw [e]; exact h) take_le (drop_lt h)
  rw [e] at this
  exact this
def sst (l : List Ru) : List Ru := l.foldl (fun o r => ins r o) []
theorem foldl_ok : ∀ (l o : List Ru), Srt o → Srt (l.foldl (fun o r => ins r o) o) ∧ Sm (l.foldl (fun o r => ins r o) o) (o ++ l)
  | [], o, h => by simpa using ⟨h, Sm.refl o⟩
  | r :: l, o, h => by
    have h1 := ins_ok (r := r) h
    have h2 := foldl_ok l _ h1.1
    refine ⟨h2.1, h2.2.trans ?_⟩
    simpa using h1.2.app (Sm.refl l)
theorem sst_ok (l : List Ru) : Srt (sst l) ∧ Sm (sst l) l := by have := foldl_ok l [] List.Pairwise.nil; rwa [List.nil_append] at this
theorem ins_len (r : Ru) (l : List Ru) : (ins r l).length = l.length + 1 := by
  have e := congrArg List.length (List.takeWhile_append_dropWhile (p := fun x => !lt r x) (l := l))
  rw [List.length_append] at e
  rw [ins, List.length_append, List.length_cons]; omega
theorem foldl_len : ∀ (l o : List Ru), (l.foldl (fun o r => ins r o) o).length = o.length + l.length
  | [], o => rfl
  | r :: l, o => by rw [List.foldl_cons, foldl_len l, ins_len, List.length_cons]; omega
theorem sst_len (l : List Ru) : (sst l).length = l.length := by rw [sst, foldl_len]; simp
theorem sst_of {l y : List Ru} (h : Srt y) (s : Sm y l) : y = sst l := srt_unique h (sst_ok l).1 (s.trans (sst_ok l).2.symm)

/-! ### one that is just as the one ahead of it is left out -/
def dd : List Ru → List Ru
  | [] => []
  | [a] => [a]
  | a :: b :: l => if a = b then dd (b :: l) else a :: dd (b :: l)
theorem dd_mem : ∀ (l : List Ru) (r : Ru), r ∈ dd l ↔ r ∈ l
  | [], r => Iff.rfl
  | [a], r => Iff.rfl
  | a :: b :: l, r => by
    rw [dd]
    split
    · rename_i h; subst h; rw [dd_mem (a :: l) r]; simp
    · rw [List.mem_cons, dd_mem (b :: l) r, List.mem_cons (a := r) (b := a)]
theorem dd_len : ∀ (l : List Ru), (dd l).length ≤ l.length
  | [] => Nat.le_refl _
  | [a] => Nat.le_refl _
  | a :: b :: l => by
    rw [dd]
    split
    · have := dd_len (b :: l); simp at this ⊢; omega
    · have := dd_len (b :: l); simp at this ⊢; omega
theorem dd_snoc : ∀ (l : List Ru) (r : Ru), dd (l ++ [r]) = if l.getLast? = some r then dd l else dd l ++ [r]
  | [], r => by simp [dd]
  | [a], r => by
    simp only [List.cons_append, List.nil_append, dd, List.getLast?_singleton, Option.some.injEq]
    split <;> simp_all
  | a :: b :: l, r => by
    have ih := dd_snoc (b :: l) r
    rw [show a :: b :: l ++ [r] = a :: b :: (l ++ [r]) from rfl, dd, dd, show b :: (l ++ [r]) = (b :: l) ++ [r] from rfl, ih, List.getLast?_cons_cons]
    by_cases e : a = b <;> by_cases e2 : (b :: l).getLast? = some r <;> simp [e, e2]
theorem dd_last : ∀ (l : List Ru), (dd l).getLast? = l.getLast?
  | [] => rfl
  | [a] => rfl
  | a :: b :: l => by
    rw [dd]
    split
    · rename_i h; subst h; rw [dd_last (a :: l), List.getLast?_cons_cons]
    · have := dd_last (b :: l)
      rw [List.getLast?_cons_cons, ← this, List.getLast?_cons]
      cases h : (dd (b :: l)).getLast? with
      | some x => rfl
      | none => rw [h] at this; simp [List.getLast?_cons] at this
theorem dd_pair : ∀ {l : List Ru}, Srt l → (∀ a ∈ l, ∀ b ∈ l, key a = key b → a = b) → (dd l).Pairwise (fun a b => lt a b = true)
  | [], _, _ => List.Pairwise.nil
  | [a], _, _ => by simp [dd]
  | a :: b :: l, h, hu => by
    have h' := List.pairwise_cons.1 h
    have ih := dd_pair h'.2 (fun x hx y hy => hu x (List.mem_cons_of_mem _ hx) y (List.mem_cons_of_mem _ hy))
    rw [dd]
    split
    · exact ih
    · rename_i hab
      refine List.pairwise_cons.2 ⟨fun x hx => ?_, ih⟩
      have hx' := (dd_mem _ _).1 hx
      have hlt : lt a b = true := by
        cases e : lt a b with
        | true => rfl
        | false => exact absurd (hu a (by simp) b (by simp) (key_of_not e (h'.1 b (by simp)))) hab
      rcases List.mem_cons.1 hx' with rfl | hx'
      · exact hlt
      · exact lt_of_lt_le hlt ((List.pairwise_cons.1 h'.2).1 x hx')

/-! ### strictly rising rows -/
def Ris (l : List Ru) : Prop := l.Pairwise (fun a b => lt a b = true)
theorem Ris.srt {l : List Ru} (h : Ris l) : Srt l := List.Pairwise.imp (fun h => lt_asymm h) h
theorem Ris.uniq : ∀ {l : List Ru}, Ris l → ∀ a ∈ l, ∀ b ∈ l, key a = key b → a = b
  | [], _, a, ha, _, _, _ => by simp at ha
  | x :: l, h, a, ha, b, hb, hk => by
    have h' := List.pairwise_cons.1 h
    rcases List.mem_cons.1 ha with ha1 | ha1 <;> rcases List.mem_cons.1 hb with hb1 | hb1
    · rw [ha1, hb1]
    · subst ha1; exact absurd hk (lt_ne_key (h'.1 _ hb1))
    · subst hb1; exact absurd hk.symm (lt_ne_key (h'.1 _ ha1))
    · exact Ris.uniq h'.2 a ha1 b hb1 hk
theorem ris_fl : ∀ {l : List Ru}, Ris l → ∀ r ∈ l, fl (key r) l = [r]
  | [], _, r, hr => by simp at hr
  | x :: l, h, r, hr => by
    have h' := List.pairwise_cons.1 h
    have hno : ∀ y ∈ l, key y ≠ key x := fun y hy e => lt_ne_key (h'.1 y hy) e.symm
    rcases List.mem_cons.1 hr with rfl | hr
    · have : fl (key r) l = [] := List.eq_nil_iff_forall_not_mem.2 fun y hy => hno y (mem_fl.1 hy).1 (mem_fl.1 hy).2
      simp only [fl] at this ⊢
      simp [this]
    · have hne : key x ≠ key r := fun e => hno r hr e.symm
      have := ris_fl h'.2 r hr
      simp only [fl] at this ⊢
      simp [hne, this]
theorem ris_eq {x y : List Ru} (hx : Ris x) (hy : Ris y) (h : ∀ r, r ∈ x ↔ r ∈ y) : x = y := by
  refine srt_unique hx.srt hy.srt fun k => ?_
  rcases e : fl k x with _ | ⟨r, l⟩
  · symm
    refine List.eq_nil_iff_forall_not_mem.2 fun b hb => ?_
    have hb' := mem_fl.1 hb
    have : b ∈ fl k x := mem_fl.2 ⟨(h b).2 hb'.1, hb'.2⟩
    rw [e] at this
    simp at this
  · have hr := mem_fl.1 (show r ∈ fl k x by rw [e]; simp)
    rw [← e, ← hr.2, ris_fl hx r hr.1, ris_fl hy r ((h r).1 hr.1)]

/-! ### tables -/
def inR (r : Ru) : Bool := decide (1 ≤ r.1 ∧ r.1 ≤ 1000 ∧ 0 ≤ r.2.1 ∧ r.2.1 < 12 ∧ 0 ≤ r.2.2 ∧ r.2.2 < 8)
def wr : Nat → Option Ru → List Ru → Int × Int
  | _, _, [] => (0, 0)
  | i, p, r :: l => if inR r = false then (3, i) else if p.any (fun q => !lt q r) then (2, i) else wr (i + 1) (some r) l
def wrong (l : List Ru) : Int × Int := if 16 < l.length then (10, 0) else wr 0 none l
def tab (l : List Ru) : Prop := (wrong l).1 = 0
theorem wr_zero : ∀ {i : Nat} {p : Option Ru} {l : List Ru}, (wr i p l).1 = 0 → wr i p l = (0, 0) ∧ (∀ r ∈ l, inR r = true) ∧ Ris l ∧ ∀ q, p = some q → ∀ r ∈ l, lt q r = true
  | i, p, [], _ => ⟨rfl, by simp, List.Pairwise.nil, by simp⟩
  | i, p, r :: l, h => by
    rw [wr] at h ⊢
    split at h
    · simp at h
    · rename_i h1
      split at h
      · simp at h
      · rename_i h2
        rw [if_neg h1, if_neg h2]
        obtain ⟨a1, a2, a3, a4⟩ := wr_zero h
        have a4' := a4 r rfl
        refine ⟨a1, fun x hx => ?_, List.pairwise_cons.2 ⟨a4', a3⟩, fun q hq x hx => ?_⟩
        · rcases List.mem_cons.1 hx with rfl | hx
          · simpa using h1
          · exact a2 x hx
        · subst hq
          have hqr : lt q r = true := by simpa using h2
          rcases List.mem_cons.1 hx with rfl | hx
          · exact hqr
          · exact swo.trans _ _ _ hqr (a4' x hx)
theorem wr_ok : ∀ {i : Nat} {p : Option Ru} {l : List Ru}, (∀ r ∈ l, inR r = true) → Ris l → (∀ q, p = some q → ∀ r ∈ l, lt q r = true) → wr i p l = (0, 0)
  | i, p, [], _, _, _ => rfl
  | i, p, r :: l, h1, h2, h3 => by
    have h2' := List.pairwise_cons.1 h2
    rw [wr, if_neg (by simp [h1 r (by simp)]), if_neg ?_]
    · exact wr_ok (fun x hx => h1 x (by simp [hx])) h2'.2 (fun q hq x hx => by cases hq; exact h2'.1 x hx)
    · cases p with
      | none => simp
      | some q => simp [h3 q rfl r (by simp)]
theorem tab_iff {l : List Ru} : tab l ↔ l.length ≤ 16 ∧ (∀ r ∈ l, inR r = true) ∧ Ris l := by
  unfold tab wrong
  split
  · rename_i h; constructor
    · intro h; simp at h
    · intro h'; omega
  · rename_i h
    constructor
    · intro h'
      obtain ⟨_, a, b, _⟩ := wr_zero h'
      exact ⟨by omega, a, b⟩
    · intro h'
      rw [wr_ok h'.2.1 h'.2.2 (by simp)]
theorem tab_wrong {l : List Ru} (h : tab l) : wrong l = (0, 0) := by
  unfold tab wrong at h; unfold wrong
  split at h
  · simp at h
  · rename_i h2
    rw [if_neg h2]
    exact (wr_zero h).1

/-! ### added, dropped, found -/
def add (l more : List Ru) : List Ru × Int :=
  if (wrong l).1 ≠ 0 then ([], (wrong l).1) else if (wrong (dd (sst (l ++ more)))).1 ≠ 0 then ([], (wrong (dd (sst (l ++ more)))).1) else (dd (sst (l ++ more)), 0)
def drp (l : List Ru) (v : Int) : List Ru := l.filter (fun r => decide (r.1 ≠ v))
def nxt (v f : Int) : List Ru → Int × Bool
  | [] => (0, false)
  | r :: l => if r.1 = v ∧ r.2.1 = f then (r.2.2, true) else nxt v f l

theorem nxt_mem {v f : Int} : ∀ {l : List Ru}, (nxt v f l).2 = true → (v, f, (nxt v f l).1) ∈ l
  | [], h => by simp [nxt] at h
  | (a, b, c) :: l, h => by
    rw [nxt] at h ⊢
    split at h
    · rename_i e
      simp at e
      obtain ⟨rfl, rfl⟩ := e
      simp
    · rename_i e
      rw [if_neg e]
      exact List.mem_cons_of_mem _ (nxt_mem h)
theorem nxt_none {v f : Int} : ∀ {l : List Ru}, (nxt v f l).2 = false → nxt v f l = (0, false) ∧ ∀ n, (v, f, n) ∉ l
  | [], _ => ⟨rfl, by simp⟩
  | r :: l, h => by
    rw [nxt] at h ⊢
    split at h
    · simp at h
    · rename_i e
      rw [if_neg e]
      obtain ⟨h1, h2⟩ := nxt_none h
      refine ⟨h1, fun n hn => ?_⟩
      rcases List.mem_cons.1 hn with rfl | hn
      · exact e ⟨rfl, rfl⟩
      · exact h2 n hn
/-- where no two are of one place, what is found is what is there -/
theorem nxt_of {v f n : Int} {l : List Ru} (hu : ∀ a ∈ l, ∀ b ∈ l, key a = key b → a = b) (h : (v, f, n) ∈ l) : nxt v f l = (n, true) := by
  cases e : (nxt v f l).2 with
  | false => exact absurd h ((nxt_none e).2 n)
  | true =>
    have := hu _ (nxt_mem e) _ h rfl
    injection this with _ this
    injection this with _ this
    rw [← this, ← e]
theorem nxt_same {v f : Int} {l m : List Ru} (hl : ∀ a ∈ l, ∀ b ∈ l, key a = key b → a = b) (h : ∀ n, (v, f, n) ∈ l ↔ (v, f, n) ∈ m) : nxt v f l = nxt v f m := by
  cases e : (nxt v f m).2 with
  | true => rw [nxt_of hl ((h _).2 (nxt_mem e)), ← e]
  | false =>
    rw [(nxt_none e).1]
    cases e2 : (nxt v f l).2 with
    | false => exact (nxt_none e2).1
    | true => exact absurd ((h _).1 (nxt_mem e2)) ((nxt_none e).2 _)

theorem add_mem {l more : List Ru} {r : Ru} : r ∈ dd (sst (l ++ more)) ↔ r ∈ l ∨ r ∈ more := by
  rw [dd_mem, ← List.mem_append]
  exact ⟨(sst_ok _).2.mem, (sst_ok _).2.symm.mem⟩
theorem add_zero {l more : List Ru} (h : (add l more).2 = 0) : tab l ∧ tab (add l more).1 ∧ (add l more).1 = dd (sst (l ++ more)) := by
  unfold add at h ⊢
  split at h
  · rename_i h1; exact absurd h h1
  · rename_i h1
    rw [if_neg h1]
    split at h
    · rename_i h2; exact absurd h h2
    · rename_i h2
      rw [if_neg h2]
      exact ⟨by simpa [tab] using h1, by simpa [tab] using h2, rfl⟩
theorem add_fail {l more : List Ru} (h : (add l more).2 ≠ 0) : (add l more).1 = [] := by
  unfold add at h ⊢
  split
  · rfl
  · rename_i h1
    rw [if_neg h1] at h
    split
    · rfl
    · rename_i h2
      rw [if_neg h2] at h
      exact absurd rfl h
theorem add_len {l more : List Ru} : (add l more).1.length ≤ l.length + more.length := by
  by_cases h : (add l more).2 = 0
  · rw [(add_zero h).2.2]
    refine Nat.le_trans (dd_len _) ?_
    rw [sst_len, List.length_append]; exact Nat.le_refl _
  · rw [add_fail h]; simp
/-- added again it is the same -/
theorem add_again {l more : List Ru} (h : (add l more).2 = 0) : add (add l more).1 more = ((add l more).1, 0) := by
  obtain ⟨_, t2, e⟩ := add_zero h
  have hr := tab_iff.1 t2
  have hm : ∀ r, r ∈ (add l more).1 ↔ r ∈ l ∨ r ∈ more := fun r => by rw [e, add_mem]
  have key : dd (sst ((add l more).1 ++ more)) = (add l more).1 := by
    have hmem : ∀ r, r ∈ sst ((add l more).1 ++ more) ↔ r ∈ (add l more).1 := fun r => by
      rw [← dd_mem, add_mem, hm]
      constructor
      · rintro (h | h)
        · exact h
        · exact Or.inr h
      · exact Or.inl
    refine ris_eq (dd_pair (sst_ok _).1 fun a ha b hb => hr.2.2.uniq a ((hmem a).1 ha) b ((hmem b).1 hb)) hr.2.2 fun r => ?_
    rw [dd_mem, hmem]
  have w0 : (wrong (add l more).1).1 = 0 := t2
  rw [add, if_neg (by simp [w0]), key, if_neg (by simp [w0])]
theorem drp_mem {l : List Ru} {v : Int} {r : Ru} : r ∈ drp l v ↔ r ∈ l ∧ r.1 ≠ v := by simp [drp]
theorem drp_tab {l : List Ru} {v : Int} (h : tab l) : tab (drp l v) := by
  obtain ⟨h1, h2, h3⟩ := tab_iff.1 h
  exact tab_iff.2 ⟨Nat.le_trans (List.length_filter_le _ _) h1, fun r hr => h2 r (drp_mem.1 hr).1, List.Pairwise.filter _ h3⟩
theorem drp_gone {l : List Ru} {v f : Int} : nxt v f (drp l v) = (0, false) := by
  cases e : (nxt v f (drp l v)).2 with
  | false => exact (nxt_none e).1
  | true => exact absurd rfl (drp_mem.1 (nxt_mem e)).2
theorem drp_other {l : List Ru} {v u f : Int} (h : tab l) (hv : u ≠ v) : nxt u f (drp l v) = nxt u f l := by
  refine nxt_same ((tab_iff.1 (drp_tab h)).2.2.uniq) fun n => ?_
  rw [drp_mem]
  exact ⟨fun h => h.1, fun h => ⟨h, hv⟩⟩

end Rul
