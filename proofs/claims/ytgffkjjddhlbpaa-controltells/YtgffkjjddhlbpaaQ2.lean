/- Paths in plain words: the ways that a search goes are just the paths that there are, in order; the first of the cheapest is less than all others that cost the same. -/
import Derived.Test.YtgffkjjddhlbpaaQ1
namespace Stp

/-- The last one of a list that has one. -/
def lst : List Int → Int
  | [] => 0
  | [a] => a
  | _ :: b :: r => lst (b :: r)

theorem ext_sound {C : Int → Int → Int} {to : Int} : ∀ {k : Nat} {cl : List Int} {a : Int} {q : List Int}, q ∈ ext C to k cl a → ¬ a ∈ cl → chain C q ∧ q.Nodup ∧ lst q = to ∧ (∀ x ∈ q, ¬ x ∈ cl) ∧ (∀ x ∈ q, x = a ∨ (0 ≤ x ∧ x < 8))
  | 0, _, _, _, h, _ => by cases h
  | k + 1, cl, a, q, h, ha => by
    unfold ext at h
    split at h
    · rename_i ht
      simp at h
      subst h
      exact ⟨trivial, by simp, ht, fun x hx => by simp at hx; subst hx; exact ha, fun x hx => by simp at hx; exact Or.inl hx⟩
    · simp only [List.mem_flatMap, List.mem_range] at h
      obtain ⟨s, hs, h⟩ := h
      split at h
      · rename_i hc
        simp only [List.mem_map] at h
        obtain ⟨r, hr, rfl⟩ := h
        obtain ⟨h1, h2, h3, h4, h5⟩ := ext_sound hr hc.2
        obtain ⟨r', rfl⟩ := ext_head hr
        refine ⟨⟨hc.1, h1⟩, List.nodup_cons.2 ⟨fun hm => h4 a hm (by simp), h2⟩, h3, fun x hx => ?_, fun x hx => ?_⟩
        · rcases List.mem_cons.1 hx with rfl | hx
          · exact ha
          · exact fun hm => h4 x hx (by simp [hm])
        · rcases List.mem_cons.1 hx with rfl | hx
          · exact Or.inl rfl
          · rcases h5 x hx with rfl | h6
            · exact Or.inr ⟨by omega, by omega⟩
            · exact Or.inr h6
      · cases h

theorem lst_mem : ∀ {q : List Int}, q ≠ [] → lst q ∈ q
  | [], h => absurd rfl h
  | [a], _ => by simp [lst]
  | a :: b :: r, _ => by
    have := lst_mem (q := b :: r) (by simp)
    simp only [lst]
    exact List.mem_cons_of_mem _ this

theorem ext_complete {C : Int → Int → Int} {to : Int} : ∀ {k : Nat} {cl : List Int} {a : Int} {r : List Int}, (a :: r).length ≤ k → chain C (a :: r) → (a :: r).Nodup → lst (a :: r) = to → (∀ x ∈ a :: r, ¬ x ∈ cl) → (∀ x ∈ a :: r, 0 ≤ x ∧ x < 8) → a :: r ∈ ext C to k cl a
  | 0, _, _, _, h, _, _, _, _, _ => by simp at h
  | k + 1, cl, a, [], _, _, _, hl, _, _ => by
    have : a = to := hl
    simp [ext, this]
  | k + 1, cl, a, b :: r, hk, hc, hn, hl, hcl, hr => by
    have hat : ¬ a = to := by
      intro e
      have h1 := lst_mem (q := b :: r) (by simp)
      have h2 : lst (b :: r) = to := hl
      rw [h2, ← e] at h1
      exact (List.nodup_cons.1 hn).1 h1
    have hb := hr b (by simp)
    obtain ⟨s, rfl⟩ := Int.eq_ofNat_of_zero_le hb.1
    rw [ext, if_neg hat, List.mem_flatMap]
    refine ⟨s, by simp; omega, ?_⟩
    have hnb : ¬ (s : Int) ∈ a :: cl := by
      intro hm
      rcases List.mem_cons.1 hm with e | hm
      · exact (List.nodup_cons.1 hn).1 (by rw [← e]; simp)
      · exact hcl _ (by simp) hm
    rw [if_pos ⟨hc.1, hnb⟩, List.mem_map]
    refine ⟨(s : Int) :: r, ext_complete (by simpa using hk) hc.2 (List.nodup_cons.1 hn).2 hl (fun x hx hm => ?_) (fun x hx => hr x (List.mem_cons_of_mem _ hx)), rfl⟩
    rcases List.mem_cons.1 hm with e | hm
    · subst e; exact (List.nodup_cons.1 hn).1 hx
    · exact hcl x (List.mem_cons_of_mem _ hx) hm

theorem ext_sorted {C : Int → Int → Int} {to : Int} : ∀ {k : Nat} {cl : List Int} {a : Int}, (ext C to k cl a).Pairwise llt
  | 0, _, _ => List.Pairwise.nil
  | k + 1, cl, a => by
    unfold ext
    split
    · simp
    · rw [List.pairwise_flatMap]
      refine ⟨fun s _ => ?_, ?_⟩
      · split
        · rw [List.pairwise_map]
          exact ext_sorted.imp (fun {x y} h => Or.inr ⟨rfl, h⟩)
        · exact List.Pairwise.nil
      · refine List.pairwise_lt_range.imp (fun {s t} hst => ?_)
        intro x hx y hy
        split at hx
        · split at hy
          · simp only [List.mem_map] at hx hy
            obtain ⟨x', hx', rfl⟩ := hx
            obtain ⟨y', hy', rfl⟩ := hy
            obtain ⟨u, rfl⟩ := ext_head hx'
            obtain ⟨v, rfl⟩ := ext_head hy'
            exact Or.inr ⟨rfl, Or.inl (by omega)⟩
          · cases hy
        · cases hx

theorem llt_irrefl : ∀ p, ¬ llt p p
  | [] => fun h => h
  | a :: p => fun h => by
    rcases h with h | ⟨_, h⟩
    · omega
    · exact llt_irrefl p h
theorem llt_asymm : ∀ {p q}, llt p q → ¬ llt q p
  | [], _, h => by cases h
  | _ :: _, [], h => by cases h
  | a :: p, b :: q, h => fun k => by
    rcases h with h | ⟨e, h⟩ <;> rcases k with k | ⟨_, k⟩
    · omega
    · omega
    · omega
    · exact llt_asymm h k
theorem llt_app : ∀ {w p q : List Int}, llt p q → llt (w ++ p) (w ++ q)
  | [], _, _, h => h
  | _ :: _, _, _, h => Or.inr ⟨rfl, llt_app h⟩

/-- What the better of all is: one of them that costs no more than any, and is the first that costs so. -/
theorem fold_some {R : List Int → List Int → Prop} : ∀ {L : List (List Int × Int)} {b : Option (List Int × Int)} {p : List Int} {c : Int}, L.Pairwise (fun x y => R x.1 y.1) → (∀ y, b = some y → ∀ x ∈ L, R y.1 x.1) → L.foldl pick b = some (p, c) →
    (b = some (p, c) ∨ (p, c) ∈ L) ∧ (∀ x ∈ L, c < x.2 ∨ c = x.2 ∧ ((p, c) = x ∨ R p x.1)) ∧ (∀ y, b = some y → c < y.2 ∨ b = some (p, c))
  | [], b, p, c, _, _, h => by
    have h' : b = some (p, c) := h
    exact ⟨Or.inl h', fun x hx => (by cases hx), fun y _ => Or.inr h'⟩
  | x :: L, b, p, c, hP, hb, h => by
    obtain ⟨hP1, hP2⟩ := List.pairwise_cons.1 hP
    simp only [List.foldl_cons] at h
    by_cases hp : b.any (fun y => decide (y.2 ≤ x.2)) = true
    · have e : pick b x = b := by simp [pick, hp]
      rw [e] at h
      obtain ⟨h1, h2, h3⟩ := fold_some hP2 (fun y hy z hz => hb y hy z (by simp [hz])) h
      refine ⟨h1.imp id (fun h => by simp [h]), fun z hz => ?_, h3⟩
      rcases List.mem_cons.1 hz with rfl | hz
      · cases b with
        | none => simp at hp
        | some y =>
          simp only [Option.any_some, decide_eq_true_eq] at hp
          rcases h3 y rfl with h4 | h4
          · exact Or.inl (by omega)
          · simp only [Option.some.injEq] at h4
            subst h4
            have hp' : c ≤ z.2 := hp
            by_cases e : c = z.2
            · exact Or.inr ⟨e, Or.inr (hb _ rfl z (by simp))⟩
            · exact Or.inl (by omega)
      · exact h2 z hz
    · have e : pick b x = some x := by simp [pick, hp]
      rw [e] at h
      obtain ⟨h1, h2, h3⟩ := fold_some hP2 (fun y hy z hz => by cases hy; exact hP1 z hz) h
      have h3' := h3 x rfl
      refine ⟨Or.inr ?_, fun z hz => ?_, fun y hy => ?_⟩
      · rcases h1 with h1 | h1
        · cases h1; simp
        · simp [h1]
      · rcases List.mem_cons.1 hz with rfl | hz
        · rcases h3' with h4 | h4
          · exact Or.inl h4
          · simp only [Option.some.injEq] at h4
            subst h4
            exact Or.inr ⟨rfl, Or.inl rfl⟩
        · exact h2 z hz
      · subst hy
        simp only [Option.any_some, decide_eq_true_eq] at hp
        left
        rcases h3' with h4 | h4
        · omega
        · simp only [Option.some.injEq] at h4
          subst h4
          have : ¬ y.2 ≤ c := hp
          omega

theorem fold_none : ∀ {L : List (List Int × Int)} {b : Option (List Int × Int)}, L.foldl pick b = none → b = none ∧ L = []
  | [], b, h => ⟨h, rfl⟩
  | x :: L, b, h => by
    simp only [List.foldl_cons] at h
    have := (fold_none h).1
    unfold pick at this
    split at this
    · rename_i hp
      subst this
      simp at hp
    · cases this

/-- A path from one to another, of those that are there. -/
structure Pth (C : Int → Int → Int) (fr to : Int) (p : List Int) : Prop where
  head : ∃ r, p = fr :: r
  last : lst p = to
  nd : p.Nodup
  ch : chain C p
  rng : ∀ x ∈ p, 0 ≤ x ∧ x < 8
/-- .. that does what is asked for. -/
structure Srv (C : Int → Int → Int) (fr to : Int) (via nt : List Int) (p : List Int) : Prop extends Pth C fr to p where
  not : ∀ x ∈ p, ¬ x ∈ nt
  met : metOf via 0 p = via.length

/-- What a search from the beginning finds. -/
def find (C : Int → Int → Int) (fr to : Int) (via nt : List Int) : Option (List Int × Int) := ent C to via 8 nt [] fr 0 0 none

/-- p is the one: it serves, costs c, and all others that serve cost more, or as much and stand behind it. -/
def IsBest (C : Int → Int → Int) (fr to : Int) (via nt p : List Int) (c : Int) : Prop := Srv C fr to via nt p ∧ c = pc C p ∧ ∀ q, Srv C fr to via nt q → c < pc C q ∨ c = pc C q ∧ (p = q ∨ llt p q)

theorem pth_len {C : Int → Int → Int} {fr to : Int} {p : List Int} (h : Pth C fr to p) : p.length ≤ 8 := by
  have : ∀ (n : Nat) (l : List Int), l.Nodup → (∀ x ∈ l, 0 ≤ x ∧ x < (n : Int)) → l.length ≤ n := by
    intro n
    induction n with
    | zero => intro l _ h; cases l with
      | nil => simp
      | cons a r => have := h a (by simp); omega
    | succ n ih =>
      intro l hd h
      have h1 := ih (l.erase (n : Int)) (hd.erase _) (fun x hx => by
        have := (hd.mem_erase_iff).1 hx
        have := h x this.2
        omega)
      have h2 : l.length ≤ (l.erase (n : Int)).length + 1 := by
        rw [List.length_erase]
        split <;> omega
      omega
  exact this 8 p h.nd h.rng

theorem cands_mem {C : Int → Int → Int} {fr to : Int} {via nt : List Int} (hf : 0 ≤ fr ∧ fr < 8) (hn : ¬ fr ∈ nt) {x : List Int × Int} : x ∈ (ext C to 8 nt fr).flatMap (cand C via [] 0 0) ↔ Srv C fr to via nt x.1 ∧ x.2 = pc C x.1 := by
  simp only [List.mem_flatMap]
  constructor
  · rintro ⟨q, hq, hx⟩
    obtain ⟨h1, h2, h3, h4, h5⟩ := ext_sound hq hn
    unfold cand at hx
    split at hx
    · rename_i hm
      simp at hx
      subst hx
      exact ⟨⟨⟨ext_head hq, h3, h2, h1, fun x hx => by rcases h5 x hx with rfl | h; exact hf; exact h⟩, h4, hm⟩, rfl⟩
    · cases hx
  · rintro ⟨h, hc⟩
    obtain ⟨p, c⟩ := x
    simp only at h hc
    obtain ⟨r, rfl⟩ := h.head
    refine ⟨fr :: r, ext_complete (pth_len h.toPth) h.ch h.nd h.last h.not h.rng, ?_⟩
    unfold cand
    rw [if_pos h.met]
    simp [hc]

theorem find_some {C : Int → Int → Int} (hC : ∀ a b, 0 ≤ C a b) {fr to : Int} {via nt p : List Int} {c : Int} (hf : 0 ≤ fr ∧ fr < 8) (hn : ¬ fr ∈ nt) (h : find C fr to via nt = some (p, c)) : IsBest C fr to via nt p c := by
  rw [find, ent_eq hC] at h
  have hP : ((ext C to 8 nt fr).flatMap (cand C via [] 0 0)).Pairwise (fun x y => llt x.1 y.1) := by
    rw [List.pairwise_flatMap]
    refine ⟨fun q _ => ?_, ext_sorted.imp (fun {q r} hqr x hx y hy => ?_)⟩
    · unfold cand; split <;> simp
    · unfold cand at hx hy
      split at hx
      · split at hy
        · simp at hx hy; subst hx hy; exact hqr
        · cases hy
      · cases hx
  obtain ⟨h1, h2, _⟩ := fold_some hP (fun y hy => by cases hy) h
  rcases h1 with h1 | h1
  · cases h1
  · obtain ⟨h3, h4⟩ := (cands_mem hf hn).1 h1
    refine ⟨h3, h4, fun q hq => ?_⟩
    rcases h2 (q, pc C q) ((cands_mem hf hn).2 ⟨hq, rfl⟩) with h5 | ⟨h5, h6⟩
    · exact Or.inl h5
    · refine Or.inr ⟨h5, h6.imp (fun e => by cases e; rfl) id⟩

theorem find_none {C : Int → Int → Int} (hC : ∀ a b, 0 ≤ C a b) {fr to : Int} {via nt : List Int} (hf : 0 ≤ fr ∧ fr < 8) (hn : ¬ fr ∈ nt) (h : find C fr to via nt = none) : ∀ q, ¬ Srv C fr to via nt q := by
  rw [find, ent_eq hC] at h
  intro q hq
  have := (fold_none h).2
  have h2 := (cands_mem (C := C) (to := to) (via := via) (x := (q, pc C q)) hf hn).2 ⟨hq, rfl⟩
  rw [this] at h2
  cases h2

theorem best_unique {C : Int → Int → Int} {fr to : Int} {via nt p q : List Int} {c d : Int} (h : IsBest C fr to via nt p c) (k : IsBest C fr to via nt q d) : p = q := by
  have h1 := h.2.2 q k.1
  have h2 := k.2.2 p h.1
  have h3 := h.2.1
  have h4 := k.2.1
  rcases h1 with h1 | ⟨e1, h1⟩
  · rcases h2 with h2 | ⟨e2, h2⟩ <;> omega
  · rcases h2 with h2 | ⟨e2, h2⟩
    · omega
    · rcases h1 with h1 | h1
      · exact h1
      · rcases h2 with h2 | h2
        · exact h2.symm
        · exact absurd h2 (llt_asymm h1)

end Stp
