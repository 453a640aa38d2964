/- Who reaches whom, plainly: what a search that goes through a growing list keeps, and what it comes to. -/
import Derived.Test.YtgffkjjddhlbpaaM1
namespace Stw

theorem nodup_le : ∀ (n : Nat) (l : List Int), l.Nodup → (∀ x ∈ l, 0 ≤ x ∧ x < (n : Int)) → l.length ≤ n
  | 0, l, _, h => by
    cases l with
    | nil => simp
    | cons a r => have := h a (by simp); omega
  | n + 1, l, hd, h => by
    have h1 := nodup_le n (l.erase (n : Int)) (hd.erase _) (fun x hx => by
      have := (hd.mem_erase_iff).1 hx
      have := h x this.2
      omega)
    have h2 : l.length ≤ (l.erase (n : Int)).length + 1 := by
      rw [List.length_erase]
      split <;> omega
    omega

/-- All that the list so far is good for: the first d of it have been gone through. -/
structure Bfs (n : Int) (ls : List Lk) (fr : Int) (L : List Int) (d : Nat) : Prop where
  nd : L.Nodup
  rng : ∀ x ∈ L, 0 ≤ x ∧ x < n
  src : fr ∈ L
  all : ∀ x ∈ L, Rch ls fr x
  done : ∀ i, i < d → ∀ y, 0 < cost ls (L.getD i 0) y → y ∈ L

theorem Bfs.start {n : Int} {ls : List Lk} {fr : Int} (h0 : 0 ≤ fr) (h1 : fr < n) : Bfs n ls fr [fr] 0 :=
  ⟨by simp, fun x hx => by simp at hx; omega, by simp, fun x hx => by simp at hx; subst hx; exact Rch.refl _ _, fun i hi => by omega⟩

theorem Bfs.len {n : Int} {ls : List Lk} {fr : Int} {L : List Int} {d : Nat} (h : Bfs n ls fr L d) (hn : n ≤ 8) : L.length ≤ 8 :=
  nodup_le 8 L h.nd (fun x hx => by have := h.rng x hx; omega)

theorem getD_mem {L : List Int} {i : Nat} (h : i < L.length) : L.getD i 0 ∈ L := by
  rw [List.getD_eq_getElem?_getD, List.getElem?_eq_getElem h]; exact List.getElem_mem h
theorem getD_snoc {L : List Int} {x : Int} {i : Nat} (h : i < L.length) : (L ++ [x]).getD i 0 = L.getD i 0 := by
  simp [List.getD_eq_getElem?_getD, List.getElem?_append, h]

/-- .. and of the d-th the first j are looked at. -/
def Near (ls : List Lk) (L : List Int) (d j : Nat) : Prop := ∀ y : Int, 0 ≤ y → y < (j : Int) → 0 < cost ls (L.getD d 0) y → y ∈ L
theorem near_zero {ls : List Lk} {L : List Int} {d : Nat} : Near ls L d 0 := fun y h0 h1 => by omega
theorem Near.skip {ls : List Lk} {L : List Int} {d j : Nat} (h : Near ls L d j) (hj : (j : Int) ∈ L ∨ ¬ 0 < cost ls (L.getD d 0) (j : Int)) : Near ls L d (j + 1) := fun y h0 h1 hc => by
  by_cases e : y = (j : Int)
  · subst e
    rcases hj with hj | hj
    · exact hj
    · exact absurd hc hj
  · exact h y h0 (by omega) hc
theorem Near.add {ls : List Lk} {L : List Int} {d j : Nat} (h : Near ls L d j) (hd : d < L.length) : Near ls (L ++ [(j : Int)]) d (j + 1) := fun y h0 h1 hc => by
  rw [getD_snoc hd] at hc
  by_cases e : y = (j : Int)
  · subst e; simp
  · have := h y h0 (by omega) hc
    simp [this]

theorem Bfs.add {n : Int} {ls : List Lk} {fr : Int} {L : List Int} {d : Nat} {x : Int} (h : Bfs n ls fr L d) (hd : d < L.length) (hx : ¬ x ∈ L) (h0 : 0 ≤ x) (h1 : x < n) (hc : 0 < cost ls (L.getD d 0) x) : Bfs n ls fr (L ++ [x]) d :=
  ⟨by
    rw [List.nodup_append]
    refine ⟨h.nd, by simp, fun a ha b hb => ?_⟩
    simp at hb
    subst hb
    intro e
    subst e
    exact hx ha,
   fun y hy => by
    rcases List.mem_append.1 hy with hy | hy
    · exact h.rng y hy
    · simp at hy; subst hy; exact ⟨h0, h1⟩,
   List.mem_append.2 (Or.inl h.src),
   fun y hy => by
    rcases List.mem_append.1 hy with hy | hy
    · exact h.all y hy
    · simp at hy; subst hy; exact (h.all _ (getD_mem hd)).step hc,
   fun i hi y hy => by
    rw [getD_snoc (by omega)] at hy
    exact List.mem_append.2 (Or.inl (h.done i hi y hy))⟩

theorem Bfs.next {n : Int} {ls : List Lk} {fr : Int} {L : List Int} {d m : Nat} (h : Bfs n ls fr L d) (hm : n ≤ (m : Int)) (hk : Near ls L d m) (hr : ∀ a b, cost ls a b ≠ 0 → 0 ≤ b ∧ b < n) : Bfs n ls fr L (d + 1) :=
  ⟨h.nd, h.rng, h.src, h.all, fun i hi y hy => by
    by_cases e : i = d
    · subst e
      have := hr _ _ (by omega : cost ls (L.getD i 0) y ≠ 0)
      exact hk y this.1 (by omega) hy
    · exact h.done i (by omega) y hy⟩

theorem Bfs.final {n : Int} {ls : List Lk} {fr : Int} {L : List Int} {d : Nat} (h : Bfs n ls fr L d) (hd : L.length ≤ d) (s : Int) : s ∈ L ↔ Rch ls fr s :=
  ⟨h.all s, fun hr => hr (fun x => x ∈ L) h.src (fun x y hx hc => by
    obtain ⟨i, hi, rfl⟩ := List.getElem_of_mem hx
    refine h.done i (by omega) y ?_
    rw [List.getD_eq_getElem?_getD, List.getElem?_eq_getElem hi]
    exact hc)⟩

/-- The list of all that are reached, rising. -/
def RL (n : Int) (ls : List Lk) (fr : Int) (L : List Int) : Prop := L.Pairwise (fun a b => a < b) ∧ ∀ s, s ∈ L ↔ ((wrong n ls).1 = 0 ∧ swB n fr = true ∧ Rch ls fr s)

theorem sorted_lt {L : List Int} (hd : L.Nodup) : (L.mergeSort fun x y => decide (x ≤ y)).Pairwise (fun a b => a < b) := by
  have h1 := List.pairwise_mergeSort (le := fun x y : Int => decide (x ≤ y)) (fun a b c h1 h2 => by simp at *; omega) (fun a b => by simp; omega) L
  have h2 : (L.mergeSort fun x y => decide (x ≤ y)).Nodup := (List.mergeSort_perm L _).nodup_iff.2 hd
  have h3 := h1.and h2
  exact h3.imp (fun {a b} h => by have := h.1; have := h.2; simp at *; omega)

theorem rl_of {n : Int} {ls : List Lk} {fr : Int} {L : List Int} {d : Nat} (h : Bfs n ls fr L d) (hd : L.length ≤ d) (hw : (wrong n ls).1 = 0) (hs : swB n fr = true) : RL n ls fr (L.mergeSort fun x y => decide (x ≤ y)) :=
  ⟨sorted_lt h.nd, fun s => by
    rw [(List.mergeSort_perm L _).mem_iff, h.final hd s]
    simp [hw, hs]⟩
theorem rl_none {n : Int} {ls : List Lk} {fr : Int} (h : ¬ ((wrong n ls).1 = 0 ∧ swB n fr = true)) : RL n ls fr [] :=
  ⟨List.Pairwise.nil, fun s => by
    constructor
    · intro h; cases h
    · rintro ⟨h1, h2, _⟩; exact absurd ⟨h1, h2⟩ h⟩

/-- Two rising lists of the same members are one. -/
theorem rising_eq : ∀ {l m : List Int}, l.Pairwise (fun a b => a < b) → m.Pairwise (fun a b => a < b) → (∀ x, x ∈ l ↔ x ∈ m) → l = m
  | [], [], _, _, _ => rfl
  | [], b :: m, _, _, h => by have := (h b).2 (by simp); cases this
  | a :: l, [], _, _, h => by have := (h a).1 (by simp); cases this
  | a :: l, b :: m, h1, h2, h => by
    obtain ⟨p1, q1⟩ := List.pairwise_cons.1 h1
    obtain ⟨p2, q2⟩ := List.pairwise_cons.1 h2
    have e : a = b := by
      have ha := (h a).1 (by simp)
      have hb := (h b).2 (by simp)
      rcases List.mem_cons.1 ha with ha | ha
      · exact ha
      · rcases List.mem_cons.1 hb with hb | hb
        · exact hb.symm
        · have := p1 b hb; have := p2 a ha; omega
    subst e
    congr 1
    refine rising_eq q1 q2 (fun x => ?_)
    have := h x
    simp only [List.mem_cons] at this
    constructor
    · intro hx
      rcases this.1 (Or.inr hx) with e | e
      · subst e; have := p1 x hx; omega
      · exact e
    · intro hx
      rcases this.2 (Or.inr hx) with e | e
      · subst e; have := p2 x hx; omega
      · exact e
theorem RL.unique {n : Int} {ls : List Lk} {fr : Int} {L M : List Int} (h : RL n ls fr L) (k : RL n ls fr M) : L = M := rising_eq h.1 k.1 (fun x => (h.2 x).trans (k.2 x).symm)

end Stw
