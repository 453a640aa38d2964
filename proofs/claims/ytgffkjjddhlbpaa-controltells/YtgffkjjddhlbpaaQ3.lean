/- Paths in plain words, in a net: what a path of a net is, and costs; who is reached has one; one link more is no harm; a part of a cheapest one is one. -/
import Derived.Test.YtgffkjjddhlbpaaQ2
namespace Stp
open Stw

theorem chain_iff {C : Int → Int → Int} : ∀ {ps : List Int}, chain C ps ↔ ∀ i, i + 1 < ps.length → 0 < C (ps.getD i 0) (ps.getD (i + 1) 0)
  | [] => by simp [chain]
  | [a] => by simp [chain]
  | a :: b :: r => by
    simp only [chain]
    rw [chain_iff (ps := b :: r)]
    constructor
    · rintro ⟨h1, h2⟩ i hi
      cases i with
      | zero => simpa using h1
      | succ i =>
        have := h2 i (by simpa using hi)
        simpa [List.getD_cons_succ] using this
    · intro h
      refine ⟨by simpa using h 0 (by simp), fun i hi => ?_⟩
      have := h (i + 1) (by simpa using hi)
      simpa [List.getD_cons_succ] using this

theorem getD_eq {ps : List Int} {i : Nat} (h : i < ps.length) : ps.getD i 0 = ps[i] := by simp [List.getD_eq_getElem?_getD, h]

theorem nodup_iff {ps : List Int} : ps.Nodup ↔ ∀ i, i < ps.length → ¬ ps.getD i 0 ∈ ps.take i := by
  rw [List.nodup_iff_pairwise_ne, List.pairwise_iff_getElem]
  constructor
  · intro h i hi hm
    rw [List.mem_take_iff_getElem] at hm
    obtain ⟨j, hj, e⟩ := hm
    rw [getD_eq hi] at e
    exact h j i (by omega) hi (by omega) e
  · intro h i j hi hj hij e
    refine h j hj ?_
    rw [List.mem_take_iff_getElem, getD_eq hj]
    exact ⟨i, by omega, e⟩

theorem pathB_iff {n : Int} {ls : List Lk} {ps : List Int} (hr : Right n ls) : pathB n ls ps = true ↔ ps ≠ [] ∧ (∀ x ∈ ps, 0 ≤ x ∧ x < n) ∧ ps.Nodup ∧ chain (cost ls) ps := by
  have hC : ∀ a b, 0 ≤ cost ls a b := fun a b => (hr.cost a b).1
  rw [pathB_true, nodup_iff, chain_iff]
  constructor
  · rintro ⟨h0, h⟩
    refine ⟨h0, fun x hx => ?_, fun i hi hm => ?_, fun i hi => ?_⟩
    · obtain ⟨i, hi, rfl⟩ := List.getElem_of_mem hx
      have := h i hi
      simp only [okAt, Bool.and_eq_true] at this
      have := swB_true.1 this.1.1
      rwa [getD_eq hi] at this
    · have := h i hi
      rw [okAt_false_met hm] at this
      cases this
    · have := h (i + 1) hi
      have hc := hC (ps.getD i 0) (ps.getD (i + 1) 0)
      by_cases e : cost ls (ps.getD i 0) (ps.getD (i + 1) 0) = 0
      · rw [okAt_false_cost (by omega) (by simpa using e)] at this
        cases this
      · omega
  · rintro ⟨h0, h1, h2, h3⟩
    refine ⟨h0, fun i hi => okAt_mk (swB_true.2 (h1 _ (by rw [getD_eq hi]; exact List.getElem_mem hi))) (h2 i hi) ?_⟩
    cases i with
    | zero => exact Or.inl rfl
    | succ i =>
      right
      have := h3 i hi
      simp only [Nat.add_sub_cancel]
      omega

theorem lst_snoc : ∀ (l : List Int) (x : Int), lst (l ++ [x]) = x
  | [], _ => rfl
  | [_], _ => rfl
  | a :: b :: r, x => by
    have := lst_snoc (b :: r) x
    simpa [lst] using this
theorem pc_snoc {C : Int → Int → Int} : ∀ (l : List Int) (x : Int), pc C (l ++ [x]) = pc C l + (if l = [] then 0 else C (lst l) x)
  | [], _ => by simp [pc]
  | [a], x => by simp [pc, lst]
  | a :: b :: r, x => by
    have := pc_snoc (C := C) (b :: r) x
    simp only [List.cons_append, pc, lst] at this ⊢
    rw [this]
    simp; omega
theorem lst_take {ps : List Int} {k : Nat} (h0 : 0 < k) (h : k ≤ ps.length) : lst (ps.take k) = ps.getD (k - 1) 0 := by
  obtain ⟨j, rfl⟩ : ∃ j, k = j + 1 := ⟨k - 1, by omega⟩
  rw [List.take_succ_eq_append_getElem (by omega : j < ps.length), lst_snoc]
  simp [List.getD_eq_getElem?_getD, show j < ps.length by omega]
theorem psum_eq {ls : List Lk} {ps : List Int} : ∀ k : Nat, k ≤ ps.length → psum ls ps k = pc (cost ls) (ps.take k)
  | 0, _ => by simp [psum, pc]
  | k + 1, h => by
    simp only [psum]
    rw [psum_eq k (by omega), List.take_succ_eq_append_getElem (by omega : k < ps.length), pc_snoc]
    by_cases e : k = 0
    · subst e; simp
    · have hne : ps.take k ≠ [] := by
        intro e2
        have := congrArg List.length e2
        simp at this
        rcases this with h3 | h3
        · omega
        · subst h3; simp at h
      rw [if_neg e, if_neg hne, lst_take (by omega) (by omega), getD_eq (by omega : k < ps.length)]
theorem psum_all {ls : List Lk} {ps : List Int} : psum ls ps ps.length = pc (cost ls) ps := by
  rw [psum_eq _ (Nat.le_refl _), List.take_length]

/-- What Length says of a path of a right net. -/
theorem length_iff {n : Int} {ls : List Lk} {ps : List Int} (hr : Right n ls) : lengthOf n ls ps = if pathB n ls ps = true then (pc (cost ls) ps, true) else (0, false) := by
  unfold lengthOf
  have : (wrong n ls).1 = 0 := by rw [hr.wrong]
  simp only [this, true_and, psum_all]

theorem lst_eq : ∀ {q : List Int} (h : q ≠ []), lst q = q.getLast h
  | [], h => absurd rfl h
  | [a], _ => rfl
  | a :: b :: r, _ => by
    rw [List.getLast_cons (by simp)]
    exact lst_eq (q := b :: r) (by simp)

/-- A path of a net from one to another. -/
theorem pth_of {n : Int} {ls : List Lk} {ps : List Int} (hr : Right n ls) (h : pathB n ls ps = true) : Pth (cost ls) (ps.getD 0 0) (lst ps) ps := by
  obtain ⟨h0, h1, h2, h3⟩ := (pathB_iff hr).1 h
  have hb := hr.bounds
  cases ps with
  | nil => exact absurd rfl h0
  | cons a r => exact ⟨⟨r, rfl⟩, rfl, h2, h3, fun x hx => by have := h1 x hx; omega⟩

theorem chain_rng {n : Int} {ls : List Lk} (hr : Right n ls) : ∀ {p : List Int}, chain (cost ls) p → (∀ a r, p = a :: r → 0 ≤ a ∧ a < n) → ∀ x ∈ p, 0 ≤ x ∧ x < n
  | [], _, _ => fun x hx => by cases hx
  | [a], _, h => fun x hx => by simp at hx; subst hx; exact h _ _ rfl
  | a :: b :: r, hc, h => fun x hx => by
    rcases List.mem_cons.1 hx with rfl | hx
    · exact h _ _ rfl
    · refine chain_rng hr hc.2 (fun c s e => ?_) x hx
      cases e
      have := (hr.cost a b).2.2 (by have := hc.1; omega)
      omega
theorem Pth.path {n : Int} {ls : List Lk} {fr to : Int} {p : List Int} (hr : Right n ls) (h : Pth (cost ls) fr to p) (hf : 0 ≤ fr ∧ fr < n) : pathB n ls p = true := by
  rw [pathB_iff hr]
  obtain ⟨r, rfl⟩ := h.head
  exact ⟨by simp, chain_rng hr h.ch (fun a s e => by cases e; exact hf), h.nd, h.ch⟩

/-! From a walk to a path. -/
theorem suffix_part {C : Int → Int → Int} (hC : ∀ a b, 0 ≤ C a b) {fr to x : Int} : ∀ {p : List Int}, Pth C fr to p → x ∈ p → ∃ q, Pth C x to q ∧ pc C q ≤ pc C p
  | [], h, _ => by obtain ⟨r, hr⟩ := h.head; cases hr
  | [a], h, hx => by
    simp at hx
    subst hx
    obtain ⟨r, hr⟩ := h.head
    cases hr
    exact ⟨_, h, Int.le_refl _⟩
  | a :: b :: r, h, hx => by
    rcases List.mem_cons.1 hx with rfl | hx
    · obtain ⟨s, hs⟩ := h.head
      cases hs
      exact ⟨_, h, Int.le_refl _⟩
    · have h' : Pth C b to (b :: r) := ⟨⟨r, rfl⟩, h.last, (List.nodup_cons.1 h.nd).2, h.ch.2, fun y hy => h.rng y (List.mem_cons_of_mem _ hy)⟩
      obtain ⟨q, h1, h2⟩ := suffix_part hC h' hx
      refine ⟨q, h1, ?_⟩
      have := hC a b
      simp only [pc]
      omega

theorem walk_path {C : Int → Int → Int} (hC : ∀ a b, 0 ≤ C a b) {to : Int} : ∀ {a : Int} {r : List Int}, chain C (a :: r) → lst (a :: r) = to → (∀ x ∈ a :: r, 0 ≤ x ∧ x < 8) → ∃ q, Pth C a to q ∧ pc C q ≤ pc C (a :: r)
  | a, [], _, hl, hr => ⟨[a], ⟨⟨[], rfl⟩, hl, by simp, trivial, hr⟩, Int.le_refl _⟩
  | a, b :: r, hc, hl, hr => by
    obtain ⟨q, h1, h2⟩ := walk_path hC (a := b) (r := r) hc.2 hl (fun x hx => hr x (List.mem_cons_of_mem _ hx))
    have hab := hC a b
    by_cases ha : a ∈ q
    · obtain ⟨q', h3, h4⟩ := suffix_part hC h1 ha
      refine ⟨q', h3, ?_⟩
      simp only [pc]; omega
    · obtain ⟨s, rfl⟩ := h1.head
      refine ⟨a :: b :: s, ⟨⟨_, rfl⟩, h1.last, List.nodup_cons.2 ⟨ha, h1.nd⟩, ⟨hc.1, h1.ch⟩, fun x hx => ?_⟩, ?_⟩
      · rcases List.mem_cons.1 hx with rfl | hx
        · exact hr _ (by simp)
        · exact h1.rng x hx
      · simp only [pc]; omega

theorem getD_app {p q : List Int} {i : Nat} (h : i < p.length) : (p ++ q).getD i 0 = p.getD i 0 := by simp [List.getD_eq_getElem?_getD, List.getElem?_append, h]
theorem getD_new {p : List Int} {y : Int} : (p ++ [y]).getD p.length 0 = y := by simp [List.getD_eq_getElem?_getD]
/-- A flow that asks for nothing else. -/
theorem srv_plain {C : Int → Int → Int} {fr to : Int} {p : List Int} (h : Pth C fr to p) : Srv C fr to [] [] p := by
  refine ⟨h, fun x _ hx => (by cases hx), ?_⟩
  have : ∀ q : List Int, metOf [] 0 q = 0 := by
    intro q
    unfold metOf
    induction q with
    | nil => rfl
    | cons a q ih => simpa [mtv] using ih
  exact this p

theorem rch_pth {n : Int} {ls : List Lk} {a b : Int} (hr : Right n ls) (ha : 0 ≤ a ∧ a < n) : Rch ls a b ↔ ∃ p, Pth (cost ls) a b p := by
  have hC : ∀ a b, 0 ≤ cost ls a b := fun a b => (hr.cost a b).1
  have hb := hr.bounds
  constructor
  · intro h
    refine h (fun x => ∃ p, Pth (cost ls) a x p) ⟨[a], ⟨⟨[], rfl⟩, rfl, by simp, trivial, fun x hx => by simp at hx; subst hx; omega⟩⟩ ?_
    rintro x y ⟨p, hp⟩ hc
    obtain ⟨r, rfl⟩ := hp.head
    have hch : chain (cost ls) ((a :: r) ++ [y]) := by
      rw [chain_iff]
      intro i hi
      simp only [List.length_append, List.length_cons, List.length_nil] at hi
      by_cases e : i + 1 < (a :: r).length
      · have := chain_iff.1 hp.ch i e
        rw [getD_app (by omega), getD_app e]
        exact this
      · have e2 : i + 1 = (a :: r).length := by simp at e ⊢; omega
        rw [getD_app (by omega), e2, getD_new]
        have h3 : (a :: r).getD i 0 = x := by
          have h4 := lst_take (ps := a :: r) (k := i + 1) (by omega) (by omega)
          rw [List.take_of_length_le (by omega), hp.last] at h4
          simpa using h4.symm
        rw [h3]
        exact hc
    have hl : lst ((a :: r) ++ [y]) = y := lst_snoc _ _
    have hrg := (hr.cost x y).2.2 (by omega)
    obtain ⟨q, h1, _⟩ := walk_path hC (a := a) (r := r ++ [y]) hch hl (fun z hz => by
      rw [← List.cons_append] at hz
      rcases List.mem_append.1 hz with hz | hz
      · exact hp.rng z hz
      · simp at hz; subst hz; omega)
    exact ⟨q, h1⟩
  · rintro ⟨p, hp⟩
    obtain ⟨r, rfl⟩ := hp.head
    have : ∀ (r : List Int) (a : Int), chain (cost ls) (a :: r) → Rch ls a (lst (a :: r)) := by
      intro r
      induction r with
      | nil => intro a _; exact Rch.refl _ _
      | cons b r ih => intro a hc; exact ((Rch.refl ls a).step hc.1).trans (ih b hc.2)
    rw [← hp.last]
    exact this r a hp.ch

theorem cost_more {ls : List Lk} {l : Lk} {a b : Int} (h : cost ls a b ≠ 0) : cost (ls ++ [l]) a b = cost ls a b := by
  rw [cost_snoc, if_pos]
  cases e : anyJ ls a b
  · exact absurd (cost_none e) h
  · rfl
theorem chain_more {ls : List Lk} {l : Lk} : ∀ {p : List Int}, chain (cost ls) p → chain (cost (ls ++ [l])) p ∧ pc (cost (ls ++ [l])) p = pc (cost ls) p
  | [], _ => ⟨trivial, rfl⟩
  | [_], _ => ⟨trivial, rfl⟩
  | a :: b :: r, h => by
    have h1 := chain_more (l := l) h.2
    have h2 := cost_more (l := l) (show cost ls a b ≠ 0 by have := h.1; omega)
    refine ⟨⟨by rw [h2]; exact h.1, h1.1⟩, ?_⟩
    simp only [pc, h2, h1.2]
theorem srv_more {ls : List Lk} {l : Lk} {fr to : Int} {via nt p : List Int} (h : Srv (cost ls) fr to via nt p) : Srv (cost (ls ++ [l])) fr to via nt p :=
  ⟨⟨h.head, h.last, h.nd, (chain_more h.ch).1, h.rng⟩, h.not, h.met⟩

theorem pc_app {C : Int → Int → Int} : ∀ (u : List Int) (x : Int) (v : List Int), pc C (u ++ x :: v) = pc C (u ++ [x]) + pc C (x :: v)
  | [], _, _ => by simp [pc]
  | [a], x, v => by simp only [List.cons_append, List.nil_append, pc]; omega
  | a :: b :: r, x, v => by
    have := pc_app (C := C) (b :: r) x v
    simp only [List.cons_append, pc] at this ⊢
    rw [this]
    omega
theorem chain_app {C : Int → Int → Int} : ∀ {u : List Int} {x : Int} {v : List Int}, chain C (u ++ x :: v) ↔ chain C (u ++ [x]) ∧ chain C (x :: v)
  | [], _, _ => by simp [chain]
  | [a], x, v => by simp only [List.cons_append, List.nil_append, chain, and_true]
  | a :: b :: r, x, v => by
    have := chain_app (C := C) (u := b :: r) (x := x) (v := v)
    simp only [List.cons_append, chain] at this ⊢
    rw [this, and_assoc]
theorem lst_app : ∀ (u : List Int) (x : Int) (v : List Int), lst (u ++ x :: v) = lst (x :: v)
  | [], _, _ => rfl
  | [a], x, v => rfl
  | a :: b :: r, x, v => by
    have := lst_app (b :: r) x v
    simpa [lst] using this

/-- A part of a cheapest path is one. -/
theorem part_best {C : Int → Int → Int} (hC : ∀ a b, 0 ≤ C a b) {fr to x : Int} {u v : List Int} {c : Int} (h : IsBest C fr to [] [] (u ++ x :: v) c) : Srv C x to [] [] (x :: v) ∧ ∀ q, Pth C x to q → pc C (x :: v) ≤ pc C q := by
  obtain ⟨h1, h2, h3⟩ := h
  have hch := chain_app.1 h1.ch
  have hx : Pth C x to (x :: v) := ⟨⟨v, rfl⟩, by rw [← lst_app u x v]; exact h1.last, (List.nodup_append.1 h1.nd).2.1, hch.2, fun y hy => h1.rng y (List.mem_append.2 (Or.inr hy))⟩
  refine ⟨srv_plain hx, fun q hq => ?_⟩
  obtain ⟨s, rfl⟩ := hq.head
  have hw : chain C (u ++ x :: s) := chain_app.2 ⟨hch.1, hq.ch⟩
  have hl : lst (u ++ x :: s) = to := by rw [lst_app]; exact hq.last
  have hrg : ∀ y ∈ u ++ x :: s, 0 ≤ y ∧ y < 8 := fun y hy => by
    rcases List.mem_append.1 hy with hy | hy
    · exact h1.rng y (List.mem_append.2 (Or.inl hy))
    · exact hq.rng y hy
  have key : ∃ q', Pth C fr to q' ∧ pc C q' ≤ pc C (u ++ x :: s) := by
    obtain ⟨r, hr⟩ := h1.head
    cases u with
    | nil =>
      simp at hr
      obtain ⟨rfl, rfl⟩ := hr
      exact walk_path hC hw hl hrg
    | cons a u =>
      simp at hr
      obtain ⟨rfl, rfl⟩ := hr
      exact walk_path hC hw hl hrg
  obtain ⟨q', h4, h5⟩ := key
  have h6 := h3 q' (srv_plain h4)
  rw [pc_app u x v] at h2
  rw [pc_app u x s] at h5
  rcases h6 with h6 | ⟨h6, _⟩ <;> omega

end Stp
