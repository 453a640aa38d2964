/- FlowTurns answers true, for every text, all flows and every number; nothing that was there is changed. -/
import Derived.Test.YtbfgioinjggkkaaDoorG14
import Derived.Test.YtbfgioinjggkkaaDoorF6
namespace Go.Proofs.YtbfgioinjggkkaaDoor
open Go.RowKit Go.Maps Stf Go.Sort

theorem nodup_le : ∀ (n : Nat) (l : List Int), l.Nodup → (∀ x ∈ l, 0 ≤ x ∧ x < (n : Int)) → l.length ≤ n
  | 0, l, _, h => by
    cases l with
    | nil => simp
    | cons a r => have := h a (by simp); omega
  | n + 1, l, hd, h => by
    have h1 := nodup_le n (l.erase (n : Int)) (hd.erase _) (fun x hx => by
      have := (hd.mem_erase_iff).1 hx
      have := h x this.2
      omega)
    have h2 : l.length ≤ (l.erase (n : Int)).length + 1 := by
      rw [List.length_erase]
      split <;> omega
    omega
theorem nodup_of {L : List Int} (h : ∀ j, j < L.length → L.getD j 0 ∉ L.take j) : L.Nodup := by
  rw [List.nodup_iff_pairwise_ne, List.pairwise_iff_getElem]
  intro i j hi hj hij e
  have := h j hj
  rw [List.getD_eq_getElem?_getD, List.getElem?_eq_getElem hj] at this
  refine this ?_
  rw [Option.getD_some, ← e]
  exact List.mem_take_iff_getElem.2 ⟨i, by omega, rfl⟩
theorem small_list {a t n : Int} {L : List Int} (hn : n ≤ 8) (h : wlist a t n L = 0) : L.length ≤ 8 ∧ ∀ x ∈ L, SmN x ∧ (Lib.itoa x).length = 1 := by
  have h1 := wlist_zero h
  have hr : ∀ x ∈ L, 0 ≤ x ∧ x < 8 := fun x hx => by
    obtain ⟨i, hi, rfl⟩ := List.getElem_of_mem hx
    have := (ewl_zero (h1 i hi)).1
    rw [List.getD_eq_getElem?_getD, List.getElem?_eq_getElem hi] at this
    simp only [swB, Option.getD_some, decide_eq_true_eq] at this
    omega
  refine ⟨nodup_le 8 L (nodup_of fun j hj => (ewl_zero (h1 j hj)).2.2.2) (fun x hx => by have := hr x hx; omega), fun x hx => ?_⟩
  have := hr x hx
  obtain ⟨u, rfl⟩ : ∃ u : Nat, x = u := ⟨x.toNat, by omega⟩
  exact ⟨⟨by omega, by omega⟩, by rw [dd u (by omega)]; rfl⟩
theorem small_one {x n : Int} (hn : n ≤ 8) (h : swB x n = true) : SmN x ∧ (Lib.itoa x).length = 1 := by
  simp only [swB, decide_eq_true_eq] at h
  obtain ⟨u, rfl⟩ : ∃ u : Nat, x = u := ⟨x.toNat, by omega⟩
  exact ⟨⟨by omega, by omega⟩, by rw [dd u (by omega)]; rfl⟩
theorem wflow_lists {a t n : Int} {X Y : List Int} (h : wflow ⟨a, t, X, Y⟩ n = 0) : wlist a t n X = 0 ∧ wlist a t n Y = 0 := by
  unfold wflow at h
  split at h
  · cases h
  · split at h
    · cases h
    · split at h
      · rename_i h2; exact absurd h h2
      · rename_i h2
        split at h
        · rename_i h3; exact absurd h h3
        · rename_i h3
          exact ⟨by simpa using h2, by simpa using h3⟩
theorem txtR_one (L : List Int) (h : ∀ x ∈ L, (Lib.itoa x).length = 1) : (txtR L).length = L.length * 2 := by
  induction L with
  | nil => rfl
  | cons x r ih =>
    have h1 := h x (by simp)
    have h2 := ih (fun y hy => h y (by simp [hy]))
    simp only [txtR, List.flatMap_cons, List.length_append, List.length_cons] at h2 ⊢
    omega
theorem txtL_small (word : Bs) (L : List Int) (hw : word.length = 5) (h8 : L.length ≤ 8) (h : ∀ x ∈ L, (Lib.itoa x).length = 1) : (txtL word L).length ≤ 20 := by
  cases L with
  | nil => simp [txtL]
  | cons x r =>
    have h1 := h x (by simp)
    have h2 := txtR_one r (fun y hy => h y (by simp [hy]))
    simp only [txtL, List.length_append, List.length_cons] at h8 ⊢
    omega
theorem small_flows {fs : List Fl} {n : Int} (hn : n ≤ 8) (h : wflows fs n = (0, 0)) : (∀ f ∈ fs, SmF f) ∧ (text fs).length ≤ 2000 := by
  obtain ⟨_, h12, hr⟩ := wflows_right (by rw [h] : (wflows fs n).1 = 0)
  have hone : ∀ f ∈ fs, SmF f ∧ (lineT f).length ≤ 50 := fun f hf => by
    obtain ⟨i, hi, rfl⟩ := List.getElem_of_mem hf
    have h1 := hr i hi
    have hg : fs.getD i f0 = fs[i] := by simp [List.getD_eq_getElem?_getD, hi]
    rw [hg] at h1
    obtain ⟨s1, s2, _, _⟩ := wflow_nums (a := (fs[i]).fr) (t := (fs[i]).to) (X := (fs[i]).via) (Y := (fs[i]).nt) h1
    obtain ⟨l1, l2⟩ := wflow_lists (a := (fs[i]).fr) (t := (fs[i]).to) (X := (fs[i]).via) (Y := (fs[i]).nt) h1
    have a1 := small_one hn s1
    have a2 := small_one hn s2
    have a3 := small_list hn l1
    have a4 := small_list hn l2
    refine ⟨⟨a1.1, a2.1, fun x hx => (a3.2 x hx).1, fun x hx => (a4.2 x hx).1⟩, ?_⟩
    have t1 := txtL_small wVia _ rfl a3.1 (fun x hx => (a3.2 x hx).2)
    have t2 := txtL_small wNot _ rfl a4.1 (fun x hx => (a4.2 x hx).2)
    have b1 := a1.2
    have b2 := a2.2
    simp only [lineT, lineB, List.length_append, List.length_cons, List.length_nil]
    omega
  refine ⟨fun f hf => (hone f hf).1, ?_⟩
  have := text_len (M := 50) (fun f hf => (hone f hf).2)
  omega

end Go.Proofs.YtbfgioinjggkkaaDoor
