/- All paths, one by one, as the document goes through them; and the one that it keeps: the same that a search finds. -/
import Derived.Test.YtagkbpckflineabQ4
namespace Stp
open Stw

/-- All paths on from a list of switches, over so many switches of a net. -/
def all (C : Int → Int → Int) (n : Nat) (to : Int) : Nat → List Int → List (List Int)
  | 0, _ => []
  | k + 1, p => if lst p = to then [p] else (List.range n).flatMap fun (s : Nat) => if ¬ (s : Int) ∈ p ∧ 0 < C (lst p) (s : Int) then all C n to k (p ++ [(s : Int)]) else []

theorem range_cut {α : Type} (g : Nat → List α) (n : Nat) (h : ∀ s, n ≤ s → g s = []) : ∀ m, n ≤ m → (List.range m).flatMap g = (List.range n).flatMap g
  | 0, hm => by
    have : n = 0 := by omega
    subst this; rfl
  | m + 1, hm => by
    by_cases e : n = m + 1
    · subst e; rfl
    · rw [List.range_succ, List.flatMap_append, range_cut g n h m (by omega)]
      simp [h m (by omega)]

theorem all_ext {C : Int → Int → Int} {n : Nat} {to : Int} (hn : n ≤ 8) (hz : ∀ a (s : Nat), n ≤ s → ¬ 0 < C a (s : Int)) : ∀ (k : Nat) (u cl : List Int) (a : Int), (∀ x, x ∈ cl ↔ x ∈ u) → all C n to k (u ++ [a]) = (ext C to k cl a).map (u ++ ·)
  | 0, _, _, _, _ => rfl
  | k + 1, u, cl, a, hcl => by
    unfold all ext
    rw [lst_snoc]
    by_cases ht : a = to
    · rw [if_pos ht, if_pos ht]; rfl
    · rw [if_neg ht, if_neg ht, List.map_flatMap, ← range_cut _ n _ 8 hn]
      · refine flat_congr _ (fun s _ => ?_)
        by_cases hc : 0 < C a (s : Int) ∧ ¬ (s : Int) ∈ a :: cl
        · have hc' : ¬ (s : Int) ∈ u ++ [a] ∧ 0 < C a (s : Int) := by
            refine ⟨fun hm => hc.2 ?_, hc.1⟩
            rcases List.mem_append.1 hm with hm | hm
            · exact List.mem_cons_of_mem _ ((hcl _).2 hm)
            · simp at hm; rw [hm]; simp
          rw [if_pos hc, if_pos hc', all_ext hn hz k (u ++ [a]) (a :: cl) (s : Int) (fun x => by simp [hcl x, or_comm])]
          rw [List.map_map]
          refine List.map_congr_left (fun q _ => ?_)
          simp
        · have hc' : ¬ (¬ (s : Int) ∈ u ++ [a] ∧ 0 < C a (s : Int)) := by
            rintro ⟨h1, h2⟩
            refine hc ⟨h2, fun hm => h1 ?_⟩
            rcases List.mem_cons.1 hm with hm | hm
            · rw [hm]; simp
            · exact List.mem_append.2 (Or.inl ((hcl _).1 hm))
          rw [if_neg hc, if_neg hc']
          rfl
      · intro s hs
        rw [if_neg (fun h => hz a s hs h.2)]

theorem flat_len {α β : Type} (g : α → List β) (M : Nat) : ∀ l : List α, (∀ a ∈ l, (g a).length ≤ M) → (l.flatMap g).length ≤ l.length * M
  | [], _ => by simp
  | a :: l, h => by
    have h1 := h a (by simp)
    have h2 := flat_len g M l (fun x hx => h x (by simp [hx]))
    simp only [List.flatMap_cons, List.length_append, List.length_cons]
    rw [Nat.succ_mul]
    omega
theorem all_len {C : Int → Int → Int} {n : Nat} {to : Int} (hn : n ≤ 8) : ∀ (k : Nat) (p : List Int), (all C n to k p).length ≤ 8 ^ k
  | 0, _ => by simp [all]
  | k + 1, p => by
    unfold all
    split
    · have : 0 < 8 ^ (k + 1) := Nat.pow_pos (by omega)
      simp; omega
    · have := flat_len (fun (s : Nat) => if ¬ (s : Int) ∈ p ∧ 0 < C (lst p) (s : Int) then all C n to k (p ++ [(s : Int)]) else []) (8 ^ k) (List.range n) (fun s _ => by
        split
        · exact all_len hn k _
        · simp)
      have h2 : (List.range n).length * 8 ^ k ≤ 8 * 8 ^ k := Nat.mul_le_mul_right _ (by simpa using hn)
      rw [Nat.pow_succ, Nat.mul_comm]
      exact Nat.le_trans this h2

/-- What the document keeps, path by path. -/
def rstep (n : Int) (ls : List Lk) (fr to : Int) (via nt : List Int) (b : Option (List Int)) (p : List Int) : Option (List Int) :=
  if svB n ls fr to via nt p = true then (match b with
    | none => some p
    | some q => if pc (cost ls) p < pc (cost ls) q then some p else some q) else b
def rc (n : Int) (ls : List Lk) (fr to : Int) (via nt : List Int) (p : List Int) : List (List Int × Int) := if svB n ls fr to via nt p = true then [(p, pc (cost ls) p)] else []

theorem rfold {n : Int} {ls : List Lk} {fr to : Int} {via nt : List Int} : ∀ (L : List (List Int)) (b : Option (List Int)), (L.flatMap (rc n ls fr to via nt)).foldl pick (b.map fun p => (p, pc (cost ls) p)) = (L.foldl (rstep n ls fr to via nt) b).map fun p => (p, pc (cost ls) p)
  | [], b => rfl
  | p :: L, b => by
    simp only [List.flatMap_cons, List.foldl_append, List.foldl_cons]
    rw [← rfold L (rstep n ls fr to via nt b p)]
    congr 1
    unfold rc rstep
    by_cases hs : svB n ls fr to via nt p = true
    · rw [if_pos hs, if_pos hs]
      cases b with
      | none => rfl
      | some q =>
        simp only [Option.map_some, List.foldl_cons, List.foldl_nil, pick, Option.any_some, decide_eq_true_eq]
        by_cases hc : pc (cost ls) p < pc (cost ls) q
        · rw [if_neg (by omega), if_pos hc]; rfl
        · rw [if_pos (by omega), if_neg hc]; rfl
    · rw [if_neg hs, if_neg hs]; rfl

/-- The document's path is the search's. -/
theorem ref_find {nn : Nat} {ls : List Lk} {fr to : Int} {via nt : List Int} (hr : Right (nn : Int) ls) (hf : 0 ≤ fr ∧ fr < (nn : Int)) (hnf : ¬ fr ∈ nt) : (all (cost ls) nn to 8 [fr]).foldl (rstep nn ls fr to via nt) none = (find (cost ls) fr to via nt).map Prod.fst := by
  have hb := hr.bounds
  have hC : ∀ x y, 0 ≤ cost ls x y := fun x y => (hr.cost x y).1
  have hz : ∀ a (s : Nat), nn ≤ s → ¬ 0 < cost ls a (s : Int) := fun a s hs h => by
    have := (hr.cost a (s : Int)).2.2 (by omega)
    omega
  have he : all (cost ls) nn to 8 [fr] = ext (cost ls) to 8 [] fr := by
    have := all_ext (C := cost ls) (n := nn) (to := to) (by omega) hz 8 [] [] fr (fun x => Iff.rfl)
    simpa using this
  rw [he]
  have hmem : ∀ x : List Int × Int, x ∈ (ext (cost ls) to 8 [] fr).flatMap (rc nn ls fr to via nt) ↔ Srv (cost ls) fr to via nt x.1 ∧ x.2 = pc (cost ls) x.1 := by
    intro x
    simp only [List.mem_flatMap]
    constructor
    · rintro ⟨q, hq, hx⟩
      unfold rc at hx
      split at hx
      · rename_i hs
        simp at hx
        subst hx
        exact ⟨(svB_iff hr hf).1 hs, rfl⟩
      · cases hx
    · rintro ⟨h, hc⟩
      obtain ⟨p, c⟩ := x
      simp only at h hc
      obtain ⟨r, rfl⟩ := h.head
      refine ⟨fr :: r, ext_complete (pth_len h.toPth) h.ch h.nd h.last (fun x _ hx => by cases hx) h.rng, ?_⟩
      unfold rc
      rw [if_pos ((svB_iff hr hf).2 h)]
      simp [hc]
  have hP : ((ext (cost ls) to 8 [] fr).flatMap (rc nn ls fr to via nt)).Pairwise (fun x y => llt x.1 y.1) := by
    rw [List.pairwise_flatMap]
    refine ⟨fun q _ => ?_, ext_sorted.imp (fun {q r} hqr x hx y hy => ?_)⟩
    · unfold rc; split <;> simp
    · unfold rc at hx hy
      split at hx
      · split at hy
        · simp at hx hy; subst hx hy; exact hqr
        · cases hy
      · cases hx
  have hrf := rfold (n := nn) (ls := ls) (fr := fr) (to := to) (via := via) (nt := nt) (ext (cost ls) to 8 [] fr) none
  cases hres : (ext (cost ls) to 8 [] fr).foldl (rstep nn ls fr to via nt) none with
  | none =>
    rw [hres] at hrf
    have h0 := (fold_none (b := none) hrf).2
    cases hfi : find (cost ls) fr to via nt with
    | none => rfl
    | some y =>
      obtain ⟨p, c⟩ := y
      have hbst := find_some hC (by omega) hnf hfi
      have := (hmem (p, pc (cost ls) p)).2 ⟨hbst.1, rfl⟩
      rw [h0] at this
      cases this
  | some p =>
    rw [hres] at hrf
    obtain ⟨h1, h2, _⟩ := fold_some hP (fun y hy => by cases hy) hrf
    have hbst : IsBest (cost ls) fr to via nt p (pc (cost ls) p) := by
      rcases h1 with h1 | h1
      · cases h1
      · refine ⟨((hmem _).1 h1).1, rfl, fun q hq => ?_⟩
        rcases h2 (q, pc (cost ls) q) ((hmem _).2 ⟨hq, rfl⟩) with h5 | ⟨h5, h6⟩
        · exact Or.inl h5
        · refine Or.inr ⟨h5, h6.imp (fun e => by cases e; rfl) id⟩
    cases hfi : find (cost ls) fr to via nt with
    | none => exact absurd hbst.1 (find_none hC (by omega) hnf hfi p)
    | some y =>
      obtain ⟨q, c⟩ := y
      have hb2 := find_some hC (by omega) hnf hfi
      rw [best_unique hbst hb2]
      rfl

end Stp
