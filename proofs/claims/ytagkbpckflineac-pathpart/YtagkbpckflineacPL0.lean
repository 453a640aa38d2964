/- What Find tells, in plain words. -/
import Derived.Test.YtagkbpckflineacP7
namespace Go.Proofs.Ytagkbpckflineac
open Go.RowKit Go.Maps Stw Go.Deep Stp

theorem scan_ne {f : Nat → Int} {c : Int} (hc : c ≠ 0) (h : ∀ i, f i ≠ c) : ∀ (m k : Nat), (scan f m k).1 ≠ c
  | 0, _ => by simp only [scan]; exact fun e => hc e.symm
  | m + 1, k => by
    unfold scan
    split
    · exact scan_ne hc h m (k + 1)
    · exact h k
theorem wlink_ne {n a b c : Int} : wlink n a b c ≠ 9 := by
  unfold wlink
  repeat' split
  all_goals omega
theorem ewl_ne {n : Int} {ls : List Lk} {k : Nat} : ewl n ls k ≠ 9 := by
  unfold ewl
  split
  · split <;> omega
  · exact wlink_ne
theorem wrong_ne {n : Int} {ls : List Lk} : (wrong n ls).1 ≠ 9 := by
  unfold wrong
  split
  · simp
  · exact scan_ne (by omega) (fun i => ewl_ne) _ _
theorem wlist_ne {a b n : Int} {L : List Int} : Stf.wlist a b n L ≠ 9 := by
  unfold Stf.wlist
  split
  · unfold Stf.ewl
    repeat' split
    all_goals omega
  · omega
theorem wflow_ne {f : Stf.Fl} {n : Int} : Stf.wflow f n ≠ 9 := by
  unfold Stf.wflow
  repeat' split
  all_goals first | omega | exact wlist_ne

/-- What Find tells. -/
theorem fnd_cases {n : Int} {ls : List Lk} {f : Stf.Fl} : ((fnd n ls f).1 ≠ 0 ∧ (fnd n ls f).1 ≠ 9 ∧ (fnd n ls f).2 = []) ∨ ((fnd n ls f).1 = 9 ∧ (fnd n ls f).2 = [] ∧ Right n ls ∧ RightF n f ∧ ∀ q, ¬ Srv (cost ls) f.fr f.to f.via f.nt q) ∨
    ((fnd n ls f).1 = 0 ∧ Right n ls ∧ RightF n f ∧ IsBest (cost ls) f.fr f.to f.via f.nt (fnd n ls f).2 (pc (cost ls) (fnd n ls f).2)) := by
  unfold fnd
  by_cases hw : (wrong n ls).1 = 0
  · have hr := right_of hw
    have hb := hr.bounds
    rw [if_neg (by simp [hw])]
    by_cases hf : Stf.wflow f n = 0
    · rw [if_neg (by simp [hf])]
      have hF := rightF_of hf
      have hC : ∀ x y, 0 ≤ cost ls x y := fun x y => (hr.cost x y).1
      have hfr : 0 ≤ f.fr ∧ f.fr < 8 := by have := hF.fr; omega
      have hnf : ¬ f.fr ∈ f.nt := fun h => (hF.nt _ h).2.2.1 rfl
      cases hfi : find (cost ls) f.fr f.to f.via f.nt with
      | none => exact Or.inr (Or.inl ⟨rfl, rfl, hr, hF, find_none hC hfr hnf hfi⟩)
      | some y =>
        obtain ⟨p, c⟩ := y
        have hbest := find_some hC hfr hnf hfi
        refine Or.inr (Or.inr ⟨rfl, hr, hF, ?_⟩)
        have := hbest.2.1
        rw [← this]
        exact hbest
    · rw [if_pos hf]
      exact Or.inl ⟨hf, wflow_ne, rfl⟩
  · rw [if_pos hw]
    exact Or.inl ⟨hw, wrong_ne, rfl⟩

end Go.Proofs.Ytagkbpckflineac
