/- What Find answers, for every net and flow: what is wrong with them, that there is no path, or the path; nothing that was there is changed. -/
import Derived.Test.YtgffkjjddhlbpaaP6
import Derived.Test.YtgffkjjddhlbpaaH10
import Derived.Deep.RegionWith
namespace Go.Proofs.Ytgffkjjddhlbpaa
open Go.RowKit Go.Maps Stw Go.Deep Stp

/-- What Find tells: the error and the path. -/
def fnd (n : Int) (ls : List Lk) (f : Stf.Fl) : Int × List Int :=
  if (wrong n ls).1 ≠ 0 then ((wrong n ls).1, []) else if Stf.wflow f n ≠ 0 then (Stf.wflow f n, []) else match find (cost ls) f.fr f.to f.via f.nt with
    | none => (9, [])
    | some (p, _) => (0, p)

/-- A right flow. -/
structure RightF (n : Int) (f : Stf.Fl) : Prop where
  fr : 0 ≤ f.fr ∧ f.fr < n
  to : 0 ≤ f.to ∧ f.to < n
  ne : f.fr ≠ f.to
  via : ∀ x ∈ f.via, 0 ≤ x ∧ x < n ∧ x ≠ f.fr ∧ x ≠ f.to
  nt : ∀ x ∈ f.nt, 0 ≤ x ∧ x < n ∧ x ≠ f.fr ∧ x ≠ f.to
  vnd : f.via.Nodup
  nnd : f.nt.Nodup
  apart : ∀ x ∈ f.nt, ¬ x ∈ f.via

theorem list_right {a b n : Int} {L : List Int} (h : Stf.wlist a b n L = 0) : (∀ x ∈ L, 0 ≤ x ∧ x < n ∧ x ≠ a ∧ x ≠ b) ∧ L.Nodup := by
  have h0 := Fw.wlist_zero h
  constructor
  · intro x hx
    obtain ⟨i, hi, rfl⟩ := List.getElem_of_mem hx
    obtain ⟨h1, h2, h3, _⟩ := Stf.ewl_zero (h0 i hi)
    rw [getD_at hi] at h1 h2 h3
    simp only [Stf.swB, decide_eq_true_eq] at h1
    exact ⟨h1.1, h1.2, h2, h3⟩
  · rw [Stp.nodup_iff]
    intro i hi
    exact (Stf.ewl_zero (h0 i hi)).2.2.2

theorem rightF_of {n : Int} {f : Stf.Fl} (h : Stf.wflow f n = 0) : RightF n f := by
  unfold Stf.wflow at h
  split at h
  · cases h
  · rename_i h1
    split at h
    · cases h
    · rename_i h2
      split at h
      · rename_i h3; exact absurd h h3
      · rename_i h3
        split at h
        · rename_i h4; exact absurd h h4
        · rename_i h4
          split at h
          · cases h
          · rename_i h5
            simp only [ne_eq, Decidable.not_not] at h3 h4
            obtain ⟨v1, v2⟩ := list_right h3
            obtain ⟨n1, n2⟩ := list_right h4
            simp only [not_or, Bool.not_eq_false, Stf.swB, decide_eq_true_eq] at h1
            refine ⟨h1.1, h1.2, h2, v1, n1, v2, n2, fun x hx hv => h5 ?_⟩
            rw [List.any_eq_true]
            exact ⟨x, hx, decide_eq_true hv⟩

theorem flows_one {w : World} {v nv : Value} {f : Stf.Fl} {b : Nat} (h : w.heap.size = b) (hv : Fw.FV w f.via v) (hn : Fw.FV w f.nt nv) : Fw.FlowsAt (w.alloc (.cells #[.int .i64 f.fr, .int .i64 f.to, v, nv] 91)) (some ⟨b, 0, none⟩) [f] := by
  subst h
  refine Or.inr ⟨_, 0, rfl, by simp, fun k hk => ?_⟩
  have : k = 0 := by simp at hk; omega
  subst this
  exact ⟨v, nv, by simp, by simp, by simp, by simp, hv.ext ((Ext.refl _).alloc _), hn.ext ((Ext.refl _).alloc _)⟩
theorem wflows_one {f : Stf.Fl} {n : Int} : Stf.wflows [f] n = (Stf.wflow f n, 0) := by
  by_cases h : Stf.wflow f n = 0
  · rw [Fw.wflows_good (by simp) (fun j hj => by
      have e : j = 0 := by simp at hj; omega
      subst e
      simpa using h), h]
  · have := Fw.wflows_bad (fs := [f]) (n := n) (k := 0) (by simp) (by simp) (fun j hj => by omega) (by simpa using h)
    simpa using this

theorem sm_one {f : Stf.Fl} (h1 : f.via.length ≤ 4611686018427387904) (h2 : f.nt.length ≤ 4611686018427387904) : Fw.Sm [f] := by
  intro k hk
  have : k = 0 := by simp at hk; omega
  subst this
  exact ⟨h1, h2⟩
theorem FOut.none {w w' : World} {e : Ending} (h : FOut w w' e none) : e = .returned (.tuple #[.slice none 0 0, .int .i64 9]) := h
/-- What comes of Find. -/
def FindOut (w w' : World) (e : Ending) (r : Int × List Int) : Prop := ∃ go gc, e = .returned (.tuple #[.slice go r.2.length gc, .int .i64 r.1]) ∧ ListAt w' go r.2 ∧ r.2.length ≤ gc ∧ Ext w w'

end Go.Proofs.Ytgffkjjddhlbpaa
