/- PathServes answers true, for every net and flow; nothing that was there is changed. -/
import Derived.Test.YtagkbpckflineabP8
import Derived.Test.YtagkbpckflineabS1
namespace Go.Proofs.Ytagkbpckflineab
open Go.RowKit Go.Maps Stw Go.Deep Stp

/-- What Find tells: nothing beside an error; else a path that serves. -/
theorem fnd_serves {n : Int} {ls : List Lk} {f : Stf.Fl} : ((fnd n ls f).1 ≠ 0 ∧ (fnd n ls f).2 = []) ∨ ((fnd n ls f).1 = 0 ∧ wrong n ls = (0, 0) ∧ RightF n f ∧ svB n ls f.fr f.to f.via f.nt (fnd n ls f).2 = true ∧ IsBest (cost ls) f.fr f.to f.via f.nt (fnd n ls f).2 (pc (cost ls) (fnd n ls f).2)) := by
  unfold fnd
  by_cases hw : (wrong n ls).1 = 0
  · have hr := right_of hw
    have hb := hr.bounds
    rw [if_neg (by simp [hw])]
    by_cases hf : Stf.wflow f n = 0
    · rw [if_neg (by simp [hf])]
      have hF := rightF_of hf
      have hC : ∀ x y, 0 ≤ cost ls x y := fun x y => (hr.cost x y).1
      cases hfi : find (cost ls) f.fr f.to f.via f.nt with
      | none => left; simp
      | some y =>
        obtain ⟨p, c⟩ := y
        right
        have hbest := find_some hC (by have := hF.fr; omega) (fun h => (hF.nt _ h).2.2.1 rfl) hfi
        refine ⟨rfl, hr.wrong, hF, (svB_iff hr hF.fr).2 hbest.1, ?_⟩
        have := hbest.2.1
        rw [← this]
        exact hbest
    · rw [if_pos hf]
      exact Or.inl ⟨hf, rfl⟩
  · rw [if_pos hw]
    exact Or.inl ⟨hw, rfl⟩

set_option maxRecDepth 100000 in
set_option maxHeartbeats 2000000 in
theorem pathServes_any (n : Int) (ao : Option Addr) (len cap : Nat) (ls : List Lk) (f : Stf.Fl) (vo no : Option Addr) (vc nc : Nat) (w : World) (hlen : ls.length = len) (hl : NetAt w ao ls) (hx : len ≤ 9223372036854775807) (hI : I64 n)
    (hv : ListAt w vo f.via) (hvl : f.via.length ≤ 4611686018427387904) (hvc : f.via.length ≤ vc) (hn : ListAt w no f.nt) (hnl : f.nt.length ≤ 4611686018427387904) (hnc : f.nt.length ≤ nc) :
    Calls Try.prog 4 #[.agg #[.int .i64 n, .slice ao len cap], .agg #[.int .i64 f.fr, .int .i64 f.to, .slice vo f.via.length vc, .slice no f.nt.length nc]] w fun e w' => e = .returned (.bool true) ∧ Ext w w' := by
  have HFS := hidp (fnd_serves (n := n) (ls := ls) (f := f))
  obtain ⟨fr, to, via, nt⟩ := f
  simp only at hv hvl hvc hn hnl hnc ⊢
  go_enter Try.func4, Try.ntmps4
  go_wp2_with fail
  refine (alive_any _).mono ?_
  rintro e w1 ⟨rfl, E1⟩
  have hw1 : Ext w w1 := (((Ext.refl w).alloc _).alloc _).trans E1
  have hs1 : w.heap.size + 1 < w1.heap.size := by have := E1.size; simp at this; omega
  have hs0 : w.heap.size < w1.heap.size := by omega
  have q1 := E1.cells.1
  have a0 : w1.cell? ⟨w.heap.size, 0, none⟩ = some (.int .i64 n) := (q1 _ _ (by simp; omega)).trans (by simp)
  have a1 : w1.cell? ⟨w.heap.size, 1, none⟩ = some (.slice ao len cap) := (q1 _ _ (by simp; omega)).trans (by simp)
  have b0 : w1.cell? ⟨w.heap.size + 1, 0, none⟩ = some (.int .i64 fr) := (q1 _ _ (by simp)).trans (by simp)
  have b1 : w1.cell? ⟨w.heap.size + 1, 1, none⟩ = some (.int .i64 to) := (q1 _ _ (by simp)).trans (by simp)
  have b2 : w1.cell? ⟨w.heap.size + 1, 2, none⟩ = some (.slice vo via.length vc) := (q1 _ _ (by simp)).trans (by simp)
  have b3 : w1.cell? ⟨w.heap.size + 1, 3, none⟩ = some (.slice no nt.length nc) := (q1 _ _ (by simp)).trans (by simp)
  clear q1
  go_wp2_with fail
  refine (Find_any n ao len cap ls ⟨fr, to, via, nt⟩ vo no vc nc _ hlen (hl.ext hw1) hx hI (hv.ext hw1) hvl hvc (hn.ext hw1) hnl hnc).mono ?_
  rintro e w2 ⟨go, gc, rfl, hg, hgl, E2⟩
  have hw2 := hw1.trans E2
  have q2 := E2.cells.1
  have a0' := (q2 _ _ hs0).trans a0
  have a1' := (q2 _ _ hs0).trans a1
  have b0' := (q2 _ _ hs1).trans b0
  have b1' := (q2 _ _ hs1).trans b1
  have b2' := (q2 _ _ hs1).trans b2
  have b3' := (q2 _ _ hs1).trans b3
  have hs02 : w.heap.size < w2.heap.size := by have := E2.size; omega
  have hs12 : w.heap.size + 1 < w2.heap.size := by have := E2.size; omega
  clear a0 a1 b0 b1 b2 b3 q2
  rcases HFS.out with ⟨h1, h2⟩ | ⟨h1, h2, h3, h4, h5⟩
  · rw [h2]
    have h1' : ((fnd n ls ⟨fr, to, via, nt⟩).1 != 0) = true := by simpa using h1
    clear h1 h2
    go_wp2
    go_ret
    exact ⟨rfl, hw2⟩
  · rw [h1]
    have HW := hidp h2
    have HSV := hidp h4
    have hp8 := pth_len h5.1.toPth
    clear h1 h2 h3 h4 h5
    go_wp2_with fail
    refine (Serves_any n ao len cap ls fr to via nt vo no vc nc (fnd n ls ⟨fr, to, via, nt⟩).2 go _ gc _ hlen (hl.ext hw2) hx HW.out (hv.ext hw2) hvl (hn.ext hw2) hnl rfl (by omega) hg).mono ?_
    rintro e w3 ⟨he, E3⟩
    rw [HSV.out] at he
    subst he
    go_wp2
    go_ret
    exact ⟨rfl, hw2.trans E3⟩

end Go.Proofs.Ytagkbpckflineab
