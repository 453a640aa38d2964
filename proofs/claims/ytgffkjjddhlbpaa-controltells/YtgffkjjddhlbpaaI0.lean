/- What Ints answers: whether two lists of numbers are the same; nothing that was there is changed. -/
import Derived.Test.YtgffkjjddhlbpaaN0a
namespace Go.Proofs.Ytgffkjjddhlbpaa
open Go.RowKit

theorem getD_at {L : List Int} {k : Nat} (h : k < L.length) : L.getD k 0 = L[k] := by simp [List.getD_eq_getElem?_getD, h]

set_option maxHeartbeats 1000000 in
theorem Ints_some (b1 o1 b2 o2 n c1 c2 : Nat) (xs ys : List Int) (w : World) (ha : xs.length = n) (hb : ys.length = n) (hn : n ≤ 4611686018427387904) (l1 : b1 < w.heap.size) (l2 : b2 < w.heap.size) (h1 : IntsAt w b1 o1 xs) (h2 : IntsAt w b2 o2 ys) :
    Calls Try.prog 32 #[.slice (some ⟨b1, o1, none⟩) n c1, .slice (some ⟨b2, o2, none⟩) n c2] w fun e w' => e = .returned (.bool (decide (xs = ys))) ∧ Ext w w' := by
  go_enter Try.func32, Try.ntmps32
  go_wp2
  go_loopw [13] (fun i wr => ∃ k : Nat, k ≤ n ∧ i = .int .i64 k ∧ (∀ j, j < k → xs.getD j 0 = ys.getD j 0) ∧ Ext w wr) (fun i _ => n - (intOf i).toNat)
  case atStart => exact ⟨0, Nat.zero_le _, rfl, fun j hj => by omega, Ext.refl w⟩
  case round =>
    obtain ⟨k, hk, rfl, hpre, hext⟩ := hrel
    by_cases hlt : k < n
    · have a0 := (hext.cells.1 _ _ l1).trans (h1 k (by omega))
      have b0 := (hext.cells.1 _ _ l2).trans (h2 k (by omega))
      have HP : Hid (∀ j, j < k → xs.getD j 0 = ys.getD j 0) := hpre
      obtain ⟨x, hx⟩ : ∃ x, x = xs.getD k 0 := ⟨_, rfl⟩
      obtain ⟨y, hy⟩ : ∃ y, y = ys.getD k 0 := ⟨_, rfl⟩
      rw [← hx] at a0
      rw [← hy] at b0
      have HX : Hid (x = xs.getD k 0) := hx
      have HY : Hid (y = ys.getD k 0) := hy
      clear hx hy hpre
      have i1 : (k : Int) < (n : Int) := by omega
      go_wp2
      go_quiet (fail)
      cases hxy : (x == y)
      · go_wp2
        go_ret
        have hne : decide (xs = ys) = false := by
          simp only [decide_eq_false_iff_not]
          rintro rfl
          have : x ≠ y := by simpa using hxy
          exact this (HX.out.trans HY.out.symm)
        exact ⟨by rw [hne]; rfl, hext.drewN _⟩
      · go_wp2
        go_roundw
        case rel =>
          refine ⟨k + 1, by omega, by go_num, fun j hj => ?_, hext.drewN _⟩
          by_cases e : j = k
          · subst e; rw [← HX.out, ← HY.out]; simpa using hxy
          · exact HP.out j (by omega)
        case measure => simp [intOf]; omega
    · go_wp2
      go_ret
      have heq : decide (xs = ys) = true := by
        simp only [decide_eq_true_eq]
        refine List.ext_getElem (by omega) (fun j j1 j2 => ?_)
        have := hpre j (by omega)
        rwa [getD_at j1, getD_at j2] at this
      exact ⟨by rw [heq]; rfl, hext⟩

set_option maxHeartbeats 400000 in
theorem Ints_diff (ao bo : Option Addr) (la lb c1 c2 : Nat) (w : World) (h : la ≠ lb) :
    Calls Try.prog 32 #[.slice ao la c1, .slice bo lb c2] w fun e w' => e = .returned (.bool false) ∧ w' = w := by
  have h' : ((la : Int) == (lb : Int)) = false := by simp; omega
  go_enter Try.func32, Try.ntmps32
  go_wp2
  go_ret
  exact ⟨rfl, rfl⟩

set_option maxHeartbeats 400000 in
theorem Ints_none (ao bo : Option Addr) (c1 c2 : Nat) (w : World) :
    Calls Try.prog 32 #[.slice ao 0 c1, .slice bo 0 c2] w fun e w' => e = .returned (.bool true) ∧ w' = w := by
  go_enter Try.func32, Try.ntmps32
  go_wp2
  refine wp_loop_rounds 1 ?_
  rw [rounds_succ]
  go_wp2
  go_ret
  exact ⟨rfl, rfl⟩

theorem Ints_any (ao bo : Option Addr) (la lb c1 c2 : Nat) (xs ys : List Int) (w : World) (ha : xs.length = la) (hb : ys.length = lb) (hn : la ≤ 4611686018427387904) (h1 : ListAt w ao xs) (h2 : ListAt w bo ys) :
    Calls Try.prog 32 #[.slice ao la c1, .slice bo lb c2] w fun e w' => e = .returned (.bool (decide (xs = ys))) ∧ Ext w w' := by
  by_cases hab : la = lb
  · subst hab
    rcases h1 with rfl | ⟨b1, o1, rfl, l1, h1⟩
    · have hys : ys = [] := List.eq_nil_of_length_eq_zero (by simp at ha; omega)
      subst hys
      simp only [List.length_nil] at ha
      subst ha
      refine (Ints_none ao bo c1 c2 w).mono ?_
      rintro e w' ⟨rfl, rfl⟩
      exact ⟨rfl, Ext.refl _⟩
    · rcases h2 with rfl | ⟨b2, o2, rfl, l2, h2⟩
      · have hxs : xs = [] := List.eq_nil_of_length_eq_zero (by simp at hb; omega)
        subst hxs
        simp only [List.length_nil] at ha
        subst ha
        refine (Ints_none _ bo c1 c2 w).mono ?_
        rintro e w' ⟨rfl, rfl⟩
        exact ⟨rfl, Ext.refl _⟩
      · exact Ints_some b1 o1 b2 o2 la c1 c2 xs ys w ha hb hn l1 l2 h1 h2
  · refine (Ints_diff ao bo la lb c1 c2 w hab).mono ?_
    rintro e w' ⟨rfl, rfl⟩
    have : decide (xs = ys) = false := by
      simp only [decide_eq_false_iff_not]
      rintro rfl
      omega
    exact ⟨by rw [this], Ext.refl _⟩

end Go.Proofs.Ytgffkjjddhlbpaa
