/- What Ints answers: whether two lists of numbers are the same; nothing that was there is changed. And the closed fact that every law asks first: it stands. -/
import Derived.Test.YtbfgioinjggkkaaW6
namespace Go.Proofs.Ytbfgioinjggkkaa
open Go.RowKit Go.Maps Stw

theorem Ext.drewN {a b : World} (h : Ext a b) (n : Nat) : Ext a (b.drewN n) := below_drewN h n
theorem getD_at {L : List Int} {k : Nat} (h : k < L.length) : L.getD k 0 = L[k] := by simp [List.getD_eq_getElem?_getD, h]

set_option maxHeartbeats 1000000 in
theorem Ints_some (b1 o1 b2 o2 n c1 c2 : Nat) (xs ys : List Int) (w : World) (ha : xs.length = n) (hb : ys.length = n) (hn : n ≤ 4611686018427387904) (l1 : b1 < w.heap.size) (l2 : b2 < w.heap.size) (h1 : IntsAt w b1 o1 xs) (h2 : IntsAt w b2 o2 ys) :
    Calls Try.prog 9 #[.slice (some ⟨b1, o1, none⟩) n c1, .slice (some ⟨b2, o2, none⟩) n c2] w fun e w' => e = .returned (.bool (decide (xs = ys))) ∧ Ext w w' := by
  go_enter Try.func9, Try.ntmps9
  go_wp2
  go_loopw [13] (fun i wr => ∃ k : Nat, k ≤ n ∧ i = .int .i64 k ∧ (∀ j, j < k → xs.getD j 0 = ys.getD j 0) ∧ Ext w wr) (fun i _ => n - (intOf i).toNat)
  case atStart => exact ⟨0, Nat.zero_le _, rfl, fun j hj => by omega, Ext.refl w⟩
  case round =>
    obtain ⟨k, hk, rfl, hpre, hext⟩ := hrel
    by_cases hlt : k < n
    · have a0 := (hext.cells.1 _ _ l1).trans (h1 k (by omega))
      have b0 := (hext.cells.1 _ _ l2).trans (h2 k (by omega))
      have HP : Hid (∀ j, j < k → xs.getD j 0 = ys.getD j 0) := hpre
      obtain ⟨x, hx⟩ : ∃ x, x = xs.getD k 0 := ⟨_, rfl⟩
      obtain ⟨y, hy⟩ : ∃ y, y = ys.getD k 0 := ⟨_, rfl⟩
      rw [← hx] at a0
      rw [← hy] at b0
      have HX : Hid (x = xs.getD k 0) := hx
      have HY : Hid (y = ys.getD k 0) := hy
      clear hx hy hpre
      have i1 : (k : Int) < (n : Int) := by omega
      go_wp2
      go_quiet (fail)
      cases hxy : (x == y)
      · go_wp2
        go_ret
        have hne : decide (xs = ys) = false := by
          simp only [decide_eq_false_iff_not]
          rintro rfl
          have : x ≠ y := by simpa using hxy
          exact this (HX.out.trans HY.out.symm)
        exact ⟨by rw [hne]; rfl, hext.drewN _⟩
      · go_wp2
        go_roundw
        case rel =>
          refine ⟨k + 1, by omega, by go_num, fun j hj => ?_, hext.drewN _⟩
          by_cases e : j = k
          · subst e; rw [← HX.out, ← HY.out]; simpa using hxy
          · exact HP.out j (by omega)
        case measure => simp [intOf]; omega
    · go_wp2
      go_ret
      have heq : decide (xs = ys) = true := by
        simp only [decide_eq_true_eq]
        refine List.ext_getElem (by omega) (fun j j1 j2 => ?_)
        have := hpre j (by omega)
        rwa [getD_at j1, getD_at j2] at this
      exact ⟨by rw [heq]; rfl, hext⟩

set_option maxHeartbeats 400000 in
theorem Ints_diff (ao bo : Option Addr) (la lb c1 c2 : Nat) (w : World) (h : la ≠ lb) :
    Calls Try.prog 9 #[.slice ao la c1, .slice bo lb c2] w fun e w' => e = .returned (.bool false) ∧ w' = w := by
  have h' : ((la : Int) == (lb : Int)) = false := by simp; omega
  go_enter Try.func9, Try.ntmps9
  go_wp2
  go_ret
  exact ⟨rfl, rfl⟩

set_option maxHeartbeats 400000 in
theorem Ints_none (ao bo : Option Addr) (c1 c2 : Nat) (w : World) :
    Calls Try.prog 9 #[.slice ao 0 c1, .slice bo 0 c2] w fun e w' => e = .returned (.bool true) ∧ w' = w := by
  go_enter Try.func9, Try.ntmps9
  go_wp2
  refine wp_loop_rounds 1 ?_
  rw [rounds_succ]
  go_wp2
  go_ret
  exact ⟨rfl, rfl⟩

theorem Ints_any (ao bo : Option Addr) (la lb c1 c2 : Nat) (xs ys : List Int) (w : World) (ha : xs.length = la) (hb : ys.length = lb) (hn : la ≤ 4611686018427387904) (h1 : ListAt w ao xs) (h2 : ListAt w bo ys) :
    Calls Try.prog 9 #[.slice ao la c1, .slice bo lb c2] w fun e w' => e = .returned (.bool (decide (xs = ys))) ∧ Ext w w' := by
  by_cases hab : la = lb
  · subst hab
    rcases h1 with rfl | ⟨b1, o1, rfl, l1, h1⟩
    · have hys : ys = [] := List.eq_nil_of_length_eq_zero (by simp at ha; omega)
      subst hys
      simp only [List.length_nil] at ha
      subst ha
      refine (Ints_none ao bo c1 c2 w).mono ?_
      rintro e w' ⟨rfl, rfl⟩
      exact ⟨rfl, Ext.refl _⟩
    · rcases h2 with rfl | ⟨b2, o2, rfl, l2, h2⟩
      · have hxs : xs = [] := List.eq_nil_of_length_eq_zero (by simp at hb; omega)
        subst hxs
        simp only [List.length_nil] at ha
        subst ha
        refine (Ints_none _ bo c1 c2 w).mono ?_
        rintro e w' ⟨rfl, rfl⟩
        exact ⟨rfl, Ext.refl _⟩
      · exact Ints_some b1 o1 b2 o2 la c1 c2 xs ys w ha hb hn l1 l2 h1 h2
  · refine (Ints_diff ao bo la lb c1 c2 w hab).mono ?_
    rintro e w' ⟨rfl, rfl⟩
    have : decide (xs = ys) = false := by
      simp only [decide_eq_false_iff_not]
      rintro rfl
      omega
    exact ⟨by rw [this], Ext.refl _⟩

def al : List Lk := [⟨0, 2, 5⟩]
theorem al_wrong : wrong 3 al = (0, 0) := by decide
theorem al_len : lengthOf 3 al [2, 0] = (5, true) := by decide
theorem al_cost : cost al 2 0 = 5 := by decide
theorem al_rl : RL 3 al 0 [0, 2] := by
  refine ⟨by decide, fun s => ?_⟩
  have h0 : (wrong 3 al).1 = 0 := by rw [al_wrong]
  have h1 : swB 3 0 = true := by decide
  simp only [h0, h1, true_and, List.mem_cons, List.not_mem_nil, or_false]
  constructor
  · rintro (rfl | rfl)
    · exact Rch.refl _ _
    · exact (Rch.refl _ _).step (by decide)
  · intro hr
    refine hr (fun x => x = 0 ∨ x = 2) (Or.inl rfl) (fun x y hx hc => ?_)
    by_cases hj : jn ⟨0, 2, 5⟩ x y = true
    · rw [jn_iff] at hj
      simp only at hj
      omega
    · simp [al, cost, hj] at hc
theorem al_at {w : World} {b : Nat} (hb : b < w.heap.size) (h0 : w.cell? ⟨b, 0, none⟩ = some (.int .i64 0)) (h1 : w.cell? ⟨b, 1, none⟩ = some (.int .i64 2)) (h2 : w.cell? ⟨b, 2, none⟩ = some (.int .i64 5)) : NetAt w (some ⟨b, 0, none⟩) al :=
  Or.inr ⟨b, 0, rfl, hb, fun k hk => by
    have : k = 0 := by simp [al] at hk; omega
    subst this
    exact ⟨h0, h1, h2⟩⟩
theorem two_at {w : World} {b : Nat} {x y : Int} (hb : b < w.heap.size) (h0 : w.cell? ⟨b, 0, none⟩ = some (.int .i64 x)) (h1 : w.cell? ⟨b, 1, none⟩ = some (.int .i64 y)) : ListAt w (some ⟨b, 0, none⟩) [x, y] :=
  Or.inr ⟨b, 0, rfl, hb, fun k hk => by
    match k, hk with
    | 0, _ => exact h0
    | 1, _ => exact h1⟩

theorem fldErr (a b : Int) (w : World) : (Instr.field 28 (.agg #[.int .i64 a, .int .i64 b]) 0).run Try.prog w = .ok (.int .i64 a) w := by kernel_rfl
theorem cell30 {w : World} {o1 o2 o3 : Obj} (i : Nat) : (((w.alloc o1).alloc o2).alloc o3).cell? ⟨w.heap.size, i, none⟩ = (w.alloc o1).cell? ⟨w.heap.size, i, none⟩ := by
  rw [World.cell?_alloc_past _ _ _ (by simp; omega), World.cell?_alloc_past _ _ _ (by simp)]
theorem cell31 {w : World} {o1 o2 o3 : Obj} (i : Nat) : (((w.alloc o1).alloc o2).alloc o3).cell? ⟨w.heap.size + 1, i, none⟩ = ((w.alloc o1).alloc o2).cell? ⟨w.heap.size + 1, i, none⟩ := by
  rw [World.cell?_alloc_past _ _ _ (by simp)]
theorem cell_two {W : World} {n : Nat} {x y : Value} {T : TypeId} (h : W.heap.size = n) : (W.alloc (.cells #[x, y] T)).cell? ⟨n, 0, none⟩ = some x ∧ (W.alloc (.cells #[x, y] T)).cell? ⟨n, 1, none⟩ = some y := by subst h; simp

set_option maxHeartbeats 2000000 in
theorem alive_any (w : World) : Calls Try.prog 16 #[] w fun e w' => e = .returned (.bool true) ∧ Ext w w' := by
  have hfd := fldErr
  go_enter Try.func16, Try.ntmps16
  go_wp2_with fail
  have hnet : NetAt (((w.alloc (.cells #[.int .i64 0, .int .i64 2, .int .i64 5] 43)).alloc (.cells #[.int .i64 3, .slice (some ⟨w.heap.size, 0, none⟩) 1 1] 24)).alloc (.cells #[.int .i64 2, .int .i64 0] 3)) (some ⟨w.heap.size, 0, none⟩) al :=
    al_at (by simp; omega) (by rw [cell30]; simp) (by rw [cell30]; simp) (by rw [cell30]; simp)
  have hlist : ListAt (((w.alloc (.cells #[.int .i64 0, .int .i64 2, .int .i64 5] 43)).alloc (.cells #[.int .i64 3, .slice (some ⟨w.heap.size, 0, none⟩) 1 1] 24)).alloc (.cells #[.int .i64 2, .int .i64 0] 3)) (some ⟨w.heap.size + 1 + 1, 0, none⟩) [2, 0] :=
    two_at (by simp) (cell_two (by simp)).1 (cell_two (by simp)).2
  refine (Length_any 3 _ _ 1 1 2 2 al [2, 0] _ rfl hnet (by omega) rfl (by omega) hlist (fun x hx => by simp at hx; exact i64_small (by omega) (by omega))).mono ?_
  rintro e w1 ⟨he, hb1⟩
  rw [al_len] at he
  subst he
  have c0 : w1.cell? ⟨w.heap.size + 1, 0, none⟩ = some (.int .i64 3) := (hb1.cells.1 _ _ (by simp)).trans ((cell31 0).trans (cell_two (by simp)).1)
  have c1 : w1.cell? ⟨w.heap.size + 1, 1, none⟩ = some (.slice (some ⟨w.heap.size, 0, none⟩) 1 1) := (hb1.cells.1 _ _ (by simp)).trans ((cell31 1).trans (cell_two (by simp)).2)
  have hs1 : w.heap.size + 1 < w1.heap.size := by have := hb1.size; simp at this; omega
  go_wp2_with fail
  refine (Wrong_any 3 _ 1 1 al _ rfl (hnet.ext hb1) (by omega)).mono ?_
  rintro e w2 ⟨he, hb2⟩
  rw [al_wrong] at he
  subst he
  have d0 := (hb2.cells.1 _ _ hs1).trans c0
  have d1 := (hb2.cells.1 _ _ hs1).trans c1
  have hs2 : w.heap.size + 1 < w2.heap.size := by have := hb2.size; omega
  clear c0 c1
  go_wp2_with fail
  refine (Cost_any 3 2 0 _ 1 1 al _ rfl ((hnet.ext hb1).ext hb2) (by omega) (i64_small (by omega) (by omega)) (i64_small (by omega) (by omega)) al_wrong).mono ?_
  rintro e w3 ⟨he, hb3⟩
  rw [al_cost] at he
  subst he
  have c0 := (hb3.cells.1 _ _ hs2).trans d0
  have c1 := (hb3.cells.1 _ _ hs2).trans d1
  have hs3 : w.heap.size + 1 < w3.heap.size := by have := hb3.size; omega
  clear d0 d1
  go_wp2_with fail
  refine (Reaches_any 3 0 _ 1 1 al _ rfl (((hnet.ext hb1).ext hb2).ext hb3) (by omega)).mono ?_
  rintro e w4 ⟨lo, lc, L, he, hL, hrl, hb4⟩
  obtain rfl := hrl.unique al_rl
  subst he
  clear c0 c1
  go_wp2_with fail
  refine (Ints_any _ _ 2 2 _ _ [0, 2] [0, 2] _ rfl rfl (by omega) (hL.ext ((Ext.refl _).alloc _)) (two_at (by simp) (by simp) (by simp))).mono ?_
  rintro e w5 ⟨he, hb5⟩
  rw [show decide (([0, 2] : List Int) = [0, 2]) = true by decide] at he
  subst he
  go_wp2
  go_ret
  exact ⟨rfl, (((((((((Ext.refl w).alloc _).alloc _).alloc _).trans hb1).trans hb2).trans hb3).trans hb4).alloc _).trans hb5⟩

end Go.Proofs.Ytbfgioinjggkkaa
