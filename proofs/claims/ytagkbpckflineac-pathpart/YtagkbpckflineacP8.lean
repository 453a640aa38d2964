/- The closed fact that every law of chapter 3 asks first: it stands. -/
import Derived.Test.YtagkbpckflineacP7
namespace Go.Proofs.Ytagkbpckflineac
open Go.RowKit Go.Maps Stw Go.Deep Stp

def rg : List Lk := [⟨0, 1, 1⟩, ⟨1, 2, 1⟩, ⟨2, 3, 1⟩, ⟨3, 0, 5⟩]
theorem rg_one : fnd 4 rg ⟨0, 3, [], []⟩ = (0, [0, 1, 2, 3]) := by decide +kernel
theorem rg_two : fnd 4 rg ⟨0, 3, [], [2]⟩ = (0, [0, 3]) := by decide +kernel

theorem ring_net {W : World} {b : Nat} (h : W.heap.size = b) : NetAt (W.alloc (.cells #[.int .i64 0, .int .i64 1, .int .i64 1, .int .i64 1, .int .i64 2, .int .i64 1, .int .i64 2, .int .i64 3, .int .i64 1, .int .i64 3, .int .i64 0, .int .i64 5] 57)) (some ⟨b, 0, none⟩) rg := by
  subst h
  refine Or.inr ⟨_, 0, rfl, by simp, fun k hk => ?_⟩
  have hk4 : k < 4 := hk
  match k, hk4 with
  | 0, _ | 1, _ | 2, _ | 3, _ => simp [rg]

set_option maxHeartbeats 1000000 in
theorem ring_any (w : World) : Calls Try.prog 7 #[] w fun e w' => ∃ ao, e = .returned (.agg #[.int .i64 4, .slice ao 4 4]) ∧ NetAt w' ao rg ∧ Ext w w' := by
  go_enter Try.func7, Try.ntmps7
  go_wp2
  refine bodyPost_ret (v := .agg #[.int .i64 4, .slice (some ⟨w.heap.size + 1, 0, none⟩) 4 4]) (by simp [results, Try.results7, go_sem]) rfl ⟨_, rfl, ring_net (by simp), ((Ext.refl w).alloc _).alloc _⟩

theorem ints_lit {W : World} {b : Nat} (h : W.heap.size = b) (a0 a1 a2 a3 : Int) : ListAt (W.alloc (.cells #[.int .i64 a0, .int .i64 a1, .int .i64 a2, .int .i64 a3] 3)) (some ⟨b, 0, none⟩) [a0, a1, a2, a3] := by
  subst h
  refine Or.inr ⟨_, 0, rfl, by simp, fun k hk => ?_⟩
  have hk4 : k < 4 := hk
  match k, hk4 with
  | 0, _ | 1, _ | 2, _ | 3, _ => simp
theorem ints_lit2 {W : World} {b : Nat} (h : W.heap.size = b) (a0 a1 : Int) : ListAt (W.alloc (.cells #[.int .i64 a0, .int .i64 a1] 3)) (some ⟨b, 0, none⟩) [a0, a1] := by
  subst h
  refine Or.inr ⟨_, 0, rfl, by simp, fun k hk => ?_⟩
  have hk4 : k < 2 := hk
  match k, hk4 with
  | 0, _ | 1, _ => simp
theorem ints_lit1 {W : World} {b : Nat} (h : W.heap.size = b) (a0 : Int) : ListAt (W.alloc (.cells #[.int .i64 a0] 3)) (some ⟨b, 0, none⟩) [a0] := by
  subst h
  refine Or.inr ⟨_, 0, rfl, by simp, fun k hk => ?_⟩
  have hk4 : k < 1 := hk
  match k, hk4 with
  | 0, _ => simp

set_option maxRecDepth 100000 in
set_option maxHeartbeats 2000000 in
theorem alive_any (w : World) : Calls Try.prog 4 #[] w fun e w' => e = .returned (.bool true) ∧ Ext w w' := by
  go_enter Try.func4, Try.ntmps4
  go_wp2_with fail
  refine (ring_any _).mono ?_
  rintro e w1 ⟨ao, rfl, hnet, E1⟩
  go_wp2_with fail
  refine (Find_any 4 ao 4 4 rg ⟨0, 3, [], []⟩ none none 0 0 _ rfl hnet (by omega) (i64_small (by omega) (by omega)) (Or.inl rfl) (Nat.zero_le _) (Nat.le_refl _) (Or.inl rfl) (Nat.zero_le _) (Nat.le_refl _)).mono ?_
  rintro e w2 ⟨go, gc, he, hg, hgl, E2⟩
  rw [rg_one] at he hg hgl
  have he' : e = .returned (.tuple #[.slice go 4 gc, .int .i64 0]) := he
  subst he'
  clear he
  go_wp2_with fail
  refine (ring_any _).mono ?_
  rintro e w3 ⟨ao3, rfl, hnet3, E3⟩
  go_wp2_with fail
  refine (Find_any 4 ao3 4 4 rg ⟨0, 3, [], [2]⟩ none (some ⟨w3.heap.size, 0, none⟩) 0 1 _ rfl (hnet3.ext ((Ext.refl _).alloc _)) (by omega) (i64_small (by omega) (by omega)) (Or.inl rfl) (Nat.zero_le _) (Nat.le_refl _) (ints_lit1 rfl 2) (by simp) (Nat.le_refl _)).mono ?_
  rintro e w4 ⟨ho, hc, he, hh, hhl, E4⟩
  rw [rg_two] at he hh hhl
  have he' : e = .returned (.tuple #[.slice ho 2 hc, .int .i64 0]) := he
  subst he'
  clear he
  go_wp2_with fail
  refine (Ints_any _ _ 4 4 _ _ [0, 1, 2, 3] [0, 1, 2, 3] _ rfl rfl (by omega) (hg.ext (((E3.trans ((Ext.refl w3).alloc _)).trans E4).alloc _)) (ints_lit rfl 0 1 2 3)).mono ?_
  rintro e w5 ⟨he, E5⟩
  rw [show decide (([0, 1, 2, 3] : List Int) = [0, 1, 2, 3]) = true by decide] at he
  subst he
  go_wp2_with fail
  refine (Ints_any _ _ 2 2 _ _ [0, 3] [0, 3] _ rfl rfl (by omega) (hh.ext ((((Ext.refl w4).alloc _).trans E5).alloc _)) (ints_lit2 rfl 0 3)).mono ?_
  rintro e w6 ⟨he, E6⟩
  rw [show decide (([0, 3] : List Int) = [0, 3]) = true by decide] at he
  subst he
  go_wp2
  go_ret
  exact ⟨rfl, ((((((E1.trans E2).trans E3).alloc _).trans E4).alloc _).trans E5).alloc _ |>.trans E6⟩

end Go.Proofs.Ytagkbpckflineac
