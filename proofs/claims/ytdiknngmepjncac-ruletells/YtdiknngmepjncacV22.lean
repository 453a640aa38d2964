/- The closed fact that every law of chapter 4 asks first: it stands. -/
import Derived.Test.YtdiknngmepjncacV19
import Derived.Test.YtdiknngmepjncacV21
namespace Go.Proofs.Ytdiknngmepjncac.Tb
open Go.RowKit Go.Maps Stw Go.Deep Rul Go.Sort

/-- One table of those that are made. -/
theorem TB.get {w : World} {H n : Nat} {vs : Nat → Value} {ts : Nat → List Ru} (h : TB w H n vs ts) {s : Nat} (hs : s < n) : ∃ ao cap, w.cell? ⟨H, s, none⟩ = some (.slice ao (ts s).length cap) ∧ SlOk w ao (ts s).length cap (ts s) ∧ w.frozen? ⟨H, s, none⟩ = false := by
  obtain ⟨ao, cap, hv, hat, hnil, _, _⟩ := (h.own s hs).form
  refine ⟨ao, cap, by rw [h.row.cell hs, hv], ⟨rfl, hat, fun e => ?_⟩, h.row.frozen s⟩
  obtain ⟨h1, h2⟩ := hnil e
  exact ⟨by rw [h1]; rfl, h2⟩

theorem of0 : rof 3 ((0 : Nat) : Int) [[0, 1, 2]] 1 = [(3, 0, 1)] := by decide +kernel
theorem of1 : rof 3 ((1 : Nat) : Int) [[0, 1, 2]] 1 = [(3, 0, 2)] := by decide +kernel
theorem of2 : rof 3 ((2 : Nat) : Int) [[0, 1, 2]] 1 = [] := by decide +kernel
theorem ad1 : add [(3, 0, 1)] [(2, 5, 7)] = ([(2, 5, 7), (3, 0, 1)], 0) := by decide +kernel
theorem nx1 : nxt 3 0 [(2, 5, 7), (3, 0, 1)] = (1, true) := by decide +kernel

set_option maxRecDepth 100000 in
set_option maxHeartbeats 1600000 in
theorem alive_any (w : World) : Calls Try.prog 23 #[] w fun e w' => e = .returned (.bool true) ∧ Ext w w' := by
  have hps : ∀ W : World, PsAt ((W.alloc (.cells #[.int .i64 0, .int .i64 1, .int .i64 2] 3)).alloc (.cells #[.slice (some ⟨W.heap.size, 0, none⟩) 3 3] 27)) (some ⟨W.heap.size + 1, 0, none⟩) [[0, 1, 2]] := fun W => by
    refine Or.inr ⟨_, 0, rfl, by simp, fun k hk => ?_⟩
    have hk0 : k = 0 := by simpa using hk
    subst hk0
    refine ⟨some ⟨W.heap.size, 0, none⟩, 3, by simp, Or.inr ⟨_, 0, rfl, by simp; omega, fun j hj => ?_⟩⟩
    have hj3 : j < 3 := hj
    match j, hj3 with
    | 0, _ | 1, _ | 2, _ => simp
  go_enter Try.func23, Try.ntmps23
  go_wp2_with fail
  refine (Of_any 3 none (some ⟨w.heap.size + 1, 0, none⟩) 0 0 1 1 3 [[0, 1, 2]] _ rfl (hps w) (by omega) (by decide) (by omega)).mono ?_
  rintro e w1 ⟨vs, rfl, htb, E1⟩
  obtain ⟨ao0, c0, h0, ok0, _⟩ := htb.get (s := 0) (by omega)
  obtain ⟨ao1, c1, h1, _, _⟩ := htb.get (s := 1) (by omega)
  obtain ⟨ao2, c2, h2, _, _⟩ := htb.get (s := 2) (by omega)
  have h0a : _ := h0
  rw [of0] at h0 ok0
  rw [of1] at h1
  rw [of2] at h2
  have hlt := htb.row.lt
  have E0 : Ext w w1 := (((Ext.refl w).alloc _).alloc _).trans E1
  clear htb E1
  obtain ⟨H, hH⟩ : ∃ H, H = ((w.alloc (.cells #[.int .i64 0, .int .i64 1, .int .i64 2] 3)).alloc (.cells #[.slice (some ⟨w.heap.size, 0, none⟩) 3 3] 27)).heap.size + 1 := ⟨_, rfl⟩
  rw [← hH] at h0 h1 h2 hlt ⊢
  clear hH
  go_wp2_with fail
  have okm : ∀ W : World, SlOk (W.alloc (.cells #[.int .i64 2, .int .i64 5, .int .i64 7] 54)) (some ⟨W.heap.size, 0, none⟩) 1 1 [(2, 5, 7)] := fun W =>
    ⟨rfl, Or.inr ⟨_, 0, rfl, by simp, fun k hk => by
      have hk0 : k = 0 := by simpa using hk
      subst hk0
      simp⟩, fun h => by cases h⟩
  refine (Add_any ao0 (some ⟨w1.heap.size, 0, none⟩) 1 c0 1 1 [(3, 0, 1)] [(2, 5, 7)] _ (ok0.ext ((Ext.refl _).alloc _)) (okm w1) (by omega) (by omega)).mono ?_
  rintro e w2 ⟨vo, vc, he, ok2, E2⟩
  rw [ad1] at he ok2
  have he' : e = .returned (.tuple #[.slice vo 2 vc, .int .i64 0]) := he
  subst he'
  clear he
  have ok3 : SlOk w2 vo 2 vc [(2, 5, 7), (3, 0, 1)] := ok2
  have E2' : Ext w1 w2 := ((Ext.refl w1).alloc _).trans E2
  clear ok2 ok0 okm E2
  go_wp2_with fail
  refine (Next_any vo 2 vc [(2, 5, 7), (3, 0, 1)] 3 0 _ rfl ok3.hat (by omega)).mono ?_
  rintro e w3 ⟨he, E3⟩
  rw [nx1] at he
  subst he
  have E3' := E2'.trans E3
  have g1 := (E3'.cells.1 _ _ hlt).trans h1
  have g2 := (E3'.cells.1 _ _ hlt).trans h2
  have hE : Ext w w3 := E0.trans E3'
  clear h0 h1 h2
  simp only [List.length_cons, List.length_nil] at g1 g2
  go_wp2
  go_ret
  exact ⟨rfl, hE⟩

end Go.Proofs.Ytdiknngmepjncac.Tb
