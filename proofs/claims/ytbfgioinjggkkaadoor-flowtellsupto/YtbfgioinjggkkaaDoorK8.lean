/- FlowTells answers true, for every text, all flows and every number; nothing that was there is changed. -/
import Derived.Test.YtbfgioinjggkkaaDoorK7
namespace Go.Proofs.YtbfgioinjggkkaaDoor
open Go.RowKit Go.Maps Stf Go.Sort

/-- The flows and the fault that a text comes to. -/
def pz (s : Bs) : List Fl × Int × Int := match pres s with
  | .error (c, p) => ([], c, p)
  | .ok fs => (fs, 0, 0)
theorem po_any {w' : World} {e : Ending} {s : Bs} (h : PO w' e s) : ∃ ao cap, e = .returned (.tuple #[.slice ao (pz s).1.length cap, .agg #[.int .i64 (pz s).2.1, .int .i64 (pz s).2.2]]) ∧ FlowsAt w' ao (pz s).1 ∧ (pz s).1.length ≤ 2000 ∧ Sm2 (pz s).1 := by
  rcases h with ⟨c, p, hq, hc, rfl⟩ | ⟨gs, bo, cap2, hq, rfl, hf2, hcap2, hn2, hsm2⟩
  · have e : pz s = ([], c, p) := by unfold pz; rw [hq]
    rw [e]
    exact ⟨none, 0, rfl, Or.inl rfl, by simp, fun k hk => by simp at hk⟩
  · have e : pz s = (gs, 0, 0) := by unfold pz; rw [hq]
    rw [e]
    exact ⟨bo, cap2, rfl, hf2, hn2, hsm2⟩
/-- The text that flows come to, where they are right. -/
def prT (fs : List Fl) (n : Int) : ByteArray := if (wflows fs n).1 = 0 then ⟨(text fs).toArray⟩ else ⟨#[]⟩
theorem out_any {e : Ending} {fs : List Fl} {n : Int} (h : PrintOut e fs n) : e = .returned (.tuple #[.string (prT fs n), .agg #[.int .i64 (wflows fs n).1, .int .i64 (wflows fs n).2]]) := by
  rcases h with ⟨h0, rfl⟩ | ⟨hw, s1, hs1, rfl⟩
  · unfold prT; rw [if_neg h0]
  · unfold prT
    rw [hw, if_pos rfl]
    have : s1 = ⟨(text fs).toArray⟩ := bytes_eq (by rw [hs1])
    rw [this]

/-- A variable that holds a fault. -/
def FB (w : World) (k : Nat) (r q : Int) : Prop := w.cell? ⟨k, 0, none⟩ = some (.int .i64 r) ∧ w.cell? ⟨k, 1, none⟩ = some (.int .i64 q) ∧ w.frozen? ⟨k, 0, none⟩ = false ∧ w.frozen? ⟨k, 1, none⟩ = false ∧ k < w.heap.size
theorem FB.made (w : World) (r q : Int) : FB (w.alloc (.cells #[.int .i64 r, .int .i64 q] 25)) w.heap.size r q := by
  refine ⟨?_, ?_, ?_, ?_, ?_⟩ <;> simp
theorem FB.ext {w w' : World} {k : Nat} {r q : Int} (h : FB w k r q) (E : Ext w w') : FB w' k r q := by
  obtain ⟨h0, h1, g0, g1, hk⟩ := h
  have hs := E.size
  exact ⟨(E.cells.1 _ _ hk).trans h0, (E.cells.1 _ _ hk).trans h1, (Below.frozen E (p := ⟨k, 0, none⟩) hk).trans g0, (Below.frozen E (p := ⟨k, 1, none⟩) hk).trans g1, by omega⟩
theorem FB.set {w : World} {k : Nat} {r q : Int} (h : FB w k r q) (r' q' : Int) : FB ((w.setCell ⟨k, 0, none⟩ (.int .i64 r')).setCell ⟨k, 1, none⟩ (.int .i64 q')) k r' q' := by
  obtain ⟨h0, h1, g0, g1, hk⟩ := h
  have h2 : (w.setCell ⟨k, 0, none⟩ (.int .i64 r')).cell? ⟨k, 1, none⟩ = some (.int .i64 q) := by rw [World.cell?_setCell_other _ _ _ _ (by simp)]; exact h1
  refine ⟨?_, World.cell?_setCell_same _ _ _ h2, by simpa using g0, by simpa using g1, by simpa using hk⟩
  rw [World.cell?_setCell_other _ _ _ _ (by simp)]
  exact World.cell?_setCell_same _ _ _ h0
theorem FB.other {w : World} {k j : Nat} {r q r' q' : Int} (h : FB w k r q) (hj : j ≠ k) : FB ((w.setCell ⟨j, 0, none⟩ (.int .i64 r')).setCell ⟨j, 1, none⟩ (.int .i64 q')) k r q := by
  obtain ⟨h0, h1, g0, g1, hk⟩ := h
  refine ⟨?_, ?_, by simpa using g0, by simpa using g1, by simpa using hk⟩
  · rw [World.cell?_setCell_other _ _ _ _ (fun h => hj (by cases h <;> rfl)), World.cell?_setCell_other _ _ _ _ (fun h => hj (by cases h <;> rfl))]; exact h0
  · rw [World.cell?_setCell_other _ _ _ _ (fun h => hj (by cases h <;> rfl)), World.cell?_setCell_other _ _ _ _ (fun h => hj (by cases h <;> rfl))]; exact h1

set_option maxRecDepth 100000 in
set_option maxHeartbeats 4000000 in
theorem tells_any (s : ByteArray) (ao : Option Addr) (len cap : Nat) (n : Int) (fs : List Fl) (w : World) (hs : s.size ≤ 9223372036854775807) (hlen : fs.length = len) (hf : FlowsAt w ao fs) (hI : I64 n) (hS : Sm2 fs) (hl : len ≤ 4611686018427387904) (hm : MaxAt w) (hT : Tab w) :
    Calls Tryd.prog 3 #[.string s, .slice ao len cap, .int .i64 n] w fun e w' => e = .returned (.bool true) ∧ Ext w w' := by
  subst hlen
  have hTB := Lib.tabBelow_of_tabIs hT
  go_enter Tryd.func3, Tryd.ntmps3
  go_wp2_with fail
  refine (Parse_any s _ hs hm).mono ?_
  rintro e w1 ⟨E1, ho⟩
  obtain ⟨a1, c1, rfl, f1, l1, s1⟩ := po_any ho
  clear ho
  obtain ⟨ks, c, p, hz⟩ : ∃ ks c p, pz s.data.toList = (ks, c, p) := ⟨_, _, _, rfl⟩
  rw [hz] at f1 l1 s1 ⊢
  dsimp only at f1 l1 s1 ⊢
  go_wp2_with fail
  refine (refParse_any s _ hs).mono ?_
  rintro e w2 ⟨E2, ho⟩
  obtain ⟨a2, c2, rfl, f2, l2, s2⟩ := po_any ho
  clear ho
  rw [hz] at f2 l2 s2 ⊢
  dsimp only at f2 l2 s2 ⊢
  clear hz l2 s2
  have k1 := (FB.made w1 c p).ext E2
  have hE2 := (E1.alloc (.cells #[.int .i64 c, .int .i64 p] 25)).trans E2
  have f1' := f1.ext (((Ext.refl w1).alloc (.cells #[.int .i64 c, .int .i64 p] 25)).trans E2)
  obtain ⟨q0, q1, q2, q3, q4⟩ := k1
  go_wp2_with fail
  refine (SameFlows_any a1 a2 ks.length ks.length c1 c2 ks ks _ rfl rfl (by omega) (f1'.ext ((Ext.refl _).alloc _)) (f2.ext ((Ext.refl _).alloc _)) s1.sm).mono ?_
  rintro e w3 ⟨he, E3⟩
  rw [sameF_true rfl] at he
  subst he
  have k1 := (FB.ext ⟨q0, q1, q2, q3, q4⟩ ((Ext.refl _).alloc (.cells #[.int .i64 c, .int .i64 p] 25))).ext E3
  have k2 := (FB.made w2 c p).ext E3
  have hE3 := (hE2.alloc _).trans E3
  have hne : w1.heap.size ≠ w2.heap.size := by omega
  have hw1 := E1.size
  have hw2 := hE2.size
  clear q0 q1 q2 q3 q4 f1 f1' f2 s1 l1 E2 E3
  go_wp2_with fail
  refine (Wrong_any ao fs.length cap n fs _ rfl (hf.ext hE3) hI hS.sm (by omega)).mono ?_
  rintro e w4 ⟨rfl, E4⟩
  have hE4 := hE3.trans E4
  go_wp2_with fail
  refine (refWrong_any ao fs.length cap n fs _ rfl (hf.ext hE4) hS.sm (by omega)).mono ?_
  rintro e w5 ⟨rfl, E5⟩
  have hE5 := hE4.trans E5
  have k1 := (k1.ext E4).ext E5
  have k2 := (k2.ext E4).ext E5
  obtain ⟨r, q, hr⟩ : ∃ r q, wflows fs n = (r, q) := ⟨_, _, rfl⟩
  have HR := hid hr
  rw [hr]
  dsimp only
  clear hr E4 E5
  go_wp2_with fail
  refine (Print_any ao fs.length cap n fs _ rfl (hf.ext hE5) hI hS (by omega) (hTB _ hE5)).mono ?_
  rintro e w6 ⟨E6, ho⟩
  have ho := out_any ho
  rw [HR.out] at ho
  subst ho
  have k1 := k1.ext E6
  have k2 := k2.ext E6
  have hE6 := hE5.trans E6
  clear E6
  dsimp only
  have k1' := k1.set r q
  have k2' : FB _ w2.heap.size c p := k2.other (r' := r) (q' := q) hne
  have hE6' : Ext w ((w6.setCell ⟨w1.heap.size, 0, none⟩ (.int .i64 r)).setCell ⟨w1.heap.size, 1, none⟩ (.int .i64 q)) := (hE6.setCell (by exact hw1) _).setCell (by exact hw1) _
  obtain ⟨q0, q1, q2, q3, q4⟩ := k1
  go_wp2_with fail
  clear q0 q1 q2 q3 q4
  refine (refPrint_any ao fs.length cap n fs _ rfl (hf.ext hE6') hI hS (by omega) (hTB _ hE6')).mono ?_
  rintro e w7 ⟨E7, ho⟩
  have ho := out_any ho
  rw [HR.out] at ho
  subst ho
  have k1 := k1'.ext E7
  have k2 := k2'.ext E7
  have k3 : FB _ w1.heap.size r q := k1.other (r' := r) (q' := q) (Ne.symm hne)
  have k4 := k2.set r q
  have hE7 := hE6'.trans E7
  obtain ⟨q0, q1, q2, q3, q4⟩ := k2
  obtain ⟨m0, m1, m2, m3, m4⟩ := k3
  obtain ⟨n0, n1, n2, n3, n4⟩ := k4
  clear k1 k1' k2' E7 k2
  go_wp2
  go_ret
  exact ⟨by simp, (hE7.setCell (by exact hw2) _).setCell (by exact hw2) _⟩
end Go.Proofs.YtbfgioinjggkkaaDoor
