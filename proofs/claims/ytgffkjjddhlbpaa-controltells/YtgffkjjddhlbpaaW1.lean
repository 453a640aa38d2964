/- What isSwitch, joining and wrongLink answer, for every net, link and number; nothing that was there is changed. -/
import Derived.Test.YtgffkjjddhlbpaaN0a
import Derived.Test.YtgffkjjddhlbpaaM1
import Derived.WalkKit
import Derived.WalkSpells
import Derived.WalkLawsBesides
import Derived.BigQuiet
import Derived.Deep.QuietTactic
namespace Go.Proofs.Ytgffkjjddhlbpaa
open Go.RowKit Stw

set_option maxHeartbeats 400000 in
theorem isSwitch_any (n s : Int) (ao : Option Addr) (len cap : Nat) (w : World) :
    Calls Try.prog 79 #[.agg #[.int .i64 n, .slice ao len cap], .int .i64 s] w fun e w' => e = .returned (.bool (swB n s)) ∧ Ext w w' := by
  by_cases h0 : 0 ≤ s
  · go_enter Try.func79, Try.ntmps79
    go_wp2
    go_ret
    refine ⟨?_, (Ext.refl w).alloc _⟩
    simp [swB, h0]
  · go_enter Try.func79, Try.ntmps79
    go_wp2
    go_ret
    refine ⟨?_, (Ext.refl w).alloc _⟩
    have : swB n s = false := by rw [swB_false]; omega
    rw [this]; rfl

set_option maxHeartbeats 400000 in
theorem joining_any (a b : Int) (w : World) :
    Calls Try.prog 71 #[.int .i64 a, .int .i64 b] w fun e w' => e = .returned (.agg #[.int .i64 (min a b), .int .i64 (max a b)]) ∧ Ext w w' := by
  rcases Int.lt_trichotomy a b with h | h | h
  · have e1 : min a b = a := by omega
    have e2 : max a b = b := by omega
    rw [e1, e2]; clear e1 e2
    go_enter Try.func71, Try.ntmps71
    go_wp2
    exact bodyPost_ret (v := .agg #[.int .i64 a, .int .i64 b]) (by simp [results, Try.results71, go_sem] <;> try omega) rfl ⟨rfl, (Ext.refl w).alloc _⟩
  · subst h
    have e1 : min a a = a := by omega
    have e2 : max a a = a := by omega
    rw [e1, e2]; clear e1 e2
    go_enter Try.func71, Try.ntmps71
    go_wp2
    exact bodyPost_ret (v := .agg #[.int .i64 a, .int .i64 a]) (by simp [results, Try.results71, go_sem] <;> try omega) rfl ⟨rfl, (Ext.refl w).alloc _⟩
  · have e1 : min a b = b := by omega
    have e2 : max a b = a := by omega
    rw [e1, e2]; clear e1 e2
    go_enter Try.func71, Try.ntmps71
    go_wp2
    exact bodyPost_ret (v := .agg #[.int .i64 b, .int .i64 a]) (by simp [results, Try.results71, go_sem] <;> try omega) rfl ⟨rfl, (Ext.refl w).alloc _⟩

theorem wl8 {n a b c : Int} (hb : swB n b = true) (h : (a == b) = true) : Ending.returned (.int .i64 8) = .returned (.int .i64 (wlink n a b c)) := by
  have : wlink n a b c = 8 := by simp [wlink, hb, eq_of_beq h]
  rw [this]
theorem wl3 {n a b c : Int} (ha : swB n a = true) (hb : swB n b = true) (h : (a == b) = false) (hc : c < 1 ∨ 1000 < c) : Ending.returned (.int .i64 3) = .returned (.int .i64 (wlink n a b c)) := by
  have : wlink n a b c = 3 := by simp [wlink, ha, hb, ne_of_beq_false h, hc]
  rw [this]
theorem wl0 {n a b c : Int} (ha : swB n a = true) (hb : swB n b = true) (h : (a == b) = false) (hc : 1 ≤ c ∧ c ≤ 1000) : Ending.returned (.int .i64 0) = .returned (.int .i64 (wlink n a b c)) := by
  have : wlink n a b c = 0 := by simp [wlink, ha, hb, ne_of_beq_false h]; omega
  rw [this]

set_option maxHeartbeats 400000 in
theorem wrongLink_any (n a b c : Int) (ao : Option Addr) (len cap : Nat) (w : World) :
    Calls Try.prog 70 #[.agg #[.int .i64 n, .slice ao len cap], .agg #[.int .i64 a, .int .i64 b, .int .i64 c]] w fun e w' => e = .returned (.int .i64 (wlink n a b c)) ∧ Ext w w' := by
  cases ha : swB n a
  · have e0 : wlink n a b c = 6 := by simp [wlink, ha]
    rw [e0]; clear e0
    go_enter Try.func70, Try.ntmps70
    go_wp2_with (go_at_call 79; refine (isSwitch_any _ _ _ _ _ _).mono ?_; rintro e w1 ⟨rfl, hb⟩; obtain ⟨hc, hf⟩ := hb.cells)
    go_ret
    exact ⟨rfl, (((Ext.refl w).alloc _).alloc _).trans hb⟩
  · cases hb0 : swB n b
    · have e0 : wlink n a b c = 6 := by simp [wlink, hb0]
      rw [e0]; clear e0
      go_enter Try.func70, Try.ntmps70
      go_wp2_with fail
      refine (isSwitch_any _ _ _ _ _ _).mono ?_; rintro e w1 ⟨rfl, hb1⟩; obtain ⟨hc, hf⟩ := hb1.cells
      go_wp2_with fail
      refine (isSwitch_any _ _ _ _ _ _).mono ?_; rintro e w2 ⟨rfl, hb2⟩; obtain ⟨hc2, hf2⟩ := hb2.cells
      go_wp2
      go_ret
      exact ⟨rfl, ((((Ext.refl w).alloc _).alloc _).trans hb1).trans hb2⟩
    · go_enter Try.func70, Try.ntmps70
      go_wp2_with fail
      refine (isSwitch_any _ _ _ _ _ _).mono ?_; rintro e w1 ⟨rfl, hb1⟩; obtain ⟨hc, hf⟩ := hb1.cells
      go_wp2_with fail
      refine (isSwitch_any _ _ _ _ _ _).mono ?_; rintro e w2 ⟨rfl, hb2⟩; obtain ⟨hc2, hf2⟩ := hb2.cells
      have hz : w.heap.size + 1 < w1.heap.size := by have := hb1.size; simp at this; omega
      go_wp2
      all_goals
        go_ret
        exact ⟨by first | exact wl8 hb0 ‹_› | exact wl3 ha hb0 ‹_› (Or.inl ‹_›) | exact wl3 ha hb0 ‹_› ‹_› | exact wl0 ha hb0 ‹_› ‹_› | exact wl3 ha hb0 ‹_› (Or.inr ‹_›) | exact wl0 ha hb0 ‹_› ⟨‹_›, ‹_›⟩, ((((Ext.refl w).alloc _).alloc _).trans hb1).trans hb2⟩

end Go.Proofs.Ytgffkjjddhlbpaa
