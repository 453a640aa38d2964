/- What Wrong and Cost answer, for every net; nothing that was there is changed. -/
import Derived.Test.YtgffkjjddhlbpaaW3
namespace Go.Proofs.Ytgffkjjddhlbpaa
open Go.RowKit Go.Maps Stw

set_option maxHeartbeats 1000000 in
theorem read_none (n : Int) (ao : Option Addr) (cap : Nat) (w : World) (hm : many n 0 = false) :
    Calls Try.prog 57 #[.agg #[.int .i64 n, .slice ao 0 cap]] w fun e w' => Ext w w' ∧ ∃ m, e = .returned (.tuple #[.map (some m), .agg #[.int .i64 0, .int .i64 0]]) ∧ w.heap.size ≤ m ∧ CostMap w' m [] := by
  simp only [many, decide_eq_false_iff_not] at hm
  have h1 : ¬ n < 1 := by omega
  have h2 : ¬ 8 < n := by omega
  clear hm
  have hmm := @run_makeMap Try.prog
  go_enter Try.func57, Try.ntmps57
  go_wp2
  refine wp_loop_rounds 1 ?_
  rw [rounds_succ]
  go_wp2
  have hown := World.ownsMap_made (H := Unit) ((w.alloc (.cells #[.int .i64 n, .slice ao 0 cap] 31)).alloc (.cells #[.int .i64 0, .int .i64 0] 64)) Try.prog 141 (plainElem Try.prog 3)
  have hmap : CostMap (((w.alloc (.cells #[.int .i64 n, .slice ao 0 cap] 31)).alloc (.cells #[.int .i64 0, .int .i64 0] 64)).alloc (.map #[] 0)) (w.heap.size + 1 + 1) [] := ⟨0, by simp, .map [], by simpa using hown, fun _ _ _ _ => rfl⟩
  refine bodyPost_ret (v := .tuple #[.map (some (w.heap.size + 1 + 1)), .agg #[.int .i64 0, .int .i64 0]]) (by simp [results, Try.results57, go_sem]) rfl ⟨?_, _, rfl, by omega, ?_⟩
  · exact ((((Ext.refl w).alloc _).alloc _).alloc _)
  · exact hmap

theorem read_any (n : Int) (ao : Option Addr) (len cap : Nat) (ls : List Lk) (w : World) (hlen : ls.length = len) (hl : NetAt w ao ls) (hx : len ≤ 9223372036854775807) :
    Calls Try.prog 57 #[.agg #[.int .i64 n, .slice ao len cap]] w fun e w' => Ext w w' ∧ ((wrong n ls = (0, 0) ∧ ∃ m, e = .returned (.tuple #[.map (some m), .agg #[.int .i64 0, .int .i64 0]]) ∧ w.heap.size ≤ m ∧ CostMap w' m ls) ∨
      ((wrong n ls).1 ≠ 0 ∧ e = .returned (.tuple #[.map none, .agg #[.int .i64 (wrong n ls).1, .int .i64 (wrong n ls).2]]))) := by
  cases hm : many n len
  · rcases hl with rfl | ⟨b, off, rfl, hb, hl⟩
    · subst hlen
      refine (read_none n ao cap w hm).mono ?_
      rintro e w' ⟨h1, m, h2, h3, h4⟩
      exact ⟨h1, Or.inl ⟨wrong_good hm (fun j hj => by simp at hj), m, h2, h3, h4⟩⟩
    · exact read_some n b off len cap ls w hm hlen hl hb
  · refine (read_many n ao len cap w hm hx).mono ?_
    rintro e w' ⟨rfl, h1⟩
    have := wrong_many (n := n) (ls := ls) (by rw [hlen]; exact hm)
    exact ⟨h1, Or.inr ⟨by rw [this]; simp, by rw [this]⟩⟩

theorem read_fault (n : Int) (ao : Option Addr) (len cap : Nat) (ls : List Lk) (w : World) (hlen : ls.length = len) (hl : NetAt w ao ls) (hx : len ≤ 9223372036854775807) :
    Calls Try.prog 57 #[.agg #[.int .i64 n, .slice ao len cap]] w fun e w' => Ext w w' ∧ ∃ mo, e = .returned (.tuple #[.map mo, .agg #[.int .i64 (wrong n ls).1, .int .i64 (wrong n ls).2]]) := by
  refine (read_any n ao len cap ls w hlen hl hx).mono ?_
  rintro e w' ⟨h0, ⟨h1, m, h2, _⟩ | ⟨_, h2⟩⟩
  · exact ⟨h0, _, by rw [h1]; exact h2⟩
  · exact ⟨h0, _, h2⟩

set_option maxHeartbeats 1000000 in
theorem Wrong_any (n : Int) (ao : Option Addr) (len cap : Nat) (ls : List Lk) (w : World) (hlen : ls.length = len) (hl : NetAt w ao ls) (hx : len ≤ 9223372036854775807) :
    Calls Try.prog 34 #[.agg #[.int .i64 n, .slice ao len cap]] w fun e w' => e = .returned (.agg #[.int .i64 (wrong n ls).1, .int .i64 (wrong n ls).2]) ∧ Ext w w' := by
  go_enter Try.func34, Try.ntmps34
  go_wp2_with fail
  refine (read_fault n ao len cap ls _ hlen (hl.ext (((Ext.refl w).alloc _).alloc _)) hx).mono ?_
  rintro e w1 ⟨hb1, mo, rfl⟩
  obtain ⟨q1, g1⟩ := hb1.cells
  have hz : w.heap.size + 1 < w1.heap.size := by have := hb1.size; simp at this; omega
  have d0 := q1 (w.heap.size + 1) 0 (by simp)
  have d1 := q1 (w.heap.size + 1) 1 (by simp)
  have e1 : (w1.frozen? ⟨w.heap.size + 1, 0, none⟩) = false := (g1 (w.heap.size + 1) 0 (by simp)).trans (by simp)
  have e2 : (w1.frozen? ⟨w.heap.size + 1, 1, none⟩) = false := (g1 (w.heap.size + 1) 1 (by simp)).trans (by simp)
  simp [go_sem] at d0 d1
  clear q1 g1
  go_wp2
  exact bodyPost_ret (v := .agg #[.int .i64 (wrong n ls).1, .int .i64 (wrong n ls).2]) (by simp [results, Try.results34, go_sem, d0, d1, hz]) rfl ⟨rfl, ((((((Ext.refl w).alloc _).alloc _).trans hb1).setCell (by simp) _).setCell (by simp) _).alloc _⟩

set_option maxHeartbeats 1000000 in
theorem Cost_any (n a b : Int) (ao : Option Addr) (len cap : Nat) (ls : List Lk) (w : World) (hlen : ls.length = len) (hl : NetAt w ao ls) (hx : len ≤ 9223372036854775807) (ia : I64 a) (ib : I64 b) (hr : wrong n ls = (0, 0)) :
    Calls Try.prog 61 #[.agg #[.int .i64 n, .slice ao len cap], .int .i64 a, .int .i64 b] w fun e w' => e = .returned (.int .i64 (cost ls a b)) ∧ Ext w w' := by
  have HR : Hid (wrong n ls = (0, 0)) := hr
  clear hr
  go_enter Try.func61, Try.ntmps61
  go_wp2_with fail
  refine (read_any n ao len cap ls _ hlen (hl.ext ((Ext.refl w).alloc _)) hx).mono ?_
  rintro e w1 ⟨hb1, h⟩
  rcases h with ⟨hw, m, rfl, hm, hmap⟩ | ⟨hw, rfl⟩
  · clear hw
    go_wp2_with fail
    refine (joining_any _ _ _).mono ?_; rintro e w2 ⟨rfl, hb2⟩
    have hm2 := (hmap.ext ((Ext.refl w1).alloc _)).ext hb2
    have hrun := hm2.look ia ib
    go_wp2
    go_ret
    exact ⟨rfl, (((((Ext.refl w).alloc _).trans hb1).alloc _).trans hb2)⟩
  · exact absurd (by rw [HR.out]) hw

end Go.Proofs.Ytgffkjjddhlbpaa
