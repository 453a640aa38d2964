/- What read answers, for every net: the costs of all links in a new map, or the first fault; nothing that was there is changed. -/
import Derived.Test.YtgffkjjddhlbpaaW2
namespace Go.Proofs.Ytgffkjjddhlbpaa
open Go.RowKit Go.Maps Stw

set_option maxHeartbeats 1000000 in
theorem read_many (n : Int) (ao : Option Addr) (len cap : Nat) (w : World) (hm : many n len = true) (hl : len ≤ 9223372036854775807) :
    Calls Try.prog 57 #[.agg #[.int .i64 n, .slice ao len cap]] w fun e w' => e = .returned (.tuple #[.map none, .agg #[.int .i64 5, .int .i64 0]]) ∧ Ext w w' := by
  simp only [many, decide_eq_true_eq] at hm
  by_cases h1 : n < 1
  · clear hm
    go_enter Try.func57, Try.ntmps57
    go_wp2
    exact bodyPost_ret (v := .tuple #[.map none, .agg #[.int .i64 5, .int .i64 0]]) (by simp [results, Try.results57, go_sem]) rfl ⟨rfl, ((Ext.refl w).alloc _).alloc _⟩
  · by_cases h2 : 8 < n
    · clear hm
      go_enter Try.func57, Try.ntmps57
      go_wp2
      exact bodyPost_ret (v := .tuple #[.map none, .agg #[.int .i64 5, .int .i64 0]]) (by simp [results, Try.results57, go_sem]) rfl ⟨rfl, ((Ext.refl w).alloc _).alloc _⟩
    · have h3 : (28 : Int) < (len : Int) := by omega
      clear hm
      go_enter Try.func57, Try.ntmps57
      go_wp2
      exact bodyPost_ret (v := .tuple #[.map none, .agg #[.int .i64 5, .int .i64 0]]) (by simp [results, Try.results57, go_sem]) rfl ⟨rfl, ((Ext.refl w).alloc _).alloc _⟩

set_option maxHeartbeats 1000000 in
theorem read_some (n : Int) (b off len cap : Nat) (ls : List Lk) (w : World) (hm : many n len = false) (hlen : ls.length = len) (hl : LinksAt w b off ls) (hbl : b < w.heap.size) :
    Calls Try.prog 57 #[.agg #[.int .i64 n, .slice (some ⟨b, off, none⟩) len cap]] w fun e w' => Ext w w' ∧ ((wrong n ls = (0, 0) ∧ ∃ m, e = .returned (.tuple #[.map (some m), .agg #[.int .i64 0, .int .i64 0]]) ∧ w.heap.size ≤ m ∧ CostMap w' m ls) ∨
      ((wrong n ls).1 ≠ 0 ∧ e = .returned (.tuple #[.map none, .agg #[.int .i64 (wrong n ls).1, .int .i64 (wrong n ls).2]]))) := by
  have hm' := hm
  simp only [many, decide_eq_false_iff_not] at hm'
  have h1 : ¬ n < 1 := by omega
  have h2 : ¬ 8 < n := by omega
  have h3 : ¬ (28 : Int) < (len : Int) := by omega
  clear hm'
  have hmm := @run_makeMap Try.prog
  go_enter Try.func57, Try.ntmps57
  go_wp2
  go_loopw [27] (fun i wr => ∃ k : Nat, k ≤ len ∧ i = .int .i64 k ∧ (∀ j, j < k → ewl n ls j = 0) ∧ CostMap wr (w.heap.size + 1 + 1) (ls.take k) ∧
      Below (w.heap.size + 1 + 1) ((w.alloc (.cells #[.int .i64 n, .slice (some ⟨b, off, none⟩) len cap] 31)).alloc (.cells #[.int .i64 0, .int .i64 0] 64)) wr ∧ w.heap.size + 1 + 1 < wr.heap.size)
    (fun i _ => len - (intOf i).toNat)
  case atStart =>
    refine ⟨0, Nat.zero_le _, rfl, fun j hj => by omega, ⟨0, by simp, .map [], ?_, fun _ _ _ _ => rfl⟩, ?_, by simp⟩
    · have := World.ownsMap_made (H := Unit) ((w.alloc (.cells #[.int .i64 n, .slice (some ⟨b, off, none⟩) len cap] 31)).alloc (.cells #[.int .i64 0, .int .i64 0] 64)) Try.prog 141 (plainElem Try.prog 3)
      simpa using this
    · exact (Below.refl _ _).alloc (by simp) _
  case round =>
    obtain ⟨k, hk, rfl, hpre, hmap, hnx, hs2⟩ := hrel
    have hs0 : w.heap.size < wr.heap.size := by omega
    have hs1 : w.heap.size + 1 < wr.heap.size := by omega
    obtain ⟨c0, c1, c2, c3, f2, f3, hold⟩ := two_boxes hnx
    by_cases hlt : k < len
    · obtain ⟨l0, l1, l2⟩ := hl k (by omega)
      rw [← hold _ _ hbl] at l0 l1 l2
      obtain ⟨x, hx⟩ : ∃ x, x = ls.getD k lk0 := ⟨_, rfl⟩
      rw [← hx] at l0 l1 l2
      have HX : Hid (x = ls.getD k lk0) := hx
      have hbr : b < wr.heap.size := by omega
      clear hold hx
      by_cases he : wlink n x.a x.b x.c = 0
      · have hw := wlink_zero he
        have HE : Hid (wlink n x.a x.b x.c = 0) := he
        have ia : I64 x.a := i64_small (by omega) (by omega)
        have ib : I64 x.b := i64_small (by omega) (by omega)
        have ic : I64 x.c := i64_small (by omega) (by omega)
        cases hj : anyJ (ls.take k) x.a x.b
        · have hc0 := cost_none hj
          go_wp2_with fail
          refine (wrongLink_any _ _ _ _ _ _ _ _).mono ?_; rintro e w1 ⟨rfl, hb1⟩; obtain ⟨q1, g1⟩ := hb1.cells
          have hz : wr.heap.size < w1.heap.size := by have := hb1.size; simp at this; omega
          go_wp2_with fail
          refine (joining_any _ _ _).mono ?_; rintro e w2 ⟨rfl, hb2⟩; obtain ⟨q2, g2⟩ := hb2.cells
          have hz2 : wr.heap.size < w2.heap.size := by have := hb2.size; omega
          have hm2 : CostMap w2 (w.heap.size + 1 + 1) (ls.take k) := (hmap.ext (((Ext.refl wr).alloc _).trans hb1)).ext hb2
          have hrun := hm2.look ia ib
          rw [hc0] at hrun
          go_wp2_with fail
          have d2 : w2.cell? ⟨wr.heap.size, 2, none⟩ = some (.int .i64 x.c) := by simp [q2, q1, hz, go_sem]
          go_region_with (go_at_call 71; refine (joining_any _ _ _).mono ?_; rintro e w3 ⟨rfl, hb3⟩; have d3 := (hb3.cells.1 wr.heap.size 2 hz2).trans d2; obtain ⟨w4, hrun4, hm4, hg4⟩ := (hm2.ext ((Ext.refl w2).drew.trans hb3)).put x ia ib ic (by unfold maxLen; simp; omega) hj)
          all_goals
            go_wp2
            go_roundw
            case rel =>
              have he3 := ((((Ext.refl wr).alloc _).trans hb1).trans hb2).drew.trans hb3
              have hz3 := he3.size
              have hz4 := hg4.size
              refine ⟨k + 1, by omega, by go_num, fun j hj' => ?_, by rw [take_snoc HX.out (by omega)]; exact hm4, below_grown (below_ext hnx he3 (by omega)) hg4 (by omega) (by omega), by omega⟩
              by_cases e : j = k
              · subst e; exact ewl_ok HX.out HE.out hj
              · exact hpre j (by omega)
            case measure => simp [intOf]; omega
        · have hc1 : 0 < cost (ls.take k) x.a x.b := by have := cost_some (pre_pos (by omega) hpre) hj; omega
          go_wp2_with fail
          refine (wrongLink_any _ _ _ _ _ _ _ _).mono ?_; rintro e w1 ⟨rfl, hb1⟩; obtain ⟨q1, g1⟩ := hb1.cells
          have hz : wr.heap.size < w1.heap.size := by have := hb1.size; simp at this; omega
          go_wp2_with fail
          refine (joining_any _ _ _).mono ?_; rintro e w2 ⟨rfl, hb2⟩; obtain ⟨q2, g2⟩ := hb2.cells
          have hz2 : wr.heap.size < w2.heap.size := by have := hb2.size; omega
          have hm2 : CostMap w2 (w.heap.size + 1 + 1) (ls.take k) := (hmap.ext (((Ext.refl wr).alloc _).trans hb1)).ext hb2
          have hrun := hm2.look ia ib
          have hzz : w.heap.size + 1 < w1.heap.size := by omega
          have hzz2 : w.heap.size + 1 < w2.heap.size := by omega
          go_wp2
          have hfin : wrong n ls = (7, (k : Int)) := by
            have e1 := ewl_dup HX.out HE.out hj
            rw [wrong_bad (by rw [hlen]; exact hm) (by omega) hpre (by rw [e1]; decide), e1]
          have d0 := (q2 _ 0 hzz).trans ((q1 _ 0 (by simp; omega)).trans ((World.cell?_alloc_past _ _ _ hs1).trans c2))
          have d1 := (q2 _ 1 hzz).trans ((q1 _ 1 (by simp; omega)).trans ((World.cell?_alloc_past _ _ _ hs1).trans c3))
          refine bodyPost_ret (v := .tuple #[.map none, .agg #[.int .i64 7, .int .i64 k]]) (by simp [results, Try.results57, go_sem, d0, d1]) rfl ⟨?_, Or.inr ⟨by rw [hfin]; simp, by rw [hfin]⟩⟩
          exact ((((((ext_boxes hnx).alloc _).trans hb1).trans hb2).setCell (by simp) _).setCell (by simp) _)
      · go_wp2_with fail
        refine (wrongLink_any _ _ _ _ _ _ _ _).mono ?_; rintro e w1 ⟨rfl, hb1⟩; obtain ⟨q1, g1⟩ := hb1.cells
        have he' : (wlink n x.a x.b x.c == 0) = false := by simpa using he
        have hz : w.heap.size + 1 < w1.heap.size := by have := hb1.size; simp at this; omega
        go_wp2
        have hfin : wrong n ls = (wlink n x.a x.b x.c, (k : Int)) := by
          have e1 := ewl_link HX.out he
          rw [wrong_bad (by rw [hlen]; exact hm) (by omega) hpre (by rw [e1]; exact he), e1]
        have d0 := (q1 _ 0 (by simp; omega)).trans ((World.cell?_alloc_past _ _ _ hs1).trans c2)
        have d1 := (q1 _ 1 (by simp; omega)).trans ((World.cell?_alloc_past _ _ _ hs1).trans c3)
        refine bodyPost_ret (v := .tuple #[.map none, .agg #[.int .i64 (wlink n x.a x.b x.c), .int .i64 k]]) (by simp [results, Try.results57, go_sem, d0, d1]) rfl ⟨?_, Or.inr ⟨by rw [hfin]; exact he, by rw [hfin]⟩⟩
        exact (((((ext_boxes hnx).alloc _).trans hb1).setCell (by simp) _).setCell (by simp) _)
    · go_wp2
      have hkl : k = ls.length := by omega
      have hfin : wrong n ls = (0, 0) := wrong_good (by rw [hlen]; exact hm) (fun j hj => hpre j (by omega))
      rw [hkl, List.take_length] at hmap
      refine bodyPost_ret (v := .tuple #[.map (some (w.heap.size + 1 + 1)), .agg #[.int .i64 0, .int .i64 0]]) (by simp [results, Try.results57, go_sem, c2, c3]) rfl ⟨?_, Or.inl ⟨hfin, _, rfl, by omega, ?_⟩⟩
      · exact (((ext_boxes hnx).setCell (by simp) _).setCell (by simp) _)
      · exact (hmap.setCell (by simp) _).setCell (by simp) _

end Go.Proofs.Ytgffkjjddhlbpaa
