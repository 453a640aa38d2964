/- FlowJoined answers true, for all texts; nothing that was there is changed. -/
import Derived.Test.YtbfgioinjggkkabDoorJn
namespace Go.Proofs.YtbfgioinjggkkabDoor
open Go.RowKit Go.Maps Stf Go.Sort

theorem box2 {w w1 : World} {x y : Value} {T : TypeId} (E : Ext (w.alloc (.cells #[x, y] T)) w1) : w1.cell? ⟨w.heap.size, 0, none⟩ = some x ∧ w1.cell? ⟨w.heap.size, 1, none⟩ = some y ∧ w.heap.size < w1.heap.size := by
  refine ⟨(E.cells.1 _ _ (by simp)).trans (by simp), (E.cells.1 _ _ (by simp)).trans (by simp), ?_⟩
  have := E.size
  simp at this
  omega

set_option maxRecDepth 100000 in
set_option maxHeartbeats 2000000 in
theorem joined_any (s t : ByteArray) (w : World) (hs : s.size ≤ 9223372036854775807) (ht : t.size ≤ 9223372036854775807) (hm : MaxAt w) (hT : Tab w) :
    Calls Tryd.prog 3 #[.string s, .string t] w fun e w' => e = .returned (.bool true) ∧ Ext w w' := by
  go_enter Tryd.func3, Tryd.ntmps3
  go_wp2_with fail
  refine (alive_any w hm hT).mono ?_
  rintro e w1 ⟨rfl, E1⟩
  go_wp2_with fail
  refine (Parse_any s _ hs (hm.ext E1)).mono ?_
  rintro e w2 ⟨E2, ho⟩
  have hE2 := E1.trans E2
  rcases ho with ⟨c, p, hq, hc, rfl⟩ | ⟨fs, ao, cap, hq, rfl, hf, hcap, hn, hsm⟩
  · have hc' : (c != 0) = true := by simpa using hc
    clear hq
    go_wp2_with fail
    refine (Parse_any t _ ht (hm.ext (hE2.alloc _))).mono ?_
    rintro e w3 ⟨E3, ho⟩
    obtain ⟨c0, c1, hs3⟩ := box2 E3
    obtain ⟨v, c2, p2, rfl⟩ : ∃ v c2 p2, e = .returned (.tuple #[v, .agg #[.int .i64 c2, .int .i64 p2]]) := by
      rcases ho with ⟨c, p, _, _, rfl⟩ | ⟨fs, ao, cap, _, rfl, _⟩
      · exact ⟨_, _, _, rfl⟩
      · exact ⟨_, _, _, rfl⟩
    clear ho
    go_wp2
    go_ret
    exact ⟨rfl, ((hE2.alloc _).trans E3).alloc _⟩
  · go_wp2_with fail
    refine (Parse_any t _ ht (hm.ext (hE2.alloc _))).mono ?_
    rintro e w3 ⟨E3, ho⟩
    obtain ⟨c0, c1, hs3⟩ := box2 E3
    have hE3 := (hE2.alloc _).trans E3
    rcases ho with ⟨c, p, hq2, hc, rfl⟩ | ⟨gs, bo, cap2, hq2, rfl, hf2, hcap2, hn2, hsm2⟩
    · have hc' : (c != 0) = true := by simpa using hc
      clear hq hq2
      go_wp2
      go_ret
      exact ⟨rfl, hE3.alloc _⟩
    · have l1 := (pres_ok hq).1
      have l2 := (pres_ok hq2).1
      rw [← Lib.size_eq] at l1 l2
      by_cases hsum : s.size + t.size ≤ 2000
      · have hj := pres_append hq hq2 (by rw [← Lib.size_eq, ← Lib.size_eq]; exact hsum)
        have HJ := hid hj
        clear hj hq hq2
        have i1 : (s.size : Int) + (t.size : Int) ≤ 2000 := by omega
        have hcat : (s ++ t).data.toList = s.data.toList ++ t.data.toList := by rw [ByteArray.data_append, Array.toList_append]
        have hcs : (s ++ t).size = s.size + t.size := by rw [Lib.size_eq, hcat, List.length_append, ← Lib.size_eq, ← Lib.size_eq]
        go_wp2_with fail
        refine (Parse_any (s ++ t) _ (by omega) (hm.ext (hE3.alloc _))).mono ?_
        rintro e w4 ⟨E4, ho⟩
        rw [hcat] at ho
        clear hcat hcs
        rcases ho with ⟨c, p, hq3, _, _⟩ | ⟨ks, co, cap3, hq3, rfl, hf3, hcap3, hn3, hsm3⟩
        · rw [HJ.out] at hq3; cases hq3
        · obtain rfl : fs ++ gs = ks := by rw [HJ.out] at hq3; cases hq3; rfl
          have hE4 := (hE3.alloc _).trans E4
          -- the world ahead of the two appends, and behind them
          have hW : Ext w4 (w4.alloc (.cells #[.int .i64 0, .int .i64 0] 26)) := (Ext.refl _).alloc _
          have hlenk : (fs ++ gs).length = fs.length + gs.length := List.length_append
          have fa : FlowsAt (w4.alloc (.cells #[.int .i64 0, .int .i64 0] 26)) ao fs := (hf.ext (((((Ext.refl _).alloc _).trans E3).alloc _).trans E4)).ext hW
          have fb : FlowsAt (w4.alloc (.cells #[.int .i64 0, .int .i64 0] 26)) bo gs := (hf2.ext (((Ext.refl _).alloc _).trans E4)).ext hW
          have fc := hf3.ext hW
          have hEW := hE4.trans hW
          generalize hWW : w4.alloc (.cells #[.int .i64 0, .int .i64 0] 26) = W at fa fb fc hEW
          have hown0 : (W.alloc (.cells #[] 37)).ownsRow W.heap.size 37 4 (.slice (some ⟨W.heap.size, 0, none⟩) 0 0) 0 [] := ⟨rfl, Or.inr ⟨W.heap.size, 0, #[], rfl, Nat.le_refl _, heap_new W _, Nat.le_refl _, by decide, rfl, rfl⟩⟩
          obtain ⟨g1, cp1, wA, D1, hrun1, hown1, hD1, hg1⟩ := append_run hown0 ao fs.length cap fs rfl fa ((Ext.refl _).alloc _) (by omega)
          have EA : Ext W wA := Below.grown ((Ext.refl W).alloc _) hg1 (by simp) (fun j hj => by cases hj; exact Nat.le_refl _)
          obtain ⟨g2, cp2, wB, D2, hrun2, hown2, hD2, hg2⟩ := append_run hown1 bo gs.length cap2 gs rfl fb EA (by omega)
          have EB : Ext W wB := Below.grown EA hg2 EA.size (fun j hj => by cases hj; exact (hown1.lt g1 rfl).1)
          have hflow : FlowsAt wB (some ⟨g2, 0, none⟩) (fs ++ gs) := flows_ownD hown2 (by rw [List.nil_append]; exact (hD2.append hD1).ext EB)
          rw [Nat.zero_add] at hrun1 hrun2 hown2
          rw [Nat.zero_add] at hown1
          have hsz4 : W.heap.size = w4.heap.size + 1 := by rw [← hWW]; simp
          clear hown0 hown1 hown2 hD1 hD2 hg1 hg2
          rw [hsz4] at hrun1
          subst hWW
          go_wp2_with (first | (at_builtin; have _t := mk1; refine wpList_append_by (.tmp 53) (.tmp 54) 23 23 (.slice (some ⟨g1, 0, none⟩) fs.length cp1) (.slice bo gs.length cap2) rfl rfl rfl rfl (by simp [Region.wanted, yielded]) hrun2 ?_) | (at_builtin; refine wpList_append_by (.tmp 51) (.tmp 52) 23 23 (.slice (some ⟨w4.heap.size + 1, 0, none⟩) 0 0) (.slice ao fs.length cap) rfl rfl rfl rfl (by simp [Region.wanted, yielded]) hrun1 ?_; have mk1 : True := True.intro) | (go_at_call 6; refine (SameFlows_any co (some ⟨g2, 0, none⟩) (fs.length + gs.length) (fs.length + gs.length) cap3 cp2 (fs ++ gs) (fs ++ gs) _ hlenk hlenk (by omega) (fc.ext EB) hflow hsm3.sm).mono ?_; rintro e w5 ⟨he, E5⟩; rw [sameF_true rfl] at he; subst he))
          go_ret
          exact ⟨rfl, (hEW.trans EB).trans E5⟩
      · have i1 : ¬ ((s.size : Int) + (t.size : Int) ≤ 2000) := by omega
        clear hq hq2
        go_wp2
        go_ret
        exact ⟨rfl, hE3.alloc _⟩

end Go.Proofs.YtbfgioinjggkkabDoor
