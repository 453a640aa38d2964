/- What Grow and Concat of rules answer. -/
import Derived.Test.YtmjddnnjjmnddadV14
import Derived.Lib.AppendZerosOnto
import Derived.Lib.Walk
import Derived.Lib.SliceRun
namespace Go.Proofs.Ytmjddnnjjmnddad.Tb
open Go.RowKit Go.Deep Rul Go.Sort

set_option maxRecDepth 100000 in
set_option maxHeartbeats 800000 in
theorem Grow_any (n : Nat) (w : World) (hn : n * 24 ≤ 140737488355328) :
    Calls Try.prog 64 #[.slice none 0 0, .int .i64 n] w fun e w' => ∃ v', e = .returned v' ∧ RO w' w.heap.size v' [] ∧ Ext w w' := by
  by_cases h0 : n = 0
  · subst h0
    go_enter Try.func64, Try.ntmps64
    go_wp2
    go_ret
    exact ⟨_, rfl, RO.nil _ _, Ext.refl w⟩
  · obtain ⟨i3, hi3, hz0, hz1, hz2⟩ := infoR'
    have h := Lib.run_append_grow_zeros (P := Try.prog) w 22 3 22 59 i3 (.agg #[.int .i64 0, .int .i64 0, .int .i64 0]) .i64 .i64 Try.underlying22 Try.underlying3 hi3 hz0 none 0 0 [] (run_firstCells_none w.drew i3.size 0 0 0) n (by omega) (by omega) (by omega) (by omega)
      (by rw [hz2]; omega) (by rw [hz2]; exact growslice_fits (by omega) (by omega))
    have hG : n ≤ grownCap w (0 + n) 0 59 := by have := grownCap_ge w (0 + n) 0 59; omega
    have hM := grownCap_le_maxLen w (0 + n) 0 59 (by unfold maxLen; omega)
    obtain ⟨G, hGe⟩ : ∃ G, G = grownCap w (0 + n) 0 59 := ⟨_, rfl⟩
    rw [← hGe] at h hG hM
    clear hGe
    have hown : RO (w.alloc (.cells (Builtin.zeroCells #[.int .i64 0, .int .i64 0, .int .i64 0] n ++ Builtin.zeroCells #[.int .i64 0, .int .i64 0, .int .i64 0] (G - n)) 59)).drew w.heap.size (.slice (some ⟨w.heap.size, 0, none⟩) 0 G) [] :=
      World.ownsRow_made w _ G (Nat.le_refl _) hM (by simp [Builtin.zeroCells]; omega)
    have HO : Hid _ := hown
    clear hown
    go_enter Try.func64, Try.ntmps64
    go_wp2_with (at_builtin; refine Lib.wpList_append_run _ rfl _ _ _ _ rfl _ _ rfl rfl _ _ h ?_)
    go_ret
    exact ⟨_, rfl, HO.out, ((Ext.refl w).alloc _).drew⟩

theorem ne_cases {x y : Ru} (h : ¬ x = y) : (x.1 == y.1) = false ∨ ((x.1 == y.1) = true ∧ (x.2.1 == y.2.1) = false) ∨ ((x.1 == y.1) = true ∧ (x.2.1 == y.2.1) = true ∧ (x.2.2 == y.2.2) = false) := by
  by_cases h1 : x.1 = y.1
  · by_cases h2 : x.2.1 = y.2.1
    · by_cases h3 : x.2.2 = y.2.2
      · exact absurd (Prod.ext h1 (Prod.ext h2 h3)) h
      · exact Or.inr (Or.inr ⟨by simpa using h1, by simpa using h2, by simpa using h3⟩)
    · exact Or.inr (Or.inl ⟨by simpa using h1, by simpa using h2⟩)
  · exact Or.inl (by simpa using h1)

end Go.Proofs.Ytmjddnnjjmnddad.Tb
