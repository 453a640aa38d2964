/- What Grow and Concat of rules answer. -/
import Derived.Test.YtdiknngmepjncacV14
import Derived.Lib.AppendZerosOnto
import Derived.Lib.Walk
import Derived.Lib.SliceRun
namespace Go.Proofs.Ytdiknngmepjncac.Tb
open Go.RowKit Go.Maps Stw Go.Deep Rul Go.Sort

set_option maxRecDepth 100000 in
set_option maxHeartbeats 800000 in
theorem Grow_any (n : Nat) (w : World) (hn : n * 24 ≤ 140737488355328) :
    Calls Try.prog 47 #[.slice none 0 0, .int .i64 n] w fun e w' => ∃ v', e = .returned v' ∧ RO w' w.heap.size v' [] ∧ Ext w w' := by
  by_cases h0 : n = 0
  · subst h0
    go_enter Try.func47, Try.ntmps47
    go_wp2
    go_ret
    exact ⟨_, rfl, RO.nil _ _, Ext.refl w⟩
  · obtain ⟨i3, hi3, hz0, hz1, hz2⟩ := infoR'
    have h := Lib.run_append_grow_zeros (P := Try.prog) w 40 3 40 54 i3 (.agg #[.int .i64 0, .int .i64 0, .int .i64 0]) .i64 .i64 Try.underlying40 Try.underlying3 hi3 hz0 none 0 0 [] (run_firstCells_none w.drew i3.size 0 0 0) n (by omega) (by omega) (by omega) (by omega)
      (by rw [hz2]; omega) (by rw [hz2]; exact growslice_fits (by omega) (by omega))
    have hG : n ≤ grownCap w (0 + n) 0 54 := by have := grownCap_ge w (0 + n) 0 54; omega
    have hM := grownCap_le_maxLen w (0 + n) 0 54 (by unfold maxLen; omega)
    obtain ⟨G, hGe⟩ : ∃ G, G = grownCap w (0 + n) 0 54 := ⟨_, rfl⟩
    rw [← hGe] at h hG hM
    clear hGe
    have hown : RO (w.alloc (.cells (Builtin.zeroCells #[.int .i64 0, .int .i64 0, .int .i64 0] n ++ Builtin.zeroCells #[.int .i64 0, .int .i64 0, .int .i64 0] (G - n)) 54)).drew w.heap.size (.slice (some ⟨w.heap.size, 0, none⟩) 0 G) [] :=
      World.ownsRow_made w _ G (Nat.le_refl _) hM (by simp [Builtin.zeroCells]; omega)
    have HO : Hid _ := hown
    clear hown
    go_enter Try.func47, Try.ntmps47
    go_wp2_with (at_builtin; refine Lib.wpList_append_run _ rfl _ _ _ _ rfl _ _ rfl rfl _ _ h ?_)
    go_ret
    exact ⟨_, rfl, HO.out, ((Ext.refl w).alloc _).drew⟩

/-- What a slice that came in is like. -/
structure SlOk (w : World) (ao : Option Addr) (len cap : Nat) (rs : List Ru) : Prop where
  hlen : rs.length = len
  hat : RsAt w ao rs
  hnil : ao = none → len = 0 ∧ cap = 0
theorem SlOk.ext {w w' : World} {ao : Option Addr} {len cap : Nat} {rs : List Ru} (h : SlOk w ao len cap rs) (E : Ext w w') : SlOk w' ao len cap rs := ⟨h.hlen, h.hat.ext E, h.hnil⟩
/-- Its cells, to be appended. -/
theorem SlOk.news {w : World} {a : Addr} {len cap : Nat} {rs : List Ru} (h : SlOk w (some a) len cap rs) : ∀ j u, (rcs rs)[j]? = some u → w.cell? (a.add j) = some u := by
  rcases h.hat with h0 | ⟨g, off, h1, h2, h3⟩
  · intro j u hu; rw [h0] at hu; simp [rcs] at hu
  · cases h1
    exact rcs_cells h3

/-- One more slice behind the row of one's own. -/
theorem RO.more {w w5 : World} {base : Nat} {v v' : Value} {rs ls : List Ru} (_ : RO w base v rs) (h : w5.ownsRow base 54 3 v' (rs.length + ls.length) (rcs rs ++ rcs ls)) : RO w5 base v' (rs ++ ls) := by
  unfold RO; rw [rcs_append, List.length_append]; exact h

end Go.Proofs.Ytdiknngmepjncac.Tb
