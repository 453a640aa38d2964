/- What an insertion sort does with a part of a row of rules. -/
import Derived.Test.YtmjddnnjjmnddadV7
import Derived.Sort.WalkA
namespace Go.Proofs.Ytmjddnnjjmnddad.Tb
open Go.RowKit Go.Deep Rul Go.Sort

set_option maxRecDepth 100000 in
set_option maxHeartbeats 1600000 in
theorem ins_any (b N cap a c : Nat) (d : Array Ru) (w : World) (h : RW w b N d) (hac : a ≤ c) (hcn : c ≤ d.size) (hsz : d.size ≤ 1152921504606846976) :
    Calls Try.prog 66 #[.slice (some ⟨b, 0, none⟩) d.size cap, .int .i64 a, .int .i64 c, CB] w fun e w' => e = .returned (.tuple #[]) ∧ ∃ d', Mrg a c d d' ∧ RW w' b N d' ∧ w.grownBy w' (some b) := by
  go_enter Try.func66, Try.ntmps66
  go_wp2
  go_loopw [8] (fun iv wr => ∃ (i : Nat) (dk : Array Ru), a < i ∧ i ≤ c + 1 ∧ iv = .int .i64 i ∧ dk.size = d.size ∧ Hid (insOuter lt a c i dk = insOuter lt a c (a + 1) d) ∧ RW wr b N dk ∧ w.grownBy wr (some b)) (fun iv _ => c + 1 - (intOf iv).toNat)
  case atStart => exact ⟨a + 1, d, by omega, by omega, by go_num, rfl, rfl, h, Gb.refl _ _⟩
  case round =>
    obtain ⟨i, dk, h1, h2, rfl, hsk, HO, hr, hg⟩ := hrel
    by_cases hlt : i < c
    · have i1 : (i : Int) < (c : Int) := by omega
      go_wp2
      go_loopw [9] (fun jv wj => ∃ (j : Nat) (dj : Array Ru), a ≤ j ∧ j ≤ i ∧ jv = .int .i64 j ∧ dj.size = d.size ∧ Hid (insInner lt a j dj = insInner lt a i dk) ∧ RW wj b N dj ∧ w.grownBy wj (some b)) (fun jv _ => (intOf jv).toNat)
      case atStart => exact ⟨i, dk, by omega, Nat.le_refl _, rfl, hsk, rfl, hr, hg⟩
      case round =>
        clear hr hg
        obtain ⟨j, dj, k1, k2, rfl, hsj, HI, hr, hg⟩ := hrel
        have out : (j ≤ a ∨ lt dj[j]! dj[j - 1]! = false) → Hid (insOuter lt a c (i + 1) dj = insOuter lt a c (a + 1) d) := fun hs => by
          show _ = _
          rw [← HO.out, insOuter_go _ _ _ _ _ hlt, ← HI.out, insInner_stop _ _ _ _ hs]
        have OUT : Hid _ := out
        clear out
        by_cases hja : a < j
        · obtain ⟨j', rfl⟩ : ∃ j', j = j' + 1 := ⟨j - 1, by omega⟩
          have i2 : (a : Int) < ((j' : Int) + 1) := by omega
          obtain ⟨x, hx⟩ : ∃ x, dj[j' + 1]! = x := ⟨_, rfl⟩
          obtain ⟨y, hy⟩ : ∃ x, dj[j']! = x := ⟨_, rfl⟩
          obtain ⟨x0, x1, x2⟩ := hr.cells (j := j' + 1) (by omega) hx
          obtain ⟨y0, y1, y2⟩ := hr.cells (j := j') (by omega) hy
          have HQ : Hid _ := order_re x y wr
          have x0' := cell_regrown x0
          have x1' := cell_regrown x1
          have x2' := cell_regrown x2
          have y0' := cell_regrown y0
          have y1' := cell_regrown y1
          have y2' := cell_regrown y2
          have bk : (j' : Int) < (d.size : Int) := by omega
          have ba : (j' : Int) + 1 < (d.size : Int) := by omega
          clear x0 x1 x2 y0 y1 y2
          by_cases hl : cf x y < 0
          · go_wp2_with fail
            refine wp_region_quiet_below (by kernel_rfl) (by kernel_rfl) ?_
            repeat (go_big_quiet_step (with_reducible exact HQ.out _ _))
            refine wpQuiet_nil ?_
            intro _ hw'
            obtain ⟨⟨dq, oq⟩, hw''⟩ := hw'
            subst hw''
            clear x0' x1' x2' y0' y1' y2' HQ
            have E1 := below_regrown wr dq oq
            have hr1 := hr.ext E1
            have hg1 := Gb.trans hg (Gb.ext (r := some b) E1)
            clear hr hg E1
            generalize grow (redrawn wr dq) oq = wq at hr1 hg1 ⊢
            obtain ⟨x0, x1, x2⟩ := hr1.cells (j := j' + 1) (by omega) hx
            obtain ⟨y0, y1, y2⟩ := hr1.cells (j := j') (by omega) hy
            have fz := hr1.frozen
            have HR : Hid (RW wq b N dj) := hr1
            have HG : Hid (w.grownBy wq (some b)) := hg1
            clear hr1 hg1 h
            go_wp2_with fail
            go_region
            go_wp2
            refine ⟨⟨j', swp dj (j' + 1) j', by omega, by omega, by go_num, by rw [size_swp]; exact hsj, ?_, ?_, ?_⟩, by simp [intOf]⟩
            · show _ = _
              have hlt' := cf_lt.1 hl
              have := insInner_go lt a (j' + 1) dj hja (by simp only [Nat.add_sub_cancel]; rw [hx, hy]; exact hlt')
              simp only [Nat.add_sub_cancel] at this
              rw [← HI.out, this]
            · have := (HR.out.swap (i := j' + 1) (j := j') (by omega) (by omega)).drew
              rw [hx, hy] at this
              exact this
            · exact Gb.drew (Gb.swap HG.out _ _ _ _ _ _ _ _)
          · have hl2 : decide (cf x y < 0) = false := decide_eq_false hl
            go_wp2_with fail
            refine wp_region_quiet_below (by kernel_rfl) (by kernel_rfl) ?_
            repeat (go_big_quiet_step (with_reducible exact HQ.out _ _))
            refine wpQuiet_nil ?_
            intro _ hw'
            obtain ⟨⟨dq, oq⟩, hw''⟩ := hw'
            subst hw''
            clear x0' x1' x2' y0' y1' y2' HQ
            go_wp2
            refine ⟨⟨i + 1, dj, by omega, by omega, by go_num, hsj, OUT.out (Or.inr ?_), hr.ext (below_regrown wr dq oq), Gb.trans hg (Gb.ext (below_regrown wr dq oq))⟩, by simp [intOf]; omega⟩
            simp only [Nat.add_sub_cancel]; rw [hx, hy]; exact cf_ge.1 hl
        · have i2 : decide ((j : Int) > (a : Int)) = false := decide_eq_false (by omega)
          have i3 : ¬ (a : Int) < (j : Int) := by omega
          go_wp2_with fail
          refine wp_region_quiet_below (by kernel_rfl) (by kernel_rfl) ?_
          repeat (go_big_quiet_step (fail))
          refine wpQuiet_nil ?_
          intro _ hw'
          obtain ⟨⟨dq, oq⟩, hw''⟩ := hw'
          subst hw''
          go_wp2
          exact ⟨⟨i + 1, dj, by omega, by omega, by go_num, hsj, OUT.out (Or.inl (by omega)), hr.ext (below_regrown wr dq oq), Gb.trans hg (Gb.ext (below_regrown wr dq oq))⟩, by simp [intOf]; omega⟩
    · have i1 : ¬ (i : Int) < (c : Int) := by omega
      go_wp2
      go_end0
      have e : dk = insertionSort lt d a c := by unfold insertionSort; rw [← HO.out, insOuter_stop _ _ _ _ _ hlt]
      exact ⟨rfl, dk, e ▸ ins_mrg hac hcn, hr, hg⟩

end Go.Proofs.Ytmjddnnjjmnddad.Tb
