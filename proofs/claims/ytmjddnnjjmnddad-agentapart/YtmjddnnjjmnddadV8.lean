/- What symMerge does where the second of two sorted parts of a row has one rule: it goes in among the others. -/
import Derived.Test.YtmjddnnjjmnddadV7
namespace Go.Proofs.Ytmjddnnjjmnddad.Tb
open Go.RowKit Go.Deep Rul Go.Sort

set_option maxRecDepth 100000 in
set_option maxHeartbeats 800000 in
theorem sym_last (b N cap a m : Nat) (d : Array Ru) (w : World) (h : RW w b N d) (ham : a + 1 < m) (hmn : m < d.size) (hsz : d.size ≤ 1152921504606846976) (hs : SortedIn lt a m d) :
    Calls Try.prog 67 #[.slice (some ⟨b, 0, none⟩) d.size cap, .int .i64 a, .int .i64 m, .int .i64 ((m + 1 : Nat) : Int), CB] w fun e w' => e = .returned (.tuple #[]) ∧ ∃ d', Mrg a (m + 1) d d' ∧ RW w' b N d' ∧ w.grownBy w' (some b) := by
  obtain ⟨c, hc⟩ : ∃ c, c = m + 1 := ⟨_, rfl⟩
  have wm : IntKind.i64.wrap ((m : Int) - a) = ((m - a : Nat) : Int) := by rw [IntKind.wrap_i64]; omega
  have wm2 : (((m - a : Nat) : Int) == 1) = false := by simp; omega
  have wc : IntKind.i64.wrap ((c : Int) - m) = 1 := by rw [IntKind.wrap_i64]; omega
  rw [← hc]
  have hc1 : c ≤ m + 1 := by omega
  have hc2 : m + 1 ≤ c := by omega
  have HC : Hid (c = m + 1) := hc
  clear hc
  go_enter Try.func67, Try.ntmps67
  go_wp2
  go_loopw [14, 15] (fun iv jv wr => ∃ (i j : Nat), a ≤ i ∧ i ≤ j ∧ j ≤ m ∧ iv = .int .i64 i ∧ jv = .int .i64 j ∧ (∀ t, a ≤ t → t < i → lt d[m]! d[t]! = false) ∧ (∀ t, j ≤ t → t < m → lt d[m]! d[t]! = true) ∧ Ext w wr) (fun iv jv _ => (intOf jv).toNat - (intOf iv).toNat)
  case atStart => exact ⟨a, m, Nat.le_refl _, by omega, Nat.le_refl _, rfl, rfl, fun t h1 h2 => by omega, fun t h1 h2 => by omega, Ext.refl w⟩
  case round =>
    obtain ⟨i, j, h1, h2, h3, rfl, rfl, q1, q2, hext⟩ := hrel
    by_cases hlt : i < j
    · have i1 : (i : Int) < (j : Int) := by omega
      obtain ⟨k, hk, k1, k2⟩ : ∃ k : Nat, ((i : Int) + j) / 2 = k ∧ i ≤ k ∧ k < j := ⟨(i + j) / 2, by omega, by omega, by omega⟩
      obtain ⟨x, hx⟩ : ∃ x, d[m]! = x := ⟨_, rfl⟩
      obtain ⟨y, hy⟩ : ∃ x, d[k]! = x := ⟨_, rfl⟩
      obtain ⟨x0, x1, x2⟩ := (h.ext hext).cells (j := m) (by omega) hx
      obtain ⟨y0, y1, y2⟩ := (h.ext hext).cells (j := k) (by omega) hy
      have HQ : Hid _ := order_re x y wr
      have x0' := cell_regrown x0
      have x1' := cell_regrown x1
      have x2' := cell_regrown x2
      have y0' := cell_regrown y0
      have y1' := cell_regrown y1
      have y2' := cell_regrown y2
      have bk : (k : Int) < (d.size : Int) := by omega
      have ba : (m : Int) < (d.size : Int) := by omega
      clear x0 x1 x2 y0 y1 y2
      have HQ1 : Hid _ := q1
      have HQ2 : Hid _ := q2
      have HS : Hid _ := hs
      clear q1 q2 hs h
      by_cases hl : cf x y < 0
      · go_wp2_with fail
        refine wp_region_quiet_below (by kernel_rfl) (by kernel_rfl) ?_
        repeat (go_big_quiet_step (with_reducible exact HQ.out _ _))
        refine wpQuiet_nil ?_
        intro _ hw'
        obtain ⟨⟨dq, oq⟩, hw''⟩ := hw'
        subst hw''
        clear x0' x1' x2' y0' y1' y2' HQ
        go_wp2
        refine ⟨⟨i, k, h1, k1, by omega, rfl, by go_num, HQ1.out, fun t t1 t2 => ?_, hext.trans (below_regrown wr dq oq)⟩, by simp [intOf]; omega⟩
        have := cf_lt.1 hl
        rw [← hx, ← hy] at this
        by_cases e : t = k
        · subst e; exact this
        · exact lt_of_lt_le this (HS.out k t (by omega) (by omega) (by omega))
      · have hl2 : decide (cf x y < 0) = false := decide_eq_false hl
        go_wp2_with fail
        refine wp_region_quiet_below (by kernel_rfl) (by kernel_rfl) ?_
        repeat (go_big_quiet_step (with_reducible exact HQ.out _ _))
        refine wpQuiet_nil ?_
        intro _ hw'
        obtain ⟨⟨dq, oq⟩, hw''⟩ := hw'
        subst hw''
        clear x0' x1' x2' y0' y1' y2' HQ
        go_wp2
        refine ⟨⟨k + 1, j, by omega, by omega, h3, by go_num, rfl, fun t t1 t2 => ?_, HQ2.out, hext.trans (below_regrown wr dq oq)⟩, by simp [intOf]; omega⟩
        have := cf_ge.1 hl
        rw [← hx, ← hy] at this
        by_cases e : t = k
        · subst e; exact this
        · exact swo.ntrans _ _ _ this (HS.out t k (by omega) (by omega) (by omega))
    · have i1 : ¬ (i : Int) < (j : Int) := by omega
      obtain rfl : i = j := by omega
      have hr0 := h.ext hext
      go_wp2
      go_loopw [17] (fun kv wk => ∃ (k : Nat) (dk : Array Ru), i ≤ k ∧ k ≤ m ∧ kv = .int .i64 k ∧ dk.size = d.size ∧ (∀ t, k < t → t ≤ m → dk[t]! = d[t - 1]!) ∧ dk[k]! = d[m]! ∧ (∀ t, t < k ∨ m < t → dk[t]! = d[t]!) ∧ RW wk b N dk ∧ w.grownBy wk (some b)) (fun kv _ => (intOf kv).toNat)
      case atStart => exact ⟨m, d, by omega, Nat.le_refl _, rfl, rfl, fun t t1 t2 => by omega, rfl, fun t _ => rfl, hr0, Gb.ext hext⟩
      case round =>
        obtain ⟨k, dk, k1, k2, rfl, k3, g1, g2, g3, hr, hg⟩ := hrel
        by_cases hkl : i < k
        · obtain ⟨k', rfl⟩ : ∃ k', k = k' + 1 := ⟨k - 1, by omega⟩
          have i2 : (i : Int) < ((k' : Int) + 1) := by omega
          obtain ⟨x, hx⟩ : ∃ x, dk[k' + 1]! = x := ⟨_, rfl⟩
          obtain ⟨y, hy⟩ : ∃ x, dk[k']! = x := ⟨_, rfl⟩
          obtain ⟨x0, x1, x2⟩ := hr.cells (j := k' + 1) (by omega) hx
          obtain ⟨y0, y1, y2⟩ := hr.cells (j := k') (by omega) hy
          have fz := hr.frozen
          have ba : (k' : Int) < (d.size : Int) := by omega
          have bc : (k' : Int) + 1 < (d.size : Int) := by omega
          have HR : Hid (RW wr b N dk) := hr
          have HG : Hid (w.grownBy wr (some b)) := hg
          have HD : Hid _ := And.intro g1 (And.intro g2 g3)
          clear hr hg g1 g2 g3 h hr0 q1 q2 hs
          go_wp2_with fail
          go_region
          go_wp2
          refine ⟨⟨k', swp dk (k' + 1) k', by omega, by omega, by go_num, by rw [size_swp]; exact k3, fun t t1 t2 => ?_, ?_, fun t ht => ?_, ?_, ?_⟩, by simp [intOf]⟩
          · by_cases e : t = k' + 1
            · subst e; rw [swp_left _ _ _ (by omega) (by omega)]; exact HD.out.2.2 _ (by omega)
            · rw [swp_other _ _ _ _ (by omega) (by omega)]; exact HD.out.1 t (by omega) t2
          · rw [swp_right _ _ _ (by omega)]; exact HD.out.2.1
          · rw [swp_other _ _ _ _ (by omega) (by omega)]; exact HD.out.2.2 t (by omega)
          · have := (HR.out.swap (i := k' + 1) (j := k') (by omega) (by omega)).drew
            rw [hx, hy] at this
            exact this
          · exact Gb.drew (Gb.swap HG.out _ _ _ _ _ _ _ _)
        · have i2 : ¬ (i : Int) < (k : Int) := by omega
          have : k = i := by omega
          subst this
          go_wp2
          (try simp only [Exit.inBlock, Exit.then])
          refine bodyPost_ret (results_none rfl _ _ _) rfl ?_
          have hc : c = m + 1 := HC.out
          rw [hc]
          exact ⟨rfl, dk, mrg_back (by omega) k2 hs q1 q2 k3 g1 g2 g3, hr, hg⟩

end Go.Proofs.Ytmjddnnjjmnddad.Tb
