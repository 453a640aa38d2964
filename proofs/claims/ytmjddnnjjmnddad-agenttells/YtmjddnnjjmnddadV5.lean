/- Two parts of a row of rules, one behind the other, change places. -/
import Derived.Test.YtmjddnnjjmnddadV4
namespace Go.Proofs.Ytmjddnnjjmnddad.Tb
open Go.RowKit Go.Deep Rul Go.Sort

set_option maxRecDepth 100000 in
set_option maxHeartbeats 800000 in
theorem rotate_any (cb : Value) (b N cap a m c : Nat) (d : Array Ru) (w : World) (h : RW w b N d) (ham : a < m) (hmc : m < c) (hcn : c ≤ d.size) (hsz : d.size ≤ 1152921504606846976) :
    Calls Try.prog 68 #[.slice (some ⟨b, 0, none⟩) d.size cap, .int .i64 a, .int .i64 m, .int .i64 c, cb] w fun e w' => e = .returned (.tuple #[]) ∧ ∃ d', Rot a m c d d' ∧ RW w' b N d' ∧ w.grownBy w' (some b) := by
  have wi : IntKind.i64.wrap ((m : Int) - a) = ((m - a : Nat) : Int) := by rw [IntKind.wrap_i64]; omega
  have wj : IntKind.i64.wrap ((c : Int) - m) = ((c - m : Nat) : Int) := by rw [IntKind.wrap_i64]; omega
  go_enter Try.func68, Try.ntmps68
  go_wp2
  go_loopw [10, 11] (fun iv jv wr => ∃ (i j : Nat) (d1 : Array Ru), 0 < i ∧ 0 < j ∧ iv = .int .i64 i ∧ jv = .int .i64 j ∧ Rtg a m c i j d d1 ∧ RW wr b N d1 ∧ w.grownBy wr (some b)) (fun iv jv _ => (intOf iv).toNat + (intOf jv).toNat)
  case atStart => exact ⟨m - a, c - m, d, by omega, by omega, by go_num, by go_num, Rtg.start (by omega) (by omega), h, Gb.refl _ _⟩
  case round =>
    obtain ⟨i, j, d1, hi, hj, rfl, rfl, hs, hr, hg⟩ := hrel
    have hia := hs.ia
    have hjb := hs.jb
    have hd1 := hs.size
    have w1 : IntKind.i64.wrap ((m : Int) - i) = ((m - i : Nat) : Int) := by rw [IntKind.wrap_i64]; omega
    by_cases e : i = j
    · subst e
      go_wp2_with fail
      rw [← hd1]
      refine (swapRange_any cb b N cap (m - i) m i d1 _ hr (by omega) (by omega) (by omega)).mono ?_
      rintro e w' ⟨rfl, d2, s2, r2, g2⟩
      go_wp2
      go_end0
      exact ⟨rfl, d2, hs.last s2, r2, Gb.trans hg g2⟩
    · have e1 : ¬ (i : Int) = (j : Int) := by omega
      by_cases hlt : j < i
      · have i1 : (j : Int) < (i : Int) := by omega
        go_wp2_with fail
        rw [← hd1]
        refine (swapRange_any cb b N cap (m - i) m j d1 _ hr (by omega) (by omega) (by omega)).mono ?_
        rintro e w' ⟨rfl, d2, s2, r2, g2⟩
        have w2 : IntKind.i64.wrap ((i : Int) - j) = ((i - j : Nat) : Int) := by rw [IntKind.wrap_i64]; omega
        go_wp2
        exact ⟨⟨i - j, j, d2, by omega, hj, by go_num, rfl, hs.more hlt s2, r2, Gb.trans hg g2⟩, by simp [intOf]; omega⟩
      · have i1 : ¬ (j : Int) < (i : Int) := by omega
        have w3 : IntKind.i64.wrap ((m : Int) + j) = ((m + j : Nat) : Int) := by rw [IntKind.wrap_i64]; omega
        have w4 : IntKind.i64.wrap (((m + j : Nat) : Int) - i) = ((m + j - i : Nat) : Int) := by rw [IntKind.wrap_i64]; omega
        go_wp2_with fail
        rw [← hd1]
        have E3 : ((m + j - i : Nat) : Int) = m + j - i := by omega
        refine (E3 ▸ swapRange_any cb b N cap (m - i) (m + j - i) i d1 _ hr (by omega) (by omega) (by omega)).mono ?_
        rintro e w' ⟨rfl, d2, s2, r2, g2⟩
        have w2 : IntKind.i64.wrap ((j : Int) - i) = ((j - i : Nat) : Int) := by rw [IntKind.wrap_i64]; omega
        go_wp2
        exact ⟨⟨i, j - i, d2, hi, by omega, rfl, by go_num, hs.less (by omega) s2, r2, Gb.trans hg g2⟩, by simp [intOf]; omega⟩

end Go.Proofs.Ytmjddnnjjmnddad.Tb
