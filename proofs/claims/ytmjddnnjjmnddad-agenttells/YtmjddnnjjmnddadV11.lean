/- What a stable sort of a row of rules leaves: the one sorted row that keeps those of one place as they stood. -/
import Derived.Test.YtmjddnnjjmnddadV9
import Derived.Test.YtmjddnnjjmnddadV10
namespace Go.Proofs.Ytmjddnnjjmnddad.Tb
open Go.RowKit Go.Deep Rul Go.Sort

/-- what every step of the sort keeps -/
structure Kp (w wr : World) (b N n : Nat) (d dk : Array Ru) : Prop where
  size : dk.size = d.size
  same : Sm (seg dk 0 n) (seg d 0 n)
  row : RW wr b N dk
  grown : w.grownBy wr (some b)
theorem Kp.step {w wr w1 : World} {b N n a c : Nat} {d dk d1 : Array Ru} (h : Kp w wr b N n d dk) (m : Mrg a c dk d1) (hac : a ≤ c) (hcn : c ≤ n) (r : RW w1 b N d1) (g : wr.grownBy w1 (some b)) : Kp w w1 b N n d d1 :=
  ⟨m.1.1.trans h.size, (m.whole hac hcn).trans h.same, r, Gb.trans h.grown g⟩

theorem ins_n (b N cap a c n : Nat) (d : Array Ru) (w : World) (hn : d.size = n) (h : RW w b N d) (hac : a ≤ c) (hcn : c ≤ n) (hsz : n ≤ 1152921504606846976) :
    Calls Try.prog 66 #[.slice (some ⟨b, 0, none⟩) n cap, .int .i64 a, .int .i64 c, CB] w fun e w' => e = .returned (.tuple #[]) ∧ ∃ d', Mrg a c d d' ∧ RW w' b N d' ∧ w.grownBy w' (some b) := by
  subst hn; exact ins_any b N cap a c d w h hac hcn hsz
theorem sym_n (b N cap a m c n : Nat) (d : Array Ru) (w : World) (hn : d.size = n) (h : RW w b N d) (ham : a < m) (hmc : m < c) (hcn : c ≤ n) (hsz : n ≤ 1152921504606846976) (sX : SortedIn lt a m d) (sY : SortedIn lt m c d) :
    Calls Try.prog 67 #[.slice (some ⟨b, 0, none⟩) n cap, .int .i64 a, .int .i64 m, .int .i64 c, CB] w fun e w' => e = .returned (.tuple #[]) ∧ ∃ d', Mrg a c d d' ∧ RW w' b N d' ∧ w.grownBy w' (some b) := by
  subst hn; exact sym_all b N cap _ a m c d w (Nat.le_refl _) h ham hmc hcn hsz sX sY

set_option maxRecDepth 100000 in
set_option maxHeartbeats 1600000 in
theorem stable_any (b N cap : Nat) (d : Array Ru) (w : World) (h : RW w b N d) (hsz : d.size ≤ 1152921504606846976) :
    Calls Try.prog 65 #[.slice (some ⟨b, 0, none⟩) d.size cap, .int .i64 d.size, CB] w fun e w' => e = .returned (.tuple #[]) ∧ ∃ d', SortedIn lt 0 d.size d' ∧ Kp w w' b N d.size d d' := by
  obtain ⟨n, hn1, hn2⟩ : ∃ n, n ≤ d.size ∧ d.size ≤ n := ⟨d.size, Nat.le_refl _, Nat.le_refl _⟩
  have hn : d.size = n := by omega
  have HN : Hid (d.size = n) := hn
  rw [hn]
  have K0 : Kp w w b N n d d := ⟨rfl, Sm.refl _, h, Gb.refl _ _⟩
  clear hn
  go_enter Try.func65, Try.ntmps65
  go_wp2
  go_loopw [7, 8] (fun av bv wr => ∃ (a : Nat) (dk : Array Ru), a ≤ n ∧ av = .int .i64 a ∧ bv = .int .i64 ((a + 20 : Nat) : Int) ∧ Hid (B0 20 a dk) ∧ Kp w wr b N n d dk) (fun av _ _ => n - (intOf av).toNat)
  case atStart => exact ⟨0, d, Nat.zero_le _, rfl, rfl, B0.start _ _, K0⟩
  case round =>
    obtain ⟨a, dk, h1, rfl, rfl, HB, hk⟩ := hrel
    have hdk := hk.size
    by_cases hlt : a + 20 ≤ n
    · have i1 : ((a + 20 : Nat) : Int) ≤ (n : Int) := by omega
      go_wp2_with fail
      refine (ins_n b N cap a (a + 20) n dk _ (hdk.trans HN.out) hk.row (by omega) hlt (by omega)).mono ?_
      rintro _ w1 ⟨rfl, d1, m1, r1, g1⟩
      have K1 := hk.step m1 (by omega) hlt r1 g1
      have HB1 : Hid (B0 20 (a + 20) d1) := HB.out.step m1
      clear hk m1 r1 g1 K0 h
      go_wp2
      exact ⟨⟨a + 20, d1, hlt, by go_num, by go_num, HB1, K1⟩, by simp [intOf]; omega⟩
    · have i1 : ¬ ((a + 20 : Nat) : Int) ≤ (n : Int) := by omega
      go_wp2_with fail
      refine (ins_n b N cap a n n dk _ (hdk.trans HN.out) hk.row h1 (Nat.le_refl _) (by omega)).mono ?_
      rintro _ w1 ⟨rfl, d1, m1, r1, g1⟩
      have K1 := hk.step m1 h1 (Nat.le_refl _) r1 g1
      have HB1 : Hid (Bl 20 n d1) := HB.out.fin h1 (by omega) m1
      clear hk m1 r1 g1 K0 h hdk
      go_wp2
      go_loopw [6] (fun cv wr => ∃ (c : Nat) (dk : Array Ru), 20 ≤ c ∧ c ≤ 4611686018427387904 ∧ cv = .int .i64 c ∧ Hid (Bl c n dk) ∧ Kp w wr b N n d dk) (fun cv _ => n - (intOf cv).toNat)
      case atStart => exact ⟨20, d1, Nat.le_refl _, by omega, rfl, HB1, K1⟩
      case round =>
        clear K1 HB1
        obtain ⟨c, dk, c1, c2, rfl, HB1, hk⟩ := hrel
        by_cases hcn : c < n
        · have i2 : (c : Int) < (n : Int) := by omega
          have HB2 : Hid (Bm c n 0 dk) := HB1.out.start
          go_wp2
          go_loopw [7, 8] (fun av bv wr => ∃ (a : Nat) (dk : Array Ru), a ≤ n ∧ av = .int .i64 a ∧ bv = .int .i64 ((a + 2 * c : Nat) : Int) ∧ Hid (Bm c n a dk) ∧ Kp w wr b N n d dk) (fun av _ _ => n - (intOf av).toNat)
          case atStart => exact ⟨0, dk, Nat.zero_le _, rfl, by go_num, HB2, hk⟩
          case round =>
            clear hk HB2 HB1
            obtain ⟨a, dk, a1, rfl, rfl, HB2, hk⟩ := hrel
            have hdk := hk.size
            by_cases hac : a + 2 * c ≤ n
            · have i3 : ((a + 2 * c : Nat) : Int) ≤ (n : Int) := by omega
              have s1 := HB2.out.one (by omega)
              have s2 := HB2.out.two
              rw [Nat.min_eq_left hac] at s2
              have HS : Hid _ := And.intro s1 s2
              clear s1 s2
              have e1 : IntKind.i64.wrap ((a : Int) + c) = ((a + c : Nat) : Int) := by rw [IntKind.wrap_i64]; omega
              go_wp2_with fail
              refine (sym_n b N cap a (a + c) (a + 2 * c) n dk _ (hdk.trans HN.out) hk.row (by omega) (by omega) hac (by omega) HS.out.1 HS.out.2).mono ?_
              rintro _ w2 ⟨rfl, d2, m2, r2, g2⟩
              have K2 := hk.step m2 (by omega) hac r2 g2
              have HB3 : Hid (Bm c n (a + 2 * c) d2) := HB2.out.step hac m2
              clear hk m2 r2 g2 HS HB2
              go_wp2
              exact ⟨⟨a + 2 * c, d2, hac, by go_num, by go_num, HB3, K2⟩, by simp [intOf]; omega⟩
            · have i3 : ¬ ((a + 2 * c : Nat) : Int) ≤ (n : Int) := by omega
              have e1 : IntKind.i64.wrap ((a : Int) + c) = ((a + c : Nat) : Int) := by rw [IntKind.wrap_i64]; omega
              by_cases ham : a + c < n
              · have i4 : ((a + c : Nat) : Int) < (n : Int) := by omega
                have s1 := HB2.out.one (by omega)
                have s2 := HB2.out.two
                rw [Nat.min_eq_right (by omega)] at s2
                have HS : Hid _ := And.intro s1 s2
                clear s1 s2
                go_wp2_with fail
                refine (sym_n b N cap a (a + c) n n dk _ (hdk.trans HN.out) hk.row (by omega) ham (Nat.le_refl _) (by omega) HS.out.1 HS.out.2).mono ?_
                rintro _ w2 ⟨rfl, d2, m2, r2, g2⟩
                have K2 := hk.step m2 (by omega) (Nat.le_refl _) r2 g2
                have HB3 : Hid (Bl (2 * c) n d2) := HB2.out.fin (by omega) m2
                clear hk m2 r2 g2 HS HB2
                go_wp2
                exact ⟨⟨2 * c, d2, by omega, by omega, by go_num, HB3, K2⟩, by simp [intOf]; omega⟩
              · have i4 : ¬ ((a + c : Nat) : Int) < (n : Int) := by omega
                have HB3 : Hid (Bl (2 * c) n dk) := HB2.out.fin' (by omega) (by omega)
                go_wp2
                exact ⟨⟨2 * c, dk, by omega, by omega, by go_num, HB3, hk⟩, by simp [intOf]; omega⟩
        · have i2 : ¬ (c : Int) < (n : Int) := by omega
          go_wp2
          go_end0
          have hn : d.size = n := HN.out
          exact ⟨rfl, dk, HB1.out.all (by omega), hk⟩

set_option maxHeartbeats 800000 in
theorem SortStable_any (b N cap n : Nat) (d : Array Ru) (w : World) (hn : d.size = n) (h : RW w b N d) (hsz : n ≤ 1152921504606846976) :
    Calls Try.prog 61 #[.slice (some ⟨b, 0, none⟩) n cap, CB] w fun e w' => e = .returned (.tuple #[]) ∧ ∃ d', d'.toList = sst d.toList ∧ RW w' b N d' ∧ w.grownBy w' (some b) := by
  subst hn
  go_enter Try.func61, Try.ntmps61
  go_wp2_with fail
  refine (stable_any b N cap d _ h hsz).mono ?_
  rintro _ w1 ⟨rfl, d1, s1, k1⟩
  go_wp2
  go_end0
  refine ⟨rfl, d1, sst_of ?_ ?_, k1.row, k1.grown⟩
  · rw [← seg_all, k1.size, srt_seg]; exact s1
  · have := k1.same
    rw [seg_all] at this
    rw [← seg_all d1, k1.size]; exact this

end Go.Proofs.Ytmjddnnjjmnddad.Tb
