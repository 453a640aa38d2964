/- What symMerge does with two sorted parts of a row, one behind the other: it sorts both together, and keeps those of one place as they stood. -/
import Derived.Test.YtmjddnnjjmnddadV8
import Derived.Deep.DeepCutAuto
namespace Go.Proofs.Ytmjddnnjjmnddad.Tb
open Go.RowKit Go.Deep Rul Go.Sort

def SymOk (b N cap : Nat) (K : Nat) : Prop := ∀ (a m c : Nat) (d : Array Ru) (w : World), c - a ≤ K → RW w b N d → a < m → m < c → c ≤ d.size → d.size ≤ 1152921504606846976 → SortedIn lt a m d → SortedIn lt m c d →
  Calls Try.prog 67 #[.slice (some ⟨b, 0, none⟩) d.size cap, .int .i64 a, .int .i64 m, .int .i64 c, CB] w fun e w' => e = .returned (.tuple #[]) ∧ ∃ d', Mrg a c d d' ∧ RW w' b N d' ∧ w.grownBy w' (some b)

set_option maxRecDepth 100000 in
set_option maxHeartbeats 1600000 in
theorem sym_gen (b N cap K a m c : Nat) (d : Array Ru) (w : World) (ih : SymOk b N cap K) (hK : c - a ≤ K + 1) (h : RW w b N d) (ham : a + 1 < m) (hmc : m + 1 < c) (hcn : c ≤ d.size) (hsz : d.size ≤ 1152921504606846976) (sX : SortedIn lt a m d) (sY : SortedIn lt m c d) :
    Calls Try.prog 67 #[.slice (some ⟨b, 0, none⟩) d.size cap, .int .i64 a, .int .i64 m, .int .i64 c, CB] w fun e w' => e = .returned (.tuple #[]) ∧ ∃ d', Mrg a c d d' ∧ RW w' b N d' ∧ w.grownBy w' (some b) := by
  obtain ⟨mid, hmid, mid1, mid2, mid3, mid4⟩ : ∃ mid : Nat, ((a : Int) + c) / 2 = mid ∧ a < mid ∧ mid < c ∧ 2 * mid ≤ a + c ∧ a + c ≤ 2 * mid + 1 := ⟨(a + c) / 2, by omega, by omega, by omega, by omega, by omega⟩
  obtain ⟨n, hn, n1, n2⟩ : ∃ n : Nat, ((mid : Int) + m) = n ∧ n ≤ mid + m ∧ mid + m ≤ n := ⟨mid + m, by omega, by omega, by omega⟩
  obtain ⟨p, hp, p1, p2⟩ : ∃ p : Nat, ((n : Int) - 1) = p ∧ p + 1 ≤ n ∧ n ≤ p + 1 := ⟨n - 1, by omega, by omega, by omega⟩
  have wm : IntKind.i64.wrap ((m : Int) - a) = ((m - a : Nat) : Int) := by rw [IntKind.wrap_i64]; omega
  have wm2 : (((m - a : Nat) : Int) == 1) = false := by simp; omega
  have wc : IntKind.i64.wrap ((c : Int) - m) = ((c - m : Nat) : Int) := by rw [IntKind.wrap_i64]; omega
  have wc2 : (((c - m : Nat) : Int) == 1) = false := by simp; omega
  have HI : Hid _ := ih
  have HX : Hid _ := And.intro sX sY
  clear ih sX sY
  go_enter Try.func67, Try.ntmps67
  go_upto_if 140 with fail
  go_cut [20, 21] (fun sv rv wc => ∃ lo hi : Nat, sv = .int .i64 lo ∧ rv = .int .i64 hi ∧ a ≤ lo ∧ n ≤ c + lo ∧ lo ≤ hi ∧ hi ≤ m ∧ hi ≤ mid ∧ (lo = a ∨ lo + c = n) ∧ (hi = m ∨ hi = mid) ∧ w = wc)
  case first => as_aux_lemma =>
    by_cases hlt : mid < m
    · have i1 : (mid : Int) < (m : Int) := by omega
      have w1 : IntKind.i64.wrap ((n : Int) - c) = ((n - c : Nat) : Int) := by rw [IntKind.wrap_i64]; omega
      go_wp2
      go_meet
      case rel => exact ⟨n - c, mid, by go_num, rfl, by omega, by omega, by omega, by omega, by omega, by omega, by omega, rfl⟩
    · have i1 : ¬ (mid : Int) < (m : Int) := by omega
      go_wp2
      go_meet
      case rel => exact ⟨a, m, rfl, rfl, by omega, by omega, by omega, by omega, by omega, by omega, by omega, rfl⟩
  case rest => as_aux_lemma =>
    obtain ⟨lo, hi, rfl, rfl, l1, l2, l3, l4, l5, l6, l7, rfl⟩ := hcut
    go_wp2
    go_loopw [20, 21] (fun iv jv wr => ∃ (i j : Nat), lo ≤ i ∧ i ≤ j ∧ j ≤ hi ∧ iv = .int .i64 i ∧ jv = .int .i64 j ∧ Hid ((lo < i → lt d[n - i]! d[i - 1]! = false) ∧ (j < hi → lt d[p - j]! d[j]! = true)) ∧ Ext w wr) (fun iv jv _ => (intOf jv).toNat - (intOf iv).toNat)
    case atStart => exact ⟨lo, hi, Nat.le_refl _, by omega, Nat.le_refl _, rfl, rfl, ⟨fun h => absurd h (Nat.lt_irrefl _), fun h => absurd h (Nat.lt_irrefl _)⟩, Ext.refl w⟩
    case round => as_aux_lemma =>
      obtain ⟨i, j, h1, h2, h3, rfl, rfl, HQ0, hext⟩ := hrel
      by_cases hlt : i < j
      · have i1 : (i : Int) < (j : Int) := by omega
        obtain ⟨k, hk, k1, k2⟩ : ∃ k : Nat, ((i : Int) + j) / 2 = k ∧ i ≤ k ∧ k < j := ⟨(i + j) / 2, by omega, by omega, by omega⟩
        obtain ⟨pk, hpk, pk1, pk2⟩ : ∃ pk : Nat, ((p : Int) - k) = pk ∧ pk + k ≤ p ∧ p ≤ pk + k := ⟨p - k, by omega, by omega, by omega⟩
        obtain ⟨x, hx⟩ : ∃ x, d[pk]! = x := ⟨_, rfl⟩
        obtain ⟨y, hy⟩ : ∃ x, d[k]! = x := ⟨_, rfl⟩
        obtain ⟨x0, x1, x2⟩ := (h.ext hext).cells (j := pk) (by omega) hx
        obtain ⟨y0, y1, y2⟩ := (h.ext hext).cells (j := k) (by omega) hy
        have HQ : Hid _ := order_re x y wr
        have x0' := cell_regrown x0
        have x1' := cell_regrown x1
        have x2' := cell_regrown x2
        have y0' := cell_regrown y0
        have y1' := cell_regrown y1
        have y2' := cell_regrown y2
        have bk : (k : Int) < (d.size : Int) := by omega
        have ba : (pk : Int) < (d.size : Int) := by omega
        clear x0 x1 x2 y0 y1 y2 h
        by_cases hl : cf x y < 0
        · go_wp2_with fail
          refine wp_region_quiet_below (by kernel_rfl) (by kernel_rfl) ?_
          repeat (go_big_quiet_step (with_reducible exact HQ.out _ _))
          refine wpQuiet_nil ?_
          intro _ hw'
          obtain ⟨⟨dq, oq⟩, hw''⟩ := hw'
          subst hw''
          clear x0' x1' x2' y0' y1' y2' HQ
          go_wp2
          refine ⟨⟨i, k, h1, k1, by omega, rfl, by go_num, ⟨HQ0.out.1, fun _ => ?_⟩, hext.trans (below_regrown wr dq oq)⟩, by simp [intOf]; omega⟩
          have := cf_lt.1 hl
          rw [← hx, ← hy] at this
          rwa [show p - k = pk by omega]
        · have hl2 : decide (cf x y < 0) = false := decide_eq_false hl
          go_wp2_with fail
          refine wp_region_quiet_below (by kernel_rfl) (by kernel_rfl) ?_
          repeat (go_big_quiet_step (with_reducible exact HQ.out _ _))
          refine wpQuiet_nil ?_
          intro _ hw'
          obtain ⟨⟨dq, oq⟩, hw''⟩ := hw'
          subst hw''
          clear x0' x1' x2' y0' y1' y2' HQ
          go_wp2
          refine ⟨⟨k + 1, j, by omega, by omega, h3, by go_num, rfl, ⟨fun _ => ?_, HQ0.out.2⟩, hext.trans (below_regrown wr dq oq)⟩, by simp [intOf]; omega⟩
          have := cf_ge.1 hl
          rw [← hx, ← hy] at this
          rwa [show n - (k + 1) = pk by omega, show k + 1 - 1 = k by omega]
      · have i1 : ¬ (i : Int) < (j : Int) := by omega
        obtain rfl : i = j := by omega
        have hr0 := h.ext hext
        obtain ⟨e, he, e1, e2⟩ : ∃ e : Nat, ((n : Int) - i) = e ∧ e + i ≤ n ∧ n ≤ e + i := ⟨n - i, by omega, by omega, by omega⟩
        go_upto_region 39 with fail
        go_cut [185] (fun v wc => v = .bool (decide (i < m ∧ m < e)) ∧ wr = wc)
        case first => as_aux_lemma =>
          by_cases c1 : i < m
          · have i2 : (i : Int) < (m : Int) := by omega
            by_cases c2 : m < e
            · have i3 : (m : Int) < (e : Int) := by omega
              have hd : decide (i < m ∧ m < e) = true := decide_eq_true ⟨c1, c2⟩
              go_wp2
              go_meet
              case rel => exact ⟨by rw [hd], rfl⟩
            · have i3 : ¬ (m : Int) < (e : Int) := by omega
              have hd : decide (i < m ∧ m < e) = false := decide_eq_false (fun h => c2 h.2)
              go_wp2
              go_meet
              case rel => exact ⟨by rw [hd], rfl⟩
          · have i2 : ¬ (i : Int) < (m : Int) := by omega
            have hd : decide (i < m ∧ m < e) = false := decide_eq_false (fun h => c1 h.1)
            go_wp2
            go_meet
            case rel => exact ⟨by rw [hd], rfl⟩
        case rest => as_aux_lemma =>
          obtain ⟨rfl, rfl⟩ := hcut
          go_upto_if 185 with fail
          go_cut [185] (fun _ wc => ∃ d1, Hid (Rot i m e d d1) ∧ RW wc b N d1 ∧ w.grownBy wc (some b))
          case first => as_aux_lemma =>
            by_cases hR : i < m ∧ m < e
            · have hd : decide (i < m ∧ m < e) = true := decide_eq_true hR
              go_wp2_with fail
              refine (rotate_any CB b N cap i m e d wr hr0 hR.1 hR.2 (by omega) hsz).mono ?_
              rintro _ w1 ⟨rfl, d1, r1, rw1, g1⟩
              go_wp2
              go_meet
              case rel => exact ⟨d1, r1, rw1, Gb.trans (Gb.ext hext) g1⟩
            · have hd : decide (i < m ∧ m < e) = false := decide_eq_false hR
              have ht : Rot i m e d d := by
                by_cases c1 : i = m
                · subst c1; exact Rot.triv_left d
                · have : e = m := by omega
                  subst this; exact Rot.triv_right d
              have HT : Hid _ := ht
              clear ht
              go_wp2
              go_meet
              case rel => exact ⟨d, HT, hr0, Gb.ext hext⟩
          case rest => as_aux_lemma =>
            obtain ⟨d1, HR1, hr1, hg1⟩ := hcut
            clear hr0 h hext
            have hS : SortedIn lt a i d1 ∧ SortedIn lt i mid d1 ∧ SortedIn lt mid e d1 ∧ SortedIn lt e c d1 := by
              have := HR1.out
              rw [show e = mid + m - i by omega] at this ⊢
              exact rot_sorted HX.out.1 HX.out.2 (by omega) (by omega) (by omega) (by omega) this
            have hd1 : d1.size = d.size := HR1.out.out.1
            have HS : Hid _ := hS
            clear hS
            go_upto_region 41 with fail
            go_cut [199] (fun v wx => v = .bool (decide (a < i ∧ i < mid)) ∧ wc = wx)
            case first => as_aux_lemma =>
              by_cases c1 : a < i
              · have i2 : (a : Int) < (i : Int) := by omega
                by_cases c2 : i < mid
                · have i3 : (i : Int) < (mid : Int) := by omega
                  have hd : decide (a < i ∧ i < mid) = true := decide_eq_true ⟨c1, c2⟩
                  go_wp2
                  go_meet
                  case rel => exact ⟨by rw [hd], rfl⟩
                · have i3 : ¬ (i : Int) < (mid : Int) := by omega
                  have hd : decide (a < i ∧ i < mid) = false := decide_eq_false (fun h => c2 h.2)
                  go_wp2
                  go_meet
                  case rel => exact ⟨by rw [hd], rfl⟩
              · have i2 : ¬ (a : Int) < (i : Int) := by omega
                have hd : decide (a < i ∧ i < mid) = false := decide_eq_false (fun h => c1 h.1)
                go_wp2
                go_meet
                case rel => exact ⟨by rw [hd], rfl⟩
            case rest => as_aux_lemma =>
              obtain ⟨rfl, rfl⟩ := hcut
              go_upto_if 199 with fail
              go_cut [199] (fun _ wc => ∃ d2, Hid (Mrg a mid d1 d2) ∧ RW wc b N d2 ∧ w.grownBy wc (some b))
              case first => as_aux_lemma =>
                by_cases hR : a < i ∧ i < mid
                · have hd : decide (a < i ∧ i < mid) = true := decide_eq_true hR
                  go_wp2_with fail
                  rw [← hd1]
                  refine (HI.out a i mid d1 _ (by omega) hr1 hR.1 hR.2 (by omega) (by omega) HS.out.1 HS.out.2.1).mono ?_
                  rintro _ w1 ⟨rfl, d2, r1, rw1, g1⟩
                  go_wp2
                  go_meet
                  case rel => exact ⟨d2, r1, rw1, Gb.trans hg1 g1⟩
                · have hd : decide (a < i ∧ i < mid) = false := decide_eq_false hR
                  have ht : Mrg a mid d1 d1 := Mrg.same (by
                    by_cases c1 : i = a
                    · have := HS.out.2.1; rwa [c1] at this
                    · have : i = mid := by omega
                      have h2 := HS.out.1
                      rwa [this] at h2)
                  have HT : Hid _ := ht
                  clear ht
                  go_wp2
                  go_meet
                  case rel => exact ⟨d1, HT, hr1, hg1⟩
              case rest => as_aux_lemma =>
                obtain ⟨d2, HM2, hr2, hg2⟩ := hcut
                clear hr1 hg1
                have hd2 : d2.size = d.size := HM2.out.1.1.trans hd1
                have hS2 : SortedIn lt mid e d2 ∧ SortedIn lt e c d2 := ⟨HM2.out.1.sorted_right (Nat.le_refl _) HS.out.2.2.1, HM2.out.1.sorted_right (by omega) HS.out.2.2.2⟩
                have HS2 : Hid _ := hS2
                clear hS2
                go_upto_region 43 with fail
                go_cut [213] (fun v wx => v = .bool (decide (mid < e ∧ e < c)) ∧ wc = wx)
                case first => as_aux_lemma =>
                  by_cases c1 : mid < e
                  · have i2 : (mid : Int) < (e : Int) := by omega
                    by_cases c2 : e < c
                    · have i3 : (e : Int) < (c : Int) := by omega
                      have hd : decide (mid < e ∧ e < c) = true := decide_eq_true ⟨c1, c2⟩
                      go_wp2
                      go_meet
                      case rel => exact ⟨by rw [hd], rfl⟩
                    · have i3 : ¬ (e : Int) < (c : Int) := by omega
                      have hd : decide (mid < e ∧ e < c) = false := decide_eq_false (fun h => c2 h.2)
                      go_wp2
                      go_meet
                      case rel => exact ⟨by rw [hd], rfl⟩
                  · have i2 : ¬ (mid : Int) < (e : Int) := by omega
                    have hd : decide (mid < e ∧ e < c) = false := decide_eq_false (fun h => c1 h.1)
                    go_wp2
                    go_meet
                    case rel => exact ⟨by rw [hd], rfl⟩
                case rest => as_aux_lemma =>
                  obtain ⟨rfl, rfl⟩ := hcut
                  have fin : ∀ d3, Mrg mid c d2 d3 → Mrg a c d d3 := fun d3 h3 => by
                    have hr := HR1.out
                    rw [show e = mid + m - i by omega] at hr
                    exact mrg_sym (by omega) (by omega) (by omega) (by omega) HX.out.1 HX.out.2 (by omega) (by omega) (by omega) (by omega)
                      (fun g1 g2 => by have := HQ0.out.1 (by omega); rwa [show n - i = mid + m - i by omega] at this)
                      (fun g1 g2 => by have := HQ0.out.2 (by omega); rwa [show p - i = mid + m - 1 - i by omega] at this) hr HM2.out h3
                  have FIN : Hid _ := fin
                  clear fin
                  by_cases hR : mid < e ∧ e < c
                  · have hd : decide (mid < e ∧ e < c) = true := decide_eq_true hR
                    go_wp2_with fail
                    rw [← hd2]
                    refine (HI.out mid e c d2 _ (by omega) hr2 hR.1 hR.2 (by omega) (by omega) HS2.out.1 HS2.out.2).mono ?_
                    rintro _ w1 ⟨rfl, d3, r1, rw1, g1⟩
                    go_wp2
                    go_end0
                    exact ⟨rfl, d3, FIN.out d3 r1, rw1, Gb.trans hg2 g1⟩
                  · have hd : decide (mid < e ∧ e < c) = false := decide_eq_false hR
                    have ht : Mrg mid c d2 d2 := Mrg.same (by
                      by_cases c1 : e = mid
                      · have := HS2.out.2; rwa [c1] at this
                      · have : e = c := by omega
                        have h2 := HS2.out.1
                        rwa [this] at h2)
                    have HT : Hid _ := ht
                    clear ht
                    go_wp2
                    go_end0
                    exact ⟨rfl, d2, FIN.out d2 HT.out, hr2, hg2⟩

theorem sym_all (b N cap : Nat) : ∀ K, SymOk b N cap K
  | 0 => fun a m c d w hK _ h1 h2 _ _ _ _ => by omega
  | K + 1 => fun a m c d w hK h h1 h2 hc hsz sX sY => by
    by_cases e1 : m = a + 1
    · subst e1
      exact sym_one b N cap a c d w h (by omega) hc hsz sY
    · by_cases e2 : c = m + 1
      · subst e2
        exact sym_last b N cap a m d w h (by omega) (by omega) hsz sX
      · exact sym_gen b N cap K a m c d w (sym_all b N cap K) hK h (by omega) (by omega) hc hsz sX sY

end Go.Proofs.Ytmjddnnjjmnddad.Tb
