/- What the document's own Reaches answers, for every net and number; nothing that was there is changed. -/
import Derived.Test.YtbfgioinjggkkaaR1
import Derived.Test.YtbfgioinjggkkaaW7
import Derived.Test.YtbfgioinjggkkaaM5
import Derived.Deep.OwnRows
namespace Go.Proofs.Ytbfgioinjggkkaa
open Go.RowKit Go.Maps Stw

set_option maxHeartbeats 2000000 in
theorem refReaches_not (n fr : Int) (ao : Option Addr) (len cap : Nat) (ls : List Lk) (w : World) (hlen : ls.length = len) (hl : NetAt w ao ls) (hx : len ≤ 9223372036854775807) (hcap : len ≤ cap) (hno : ¬ ((wrong n ls).1 = 0 ∧ swB n fr = true)) :
    Calls Try.prog 11 #[.agg #[.int .i64 n, .slice ao len cap], .int .i64 fr] w fun e w' => e = .returned (.slice none 0 0) ∧ Ext w w' := by
  have hfd := fldErr
  rcases (show ((wrong n ls).1 != 0) = true ∨ (((wrong n ls).1 != 0) = false ∧ fr < 0) ∨ (((wrong n ls).1 != 0) = false ∧ ¬ fr < 0 ∧ n ≤ fr) by
    by_cases h : (wrong n ls).1 = 0
    · right
      have hs : swB n fr = false := by
        cases e : swB n fr
        · rfl
        · exact absurd ⟨h, e⟩ hno
      rw [swB_false] at hs
      have hb : ((wrong n ls).1 != 0) = false := by simp [h]
      by_cases h0 : fr < 0
      · exact Or.inl ⟨hb, h0⟩
      · exact Or.inr ⟨hb, h0, by omega⟩
    · left; simpa using h) with hq | ⟨hq1, hq2⟩ | ⟨hq1, hq2, hq3⟩
  all_goals
    clear hno
    go_enter Try.func11, Try.ntmps11
    go_wp2_with fail
    refine (refWrong_any n ao len cap ls _ hlen (hl.ext ((Ext.refl w).alloc _)) hx hcap).mono ?_
    rintro e w1 ⟨rfl, hb1⟩
    have c0 : w1.cell? ⟨w.heap.size, 0, none⟩ = some (.int .i64 n) := (hb1.cells.1 _ _ (by simp)).trans (by simp)
    go_wp2
    go_ret
    exact ⟨rfl, ((Ext.refl w).alloc _).trans hb1⟩

theorem row_start (w : World) {nn : Nat} {fr : Int} (h0 : 0 ≤ fr) (h1 : fr < nn) : (w.alloc (.cells ((madeCells #[.bool false] nn).setIfInBounds fr.toNat (.bool true)) 4)).rowIs w.heap.size 4 nn (fun i => .bool ((i : Int) == fr)) := by
  have h := World.rowIs_alloc w ((madeCells #[.bool false] nn).setIfInBounds fr.toNat (.bool true)) 4 (fun i => .bool ((i : Int) == fr)) (fun i hi => by
    rw [Array.getElem?_setIfInBounds]
    simp only [Array.size_setIfInBounds] at hi
    have hn : i < nn := by simpa [size_madeCells] using hi
    by_cases e : fr.toNat = i
    · rw [if_pos e]
      have : (i : Int) = fr := by omega
      simp [this, size_madeCells]; omega
    · rw [if_neg e]
      have e2 : ((i : Int) == fr) = false := by simp; omega
      rw [e2]
      simp [madeCells, hn, Nat.mod_one])
  simpa [size_madeCells] using h

theorem row_upd {w : World} {R nn : Nat} {T : Int → Bool} {l : Lk} (h : w.rowIs R 4 nn (fun i => .bool (T i))) (ha : 0 ≤ l.a) (hb : 0 ≤ l.b) (hc : (T l.a || T l.b) = true) :
    ((w.setCell ⟨R, l.a.toNat, none⟩ (.bool true)).setCell ⟨R, l.b.toNat, none⟩ (.bool true)).rowIs R 4 nn (fun i => .bool (upd T l i)) := by
  refine ((h.set l.a.toNat (.bool true)).set l.b.toNat (.bool true)).congr (fun i _ => ?_)
  rw [upd_yes hc]
  by_cases e1 : i = l.b.toNat
  · have : (i : Int) = l.b := by omega
    rw [if_pos e1, this]; simp
  · by_cases e2 : i = l.a.toNat
    · have : (i : Int) = l.a := by omega
      rw [if_neg e1, if_pos e2, this]; simp
    · have n1 : ((i : Int) == l.b) = false := by simp; omega
      have n2 : ((i : Int) == l.a) = false := by simp; omega
      simp [e1, e2, n1, n2]

set_option maxRecDepth 100000 in
set_option maxHeartbeats 4000000 in
theorem refReaches_yes (nn : Nat) (fr : Int) (ao : Option Addr) (len cap : Nat) (ls : List Lk) (w : World) (hlen : ls.length = len) (hl : NetAt w ao ls) (hx : len ≤ 9223372036854775807) (hcap : len ≤ cap) (hr : wrong (nn : Int) ls = (0, 0)) (h0 : 0 ≤ fr) (h1 : fr < nn) :
    Calls Try.prog 11 #[.agg #[.int .i64 nn, .slice ao len cap], .int .i64 fr] w fun e w' => ∃ lo lc L, e = .returned (.slice lo L.length lc) ∧ ListAt w' lo L ∧ RL nn ls fr L ∧ Ext w w' := by
  have hfd := fldErr
  have HR : Hid (wrong (nn : Int) ls = (0, 0)) := hr
  have hright := right_of (by rw [hr] : (wrong (nn : Int) ls).1 = 0)
  have hbd := hright.bounds
  have hmk := run_make_row' (P := Try.prog) 56 4 (.bool false) 1 Try.underlying56 (by kernel_rfl) rfl .i64 .i64 nn (by omega) (by omega)
  clear hr
  go_enter Try.func11, Try.ntmps11
  go_wp2_with fail
  refine (refWrong_any nn ao len cap ls _ hlen (hl.ext ((Ext.refl w).alloc _)) hx hcap).mono ?_
  rintro e w1 ⟨he, hb1⟩
  rw [HR.out] at he
  subst he
  have hs1 : w.heap.size < w1.heap.size := by have := hb1.size; simp at this; omega
  have hw1 : Ext w w1 := ((Ext.refl w).alloc _).trans hb1
  have c0 : w1.cell? ⟨w.heap.size, 0, none⟩ = some (.int .i64 nn) := (hb1.cells.1 _ _ (by simp)).trans (by simp)
  have c1 : w1.cell? ⟨w.heap.size, 1, none⟩ = some (.slice ao len cap) := (hb1.cells.1 _ _ (by simp)).trans (by simp)
  have hrow0 := World.rowIs_made w1 (.bool false) nn 4
  have r0 := hrow0.cell (i := fr.toNat) (by omega)
  have r1 := hrow0.frozen fr.toNat
  have HROW := hid hrow0
  clear hrow0
  have i0 : (fr : Int) < (nn : Int) := h1
  have HL : Hid (∀ j, j < ls.length → ∃ b off, ao = some ⟨b, off, none⟩ ∧ b < w.heap.size ∧ w.cell? ⟨b, off + j * 3, none⟩ = some (.int .i64 (ls.getD j lk0).a) ∧ w.cell? ⟨b, off + j * 3 + 1, none⟩ = some (.int .i64 (ls.getD j lk0).b) ∧ w.cell? ⟨b, off + j * 3 + 2, none⟩ = some (.int .i64 (ls.getD j lk0).c)) := fun j hj => by
    rcases hl with rfl | ⟨b, off, e, hb, hl⟩
    · simp at hj
    · exact ⟨b, off, e, hb, hl j hj⟩
  obtain ⟨i3, hi3, hz0, hz1, hz2⟩ := info_parts Try.info3
  go_wp2
  go_loopw [33] (fun iv wr => ∃ r : Nat, r ≤ nn ∧ iv = .int .i64 r ∧ wr.rowIs w1.heap.size 4 nn (fun i => .bool (rounds' (fun y => y == fr) ls r i)) ∧ Below w1.heap.size w1 wr) (fun iv _ => nn - (intOf iv).toNat)
  case atStart => exact ⟨0, Nat.zero_le _, rfl, row_start w1 h0 h1, (Below.refl _ _).alloc (Nat.le_refl _) _⟩
  case round =>
    clear r0 r1 HROW
    obtain ⟨r, hr, rfl, hrow, hbel⟩ := hrel
    have hRl := hrow.lt
    by_cases hlt : r < nn
    · have e1 : wr.cell? ⟨w.heap.size, 1, none⟩ = some (.slice ao len cap) := (hbel.cell hs1).trans c1
      go_wp2
      go_loopw [38] (fun jv wr => ∃ j : Nat, j ≤ len ∧ jv = .int .i64 j ∧ wr.rowIs w1.heap.size 4 nn (fun i => .bool (foldTo (rounds' (fun y => y == fr) ls r) ls j i)) ∧ Below w1.heap.size w1 wr) (fun jv _ => len - (intOf jv).toNat)
      case atStart => exact ⟨0, Nat.zero_le _, rfl, hrow, hbel⟩
      case round =>
        clear hrow hbel hRl e1
        obtain ⟨j, hj, rfl, hrow, hbel⟩ := hrel
        have hRl := hrow.lt
        by_cases hjlt : j < len
        · obtain ⟨b, off, rfl, hb, m0, m1, m2⟩ := HL.out j (by omega)
          have hwr : Ext w wr := hw1.trans hbel
          rw [← hwr.cells.1 _ _ hb] at m0 m1 m2
          have hrg := hright.mem (getD_in (show j < ls.length by omega))
          obtain ⟨x, hx0⟩ : ∃ x, x = ls.getD j lk0 := ⟨_, rfl⟩
          rw [← hx0] at m0 m1 m2 hrg
          have HX : Hid (x = ls.getD j lk0) := hx0
          clear hx0
          obtain ⟨xa1, xa2, xb1, xb2, xne, _, _⟩ := hrg
          obtain ⟨T, hT⟩ : ∃ T, T = foldTo (rounds' (fun y => y == fr) ls r) ls j := ⟨_, rfl⟩
          rw [← hT] at hrow
          have HT : Hid (T = foldTo (rounds' (fun y => y == fr) ls r) ls j) := hT
          clear hT
          have ra := hrow.cell (i := x.a.toNat) (by omega)
          have rb := hrow.cell (i := x.b.toNat) (by omega)
          rw [show ((x.a.toNat : Nat) : Int) = x.a by omega] at ra
          rw [show ((x.b.toNat : Nat) : Int) = x.b by omega] at rb
          have fa := hrow.frozen x.a.toNat
          have fb := hrow.frozen x.b.toNat
          have hbr : b < wr.heap.size := by have := hwr.size; omega
          have hne1 : ¬ x.a.toNat = x.b.toNat := by omega
          cases hTa : T x.a
          · cases hTb : T x.b
            · rw [hTa] at ra
              rw [hTb] at rb
              have HU : Hid (∀ i, upd T x i = T i) := fun i => upd_no (by simp [hTa, hTb]) i
              clear hTa hTb
              go_wp2
              go_roundw
              case rel =>
                refine ⟨j + 1, by omega, by go_num, (hrow.alloc _).congr (fun i _ => ?_), hbel.alloc (by omega) _⟩
                show _ = Value.bool (upd (foldTo (rounds' (fun y => y == fr) ls r) ls j) (ls.getD j lk0) i)
                rw [← HX.out, ← HT.out, HU.out]
              case measure => simp [intOf]; omega
            · have HC : Hid ((T x.a || T x.b) = true) := by show _ = true; simp [hTb]
              rw [hTa] at ra
              rw [hTb] at rb
              clear hTa hTb
              go_wp2
              go_region
              go_wp2
              go_roundw
              case rel =>
                refine ⟨j + 1, by omega, by go_num, ?_, (((hbel.setCell (by simp) _).setCell (by simp) _).alloc (by simp; omega) _).drew⟩
                have h5 := ((row_upd hrow xa1 xb1 HC.out).alloc (.cells #[.int .i64 x.a, .int .i64 x.b, .int .i64 x.c] 43)).drew
                refine h5.congr (fun i _ => ?_)
                show _ = Value.bool (upd (foldTo (rounds' (fun y => y == fr) ls r) ls j) (ls.getD j lk0) i)
                rw [← HX.out, ← HT.out]
              case measure => simp [intOf]; omega
          · have HC : Hid ((T x.a || T x.b) = true) := by show _ = true; simp [hTa]
            obtain ⟨tb, htb⟩ : ∃ tb, tb = T x.b := ⟨_, rfl⟩
            rw [hTa] at ra
            rw [← htb] at rb
            clear hTa htb
            go_wp2
            go_region
            go_wp2
            go_roundw
            case rel =>
              refine ⟨j + 1, by omega, by go_num, ?_, (((hbel.setCell (by simp) _).setCell (by simp) _).alloc (by simp; omega) _).drew⟩
              have h5 := ((row_upd hrow xa1 xb1 HC.out).alloc (.cells #[.int .i64 x.a, .int .i64 x.b, .int .i64 x.c] 43)).drew
              refine h5.congr (fun i _ => ?_)
              show _ = Value.bool (upd (foldTo (rounds' (fun y => y == fr) ls r) ls j) (ls.getD j lk0) i)
              rw [← HX.out, ← HT.out]
            case measure => simp [intOf]; omega
        · go_wp2
          go_roundw
          case rel =>
            have hjl : j = ls.length := by omega
            refine ⟨r + 1, by omega, by go_num, ?_, hbel⟩
            rw [hjl] at hrow
            exact hrow
          case measure => simp [intOf]; omega
    · have hrn : r = nn := by omega
      obtain ⟨T, hT⟩ : ∃ T, T = rounds' (fun y => y == fr) ls nn := ⟨_, rfl⟩
      rw [hrn, ← hT] at hrow
      clear hrn
      have HT : Hid (T = rounds' (fun y => y == fr) ls nn) := hT
      clear hT
      obtain ⟨wo, rfl⟩ : ∃ wo : World, wo = wr := ⟨_, rfl⟩
      go_wp2
      go_loopw [8, 66] (fun v iv wr => ∃ k : Nat, k ≤ nn ∧ iv = .int .i64 k ∧ wr.ownsRow wo.heap.size 3 1 v (gather T k).length ((gather T k).map (Value.int .i64)) ∧ Ext wo wr) (fun _ iv _ => nn - (intOf iv).toNat)
      case atStart => exact ⟨0, Nat.zero_le _, rfl, World.ownsRow_nil _ _ _ _, Ext.refl _⟩
      case round =>
        obtain ⟨k, hk, rfl, hown, hext⟩ := hrel
        by_cases hklt : k < nn
        · have ce := (hext.cells.1 _ _ hRl).trans (hrow.cell (i := k) hklt)
          have hsz := hext.size
          have hRw : w1.heap.size < wr.heap.size := by omega
          have hgl := gather_len T k
          cases hTk : T (k : Int)
          · rw [hTk] at ce
            have HG := hid (gather_no hTk)
            clear hTk
            go_wp2
            go_roundw
            case rel => exact ⟨k + 1, by omega, by go_num, by rw [HG.out]; exact hown, hext⟩
            case measure => simp [intOf]; omega
          · rw [hTk] at ce
            have HG := hid (gather_yes hTk)
            clear hTk
            go_wp2_with (first | (at_builtin; refine wpList_append_own _ rfl _ _ 25 rfl wo.heap.size 3 i3 (.int .i64 0) 1 8 Try.underlying25 hi3 hz0 hz1 hz2 rfl (by decide) _ _ _ rfl (hown.alloc _) ⟨wr.heap.size, 0, none⟩ 1 1 [.int .i64 k] rfl rfl ?c1 ?c2 ?c3 ?c4 ?c5 ?_) | go_in)
            case c1 =>
              intro i u hu
              match i, hu with
              | 0, hu => simp at hu; subst hu; exact cell_at rfl _ _
            case c2 => intro u hu; simp at hu; subst hu; rfl
            case c3 => unfold maxLen; omega
            case c4 => omega
            case c5 => simp; omega
            · intro v' w5 hown5 hg5 _
              clear ce
              go_wp2
              go_roundw
              case rel =>
                refine ⟨k + 1, by omega, by go_num, ?_, ?_⟩
                · rw [HG.out, List.map_append, List.length_append]; simpa using hown5
                · exact Below.grown (hext.alloc _) hg5 (by simp; omega) (fun j hj => (hown.lt j hj).1)
              case measure => simp [intOf]; omega
        · have hkn : k = nn := by omega
          have hrl : RL nn ls fr (gather T nn) := gather_rl hright h0 h1 (fun i _ => by rw [HT.out])
          rw [hkn] at hown
          have hq := hown.2
          have hx3 : Ext w wr := (hw1.trans hbel).trans hext
          rcases hq with ⟨rfl, hl0⟩ | ⟨g, gc, cur, rfl, _⟩
          · have he0 : gather T nn = [] := List.eq_nil_of_length_eq_zero hl0
            rw [he0] at hrl
            go_wp2
            go_ret
            exact ⟨none, 0, [], rfl, Or.inl rfl, hrl, hx3⟩
          · have hlo := list_of_own hown
            go_wp2
            go_ret
            exact ⟨some ⟨g, 0, none⟩, gc, gather T nn, rfl, hlo.1, hrl, hx3⟩

theorem refReaches_any (n fr : Int) (ao : Option Addr) (len cap : Nat) (ls : List Lk) (w : World) (hlen : ls.length = len) (hl : NetAt w ao ls) (hx : len ≤ 9223372036854775807) (hcap : len ≤ cap) :
    Calls Try.prog 11 #[.agg #[.int .i64 n, .slice ao len cap], .int .i64 fr] w fun e w' => ∃ lo lc L, e = .returned (.slice lo L.length lc) ∧ ListAt w' lo L ∧ RL n ls fr L ∧ Ext w w' := by
  by_cases h : (wrong n ls).1 = 0 ∧ swB n fr = true
  · have hr' := right_of h.1
    obtain ⟨nn, rfl⟩ := Int.eq_ofNat_of_zero_le (show 0 ≤ n by have := hr'.bounds; omega)
    have hs := swB_true.1 h.2
    exact refReaches_yes nn fr ao len cap ls w hlen hl hx hcap hr'.wrong hs.1 hs.2
  · refine (refReaches_not n fr ao len cap ls w hlen hl hx hcap h).mono ?_
    rintro e w' ⟨rfl, h2⟩
    exact ⟨none, 0, [], rfl, Or.inl rfl, rl_none h, h2⟩

end Go.Proofs.Ytbfgioinjggkkaa
