/- What Length answers, for every net and path; nothing that was there is changed. -/
import Derived.Test.YtdiknngmepjncacW4
import Derived.Test.YtdiknngmepjncacM2
namespace Go.Proofs.Ytdiknngmepjncac
open Go.RowKit Go.Maps Stw

/-- Numbers lie at this address. -/
def IntsAt (w : World) (b off : Nat) (ps : List Int) : Prop := ∀ k, k < ps.length → w.cell? ⟨b, off + k, none⟩ = some (.int .i64 (ps.getD k 0))
def ListAt (w : World) (ao : Option Addr) (ps : List Int) : Prop := ps = [] ∨ ∃ b off, ao = some ⟨b, off, none⟩ ∧ b < w.heap.size ∧ IntsAt w b off ps
theorem ListAt.ext {w w' : World} {ao : Option Addr} {ps : List Int} (h : ListAt w ao ps) (k : Ext w w') : ListAt w' ao ps := by
  rcases h with h | ⟨b, off, h1, h2, h3⟩
  · exact Or.inl h
  · exact Or.inr ⟨b, off, h1, Nat.lt_of_lt_of_le h2 k.size, fun i hi => (k.cells.1 _ _ h2).trans (h3 i hi)⟩

theorem CostMap.below {B : Nat} {w w' : World} {m : Nat} {ls : List Lk} (h : CostMap w m ls) (hm : m < B) (k : Below B w w') : CostMap w' m ls := by
  obtain ⟨n, hn, D, hown, hD⟩ := h
  refine ⟨n, hn, D, ?_, hD⟩
  obtain ⟨es, cl, hb, r⟩ := hown
  exact ⟨es, cl, by rw [← hb]; exact k.block m hm, r⟩

/-- The array of those that were met. -/
def Met (w : World) (A : Nat) (l : List Int) : Prop := ∀ s : Nat, s < 8 → w.cell? ⟨A, s, none⟩ = some (.bool (decide ((s : Int) ∈ l))) ∧ w.frozen? ⟨A, s, none⟩ = false
theorem Met.ext {w w' : World} {A : Nat} {l : List Int} (h : Met w A l) (hA : A < w.heap.size) (k : Ext w w') : Met w' A l := fun s hs => ⟨(k.cells.1 _ _ hA).trans (h s hs).1, (k.cells.2 _ _ hA).trans (h s hs).2⟩
theorem Met.set {w : World} {A : Nat} {l : List Int} (h : Met w A l) {x : Nat} (hx : x < 8) : Met (w.setCell ⟨A, x, none⟩ (.bool true)) A (l ++ [(x : Int)]) := by
  intro s hs
  obtain ⟨h1, h2⟩ := h s hs
  refine ⟨?_, by simpa using h2⟩
  by_cases e : s = x
  · subst e
    rw [World.cell?_setCell_same w _ _ h1]
    simp
  · rw [World.cell?_setCell_other w ⟨A, x, none⟩ ⟨A, s, none⟩ _ (fun h => e (by cases h; rfl)), h1]
    simp
    omega
theorem Met.start (w : World) : Met (w.alloc (.cells #[.bool false, .bool false, .bool false, .bool false, .bool false, .bool false, .bool false, .bool false] 72)) w.heap.size [] := by
  intro s hs
  match s, hs with
  | 0, _ | 1, _ | 2, _ | 3, _ | 4, _ | 5, _ | 6, _ | 7, _ => simp

set_option maxHeartbeats 1000000 in
theorem Length_wrong (n : Int) (ao po : Option Addr) (len cap pl pc : Nat) (ls : List Lk) (w : World) (hlen : ls.length = len) (hl : NetAt w ao ls) (hx : len ≤ 9223372036854775807) (hr : (wrong n ls).1 ≠ 0) :
    Calls Try.prog 11 #[.agg #[.int .i64 n, .slice ao len cap], .slice po pl pc] w fun e w' => e = .returned (.tuple #[.int .i64 0, .bool false]) ∧ Ext w w' := by
  have hr' : ((wrong n ls).1 == 0) = false := by simpa using hr
  have HR : Hid ((wrong n ls).1 ≠ 0) := hr
  clear hr
  go_enter Try.func11, Try.ntmps11
  go_wp2_with fail
  refine (read_fault n ao len cap ls _ hlen (hl.ext ((Ext.refl w).alloc _)) hx).mono ?_
  rintro e w1 ⟨hb1, mo, rfl⟩
  go_wp2
  go_ret2
  exact ⟨rfl, (((Ext.refl w).alloc _).trans hb1).alloc _⟩

set_option maxHeartbeats 1000000 in
theorem Length_none (n : Int) (ao po : Option Addr) (len cap pc : Nat) (ls : List Lk) (w : World) (hlen : ls.length = len) (hl : NetAt w ao ls) (hx : len ≤ 9223372036854775807) (hr : wrong n ls = (0, 0)) :
    Calls Try.prog 11 #[.agg #[.int .i64 n, .slice ao len cap], .slice po 0 pc] w fun e w' => e = .returned (.tuple #[.int .i64 0, .bool false]) ∧ Ext w w' := by
  go_enter Try.func11, Try.ntmps11
  go_wp2_with fail
  refine (read_fault n ao len cap ls _ hlen (hl.ext ((Ext.refl w).alloc _)) hx).mono ?_
  rintro e w1 ⟨hb1, mo, rfl⟩
  go_wp2
  go_ret2
  exact ⟨rfl, (((Ext.refl w).alloc _).trans hb1).alloc _⟩

set_option maxHeartbeats 1000000 in
theorem Length_some (n : Int) (ao : Option Addr) (len cap b off pl pc : Nat) (ls : List Lk) (ps : List Int) (w : World) (hlen : ls.length = len) (hl : NetAt w ao ls) (hx : len ≤ 9223372036854775807)
    (hr : wrong n ls = (0, 0)) (hpl : ps.length = pl) (hp0 : 0 < pl) (hpx : pl * 8 ≤ 140737488351232) (hb : b < w.heap.size) (hp : IntsAt w b off ps) (hi : ∀ x ∈ ps, I64 x) :
    Calls Try.prog 11 #[.agg #[.int .i64 n, .slice ao len cap], .slice (some ⟨b, off, none⟩) pl pc] w fun e w' => e = .returned (.tuple #[.int .i64 (lengthOf n ls ps).1, .bool (lengthOf n ls ps).2]) ∧ Ext w w' := by
  have HR : Hid (wrong n ls = (0, 0)) := hr
  have hright := right_of (by rw [hr] : (wrong n ls).1 = 0)
  have hbd := hright.bounds
  have HC : Hid (∀ a b, 0 ≤ cost ls a b ∧ cost ls a b ≤ 1000) := fun a b => ⟨(hright.cost a b).1, (hright.cost a b).2.1⟩
  have hp0' : ((pl : Int) == 0) = false := by simp; omega
  clear hr
  go_enter Try.func11, Try.ntmps11
  go_wp2_with fail
  refine (read_any n ao len cap ls _ hlen (hl.ext ((Ext.refl w).alloc _)) hx).mono ?_
  rintro e w1 ⟨hb1, h⟩
  rcases h with ⟨hw, m, rfl, hm, hmap⟩ | ⟨hw, rfl⟩
  · clear hw
    have hs1 : w.heap.size < w1.heap.size := by have := hb1.size; simp at this; omega
    have hmB := hmap.lt
    go_wp2
    go_loopw [9, 28] (fun sm i wr => ∃ k : Nat, k ≤ pl ∧ i = .int .i64 k ∧ sm = .int .i64 (psum ls ps k) ∧ okTo n ls ps k ∧ Met wr (w1.heap.size + 1) (ps.take k) ∧
        Below (w1.heap.size + 1) (w1.alloc (.cells #[.int .i64 0, .int .i64 0] 46)) wr ∧ w1.heap.size + 1 < wr.heap.size)
      (fun _ i _ => pl - (intOf i).toNat)
    case atStart =>
      refine ⟨0, Nat.zero_le _, rfl, rfl, fun i hi => by omega, ?_, (Below.refl _ _).alloc (by simp) _, by simp⟩
      have := Met.start (w1.alloc (.cells #[.int .i64 0, .int .i64 0] 46))
      simpa using this
    case round =>
      obtain ⟨k, hk, rfl, rfl, hok, hmet, hnx, hs2⟩ := hrel
      have hw1 : Ext w1 wr := Below.trans ((Ext.refl w1).alloc _) (hnx.mono (by omega))
      have hw : Ext w wr := (((Ext.refl w).alloc _).trans hb1).trans hw1
      have hs0 : w.heap.size < wr.heap.size := by omega
      have c0 : wr.cell? ⟨w.heap.size, 0, none⟩ = some (.int .i64 n) := (hw1.cells.1 _ _ hs1).trans ((hb1.cells.1 _ _ (by simp)).trans (by simp))
      have c1 : wr.cell? ⟨w.heap.size, 1, none⟩ = some (.slice ao len cap) := (hw1.cells.1 _ _ hs1).trans ((hb1.cells.1 _ _ (by simp)).trans (by simp))
      have hmr : CostMap wr m ls := hmap.ext hw1
      have hps := psum_range (ps := ps) HC.out k
      by_cases hlt : k < pl
      · have p0 : wr.cell? ⟨b, off + k, none⟩ = some (.int .i64 (ps.getD k 0)) := (hw.cells.1 _ _ hb).trans (hp k (by omega))
        have ix : I64 (ps.getD k 0) := by rw [List.getD_eq_getElem?_getD, List.getElem?_eq_getElem (by omega : k < ps.length)]; exact hi _ (List.getElem_mem _)
        obtain ⟨x, hx0⟩ : ∃ x, x = ps.getD k 0 := ⟨_, rfl⟩
        rw [← hx0] at p0 ix
        have HX : Hid (x = ps.getD k 0) := hx0
        clear hx0
        have hbr : b < wr.heap.size := by omega
        go_wp2_with fail
        refine (isSwitch_any _ _ _ _ _ _).mono ?_; rintro e w2 ⟨rfl, hb2⟩
        cases hsw : swB n x
        · go_wp2
          go_ret2
          have hfin : lengthOf n ls ps = (0, false) := by
            have := pathB_bad (n := n) (ls := ls) (ps := ps) (i := k) (by omega) (okAt_false_sw (by rw [← HX.out]; exact hsw))
            simp [lengthOf, this]
          exact ⟨by rw [hfin]; rfl, hw.trans hb2⟩
        · have hsx := swB_true.1 hsw
          have hm2 := hmet.ext hs2 hb2
          obtain ⟨xn, hxn⟩ := Int.eq_ofNat_of_zero_le hsx.1
          have mt := hm2 xn (by omega)
          by_cases hmem : x ∈ ps.take k
          · have mt1 : w2.cell? ⟨w1.heap.size + 1, x.toNat, none⟩ = some (.bool true) := by
              rw [show x.toNat = xn by omega, mt.1, ← hxn]; simp [hmem]
            clear mt hxn hm2
            go_wp2
            go_ret2
            have hfin : lengthOf n ls ps = (0, false) := by
              have := pathB_bad (n := n) (ls := ls) (ps := ps) (i := k) (by omega) (okAt_false_met (by rw [← HX.out]; exact hmem))
              simp [lengthOf, this]
            exact ⟨by rw [hfin]; rfl, hw.trans hb2⟩
          · have mt1 : w2.cell? ⟨w1.heap.size + 1, x.toNat, none⟩ = some (.bool false) := by
              rw [show x.toNat = xn by omega, mt.1, ← hxn]; simp [hmem]
            have mt2 : w2.frozen? ⟨w1.heap.size + 1, x.toNat, none⟩ = false := by rw [show x.toNat = xn by omega]; exact mt.2
            have hs3 := hb2.size
            have hmet' : Met (w2.setCell ⟨w1.heap.size + 1, x.toNat, none⟩ (.bool true)) (w1.heap.size + 1) (ps.take (k + 1)) := by
              have h3 := hm2.set (x := xn) (by omega)
              rw [← hxn] at h3
              rw [show x.toNat = xn by omega, List.take_succ_eq_append_getElem (by omega : k < ps.length)]
              have h4 : ps[k]'(by omega) = x := by rw [HX.out]; simp [List.getD_eq_getElem?_getD, show k < ps.length by omega]
              rw [h4]; exact h3
            clear hm2 mt hxn
            cases hk0 : ((k : Int) == 0)
            · have hk1 : 1 ≤ k := by have : (k : Int) ≠ 0 := by simpa using hk0
                                     omega
              have p1 : w2.cell? ⟨b, off + (k - 1), none⟩ = some (.int .i64 (ps.getD (k - 1) 0)) := (hb2.cells.1 _ _ hbr).trans ((hw.cells.1 _ _ hb).trans (hp (k - 1) (by omega)))
              have iy : I64 (ps.getD (k - 1) 0) := by rw [List.getD_eq_getElem?_getD, List.getElem?_eq_getElem (by omega : k - 1 < ps.length)]; exact hi _ (List.getElem_mem _)
              obtain ⟨y, hy0⟩ : ∃ y, y = ps.getD (k - 1) 0 := ⟨_, rfl⟩
              rw [← hy0] at p1 iy
              have HY : Hid (y = ps.getD (k - 1) 0) := hy0
              clear hy0
              have hc := HC.out y x
              by_cases hc0 : cost ls y x = 0
              · go_wp2_with fail
                refine (joining_any _ _ _).mono ?_; rintro e w3 ⟨rfl, hb3⟩
                have hm3 : CostMap w3 m ls := ((hmr.ext hb2).setCell (by simp; omega) _).ext hb3
                have hrun := hm3.look iy ix
                rw [hc0] at hrun
                have HC0 : Hid (cost ls y x = 0) := hc0
                clear hc0 hc
                go_wp2
                go_ret2
                have hfin : lengthOf n ls ps = (0, false) := by
                  have := pathB_bad (n := n) (ls := ls) (ps := ps) (i := k) (by omega) (okAt_false_cost (by omega) (by rw [← HX.out, ← HY.out]; exact HC0.out))
                  simp [lengthOf, this]
                exact ⟨by rw [hfin]; rfl, ((hw.trans hb2).setCell (by simp; omega) _).trans hb3⟩
              · go_wp2_with fail
                refine (joining_any _ _ _).mono ?_; rintro e w3 ⟨rfl, hb3⟩
                have hm3 : CostMap w3 m ls := ((hmr.ext hb2).setCell (by simp; omega) _).ext hb3
                have hrun := hm3.look iy ix
                have hcb : (cost ls y x == 0) = false := by simpa using hc0
                go_wp2
                go_roundw
                case rel =>
                  refine ⟨k + 1, by omega, by go_num, ?_, okTo_succ hok (okAt_mk (by rw [← HX.out]; exact hsw) (by rw [← HX.out]; exact hmem) (Or.inr (by rw [← HX.out, ← HY.out]; exact hc0))), hmet'.ext (by simp; omega) hb3, below_ext ((below_ext hnx hb2 (by omega)).setCell (by simp) _) hb3 (by simp; omega), ?_⟩
                  · simp only [psum]
                    rw [if_neg (by omega), ← HX.out, ← HY.out]
                  · have := hb3.size; simp at this; omega
                case measure => simp [intOf]; omega
            · go_wp2
              have hk1 : k = 0 := by simpa using hk0
              go_roundw
              case rel => exact ⟨k + 1, by omega, by go_num, by simp [psum, hk1], okTo_succ hok (okAt_mk (by rw [← HX.out]; exact hsw) (by rw [← HX.out]; exact hmem) (Or.inl hk1)), hmet', (below_ext hnx hb2 (by omega)).setCell (by simp) _, by simp; omega⟩
              case measure => simp [intOf]; omega
      · go_wp2
        go_ret2
        have hkl : k = ps.length := by omega
        have hfin : lengthOf n ls ps = (psum ls ps ps.length, true) := by
          have h1 : pathB n ls ps = true := pathB_true.2 ⟨by intro e; rw [e] at hpl; simp at hpl; omega, by rw [← hkl]; exact hok⟩
          simp [lengthOf, h1, HR.out]
        exact ⟨by rw [hfin, ← hkl]; rfl, hw⟩
  · exact absurd (by rw [HR.out]) hw

theorem Length_any (n : Int) (ao po : Option Addr) (len cap pl pc : Nat) (ls : List Lk) (ps : List Int) (w : World) (hlen : ls.length = len) (hl : NetAt w ao ls) (hx : len ≤ 9223372036854775807)
    (hpl : ps.length = pl) (hpx : pl * 8 ≤ 140737488351232) (hp : ListAt w po ps) (hi : ∀ x ∈ ps, I64 x) :
    Calls Try.prog 11 #[.agg #[.int .i64 n, .slice ao len cap], .slice po pl pc] w fun e w' => e = .returned (.tuple #[.int .i64 (lengthOf n ls ps).1, .bool (lengthOf n ls ps).2]) ∧ Ext w w' := by
  by_cases hr : (wrong n ls).1 = 0
  · have hr' : wrong n ls = (0, 0) := (right_of hr).wrong
    rcases hp with rfl | ⟨b, off, rfl, hb, hp⟩
    · subst hpl
      have e0 : lengthOf n ls [] = (0, false) := by simp [lengthOf, pathB]
      rw [e0]
      exact Length_none n ao po len cap pc ls w hlen hl hx hr'
    · by_cases h0 : 0 < pl
      · exact Length_some n ao len cap b off pl pc ls ps w hlen hl hx hr' hpl h0 hpx hb hp hi
      · have e1 : ps = [] := List.eq_nil_of_length_eq_zero (by omega)
        subst e1
        subst hpl
        have e0 : lengthOf n ls [] = (0, false) := by simp [lengthOf, pathB]
        rw [e0]
        exact Length_none n ao _ len cap pc ls w hlen hl hx hr'
  · have e0 : lengthOf n ls ps = (0, false) := by simp [lengthOf, hr]
    rw [e0]
    exact Length_wrong n ao po len cap pl pc ls w hlen hl hx hr

end Go.Proofs.Ytdiknngmepjncac
