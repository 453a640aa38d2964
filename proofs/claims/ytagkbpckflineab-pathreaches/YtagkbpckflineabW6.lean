/- What Reaches answers, for every net and number: all switches that are reached, rising; none of a wrong net, or of no switch; nothing that was there is changed. -/
import Derived.Test.YtagkbpckflineabSrt
namespace Go.Proofs.Ytagkbpckflineab
open Go.RowKit Go.Maps Stw

set_option maxHeartbeats 1000000 in
theorem Reaches_wrong (n fr : Int) (ao : Option Addr) (len cap : Nat) (ls : List Lk) (w : World) (hlen : ls.length = len) (hl : NetAt w ao ls) (hx : len ≤ 9223372036854775807) (hr : (wrong n ls).1 ≠ 0) :
    Calls Try.prog 18 #[.agg #[.int .i64 n, .slice ao len cap], .int .i64 fr] w fun e w' => e = .returned (.slice none 0 0) ∧ Ext w w' := by
  have hr' : ((wrong n ls).1 == 0) = false := by simpa using hr
  have HR : Hid ((wrong n ls).1 ≠ 0) := hr
  clear hr
  go_enter Try.func18, Try.ntmps18
  go_wp2_with fail
  refine (read_fault n ao len cap ls _ hlen (hl.ext ((Ext.refl w).alloc _)) hx).mono ?_
  rintro e w1 ⟨hb1, mo, rfl⟩
  go_wp2
  go_ret
  exact ⟨rfl, (((Ext.refl w).alloc _).trans hb1).alloc _⟩

/-- What the search has laid: the marks, and the list. -/
def RS (A : Nat) (W wr : World) (g cap : Nat) (L : List Int) : Prop :=
  Met wr A L ∧ wr.ownsRow (A + 1) 3 1 (.slice (some ⟨g, 0, none⟩) L.length cap) L.length (L.map (Value.int .i64)) ∧ Below A W wr ∧ A < wr.heap.size

theorem RS.ext {A : Nat} {W wr w' : World} {g cap : Nat} {L : List Int} (h : RS A W wr g cap L) (k : Ext wr w') : RS A W w' g cap L := by
  obtain ⟨h1, h2, h3, h4⟩ := h
  refine ⟨h1.ext h4 k, ?_, below_ext h3 k (by omega), Nat.lt_of_lt_of_le h4 k.size⟩
  have hlt := h2.lt g rfl
  obtain ⟨e1, e2⟩ := h2
  rcases e2 with ⟨e3, _⟩ | ⟨g', cap', cur, hv, hb, hg, r⟩
  · cases e3
  · cases hv
    exact ⟨e1, Or.inr ⟨g, cap, cur, rfl, hb, (Below.block k g hlt.2).trans hg, r⟩⟩

theorem RS.cell {A : Nat} {W wr : World} {g cap : Nat} {L : List Int} (h : RS A W wr g cap L) {d : Nat} (hd : d < L.length) : wr.cell? ⟨g, d, none⟩ = some (.int .i64 (L.getD d 0)) := by
  rw [h.2.1.cellAt d (by omega), List.getElem?_map, List.getElem?_eq_getElem hd]
  simp [List.getD_eq_getElem?_getD, hd]

theorem Met.start1 (w : World) {x : Nat} (hx : x < 8) : Met (w.alloc (.cells ([Value.bool false, .bool false, .bool false, .bool false, .bool false, .bool false, .bool false, .bool false].set x (.bool true)).toArray 70)) w.heap.size [(x : Int)] := by
  intro s hs
  match x, hx with
  | 0, _ | 1, _ | 2, _ | 3, _ | 4, _ | 5, _ | 6, _ | 7, _ =>
    match s, hs with
    | 0, _ | 1, _ | 2, _ | 3, _ | 4, _ | 5, _ | 6, _ | 7, _ => simp

theorem RS.start (w : World) {fr : Int} (h0 : 0 ≤ fr) (h1 : fr < 8) : RS w.heap.size w ((w.alloc (.cells ([Value.bool false, .bool false, .bool false, .bool false, .bool false, .bool false, .bool false, .bool false].set fr.toNat (.bool true)).toArray 70)).alloc (.cells #[.int .i64 fr] 3)) (w.heap.size + 1) 1 [fr] := by
  have hm := Met.start1 w (x := fr.toNat) (by omega)
  rw [show ((fr.toNat : Nat) : Int) = fr by omega] at hm
  refine ⟨hm.ext (by simp) ((Ext.refl _).alloc _), ?_, ((Below.refl _ _).alloc (Nat.le_refl _) _).alloc (by simp) _, by simp; omega⟩
  have := World.ownsRow_lit (base := w.heap.size + 1) (e := 3) (size := 1) (w.alloc (.cells ([Value.bool false, .bool false, .bool false, .bool false, .bool false, .bool false, .bool false, .bool false].set fr.toNat (.bool true)).toArray 70)) #[.int .i64 fr] 1 (by simp) (by decide) rfl
  simpa using this

/-- A new one: marked, and put behind the list. -/
theorem RS.put {A : Nat} {W wr w' : World} {g cap : Nat} {L : List Int} {x : Nat} {v' : Value} {o : Obj} (h : RS A W wr g cap L) (hx : x < 8)
    (hown : w'.ownsRow (A + 1) 3 1 v' (L.length + 1) (L.map (Value.int .i64) ++ [.int .i64 x])) (hg : ((wr.setCell ⟨A, x, none⟩ (.bool true)).alloc o).grownBy w' (Value.slice (some ⟨g, 0, none⟩) L.length cap).ownBlock) :
    ∃ g' cap', v' = .slice (some ⟨g', 0, none⟩) (L ++ [(x : Int)]).length cap' ∧ RS A W w' g' cap' (L ++ [(x : Int)]) := by
  obtain ⟨h1, h2, h3, h4⟩ := h
  have hlt := h2.lt g rfl
  have hmet := (h1.set hx).ext (by simpa using h4) ((Ext.refl _).alloc o)
  have hb : Below A W ((wr.setCell ⟨A, x, none⟩ (.bool true)).alloc o) := (h3.setCell (by simp) _).alloc (by simp; omega) _
  have hb' : Below A W w' := hb.grown hg (by simp; omega) (fun k hk => by simp [Value.ownBlock] at hk; omega)
  have hA : w'.heap[A]? = ((wr.setCell ⟨A, x, none⟩ (.bool true)).alloc o).heap[A]? := hg.block A (by simp; omega) (by simp [Value.ownBlock]; omega)
  have hmet' : Met w' A (L ++ [(x : Int)]) := fun s hs => ⟨(World.cell?_of_block (a := ⟨A, s, none⟩) hA).trans (hmet s hs).1, (World.frozen?_of_block (a := ⟨A, s, none⟩) hA).trans (hmet s hs).2⟩
  have hsz : A < w'.heap.size := by have := hg.size; simp at this; omega
  have hq := hown.2
  rcases hq with ⟨_, e3⟩ | ⟨g', cap', cur, hv, r⟩
  · omega
  · have hl : (L ++ [(x : Int)]).length = L.length + 1 := by simp
    refine ⟨g', cap', by rw [hl]; exact hv, hmet', ?_, hb', hsz⟩
    rw [hl, ← hv]
    simpa using hown

theorem list_of_own {w : World} {base g n cap : Nat} {L : List Int} (h : w.ownsRow base 3 1 (.slice (some ⟨g, 0, none⟩) n cap) n (L.map (Value.int .i64))) : ListAt w (some ⟨g, 0, none⟩) L ∧ L.length = n := by
  have hl : L.length = n := by have := h.1; simp at this; omega
  refine ⟨Or.inr ⟨g, 0, rfl, (h.lt g rfl).2, fun k hk => ?_⟩, hl⟩
  rw [Nat.zero_add, h.cellAt k (by omega), List.getElem?_map, List.getElem?_eq_getElem hk]
  simp [List.getD_eq_getElem?_getD, hk]

theorem cell_at {W : World} {n : Nat} (h : W.heap.size = n) (v : Value) (T : TypeId) : (W.alloc (.cells #[v] T)).cell? ⟨n, 0, none⟩ = some v := by subst h; simp

theorem Try.info3 : (Try.prog.info? 3).map (fun i => (i.zero, i.size, i.bytes)) = some (some (.int .i64 0), 1, 8) := by kernel_rfl

set_option maxRecDepth 100000 in
set_option maxHeartbeats 2000000 in
theorem Reaches_right (nn : Nat) (fr : Int) (ao : Option Addr) (len cap : Nat) (ls : List Lk) (w : World) (hlen : ls.length = len) (hl : NetAt w ao ls) (hx : len ≤ 9223372036854775807) (hr : wrong (nn : Int) ls = (0, 0)) :
    Calls Try.prog 18 #[.agg #[.int .i64 nn, .slice ao len cap], .int .i64 fr] w fun e w' => ∃ lo lc L, e = .returned (.slice lo L.length lc) ∧ ListAt w' lo L ∧ RL nn ls fr L ∧ Ext w w' := by
  have HR : Hid (wrong (nn : Int) ls = (0, 0)) := hr
  have hright := right_of (by rw [hr] : (wrong (nn : Int) ls).1 = 0)
  have hbd := hright.bounds
  clear hr
  go_enter Try.func18, Try.ntmps18
  go_wp2_with fail
  refine (read_any nn ao len cap ls _ hlen (hl.ext ((Ext.refl w).alloc _)) hx).mono ?_
  rintro e w1 ⟨hb1, h⟩
  rcases h with ⟨hw, m, rfl, hm, hmap⟩ | ⟨hw, rfl⟩
  · clear hw
    have hs1 : w.heap.size < w1.heap.size := by have := hb1.size; simp at this; omega
    have hmB := hmap.lt
    have c0 : w1.cell? ⟨w.heap.size, 0, none⟩ = some (.int .i64 nn) := (hb1.cells.1 _ _ (by simp)).trans (by simp)
    have c1 : w1.cell? ⟨w.heap.size, 1, none⟩ = some (.slice ao len cap) := (hb1.cells.1 _ _ (by simp)).trans (by simp)
    go_wp2_with fail
    refine (isSwitch_any _ _ _ _ _ _).mono ?_; rintro e w2 ⟨rfl, hb2⟩
    have hw2 : Ext w w2 := ((((Ext.refl w).alloc _).trans hb1).alloc _).trans hb2
    cases hsw : swB nn fr
    · go_wp2
      go_ret
      exact ⟨none, 0, [], rfl, Or.inl rfl, rl_none (by simp [hsw]), hw2⟩
    · have hsx := swB_true.1 hsw
      have hs2 : w.heap.size < w2.heap.size := by have := hb2.size; simp at this; omega
      have d0 : w2.cell? ⟨w.heap.size, 0, none⟩ = some (.int .i64 nn) := (hb2.cells.1 _ _ (by simp; omega)).trans ((World.cell?_alloc_past _ _ _ hs1).trans c0)
      have hm2 : CostMap w2 m ls := (hmap.ext ((Ext.refl w1).alloc _)).ext hb2
      have hmB2 := hm2.lt
      have mt : ((w2.alloc (.cells #[.bool false, .bool false, .bool false, .bool false, .bool false, .bool false, .bool false, .bool false] 70)).cell? ⟨w2.heap.size, fr.toNat, none⟩) = some (.bool false) ∧ ((w2.alloc (.cells #[.bool false, .bool false, .bool false, .bool false, .bool false, .bool false, .bool false, .bool false] 70)).frozen? ⟨w2.heap.size, fr.toNat, none⟩) = false := by
        have := Met.start w2 fr.toNat (by omega)
        simpa using this
      obtain ⟨mt1, mt2⟩ := mt
      go_wp2
      have hcr : ∀ a b, cost ls a b ≠ 0 → 0 ≤ b ∧ b < (nn : Int) := fun a b h => by have := (hright.cost a b).2.2 h; omega
      have HCR : Hid (∀ a b, cost ls a b ≠ 0 → 0 ≤ b ∧ b < (nn : Int)) := hcr
      clear hcr mt1 mt2
      obtain ⟨i0, hi, hz0, hz1, hz2⟩ := info_parts Try.info3
      go_loopw [8, 9] (fun v dn wr => ∃ (g lc : Nat) (L : List Int) (d : Nat), v = .slice (some ⟨g, 0, none⟩) L.length lc ∧ dn = .int .i64 d ∧ d ≤ L.length ∧ Bfs nn ls fr L d ∧ RS w2.heap.size w2 wr g lc L)
        (fun _ dn _ => 8 - (intOf dn).toNat)
      case atStart => exact ⟨w2.heap.size + 1, 1, [fr], 0, rfl, rfl, by simp, Bfs.start hsx.1 hsx.2, RS.start w2 hsx.1 (by omega)⟩
      case round =>
        obtain ⟨g, lc, L, d, rfl, rfl, hd, hbfs, hrs⟩ := hrel
        have hL8 := hbfs.len (by omega)
        obtain ⟨wo, rfl⟩ : ∃ wo : World, wo = wr := ⟨_, rfl⟩
        have hwo : Ext w wo := hw2.trans (show Below w2.heap.size w2 wo from hrs.2.2.1)
        by_cases hlt : d < L.length
        · have e0 : wo.cell? ⟨w.heap.size, 0, none⟩ = some (.int .i64 nn) := (hrs.2.2.1.cell (by exact hs2)).trans d0
          go_wp2_with fail
          go_loopw [8, 37] (fun v jv wr => ∃ (g lc : Nat) (L : List Int) (j : Nat), v = .slice (some ⟨g, 0, none⟩) L.length lc ∧ jv = .int .i64 j ∧ j ≤ nn ∧ d < L.length ∧ Bfs nn ls fr L d ∧ Near ls L d j ∧ RS w2.heap.size w2 wr g lc L)
            (fun _ jv _ => nn - (intOf jv).toNat)
          case atStart => exact ⟨g, lc, L, 0, rfl, rfl, by omega, hlt, hbfs, near_zero, hrs⟩
          case round =>
            clear hlt hbfs hrs hwo hd hL8 e0
            obtain ⟨g, lc, L, j, rfl, rfl, hj, hlt, hbfs, hnear, hrs⟩ := hrel
            have hL8 := hbfs.len (by omega)
            have hwo : Ext w wr := hw2.trans (show Below w2.heap.size w2 wr from hrs.2.2.1)
            by_cases hjn : j < nn
            · have mt := hrs.1 j (by omega)
              by_cases hmem : (j : Int) ∈ L
              · have mt1 : wr.cell? ⟨w2.heap.size, j, none⟩ = some (.bool true) := by rw [mt.1]; simp [hmem]
                clear mt
                go_wp2
                go_roundw
                case rel => exact ⟨g, lc, L, j + 1, rfl, by go_num, by omega, hlt, hbfs, hnear.skip (Or.inl hmem), hrs⟩
                case measure => simp [intOf]; omega
              · have mt1 : wr.cell? ⟨w2.heap.size, j, none⟩ = some (.bool false) := by rw [mt.1]; simp [hmem]
                have mt2 := mt.2
                have ce := hrs.cell hlt
                have hrx := hbfs.rng _ (getD_mem hlt)
                obtain ⟨x, hx0⟩ : ∃ x, x = L.getD d 0 := ⟨_, rfl⟩
                rw [← hx0] at ce hrx
                have HX : Hid (x = L.getD d 0) := hx0
                have ix : I64 x := i64_small (by omega) (by omega)
                have ij : I64 (j : Int) := i64_small (by omega) (by omega)
                clear mt hx0
                go_wp2_with fail
                refine (joining_any _ _ _).mono ?_; rintro e w3 ⟨rfl, hb3⟩
                have hm3 : CostMap w3 m ls := (hm2.below hmB2 hrs.2.2.1).ext hb3
                have hrun := hm3.look ix ij
                have hrs3 := hrs.ext hb3
                by_cases hc : 0 < cost ls x (j : Int)
                · have mt3 : w3.cell? ⟨w2.heap.size, j, none⟩ = some (.bool false) := (hb3.cells.1 _ _ hrs.2.2.2).trans mt1
                  have mt4 : w3.frozen? ⟨w2.heap.size, j, none⟩ = false := (hb3.cells.2 _ _ hrs.2.2.2).trans mt2
                  clear mt1 mt2 ce
                  have hset := ownsRow_setCell_below hrs3.2.1 (a := ⟨w2.heap.size, j, none⟩) (by simp) (.bool true)
                  go_wp2_with (first | (at_builtin; refine wpList_append_own _ rfl _ _ 26 rfl (w2.heap.size + 1) 3 i0 (.int .i64 0) 1 8 Try.underlying26 hi hz0 hz1 hz2 rfl (by decide) _ _ _ rfl (hset.alloc _) ⟨w3.heap.size, 0, none⟩ 1 1 [.int .i64 j] rfl rfl ?c1 ?c2 ?c3 ?c4 ?c5 ?_) | go_in)
                  case c1 =>
                    intro i u hu
                    match i, hu with
                    | 0, hu => simp at hu; subst hu; exact cell_at (by simp) _ _
                  case c2 => intro u hu; simp at hu; subst hu; rfl
                  case c3 => unfold maxLen; omega
                  case c4 => omega
                  case c5 => have := hrs3.2.2.2; simp; omega
                  · intro v' w5 hown5 hg5 _
                    obtain ⟨g', lc', hv', hrs5⟩ := hrs3.put (by omega) hown5 hg5
                    clear hown5 hg5 hset
                    go_wp2
                    go_roundw
                    case rel => exact ⟨g', lc', L ++ [(j : Int)], j + 1, hv', by go_num, by omega, by simp; omega, hbfs.add hlt hmem (by omega) (by omega) (by rw [← HX.out]; exact hc), hnear.add hlt, hrs5⟩
                    case measure => simp [intOf]; omega
                · go_wp2
                  go_roundw
                  case rel => exact ⟨g, lc, L, j + 1, rfl, by go_num, by omega, hlt, hbfs, hnear.skip (Or.inr (by rw [← HX.out]; omega)), hrs3⟩
                  case measure => simp [intOf]; omega
            · go_wp2
              go_roundw
              case rel => exact ⟨g, lc, L, d + 1, rfl, by go_num, by omega, hbfs.next (by omega) hnear HCR.out, hrs⟩
              case measure => simp [intOf]; omega
        · go_wp2_with fail
          refine (sort_any (w2.heap.size + 1) g lc L _ hrs.2.1 (by omega)).mono ?_
          rintro e w4 ⟨rfl, hown4, hg4⟩
          go_wp2
          go_ret
          have hlo := list_of_own hown4
          refine ⟨some ⟨g, 0, none⟩, lc, L.mergeSort (fun x y => decide (x ≤ y)), ?_, hlo.1, rl_of hbfs (by omega) (by rw [HR.out]) hsw, ?_⟩
          · rw [hlo.2]; rfl
          · have := hrs.2.1.lt g rfl
            exact Below.grown hwo hg4 hwo.size (fun k hk => by cases hk; have := hw2.size; omega)
  · exact absurd (by rw [HR.out]) hw

theorem Reaches_any (n fr : Int) (ao : Option Addr) (len cap : Nat) (ls : List Lk) (w : World) (hlen : ls.length = len) (hl : NetAt w ao ls) (hx : len ≤ 9223372036854775807) :
    Calls Try.prog 18 #[.agg #[.int .i64 n, .slice ao len cap], .int .i64 fr] w fun e w' => ∃ lo lc L, e = .returned (.slice lo L.length lc) ∧ ListAt w' lo L ∧ RL n ls fr L ∧ Ext w w' := by
  by_cases hr : (wrong n ls).1 = 0
  · have hr' := right_of hr
    obtain ⟨nn, rfl⟩ := Int.eq_ofNat_of_zero_le (show 0 ≤ n by have := hr'.bounds; omega)
    exact Reaches_right nn fr ao len cap ls w hlen hl hx hr'.wrong
  · refine (Reaches_wrong n fr ao len cap ls w hlen hl hx hr).mono ?_
    rintro e w' ⟨rfl, h⟩
    exact ⟨none, 0, [], rfl, Or.inl rfl, rl_none (fun h => hr h.1), h⟩

end Go.Proofs.Ytagkbpckflineab
