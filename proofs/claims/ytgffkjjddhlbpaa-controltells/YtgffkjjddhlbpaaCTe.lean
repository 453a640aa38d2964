/- What the document's own All answers, for every right net, path and end: all paths on from there, in order; nothing that was there is changed. -/
import Derived.Test.YtgffkjjddhlbpaaW4
import Derived.Test.YtgffkjjddhlbpaaM2
import Derived.Lib.QuietBelow
import Derived.Test.YtgffkjjddhlbpaaH10
import Derived.Test.YtgffkjjddhlbpaaQ3
import Derived.Test.YtgffkjjddhlbpaaP1
import Derived.Test.YtgffkjjddhlbpaaP2
import Derived.Test.YtgffkjjddhlbpaaM3
import Derived.Deep.RegionHeld3
import Derived.Deep.AppendLies
import Derived.Maps.AppendAt
/- What the document's own Cost and Length answer, for every net and list; nothing that was there is changed. -/
namespace Go.Proofs.Ytgffkjjddhlbpaa
open Go.RowKit Go.Maps Stw Go.Sort

theorem jn_cases2 (y : Lk) (a b : Int) : ((a == y.a) = true ∧ (b == y.b) = true ∧ jn y a b = true) ∨ ((a == y.a) = true ∧ (b == y.b) = false ∧ (a == y.b) = true ∧ (b == y.a) = true ∧ jn y a b = true) ∨ ((a == y.a) = true ∧ (b == y.b) = false ∧ (a == y.b) = true ∧ (b == y.a) = false ∧ jn y a b = false) ∨
    ((a == y.a) = true ∧ (b == y.b) = false ∧ (a == y.b) = false ∧ jn y a b = false) ∨ ((a == y.a) = false ∧ (a == y.b) = true ∧ (b == y.a) = true ∧ jn y a b = true) ∨ ((a == y.a) = false ∧ (a == y.b) = true ∧ (b == y.a) = false ∧ jn y a b = false) ∨ ((a == y.a) = false ∧ (a == y.b) = false ∧ jn y a b = false) := by
  unfold jn
  rw [BEq.comm (a := a) (b := y.a), BEq.comm (a := b) (b := y.b), BEq.comm (a := a) (b := y.b), BEq.comm (a := b) (b := y.a)]
  cases (y.a == a) <;> cases (y.b == b) <;> cases (y.a == b) <;> cases (y.b == a) <;> simp

theorem cost_at : ∀ {ls : List Lk} {k : Nat} {a b : Int}, k < ls.length → (∀ j, j < k → jn (ls.getD j lk0) a b = false) → jn (ls.getD k lk0) a b = true → cost ls a b = (ls.getD k lk0).c
  | [], _, _, _, h, _, _ => by simp at h
  | l :: r, 0, a, b, _, _, h => by
    have h' : jn l a b = true := h
    simp [cost, h']
  | l :: r, k + 1, a, b, hk, h0, h1 => by
    have h2 : jn l a b = false := h0 0 (by omega)
    simp only [cost, h2, Bool.false_eq_true, if_false]
    have := cost_at (ls := r) (k := k) (a := a) (b := b) (by simpa using hk) (fun j hj => h0 (j + 1) (by omega)) h1
    simpa using this
theorem cost_not : ∀ {ls : List Lk} {a b : Int}, (∀ j, j < ls.length → jn (ls.getD j lk0) a b = false) → cost ls a b = 0
  | [], _, _, _ => rfl
  | l :: r, a, b, h0 => by
    have h2 : jn l a b = false := h0 0 (by simp)
    simp only [cost, h2, Bool.false_eq_true, if_false]
    exact cost_not (fun j hj => h0 (j + 1) (by simp; omega))

set_option maxHeartbeats 1000000 in
theorem refCost_none (n a b : Int) (ao : Option Addr) (cap : Nat) (w : World) :
    Calls Try.prog 78 #[.agg #[.int .i64 n, .slice ao 0 cap], .int .i64 a, .int .i64 b] w fun e w' => e = .returned (.int .i64 0) ∧ Ext w w' := by
  go_enter Try.func78, Try.ntmps78
  go_wp2
  refine wp_loop_rounds 1 ?_
  rw [rounds_succ]
  go_wp2
  go_ret
  exact ⟨rfl, (Ext.refl w).alloc _⟩

set_option maxHeartbeats 2000000 in
theorem refCost_some (n a0 b0 : Int) (b off len cap : Nat) (ls : List Lk) (w : World) (hlen : ls.length = len) (hl : LinksAt w b off ls) (hbl : b < w.heap.size) (hx : len ≤ 9223372036854775807) :
    Calls Try.prog 78 #[.agg #[.int .i64 n, .slice (some ⟨b, off, none⟩) len cap], .int .i64 a0, .int .i64 b0] w fun e w' => e = .returned (.int .i64 (cost ls a0 b0)) ∧ Ext w w' := by
  go_enter Try.func78, Try.ntmps78
  go_wp2
  go_loopw [12] (fun i wr => ∃ k : Nat, k ≤ len ∧ i = .int .i64 k ∧ (∀ j, j < k → jn (ls.getD j lk0) a0 b0 = false) ∧ Ext w wr) (fun i _ => len - (intOf i).toNat)
  case atStart => exact ⟨0, Nat.zero_le _, rfl, fun j hj => by omega, (Ext.refl w).alloc _⟩
  case round =>
    obtain ⟨k, hk, rfl, hno, hext⟩ := hrel
    by_cases hlt : k < len
    · obtain ⟨m0, m1, m2⟩ := hl k (by omega)
      rw [← hext.cells.1 _ _ hbl] at m0 m1 m2
      have hjc := jn_cases2 (ls.getD k lk0) a0 b0
      have hca := cost_at (ls := ls) (k := k) (a := a0) (b := b0) (by omega) hno
      obtain ⟨y, hy⟩ : ∃ y, y = ls.getD k lk0 := ⟨_, rfl⟩
      rw [← hy] at m0 m1 m2 hjc hca
      have HY : Hid (y = ls.getD k lk0) := hy
      have HCA : Hid (jn y a0 b0 = true → cost ls a0 b0 = y.c) := hca
      have HNO : Hid (∀ j, j < k → jn (ls.getD j lk0) a0 b0 = false) := hno
      clear hy hca hno
      have hbr : b < wr.heap.size := by have := hext.size; omega
      rcases hjc with ⟨j1, j2, j3⟩ | ⟨j1, j2, j4, j5, j3⟩ | ⟨j1, j2, j4, j5, j3⟩ | ⟨j1, j2, j4, j3⟩ | ⟨j1, j4, j5, j3⟩ | ⟨j1, j4, j5, j3⟩ | ⟨j1, j4, j3⟩
      all_goals
        have HJ : Hid _ := j3
        clear j3
        go_wp2
        first
        | (go_ret
           exact ⟨by rw [HCA.out HJ.out]; rfl, hext.alloc _⟩)
        | (go_roundw
           (case rel =>
             refine ⟨k + 1, by omega, by go_num, fun j hj => ?_, hext.alloc _⟩
             by_cases e : j = k
             · subst e; rw [← HY.out]; exact HJ.out
             · exact HNO.out j (by omega))
           (case measure => simp [intOf]; omega))
    · go_wp2
      go_ret
      exact ⟨by rw [cost_not (fun j hj => hno j (by omega))]; rfl, hext⟩

theorem refCost_any (n a0 b0 : Int) (ao : Option Addr) (len cap : Nat) (ls : List Lk) (w : World) (hlen : ls.length = len) (hl : NetAt w ao ls) (hx : len ≤ 9223372036854775807) :
    Calls Try.prog 78 #[.agg #[.int .i64 n, .slice ao len cap], .int .i64 a0, .int .i64 b0] w fun e w' => e = .returned (.int .i64 (cost ls a0 b0)) ∧ Ext w w' := by
  rcases hl with rfl | ⟨b, off, rfl, hb, hl⟩
  · subst hlen
    exact refCost_none n a0 b0 ao cap w
  · exact refCost_some n a0 b0 b off len cap ls w hlen hl hb hx

end Go.Proofs.Ytgffkjjddhlbpaa

/- What the document's own Length answers, for every right net and every list; nothing that was there is changed. -/
namespace Go.Proofs.Ytgffkjjddhlbpaa
open Go.RowKit Go.Maps Stw Go.Sort

theorem getD_mem' {L : List Int} {i : Nat} (h : i < L.length) : L.getD i 0 ∈ L := by
  rw [List.getD_eq_getElem?_getD, List.getElem?_eq_getElem h]; exact List.getElem_mem h
theorem not_mem_take {ps : List Int} {k : Nat} {x : Int} (hk : k ≤ ps.length) (h : ∀ j, j < k → (ps.getD j 0 == x) = false) : ¬ x ∈ ps.take k := by
  intro hm
  rw [List.mem_take_iff_getElem] at hm
  obtain ⟨j, hj, e⟩ := hm
  have := h j (by omega)
  rw [List.getD_eq_getElem?_getD, List.getElem?_eq_getElem (by omega : j < ps.length)] at this
  simp [e] at this
theorem mem_take' {ps : List Int} {k m : Nat} {x : Int} (hk : k ≤ ps.length) (hm : m < k) (h : (ps.getD m 0 == x) = true) : x ∈ ps.take k := by
  rw [List.mem_take_iff_getElem]
  refine ⟨m, by omega, ?_⟩
  rw [List.getD_eq_getElem?_getD, List.getElem?_eq_getElem (by omega : m < ps.length)] at h
  simpa using h

set_option maxHeartbeats 1000000 in
theorem refLength_none (n : Int) (ao po : Option Addr) (len cap pc : Nat) (w : World) :
    Calls Try.prog 69 #[.agg #[.int .i64 n, .slice ao len cap], .slice po 0 pc] w fun e w' => e = .returned (.tuple #[.int .i64 0, .bool false]) ∧ Ext w w' := by
  go_enter Try.func69, Try.ntmps69
  go_wp2
  refine wp_loop_rounds 1 ?_
  rw [rounds_succ]
  go_wp2
  go_ret2
  exact ⟨rfl, (Ext.refl w).alloc _⟩

set_option maxRecDepth 100000 in
set_option maxHeartbeats 4000000 in
theorem refLength_some (n : Int) (ao : Option Addr) (len cap b off pl pc : Nat) (ls : List Lk) (ps : List Int) (w : World) (hlen : ls.length = len) (hl : NetAt w ao ls) (hx : len ≤ 9223372036854775807)
    (hr : wrong n ls = (0, 0)) (hpl : ps.length = pl) (hp0 : 0 < pl) (hpx : pl * 8 ≤ 140737488351232) (hb : b < w.heap.size) (hp : IntsAt w b off ps) :
    Calls Try.prog 69 #[.agg #[.int .i64 n, .slice ao len cap], .slice (some ⟨b, off, none⟩) pl pc] w fun e w' => e = .returned (.tuple #[.int .i64 (lengthOf n ls ps).1, .bool (lengthOf n ls ps).2]) ∧ Ext w w' := by
  have HR : Hid (wrong n ls = (0, 0)) := hr
  have hright := right_of (by rw [hr] : (wrong n ls).1 = 0)
  have HC : Hid (∀ a b, 0 ≤ cost ls a b ∧ cost ls a b ≤ 1000) := fun a b => ⟨(hright.cost a b).1, (hright.cost a b).2.1⟩
  have HBAD : Hid (∀ i, i < ps.length → okAt n ls ps i = false → lengthOf n ls ps = (0, false)) := fun i hi h => by
    have := pathB_bad (n := n) (ls := ls) (ps := ps) (i := i) hi h
    simp [lengthOf, this]
  clear hr
  go_enter Try.func69, Try.ntmps69
  go_wp2
  go_loopw [6, 12] (fun sm i wr => ∃ k : Nat, k ≤ pl ∧ i = .int .i64 k ∧ sm = .int .i64 (psum ls ps k) ∧ okTo n ls ps k ∧ Ext (w.alloc (.cells #[.int .i64 n, .slice ao len cap] 31)) wr) (fun _ i _ => pl - (intOf i).toNat)
  case atStart => exact ⟨0, Nat.zero_le _, rfl, rfl, fun i hi => by omega, Ext.refl _⟩
  case round =>
    obtain ⟨k, hk, rfl, rfl, hok, hxt⟩ := hrel
    obtain ⟨wo, rfl⟩ : ∃ wo : World, wo = wr := ⟨_, rfl⟩
    have hext : Ext w wo := ((Ext.refl w).alloc _).trans hxt
    have hs0 : w.heap.size < wo.heap.size := by have := hxt.size; simp at this; omega
    have c0 : wo.cell? ⟨w.heap.size, 0, none⟩ = some (.int .i64 n) := (hxt.cells.1 _ _ (by simp)).trans (by simp)
    have c1 : wo.cell? ⟨w.heap.size, 1, none⟩ = some (.slice ao len cap) := (hxt.cells.1 _ _ (by simp)).trans (by simp)
    have hps := psum_range (ps := ps) HC.out k
    by_cases hlt : k < pl
    · have p0 : wo.cell? ⟨b, off + k, none⟩ = some (.int .i64 (ps.getD k 0)) := (hext.cells.1 _ _ hb).trans (hp k (by omega))
      obtain ⟨x, hx0⟩ : ∃ x, x = ps.getD k 0 := ⟨_, rfl⟩
      rw [← hx0] at p0
      have HX : Hid (x = ps.getD k 0) := hx0
      clear hx0
      have hbr : b < wo.heap.size := by have := hext.size; omega
      by_cases hsw : x < 0 ∨ n ≤ x
      · have HF : Hid (lengthOf n ls ps = (0, false)) := HBAD.out k (by omega) (okAt_false_sw (by rw [← HX.out, swB_false]; omega))
        rcases (show x < 0 ∨ (¬ x < 0 ∧ n ≤ x) by omega) with hq | ⟨hq1, hq2⟩
        all_goals
          clear hsw
          go_wp2
          go_ret2
          exact ⟨by rw [HF.out]; rfl, hext⟩
      · have hs1 : 0 ≤ x := by omega
        have hs2 : x < n := by omega
        clear hsw
        go_wp2
        go_loopw [9] (fun jv wr => ∃ m : Nat, m ≤ k ∧ jv = .int .i64 m ∧ (∀ j, j < m → (ps.getD j 0 == x) = false) ∧ wr = wo) (fun jv _ => k - (intOf jv).toNat)
        case atStart => exact ⟨0, Nat.zero_le _, rfl, fun j hj => by omega, rfl⟩
        case round =>
          obtain ⟨m, hmk, rfl, hno, rfl⟩ := hrel
          by_cases hmlt : m < k
          · have q0 : wr.cell? ⟨b, off + m, none⟩ = some (.int .i64 (ps.getD m 0)) := (hext.cells.1 _ _ hb).trans (hp m (by omega))
            have hmt := mem_take' (ps := ps) (k := k) (m := m) (x := x) (by omega) hmlt
            obtain ⟨y, hy0⟩ : ∃ y, y = ps.getD m 0 := ⟨_, rfl⟩
            rw [← hy0] at q0 hmt
            have HY : Hid (y = ps.getD m 0) := hy0
            have HMT : Hid ((y == x) = true → x ∈ ps.take k) := hmt
            have HNO : Hid (∀ j, j < m → (ps.getD j 0 == x) = false) := hno
            clear hy0 hmt hno
            cases hyx : (y == x)
            · have HYX : Hid ((y == x) = false) := hyx
              go_wp2
              go_roundw
              case rel =>
                refine ⟨m + 1, by omega, by go_num, fun j hj => ?_, by trivial⟩
                by_cases e : j = m
                · subst e; rw [← HY.out]; exact HYX.out
                · exact HNO.out j (by omega)
              case measure => simp [intOf]; omega
            · have HF : Hid (lengthOf n ls ps = (0, false)) := HBAD.out k (by omega) (okAt_false_met (by rw [← HX.out]; exact HMT.out hyx))
              go_wp2
              go_ret2
              exact ⟨by rw [HF.out]; rfl, hext⟩
          · have hnm : ¬ x ∈ ps.take k := not_mem_take (by omega) (fun j hj => hno j (by omega))
            have HNM : Hid (¬ x ∈ ps.take k) := hnm
            clear hnm hno
            have g0 : ∀ d os, (grow (redrawn wr d) os).cell? ⟨w.heap.size, 0, none⟩ = some (.int .i64 n) := cell_regrown c0
            have g1 : ∀ d os, (grow (redrawn wr d) os).cell? ⟨w.heap.size, 1, none⟩ = some (.slice ao len cap) := cell_regrown c1
            rcases Nat.eq_zero_or_pos k with hk0 | hkp
            · subst hk0
              go_wp2
              refine wp_region_quiet_below (by kernel_rfl) (by kernel_rfl) ?_
              repeat (go_big_quiet_step (fail))
              refine wpQuiet_nil ?_
              intro _ hw'
              obtain ⟨⟨d1, o1⟩, hw''⟩ := hw'
              subst hw''
              clear g0 g1
              go_wp2
              go_roundw
              case rel =>
                exact ⟨0 + 1, by omega, by go_num, by simp [psum], okTo_succ hok (okAt_mk (by rw [← HX.out]; exact swB_true.2 ⟨hs1, hs2⟩) (by rw [← HX.out]; exact HNM.out) (Or.inl rfl)), hxt.trans (below_regrown wr d1 o1)⟩
              case measure => simp [intOf]; omega
            · have hkp' : (0 : Int) < (k : Int) := by omega
              have p1 : wr.cell? ⟨b, off + (k - 1), none⟩ = some (.int .i64 (ps.getD (k - 1) 0)) := (hext.cells.1 _ _ hb).trans (hp (k - 1) (by omega))
              obtain ⟨y, hy0⟩ : ∃ y, y = ps.getD (k - 1) 0 := ⟨_, rfl⟩
              rw [← hy0] at p1
              have HY : Hid (y = ps.getD (k - 1) 0) := hy0
              obtain ⟨cv, hcv⟩ : ∃ cv, cv = cost ls y x := ⟨_, rfl⟩
              have hcb := HC.out y x
              rw [← hcv] at hcb
              have HCV : Hid (cv = cost ls y x) := hcv
              have gp : ∀ d os, (grow (redrawn wr d) os).cell? ⟨b, off + (k - 1), none⟩ = some (.int .i64 y) := cell_regrown p1
              have HQ : Hid (∀ d os, Calls Try.prog 78 #[.agg #[.int .i64 n, .slice ao len cap], .int .i64 y, .int .i64 x] (grow (redrawn wr d) os) fun e w'' => e = .returned (.int .i64 cv) ∧ ∃ p : Regrown, w'' = grow (redrawn wr p.d) p.os) := fun d os =>
                Calls.regrown_of (by
                  rw [hcv]
                  exact refCost_any n y x ao len cap ls _ hlen (hl.ext (hext.trans (below_regrown wr d os))) hx)
              have i1 : (k : Int) - 1 < (pl : Int) := by omega
              have i2 : (0 : Int) ≤ (k : Int) - 1 := by omega
              clear hy0 hcv
              by_cases hc0 : cv = 0
              · have HF : Hid (lengthOf n ls ps = (0, false)) := HBAD.out k (by omega) (okAt_false_cost (by omega) (by rw [← HX.out, ← HY.out, ← HCV.out]; exact hc0))
                subst hc0
                go_wp2
                refine wp_region_quiet_below (by kernel_rfl) (by kernel_rfl) ?_
                repeat (go_big_quiet_step (exact HQ.out _ _))
                refine wpQuiet_nil ?_
                intro _ hw'
                obtain ⟨⟨d1, o1⟩, hw''⟩ := hw'
                subst hw''
                clear g0 g1 gp HQ
                go_wp2
                go_ret2
                exact ⟨by rw [HF.out]; rfl, hext.trans (below_regrown wr d1 o1)⟩
              · have hc1 : (cv == 0) = false := by simpa using hc0
                go_wp2
                refine wp_region_quiet_below (by kernel_rfl) (by kernel_rfl) ?_
                repeat (go_big_quiet_step (exact HQ.out _ _))
                refine wpQuiet_nil ?_
                intro _ hw'
                obtain ⟨⟨d1, o1⟩, hw''⟩ := hw'
                subst hw''
                clear g0 g1 gp HQ
                obtain ⟨w6, hw6⟩ : ∃ w6, w6 = grow (redrawn wr d1) o1 := ⟨_, rfl⟩
                have h6 : Ext wr w6 := by rw [hw6]; exact below_regrown wr d1 o1
                rw [← hw6]
                clear hw6
                have g0 : ∀ d os, (grow (redrawn w6 d) os).cell? ⟨w.heap.size, 0, none⟩ = some (.int .i64 n) := cell_regrown ((h6.cells.1 _ _ hs0).trans c0)
                have g1 : ∀ d os, (grow (redrawn w6 d) os).cell? ⟨w.heap.size, 1, none⟩ = some (.slice ao len cap) := cell_regrown ((h6.cells.1 _ _ hs0).trans c1)
                have gp : ∀ d os, (grow (redrawn w6 d) os).cell? ⟨b, off + (k - 1), none⟩ = some (.int .i64 y) := cell_regrown ((h6.cells.1 _ _ hbr).trans p1)
                have HQ : Hid (∀ d os, Calls Try.prog 78 #[.agg #[.int .i64 n, .slice ao len cap], .int .i64 y, .int .i64 x] (grow (redrawn w6 d) os) fun e w'' => e = .returned (.int .i64 cv) ∧ ∃ p : Regrown, w'' = grow (redrawn w6 p.d) p.os) := fun d os =>
                  Calls.regrown_of (by
                    rw [HCV.out]
                    exact refCost_any n y x ao len cap ls _ hlen (hl.ext ((hext.trans h6).trans (below_regrown w6 d os))) hx)
                go_wp2
                refine wp_region_quiet_below (by kernel_rfl) (by kernel_rfl) ?_
                repeat (go_big_quiet_step (exact HQ.out _ _))
                refine wpQuiet_nil ?_
                intro _ hw'
                obtain ⟨⟨d2, o2⟩, hw''⟩ := hw'
                subst hw''
                clear g0 g1 gp HQ
                go_wp2
                go_roundw
                case rel =>
                  refine ⟨k + 1, by omega, by go_num, ?_, okTo_succ hok (okAt_mk (by rw [← HX.out]; exact swB_true.2 ⟨hs1, hs2⟩) (by rw [← HX.out]; exact HNM.out) (Or.inr (by rw [← HX.out, ← HY.out, ← HCV.out]; exact hc0))), (hxt.trans h6).trans (below_regrown w6 d2 o2)⟩
                  simp only [psum]
                  rw [if_neg (by omega), ← HX.out, ← HY.out, ← HCV.out]
                case measure => simp [intOf]; omega
    · have hpp : (0 : Int) < (pl : Int) := by omega
      go_wp2
      go_ret2
      have hkl : k = ps.length := by omega
      have hfin : lengthOf n ls ps = (psum ls ps ps.length, true) := by
        have h1 : pathB n ls ps = true := pathB_true.2 ⟨by intro e; rw [e] at hpl; simp at hpl; omega, by rw [← hkl]; exact hok⟩
        simp [lengthOf, h1, HR.out]
      exact ⟨by rw [hfin, ← hkl]; rfl, hext⟩

theorem refLength_any (n : Int) (ao po : Option Addr) (len cap pl pc : Nat) (ls : List Lk) (ps : List Int) (w : World) (hlen : ls.length = len) (hl : NetAt w ao ls) (hx : len ≤ 9223372036854775807)
    (hr : wrong n ls = (0, 0)) (hpl : ps.length = pl) (hpx : pl * 8 ≤ 140737488351232) (hp : ListAt w po ps) :
    Calls Try.prog 69 #[.agg #[.int .i64 n, .slice ao len cap], .slice po pl pc] w fun e w' => e = .returned (.tuple #[.int .i64 (lengthOf n ls ps).1, .bool (lengthOf n ls ps).2]) ∧ Ext w w' := by
  have e0 : lengthOf n ls [] = (0, false) := by simp [lengthOf, pathB]
  rcases hp with rfl | ⟨b, off, rfl, hb, hp⟩
  · subst hpl
    rw [e0]
    exact refLength_none n ao po len cap pc w
  · by_cases h0 : 0 < pl
    · exact refLength_some n ao len cap b off pl pc ls ps w hlen hl hx hr hpl h0 hpx hb hp
    · have e1 : ps = [] := List.eq_nil_of_length_eq_zero (by omega)
      subst e1
      subst hpl
      rw [e0]
      exact refLength_none n ao _ len cap pc w

end Go.Proofs.Ytgffkjjddhlbpaa

/- What the document's own in answers; nothing that was there is changed. -/
namespace Go.Proofs.Ytgffkjjddhlbpaa
open Go.RowKit Go.Maps Stf Go.Sort Fw

set_option maxHeartbeats 1000000 in
theorem in_any (lo : Option Addr) (lc len : Nat) (L : List Int) (x : Int) (w : World) (hlen : L.length = len) (hL : ListAt w lo L) (hx : len ≤ 4611686018427387904) :
    Calls Try.prog 66 #[.slice lo len lc, .int .i64 x] w fun e w' => e = .returned (.bool (decide (x ∈ L))) ∧ w' = w := by
  go_enter Try.func66, Try.ntmps66
  go_wp2
  go_loopw [9] (fun iv wr => ∃ k : Nat, k ≤ len ∧ iv = .int .i64 k ∧ (∀ j, j < k → L.getD j 0 ≠ x) ∧ wr = w) (fun iv _ => len - (intOf iv).toNat)
  case atStart => exact ⟨0, Nat.zero_le _, rfl, fun j hj => by omega, rfl⟩
  case round =>
    obtain ⟨k, hk, rfl, hpre, rfl⟩ := hrel
    by_cases hlt : k < len
    · obtain ⟨bk, off, rfl, hbk, hat⟩ : ∃ bk off, lo = some ⟨bk, off, none⟩ ∧ bk < wr.heap.size ∧ IntsAt wr bk off L := by
        rcases hL with rfl | h
        · simp at hlen; omega
        · exact h
      have ce := hat k (by omega)
      obtain ⟨y, hy⟩ : ∃ y, y = L.getD k 0 := ⟨_, rfl⟩
      rw [← hy] at ce
      have HY := hid hy
      have HP := hid hpre
      have i1 : (k : Int) < (len : Int) := by omega
      clear hy hpre hat
      cases hxy : (y == x)
      · have hne : y ≠ x := by simpa using hxy
        have HNE := hid hne
        clear hne
        go_wp2
        refine ⟨⟨k + 1, by omega, by go_num, fun j hj => ?_, trivial⟩, by simp [intOf]; omega⟩
        by_cases e : j = k
        · subst e; rw [← HY.out]; exact HNE.out
        · exact HP.out j (by omega)
      · have heq : y = x := by simpa using hxy
        have hm : decide (x ∈ L) = true := by
          rw [decide_eq_true_eq, ← heq, HY.out]
          simp [List.getD_eq_getElem?_getD, show k < L.length by omega]
        have HM := hid hm
        clear heq hm
        go_wp2
        go_ret
        exact ⟨by rw [HM.out]; rfl, rfl⟩
    · have hm : decide (x ∈ L) = false := by
        rw [decide_eq_false_iff_not]
        intro hx
        obtain ⟨i, hi, rfl⟩ := List.getElem_of_mem hx
        exact hpre i (by omega) (by simp [List.getD_eq_getElem?_getD, hi])
      have HM := hid hm
      clear hm hpre
      go_wp2
      go_ret
      exact ⟨by rw [HM.out]; rfl, rfl⟩

end Go.Proofs.Ytgffkjjddhlbpaa

/- What the document's own test of a path comes to: it is one of the net, begins and ends where it should, has none that it may not have, and meets all in order. -/
namespace Stp
open Stw

/-- One switch more: how many are met, or that it fails. -/
def stp (via nt : List Int) (o : Option Nat) (s : Int) : Option Nat := match o with
  | none => none
  | some m => if s ∈ nt then none else if s ∈ via then (if via.getD m 0 = s then some (m + 1) else none) else some m
def sc (via nt p : List Int) : Option Nat := p.foldl (stp via nt) (some 0)

theorem sc_none (via nt : List Int) : ∀ q : List Int, q.foldl (stp via nt) none = none
  | [] => rfl
  | _ :: q => sc_none via nt q

theorem stp_bad {via nt : List Int} {m : Nat} {s : Int} (h : s ∈ nt) : stp via nt (some m) s = none := by simp [stp, h]
theorem stp_other {via nt : List Int} {m : Nat} {s : Int} (h : ¬ s ∈ nt) (h1 : ¬ s ∈ via) : stp via nt (some m) s = some m := by simp [stp, h, h1]
theorem stp_met {via nt : List Int} {m : Nat} {s : Int} (h : ¬ s ∈ nt) (h1 : s ∈ via) (h2 : via.getD m 0 = s) : stp via nt (some m) s = some (m + 1) := by
  simp only [stp, h, h1, h2, if_true, if_false]
theorem stp_miss {via nt : List Int} {m : Nat} {s : Int} (h : ¬ s ∈ nt) (h1 : s ∈ via) (h2 : ¬ via.getD m 0 = s) : stp via nt (some m) s = none := by
  simp only [stp, h, h1, h2, if_true, if_false]

theorem getD_some {via : List Int} {m : Nat} {s : Int} (hm : m < via.length) : via[m]? = some s ↔ via.getD m 0 = s := by
  rw [List.getD_eq_getElem?_getD, List.getElem?_eq_getElem hm]; simp

theorem mtv_le {via : List Int} {m : Nat} {s : Int} (h : m ≤ via.length) : mtv via m s ≤ via.length := by
  unfold mtv
  split
  · rename_i h1
    have := (List.getElem?_eq_some_iff.1 h1).1
    omega
  · exact h

/-- What holds of the switches that were gone over: so many are met, and those are among them. -/
structure Sc (via nt q : List Int) (m : Nat) : Prop where
  le : m ≤ via.length
  ok : ∀ x ∈ q, ¬ x ∈ nt
  met : metOf via 0 q = m
  all : ∀ i, i < m → via.getD i 0 ∈ q

theorem Sc.start (via nt : List Int) : Sc via nt [] 0 := ⟨Nat.zero_le _, fun x hx => (by cases hx), rfl, fun i hi => by omega⟩
theorem metOf_snoc {via : List Int} {m : Nat} {q : List Int} {s : Int} : metOf via m (q ++ [s]) = mtv via (metOf via m q) s := by simp [metOf]
theorem mtv_no {via : List Int} {m : Nat} {s : Int} (h : ¬ s ∈ via) : mtv via m s = m := by
  unfold mtv
  rw [if_neg]
  intro h1
  exact h (List.mem_of_getElem? h1)
theorem Sc.other {via nt q : List Int} {m : Nat} {s : Int} (h : Sc via nt q m) (h1 : ¬ s ∈ nt) (h2 : ¬ s ∈ via) : Sc via nt (q ++ [s]) m :=
  ⟨h.le, fun x hx => by
    rcases List.mem_append.1 hx with hx | hx
    · exact h.ok x hx
    · simp at hx; subst hx; exact h1,
   by rw [metOf_snoc, h.met, mtv_no h2], fun i hi => List.mem_append.2 (Or.inl (h.all i hi))⟩
/-- One that is to be met and was not gone over: there is one left to meet. -/
theorem Sc.left {via nt q : List Int} {m : Nat} {s : Int} (h : Sc via nt q m) (h2 : s ∈ via) (h3 : ¬ s ∈ q) : m < via.length := by
  rcases Nat.lt_or_ge m via.length with h4 | h4
  · exact h4
  · obtain ⟨i, hi, rfl⟩ := List.getElem_of_mem h2
    have := h.all i (by omega)
    rw [getD_eq hi] at this
    exact absurd this h3
theorem Sc.next {via nt q : List Int} {m : Nat} {s : Int} (h : Sc via nt q m) (h1 : ¬ s ∈ nt) (hm : m < via.length) (h3 : via.getD m 0 = s) : Sc via nt (q ++ [s]) (m + 1) :=
  ⟨hm, fun x hx => by
    rcases List.mem_append.1 hx with hx | hx
    · exact h.ok x hx
    · simp at hx; subst hx; exact h1,
   by rw [metOf_snoc, h.met, mtv, if_pos ((getD_some hm).2 h3)], fun i hi => by
    by_cases e : i = m
    · subst e; rw [h3]; simp
    · exact List.mem_append.2 (Or.inl (h.all i (by omega)))⟩

theorem metOf_le {via : List Int} : ∀ (q : List Int) (m : Nat), m ≤ metOf via m q
  | [], m => Nat.le_refl _
  | s :: q, m => by
    have h1 := metOf_le (via := via) q (mtv via m s)
    have h2 : m ≤ mtv via m s := by unfold mtv; split <;> omega
    exact Nat.le_trans h2 h1
theorem met_in {via : List Int} : ∀ {q : List Int} {m i : Nat}, m ≤ i → i < metOf via m q → via.getD i 0 ∈ q
  | [], m, i, h1, h2 => by have : i < m := h2; omega
  | s :: q, m, i, h1, h2 => by
    have h3 : metOf via m (s :: q) = metOf via (mtv via m s) q := rfl
    rw [h3] at h2
    by_cases hv : via[m]? = some s
    · have e : mtv via m s = m + 1 := by rw [mtv, if_pos hv]
      rw [e] at h2
      by_cases hi : i = m
      · subst hi
        have hm := (List.getElem?_eq_some_iff.1 hv).1
        rw [(getD_some hm).1 hv]
        simp
      · exact List.mem_cons_of_mem _ (met_in (by omega) h2)
    · have e : mtv via m s = m := by rw [mtv, if_neg hv]
      rw [e] at h2
      exact List.mem_cons_of_mem _ (met_in h1 h2)

/-- It does not fail where all are met in order. -/
theorem sc_ok {via nt : List Int} : ∀ {v u : List Int} {m : Nat}, (u ++ v).Nodup → Sc via nt u m → (∀ x ∈ v, ¬ x ∈ nt) → metOf via m v = via.length → v.foldl (stp via nt) (some m) = some via.length
  | [], u, m, _, _, _, h => by
    have : m = via.length := h
    simp [this]
  | s :: v, u, m, hnd, hsc, hnt, h => by
    have h1 := hnt s (by simp)
    have hnu : ¬ s ∈ u := fun hm => by
      have := (List.nodup_append.1 hnd).2.2 s hm s (by simp)
      exact this rfl
    have hnv : ¬ s ∈ v := (List.nodup_cons.1 (List.nodup_append.1 hnd).2.1).1
    have hnd' : ((u ++ [s]) ++ v).Nodup := by simpa using hnd
    by_cases hv : s ∈ via
    · have hm := hsc.left hv hnu
      by_cases he : via.getD m 0 = s
      · simp only [List.foldl_cons, stp_met h1 hv he]
        refine sc_ok hnd' (hsc.next h1 hm he) (fun x hx => hnt x (by simp [hx])) ?_
        have e : mtv via m s = m + 1 := by rw [mtv, if_pos ((getD_some hm).2 he)]
        rw [← e]
        exact h
      · exfalso
        have e : mtv via m s = m := by rw [mtv, if_neg (fun h => he ((getD_some hm).1 h))]
        have h4 : metOf via (mtv via m s) v = via.length := h
        rw [e] at h4
        obtain ⟨i, hi, hs⟩ := List.getElem_of_mem hv
        rcases Nat.lt_trichotomy i m with h6 | h6 | h6
        · have := hsc.all i h6
          rw [getD_eq hi, hs] at this
          exact hnu this
        · subst h6
          exact he (by rw [getD_eq hi, hs])
        · have := met_in (via := via) (q := v) (m := m) (i := i) (by omega) (by omega)
          rw [getD_eq hi, hs] at this
          exact hnv this
    · simp only [List.foldl_cons, stp_other h1 hv]
      refine sc_ok hnd' (hsc.other h1 hv) (fun x hx => hnt x (by simp [hx])) ?_
      rw [← mtv_no (m := m) hv]
      exact h

theorem sc_inv {via nt : List Int} : ∀ {v : List Int} {m k : Nat}, m ≤ via.length → v.foldl (stp via nt) (some m) = some k → (∀ x ∈ v, ¬ x ∈ nt) ∧ (k = via.length → metOf via m v = via.length)
  | [], m, k, _, h => by
    injection h with h
    exact ⟨fun x hx => (by cases hx), fun e => by rw [← e, ← h]; rfl⟩
  | s :: v, m, k, hm, h => by
    simp only [List.foldl_cons] at h
    by_cases h1 : s ∈ nt
    · rw [stp_bad h1, sc_none] at h; cases h
    · by_cases hv : s ∈ via
      · by_cases he : via.getD m 0 = s
        · rw [stp_met h1 hv he] at h
          by_cases hlt : m < via.length
          · obtain ⟨h2, h3⟩ := sc_inv (by omega) h
            refine ⟨fun x hx => ?_, fun e => ?_⟩
            · rcases List.mem_cons.1 hx with rfl | hx
              · exact h1
              · exact h2 x hx
            · have e1 : mtv via m s = m + 1 := by rw [mtv, if_pos ((getD_some hlt).2 he)]
              have h4 := h3 e
              rw [← e1] at h4
              exact h4
          · -- beyond the end: more would be met than there are
            have hk : ∀ {v : List Int} {a b : Nat}, v.foldl (stp via nt) (some a) = some b → a ≤ b := by
              intro v
              induction v with
              | nil => intro a b h; injection h with h; omega
              | cons s v ih =>
                intro a b h
                simp only [List.foldl_cons] at h
                cases hs : stp via nt (some a) s with
                | none => rw [hs, sc_none] at h; cases h
                | some c =>
                  rw [hs] at h
                  have h5 := ih h
                  have h6 : a ≤ c := by
                    unfold stp at hs
                    simp only at hs
                    split at hs
                    · cases hs
                    · split at hs
                      · split at hs
                        · injection hs with hs; omega
                        · cases hs
                      · injection hs with hs; omega
                  omega
            have hmk := hk h
            refine ⟨fun x hx => ?_, fun e => by omega⟩
            have hn : ∀ {v : List Int} {a b : Nat}, v.foldl (stp via nt) (some a) = some b → ∀ x ∈ v, ¬ x ∈ nt := by
              intro v
              induction v with
              | nil => intro a b _ x hx; cases hx
              | cons s v ih =>
                intro a b h x hx
                simp only [List.foldl_cons] at h
                cases hs : stp via nt (some a) s with
                | none => rw [hs, sc_none] at h; cases h
                | some c =>
                  rw [hs] at h
                  rcases List.mem_cons.1 hx with rfl | hx
                  · intro hm
                    rw [stp_bad hm] at hs
                    cases hs
                  · exact ih h x hx
            rcases List.mem_cons.1 hx with rfl | hx
            · exact h1
            · exact hn h x hx
        · rw [stp_miss h1 hv he, sc_none] at h; cases h
      · rw [stp_other h1 hv] at h
        obtain ⟨h2, h3⟩ := sc_inv hm h
        refine ⟨fun x hx => ?_, fun e => ?_⟩
        · rcases List.mem_cons.1 hx with rfl | hx
          · exact h1
          · exact h2 x hx
        · have h4 := h3 e
          rw [← mtv_no (m := m) hv] at h4
          exact h4

/-- Does a list of switches do what is asked for? -/
def svB (n : Int) (ls : List Lk) (fr to : Int) (via nt p : List Int) : Bool := pathB n ls p && (p.getD 0 0 == fr) && (p.getD (p.length - 1) 0 == to) && decide (sc via nt p = some via.length)

theorem lst_getD {p : List Int} (h : p ≠ []) : lst p = p.getD (p.length - 1) 0 := by
  have h0 : 0 < p.length := List.length_pos_iff.2 h
  have := lst_take (ps := p) (k := p.length) h0 (Nat.le_refl _)
  rwa [List.take_length] at this

theorem svB_iff {n : Int} {ls : List Lk} {fr to : Int} {via nt p : List Int} (hr : Right n ls) (hf : 0 ≤ fr ∧ fr < n) : svB n ls fr to via nt p = true ↔ Srv (cost ls) fr to via nt p := by
  simp only [svB, Bool.and_eq_true, beq_iff_eq, decide_eq_true_eq]
  constructor
  · rintro ⟨⟨⟨h1, h2⟩, h3⟩, h4⟩
    have hp := pth_of hr h1
    have hne := ((pathB_iff hr).1 h1).1
    rw [lst_getD hne, h2, h3] at hp
    obtain ⟨h5, h6⟩ := sc_inv (Nat.zero_le _) h4
    exact ⟨hp, h5, h6 rfl⟩
  · intro h
    have hp := h.toPth.path hr hf
    have hne := ((pathB_iff hr).1 hp).1
    refine ⟨⟨⟨hp, ?_⟩, ?_⟩, sc_ok (u := []) (by simpa using h.nd) (Sc.start via nt) h.not h.met⟩
    · obtain ⟨r, hr'⟩ := h.head
      rw [hr']; rfl
    · rw [← lst_getD hne]; exact h.last

end Stp

/- What the document's own Serves answers, for every right net, every flow and every list; nothing that was there is changed. -/
namespace Go.Proofs.Ytgffkjjddhlbpaa
open Go.RowKit Go.Maps Stw Go.Deep Stp

theorem svB_no {n : Int} {ls : List Lk} {fr to : Int} {via nt p : List Int} (h : pathB n ls p = false) : svB n ls fr to via nt p = false := by simp [svB, h]
theorem svB_fr {n : Int} {ls : List Lk} {fr to : Int} {via nt p : List Int} (h : (p.getD 0 0 == fr) = false) : svB n ls fr to via nt p = false := by simp only [svB, h, Bool.and_false, Bool.false_and]
theorem svB_to {n : Int} {ls : List Lk} {fr to : Int} {via nt p : List Int} (h : (p.getD (p.length - 1) 0 == to) = false) : svB n ls fr to via nt p = false := by simp only [svB, h, Bool.and_false, Bool.false_and]
theorem svB_sc {n : Int} {ls : List Lk} {fr to : Int} {via nt p : List Int} {β : Bool} (h1 : pathB n ls p = true) (h2 : (p.getD 0 0 == fr) = true) (h3 : (p.getD (p.length - 1) 0 == to) = true) (h4 : decide (sc via nt p = some via.length) = β) : svB n ls fr to via nt p = β := by simp only [svB, h1, h2, h3, h4, Bool.true_and]
theorem sc_take {via nt p : List Int} {k : Nat} (h : k < p.length) : (p.take (k + 1)).foldl (stp via nt) (some 0) = stp via nt ((p.take k).foldl (stp via nt) (some 0)) (p.getD k 0) := by
  rw [List.take_succ_eq_append_getElem h, List.foldl_append, getD_eq h]; rfl
theorem sc_dead {via nt p : List Int} {k : Nat} (h : (p.take k).foldl (stp via nt) (some 0) = none) : sc via nt p = none := by
  unfold sc
  rw [← List.take_append_drop k p, List.foldl_append, h, sc_none]

set_option maxRecDepth 100000 in
set_option maxHeartbeats 2000000 in
theorem Serves_any (n : Int) (ao : Option Addr) (len cap : Nat) (ls : List Lk) (fr to : Int) (via nt : List Int) (vo no : Option Addr) (vc nc : Nat) (ps : List Int) (po : Option Addr) (pl pc : Nat) (w : World) (hlen : ls.length = len) (hl : NetAt w ao ls) (hx : len ≤ 9223372036854775807) (hr : wrong n ls = (0, 0))
    (hv : ListAt w vo via) (hvl : via.length ≤ 4611686018427387904) (hn : ListAt w no nt) (hnl : nt.length ≤ 4611686018427387904) (hpl : ps.length = pl) (hpx : pl * 8 ≤ 140737488351232) (hp : ListAt w po ps) :
    Calls Try.prog 68 #[.agg #[.int .i64 n, .slice ao len cap], .agg #[.int .i64 fr, .int .i64 to, .slice vo via.length vc, .slice no nt.length nc], .slice po pl pc] w fun e w' => e = .returned (.bool (svB n ls fr to via nt ps)) ∧ Ext w w' := by
  have HR := hidp hr
  have hright := right_of (by rw [hr] : (wrong n ls).1 = 0)
  clear hr
  have HL := hidp (length_iff (ps := ps) hright)
  go_enter Try.func68, Try.ntmps68
  go_wp2_with fail
  refine (refLength_any n ao po len cap pl pc ls ps _ hlen (hl.ext (((Ext.refl w).alloc _).alloc _)) hx HR.out hpl hpx (hp.ext (((Ext.refl w).alloc _).alloc _))).mono ?_
  rintro e w1 ⟨he, E1⟩
  have hw1 : Ext w w1 := (((Ext.refl w).alloc _).alloc _).trans E1
  have hs1 : w.heap.size + 1 < w1.heap.size := by have := E1.size; simp at this; omega
  cases hpb : pathB n ls ps
  · rw [HL.out, hpb] at he
    subst he
    have HS := hidp (svB_no (fr := fr) (to := to) (via := via) (nt := nt) hpb)
    clear hpb
    go_wp2
    go_region
    go_wp2
    go_ret
    exact ⟨by rw [HS.out]; rfl, hw1.drew⟩
  · rw [HL.out, hpb] at he
    simp only [if_true] at he
    subst he
    obtain ⟨hne, hrg, hnd, hch⟩ := (pathB_iff hright).1 hpb
    have hlp : ps.length ≤ 8 := by
      have hb := hright.bounds
      exact pth_len (C := cost ls) (fr := ps.getD 0 0) (to := lst ps) (pth_of hright hpb)
    have hl0 : 0 < ps.length := List.length_pos_iff.2 hne
    obtain ⟨b, off, rfl, hb, hat⟩ : ∃ b off, po = some ⟨b, off, none⟩ ∧ b < w.heap.size ∧ IntsAt w b off ps := by
      rcases hp with rfl | h
      · exact absurd rfl hne
      · exact h
    have q1 := E1.cells.1
    have b0 : w1.cell? ⟨w.heap.size + 1, 0, none⟩ = some (.int .i64 fr) := (q1 _ _ (by simp)).trans (by simp)
    have b1 : w1.cell? ⟨w.heap.size + 1, 1, none⟩ = some (.int .i64 to) := (q1 _ _ (by simp)).trans (by simp)
    have b2 : w1.cell? ⟨w.heap.size + 1, 2, none⟩ = some (.slice vo via.length vc) := (q1 _ _ (by simp)).trans (by simp)
    have b3 : w1.cell? ⟨w.heap.size + 1, 3, none⟩ = some (.slice no nt.length nc) := (q1 _ _ (by simp)).trans (by simp)
    have p0 : w1.cell? ⟨b, off, none⟩ = some (.int .i64 (ps.getD 0 0)) := (hw1.cells.1 _ _ hb).trans (hat 0 hl0)
    have pz : w1.cell? ⟨b, off + (pl - 1), none⟩ = some (.int .i64 (ps.getD (ps.length - 1) 0)) := (hw1.cells.1 _ _ hb).trans (by rw [← hpl]; exact hat (ps.length - 1) (by omega))
    clear q1
    have hpl0 : 0 < pl := by omega
    have hpl8 : pl ≤ 8 := by omega
    have hbw : b < w1.heap.size := by have := hw1.size; omega
    have HH := hidp (And.intro hnd (And.intro hpb hat))
    obtain ⟨x0, hx0⟩ : ∃ x0, x0 = ps.getD 0 0 := ⟨_, rfl⟩
    obtain ⟨xz, hxz⟩ : ∃ xz, xz = ps.getD (ps.length - 1) 0 := ⟨_, rfl⟩
    rw [← hx0] at p0
    rw [← hxz] at pz
    have HX0 := hidp hx0
    have HXZ := hidp hxz
    clear hx0 hxz hnd hpb hat hrg hch hne
    cases h1 : (x0 == fr)
    · have HS := hidp (svB_fr (n := n) (ls := ls) (to := to) (via := via) (nt := nt) (by rw [← HX0.out]; exact h1))
      have h1' : (x0 != fr) = true := by simp only [bne, h1, Bool.not_false]
      go_wp2
      go_region
      go_wp2
      go_ret
      exact ⟨by rw [HS.out]; rfl, hw1.drew⟩
    · have h1' : (x0 != fr) = false := by simp only [bne, h1, Bool.not_true]
      cases h2 : (xz == to)
      · have HS := hidp (svB_to (n := n) (ls := ls) (fr := fr) (via := via) (nt := nt) (by rw [← HXZ.out]; exact h2))
        have h2' : (xz != to) = true := by simp only [bne, h2, Bool.not_false]
        go_wp2
        go_region
        go_wp2
        go_ret
        exact ⟨by rw [HS.out]; rfl, hw1.drew⟩
      · have h2' : (xz != to) = false := by simp only [bne, h2, Bool.not_true]
        have HS : Hid (∀ β, decide (sc via nt ps = some via.length) = β → svB n ls fr to via nt ps = β) := fun β h => svB_sc HH.out.2.1 (by rw [← HX0.out]; exact h1) (by rw [← HXZ.out]; exact h2) h
        go_wp2
        go_region
        go_wp2
        go_loopw [9, 41] (fun mv iv wr => ∃ k m : Nat, k ≤ pl ∧ iv = .int .i64 k ∧ mv = .int .i64 m ∧ Sc via nt (ps.take k) m ∧ (ps.take k).foldl (stp via nt) (some 0) = some m ∧ wr = w1.drew) (fun _ iv _ => pl - (intOf iv).toNat)
        case atStart => exact ⟨0, 0, Nat.zero_le _, rfl, rfl, Sc.start via nt, rfl, rfl⟩
        case round =>
          obtain ⟨k, m, hk, rfl, rfl, hsc, hfo, rfl⟩ := hrel
          have hml := hsc.le
          have hvw : ListAt w1.drew vo via := hv.ext hw1.drew
          have hnw : ListAt w1.drew no nt := hn.ext hw1.drew
          by_cases hlt : k < pl
          · have pk : w1.drew.cell? ⟨b, off + k, none⟩ = some (.int .i64 (ps.getD k 0)) := (hw1.drew.cells.1 _ _ hb).trans (HH.out.2.2 k (by omega))
            have HN : Hid (¬ ps.getD k 0 ∈ ps.take k) := (Stp.nodup_iff.1 HH.out.1) k (by omega)
            have HT := hidp (sc_take (via := via) (nt := nt) (p := ps) (k := k) (by omega))
            have HT2 : Hid (ps.take (k + 1) = ps.take k ++ [ps.getD k 0]) := by rw [List.take_succ_eq_append_getElem (by omega : k < ps.length), ← getD_eq]; exact hidp rfl
            obtain ⟨x, hx1⟩ : ∃ x, x = ps.getD k 0 := ⟨_, rfl⟩
            rw [← hx1] at pk HN HT HT2
            clear hx1
            have HSc := hidp hsc
            have HFo := hidp hfo
            clear hsc hfo
            have i1 : (k : Int) < (pl : Int) := by omega
            cases hnm : decide (x ∈ nt)
            · have hnm' : ¬ x ∈ nt := of_decide_eq_false hnm
              have HNM := hidp hnm'
              clear hnm'
              go_wp2_with fail
              refine (in_any no nc nt.length nt x _ rfl hnw hnl).mono ?_
              rintro e w2 ⟨he, rfl⟩
              rw [hnm] at he
              subst he
              cases hvm : decide (x ∈ via)
              · have HVM : Hid (¬ x ∈ via) := hidp (of_decide_eq_false hvm)
                go_wp2_with fail
                refine (in_any vo vc via.length via x _ rfl hvw hvl).mono ?_
                rintro e w3 ⟨he, rfl⟩
                rw [hvm] at he
                subst he
                clear hnm hvm
                go_wp2
                go_roundw
                case rel => exact ⟨k + 1, m, by omega, by go_num, rfl, by rw [HT2.out]; exact HSc.out.other HNM.out HVM.out, by rw [HT.out, HFo.out]; exact stp_other HNM.out HVM.out, trivial⟩
                case measure => simp [intOf]; omega
              · have HVM : Hid (x ∈ via) := hidp (of_decide_eq_true hvm)
                go_wp2_with fail
                refine (in_any vo vc via.length via x _ rfl hvw hvl).mono ?_
                rintro e w3 ⟨he, rfl⟩
                rw [hvm] at he
                subst he
                have hmlt := HSc.out.left HVM.out HN.out
                obtain ⟨bv, ov, rfl, hbv, hatv⟩ : ∃ bv ov, vo = some ⟨bv, ov, none⟩ ∧ bv < w1.heap.size ∧ IntsAt w1.drew bv ov via := by
                  rcases hvw with rfl | h
                  · simp at hmlt
                  · exact h
                have pv := hatv m hmlt
                clear hatv hnm hvm
                obtain ⟨y, hy⟩ : ∃ y, y = via.getD m 0 := ⟨_, rfl⟩
                rw [← hy] at pv
                have HY := hidp hy
                clear hy
                have i2 : (m : Int) < (via.length : Int) := by omega
                cases hyx : (y == x)
                · have hyx' : (y != x) = true := by simp only [bne, hyx, Bool.not_false]
                  have HNE : Hid (¬ via.getD m 0 = x) := by rw [← HY.out]; exact hidp (by simpa using hyx)
                  go_wp2
                  go_ret
                  have HD := HS.out false (by rw [sc_dead (k := k + 1) (by rw [HT.out, HFo.out]; exact stp_miss HNM.out HVM.out HNE.out)]; simp)
                  exact ⟨by rw [HD]; rfl, hw1.drew⟩
                · have hyx' : (y != x) = false := by simp only [bne, hyx, Bool.not_true]
                  have HEQ : Hid (via.getD m 0 = x) := by rw [← HY.out]; exact hidp (by simpa using hyx)
                  go_wp2
                  go_roundw
                  case rel => exact ⟨k + 1, m + 1, by omega, by go_num, by go_num, by rw [HT2.out]; exact HSc.out.next HNM.out hmlt HEQ.out, by rw [HT.out, HFo.out]; exact stp_met HNM.out HVM.out HEQ.out, trivial⟩
                  case measure => simp [intOf]; omega
            · have HNM : Hid (x ∈ nt) := hidp (of_decide_eq_true hnm)
              go_wp2_with fail
              refine (in_any no nc nt.length nt x _ rfl hnw hnl).mono ?_
              rintro e w2 ⟨he, rfl⟩
              rw [hnm] at he
              subst he
              clear hnm
              go_wp2
              go_ret
              have HD := HS.out false (by rw [sc_dead (k := k + 1) (by rw [HT.out, HFo.out]; exact stp_bad HNM.out)]; simp)
              exact ⟨by rw [HD]; rfl, hw1.drew⟩
          · have hkk : ps.take k = ps := List.take_of_length_le (by omega)
            rw [hkk] at hfo
            have HFo : Hid (sc via nt ps = some m) := hfo
            clear hkk hfo hsc
            cases hmv : ((m : Int) == (via.length : Int))
            · have HD := hidp (HS.out false (by rw [HFo.out]; simp at hmv ⊢; omega))
              go_wp2
              go_ret
              exact ⟨by rw [HD.out]; rfl, hw1.drew⟩
            · have HD := hidp (HS.out true (by rw [HFo.out]; simp at hmv ⊢; omega))
              go_wp2
              go_ret
              exact ⟨by rw [HD.out]; rfl, hw1.drew⟩

end Go.Proofs.Ytgffkjjddhlbpaa

/- All paths, one by one, as the document goes through them; and the one that it keeps: the same that a search finds. -/
namespace Stp
open Stw

/-- All paths on from a list of switches, over so many switches of a net. -/
def all (C : Int → Int → Int) (n : Nat) (to : Int) : Nat → List Int → List (List Int)
  | 0, _ => []
  | k + 1, p => if lst p = to then [p] else (List.range n).flatMap fun (s : Nat) => if ¬ (s : Int) ∈ p ∧ 0 < C (lst p) (s : Int) then all C n to k (p ++ [(s : Int)]) else []

theorem range_cut {α : Type} (g : Nat → List α) (n : Nat) (h : ∀ s, n ≤ s → g s = []) : ∀ m, n ≤ m → (List.range m).flatMap g = (List.range n).flatMap g
  | 0, hm => by
    have : n = 0 := by omega
    subst this; rfl
  | m + 1, hm => by
    by_cases e : n = m + 1
    · subst e; rfl
    · rw [List.range_succ, List.flatMap_append, range_cut g n h m (by omega)]
      simp [h m (by omega)]

theorem all_ext {C : Int → Int → Int} {n : Nat} {to : Int} (hn : n ≤ 8) (hz : ∀ a (s : Nat), n ≤ s → ¬ 0 < C a (s : Int)) : ∀ (k : Nat) (u cl : List Int) (a : Int), (∀ x, x ∈ cl ↔ x ∈ u) → all C n to k (u ++ [a]) = (ext C to k cl a).map (u ++ ·)
  | 0, _, _, _, _ => rfl
  | k + 1, u, cl, a, hcl => by
    unfold all ext
    rw [lst_snoc]
    by_cases ht : a = to
    · rw [if_pos ht, if_pos ht]; rfl
    · rw [if_neg ht, if_neg ht, List.map_flatMap, ← range_cut _ n _ 8 hn]
      · refine flat_congr _ (fun s _ => ?_)
        by_cases hc : 0 < C a (s : Int) ∧ ¬ (s : Int) ∈ a :: cl
        · have hc' : ¬ (s : Int) ∈ u ++ [a] ∧ 0 < C a (s : Int) := by
            refine ⟨fun hm => hc.2 ?_, hc.1⟩
            rcases List.mem_append.1 hm with hm | hm
            · exact List.mem_cons_of_mem _ ((hcl _).2 hm)
            · simp at hm; rw [hm]; simp
          rw [if_pos hc, if_pos hc', all_ext hn hz k (u ++ [a]) (a :: cl) (s : Int) (fun x => by simp [hcl x, or_comm])]
          rw [List.map_map]
          refine List.map_congr_left (fun q _ => ?_)
          simp
        · have hc' : ¬ (¬ (s : Int) ∈ u ++ [a] ∧ 0 < C a (s : Int)) := by
            rintro ⟨h1, h2⟩
            refine hc ⟨h2, fun hm => h1 ?_⟩
            rcases List.mem_cons.1 hm with hm | hm
            · rw [hm]; simp
            · exact List.mem_append.2 (Or.inl ((hcl _).1 hm))
          rw [if_neg hc, if_neg hc']
          rfl
      · intro s hs
        rw [if_neg (fun h => hz a s hs h.2)]

theorem flat_len {α β : Type} (g : α → List β) (M : Nat) : ∀ l : List α, (∀ a ∈ l, (g a).length ≤ M) → (l.flatMap g).length ≤ l.length * M
  | [], _ => by simp
  | a :: l, h => by
    have h1 := h a (by simp)
    have h2 := flat_len g M l (fun x hx => h x (by simp [hx]))
    simp only [List.flatMap_cons, List.length_append, List.length_cons]
    rw [Nat.succ_mul]
    omega
theorem all_len {C : Int → Int → Int} {n : Nat} {to : Int} (hn : n ≤ 8) : ∀ (k : Nat) (p : List Int), (all C n to k p).length ≤ 8 ^ k
  | 0, _ => by simp [all]
  | k + 1, p => by
    unfold all
    split
    · have : 0 < 8 ^ (k + 1) := Nat.pow_pos (by omega)
      simp; omega
    · have := flat_len (fun (s : Nat) => if ¬ (s : Int) ∈ p ∧ 0 < C (lst p) (s : Int) then all C n to k (p ++ [(s : Int)]) else []) (8 ^ k) (List.range n) (fun s _ => by
        split
        · exact all_len hn k _
        · simp)
      have h2 : (List.range n).length * 8 ^ k ≤ 8 * 8 ^ k := Nat.mul_le_mul_right _ (by simpa using hn)
      rw [Nat.pow_succ, Nat.mul_comm]
      exact Nat.le_trans this h2

/-- What the document keeps, path by path. -/
def rstep (n : Int) (ls : List Lk) (fr to : Int) (via nt : List Int) (b : Option (List Int)) (p : List Int) : Option (List Int) :=
  if svB n ls fr to via nt p = true then (match b with
    | none => some p
    | some q => if pc (cost ls) p < pc (cost ls) q then some p else some q) else b
def rc (n : Int) (ls : List Lk) (fr to : Int) (via nt : List Int) (p : List Int) : List (List Int × Int) := if svB n ls fr to via nt p = true then [(p, pc (cost ls) p)] else []

theorem rfold {n : Int} {ls : List Lk} {fr to : Int} {via nt : List Int} : ∀ (L : List (List Int)) (b : Option (List Int)), (L.flatMap (rc n ls fr to via nt)).foldl pick (b.map fun p => (p, pc (cost ls) p)) = (L.foldl (rstep n ls fr to via nt) b).map fun p => (p, pc (cost ls) p)
  | [], b => rfl
  | p :: L, b => by
    simp only [List.flatMap_cons, List.foldl_append, List.foldl_cons]
    rw [← rfold L (rstep n ls fr to via nt b p)]
    congr 1
    unfold rc rstep
    by_cases hs : svB n ls fr to via nt p = true
    · rw [if_pos hs, if_pos hs]
      cases b with
      | none => rfl
      | some q =>
        simp only [Option.map_some, List.foldl_cons, List.foldl_nil, pick, Option.any_some, decide_eq_true_eq]
        by_cases hc : pc (cost ls) p < pc (cost ls) q
        · rw [if_neg (by omega), if_pos hc]; rfl
        · rw [if_pos (by omega), if_neg hc]; rfl
    · rw [if_neg hs, if_neg hs]; rfl

/-- The document's path is the search's. -/
theorem ref_find {nn : Nat} {ls : List Lk} {fr to : Int} {via nt : List Int} (hr : Right (nn : Int) ls) (hf : 0 ≤ fr ∧ fr < (nn : Int)) (hnf : ¬ fr ∈ nt) : (all (cost ls) nn to 8 [fr]).foldl (rstep nn ls fr to via nt) none = (find (cost ls) fr to via nt).map Prod.fst := by
  have hb := hr.bounds
  have hC : ∀ x y, 0 ≤ cost ls x y := fun x y => (hr.cost x y).1
  have hz : ∀ a (s : Nat), nn ≤ s → ¬ 0 < cost ls a (s : Int) := fun a s hs h => by
    have := (hr.cost a (s : Int)).2.2 (by omega)
    omega
  have he : all (cost ls) nn to 8 [fr] = ext (cost ls) to 8 [] fr := by
    have := all_ext (C := cost ls) (n := nn) (to := to) (by omega) hz 8 [] [] fr (fun x => Iff.rfl)
    simpa using this
  rw [he]
  have hmem : ∀ x : List Int × Int, x ∈ (ext (cost ls) to 8 [] fr).flatMap (rc nn ls fr to via nt) ↔ Srv (cost ls) fr to via nt x.1 ∧ x.2 = pc (cost ls) x.1 := by
    intro x
    simp only [List.mem_flatMap]
    constructor
    · rintro ⟨q, hq, hx⟩
      unfold rc at hx
      split at hx
      · rename_i hs
        simp at hx
        subst hx
        exact ⟨(svB_iff hr hf).1 hs, rfl⟩
      · cases hx
    · rintro ⟨h, hc⟩
      obtain ⟨p, c⟩ := x
      simp only at h hc
      obtain ⟨r, rfl⟩ := h.head
      refine ⟨fr :: r, ext_complete (pth_len h.toPth) h.ch h.nd h.last (fun x _ hx => by cases hx) h.rng, ?_⟩
      unfold rc
      rw [if_pos ((svB_iff hr hf).2 h)]
      simp [hc]
  have hP : ((ext (cost ls) to 8 [] fr).flatMap (rc nn ls fr to via nt)).Pairwise (fun x y => llt x.1 y.1) := by
    rw [List.pairwise_flatMap]
    refine ⟨fun q _ => ?_, ext_sorted.imp (fun {q r} hqr x hx y hy => ?_)⟩
    · unfold rc; split <;> simp
    · unfold rc at hx hy
      split at hx
      · split at hy
        · simp at hx hy; subst hx hy; exact hqr
        · cases hy
      · cases hx
  have hrf := rfold (n := nn) (ls := ls) (fr := fr) (to := to) (via := via) (nt := nt) (ext (cost ls) to 8 [] fr) none
  cases hres : (ext (cost ls) to 8 [] fr).foldl (rstep nn ls fr to via nt) none with
  | none =>
    rw [hres] at hrf
    have h0 := (fold_none (b := none) hrf).2
    cases hfi : find (cost ls) fr to via nt with
    | none => rfl
    | some y =>
      obtain ⟨p, c⟩ := y
      have hbst := find_some hC (by omega) hnf hfi
      have := (hmem (p, pc (cost ls) p)).2 ⟨hbst.1, rfl⟩
      rw [h0] at this
      cases this
  | some p =>
    rw [hres] at hrf
    obtain ⟨h1, h2, _⟩ := fold_some hP (fun y hy => by cases hy) hrf
    have hbst : IsBest (cost ls) fr to via nt p (pc (cost ls) p) := by
      rcases h1 with h1 | h1
      · cases h1
      · refine ⟨((hmem _).1 h1).1, rfl, fun q hq => ?_⟩
        rcases h2 (q, pc (cost ls) q) ((hmem _).2 ⟨hq, rfl⟩) with h5 | ⟨h5, h6⟩
        · exact Or.inl h5
        · refine Or.inr ⟨h5, h6.imp (fun e => by cases e; rfl) id⟩
    cases hfi : find (cost ls) fr to via nt with
    | none => exact absurd hbst.1 (find_none hC (by omega) hnf hfi p)
    | some y =>
      obtain ⟨q, c⟩ := y
      have hb2 := find_some hC (by omega) hnf hfi
      rw [best_unique hbst hb2]
      rfl

end Stp

/- Lists of paths in memory; how a list that may be empty is appended to one of the call's own. -/
namespace Go.Proofs.Ytgffkjjddhlbpaa
open Go.RowKit Go.Maps Stw Go.Deep Stp

/-- A value that is a path, in a block of such a kind. -/
def PV (w : World) (Q : Nat → Prop) (p : List Int) (v : Value) : Prop := ∃ b off c, v = .slice (some ⟨b, off, none⟩) p.length c ∧ Q b ∧ b < w.heap.size ∧ IntsAt w b off p ∧ p.length ≤ c
def PVs (w : World) (Q : Nat → Prop) : List (List Int) → List Value → Prop
  | [], [] => True
  | p :: ps, v :: vs => PV w Q p v ∧ PVs w Q ps vs
  | _, _ => False

theorem PV.mono {w w' : World} {Q Q' : Nat → Prop} {p : List Int} {v : Value} (h : PV w Q p v) (H : ∀ b, Q b → b < w.heap.size → Q' b ∧ b < w'.heap.size ∧ w'.heap[b]? = w.heap[b]?) : PV w' Q' p v := by
  obtain ⟨b, off, c, h1, h2, h3, h4, h5⟩ := h
  obtain ⟨k1, k2, k3⟩ := H b h2 h3
  exact ⟨b, off, c, h1, k1, k2, fun i hi => (World.cell?_of_block (a := ⟨b, off + i, none⟩) k3).trans (h4 i hi), h5⟩
theorem PVs.mono {w w' : World} {Q Q' : Nat → Prop} (H : ∀ b, Q b → b < w.heap.size → Q' b ∧ b < w'.heap.size ∧ w'.heap[b]? = w.heap[b]?) : ∀ {ps : List (List Int)} {vs : List Value}, PVs w Q ps vs → PVs w' Q' ps vs
  | [], [], _ => trivial
  | [], _ :: _, h => by cases h
  | _ :: _, [], h => by cases h
  | _ :: _, _ :: _, h => ⟨h.1.mono H, PVs.mono H h.2⟩
theorem PVs.ext {w w' : World} {Q : Nat → Prop} {ps : List (List Int)} {vs : List Value} (h : PVs w Q ps vs) (k : Ext w w') : PVs w' Q ps vs := h.mono (fun b hb hl => ⟨hb, Nat.lt_of_lt_of_le hl k.size, Below.block k b hl⟩)
theorem PVs.len {w : World} {Q : Nat → Prop} : ∀ {ps : List (List Int)} {vs : List Value}, PVs w Q ps vs → vs.length = ps.length
  | [], [], _ => rfl
  | [], _ :: _, h => by cases h
  | _ :: _, [], h => by cases h
  | _ :: _, _ :: _, h => by simp [PVs.len h.2]
theorem PVs.app {w : World} {Q : Nat → Prop} : ∀ {ps qs : List (List Int)} {vs us : List Value}, PVs w Q ps vs → PVs w Q qs us → PVs w Q (ps ++ qs) (vs ++ us)
  | [], _, [], _, _, k => k
  | [], _, _ :: _, _, h, _ => by cases h
  | _ :: _, _, [], _, h, _ => by cases h
  | _ :: _, _, _ :: _, _, h, k => ⟨h.1, PVs.app h.2 k⟩
theorem PVs.get {w : World} {Q : Nat → Prop} : ∀ {ps : List (List Int)} {vs : List Value} {i : Nat}, PVs w Q ps vs → i < ps.length → ∃ v, vs[i]? = some v ∧ PV w Q (ps.getD i []) v
  | [], _, _, _, hi => by simp at hi
  | _ :: _, [], _, h, _ => by cases h
  | _ :: _, v :: _, 0, h, _ => ⟨v, rfl, h.1⟩
  | _ :: _, _ :: _, i + 1, h, hi => by
    obtain ⟨v, h1, h2⟩ := PVs.get h.2 (i := i) (by simpa using hi)
    exact ⟨v, by simpa using h1, by simpa using h2⟩
theorem PVs.one {w : World} {Q : Nat → Prop} : ∀ {ps : List (List Int)} {vs : List Value}, PVs w Q ps vs → ∀ u ∈ vs, u.oneCell' = true
  | [], [], _, u, hu => by cases hu
  | [], _ :: _, h, _, _ => by cases h
  | _ :: _, [], h, _, _ => by cases h
  | _ :: _, _ :: _, h, u, hu => by
    rcases List.mem_cons.1 hu with rfl | hu
    · obtain ⟨b, off, c, rfl, _⟩ := h.1
      rfl
    · exact PVs.one h.2 u hu

/-- Values lie at this address, one behind the other. -/
def RowAt (w : World) (ro : Option Addr) (vs : List Value) : Prop := (vs = [] ∧ ro = none) ∨ ∃ g off, ro = some ⟨g, off, none⟩ ∧ g < w.heap.size ∧ ∀ (i : Nat) (v : Value), vs[i]? = some v → w.cell? ⟨g, off + i, none⟩ = some v
theorem RowAt.ext {w w' : World} {ro : Option Addr} {vs : List Value} (h : RowAt w ro vs) (k : Ext w w') : RowAt w' ro vs := by
  rcases h with h | ⟨g, off, h1, h2, h3⟩
  · exact Or.inl h
  · exact Or.inr ⟨g, off, h1, Nat.lt_of_lt_of_le h2 k.size, fun i v hv => (k.cells.1 _ _ h2).trans (h3 i v hv)⟩
theorem rowAt_own {w : World} {base : Nat} {e : TypeId} {v : Value} {vs : List Value} (h : w.ownsRow base e 1 v vs.length vs) : ∃ ro c, v = .slice ro vs.length c ∧ RowAt w ro vs := by
  rcases h.2 with ⟨h1, h2⟩ | ⟨g, c, cur, hv, _⟩
  · exact ⟨none, 0, by rw [h1, h2], Or.inl ⟨List.eq_nil_of_length_eq_zero h2, rfl⟩⟩
  · subst hv
    refine ⟨some ⟨g, 0, none⟩, c, rfl, Or.inr ⟨g, 0, rfl, (h.lt g rfl).2, fun i v hv => ?_⟩⟩
    have hi := (List.getElem?_eq_some_iff.1 hv).1
    rw [Nat.zero_add, h.cellAt i (by omega)]
    exact hv

theorem run_append_nil {P : Program} (w : World) (t ty e : TypeId) (i : TypeInfo) (ht : P.underlying t = some (.slice e)) (hi : P.info? e = some i) {base size : Nat} {v : Value} {n : Nat} {xs : List Value} (hown : w.ownsRow base e size v n xs) :
    (Builtin.append_ #[t, t] ty #[v, .slice none 0 0]).run P w = .ok v w := by
  rcases hown.2 with ⟨rfl, _⟩ | ⟨g, cap, cur, rfl, _, _, h1, h2, _⟩
  · simp [Builtin.append_, run_underlying ht, sizeOf, typeInfo, hi, Builtin.lenOf, Builtin.firstCells]
  · simp [Builtin.append_, run_underlying ht, sizeOf, typeInfo, hi, Builtin.lenOf, Builtin.firstCells, storeCells, loadCells, h1]

/-- At a step of a region that draws its order: a list that may be empty is appended to one of its own. -/
theorem step_append_row {P : Program} {ops : Array Oper} {o : Oper} {a : Act} {K : Act → World → Prop} {Q : Exit → Act → World → Prop} {E : Prop} (w : World) (hgd : o.guard = none) (s y : Operand) (t : TypeId)
    (ho : o.op = .call { callee := .builtin .append, args := #[s, y], argTypes := #[t, t] })
    (base : Nat) (e : TypeId) (i : TypeInfo) (z : Value) (bytes : Nat) (ht : P.underlying t = some (.slice e)) (hi : P.info? e = some i) (hz : i.zero = some z)
    (hsize : i.size = 1) (hby : i.bytes = bytes) (hzs : z.cells.size = 1)
    (v : Value) (n : Nat) (xs : List Value) (hs : a.eval s = v) (hown : w.ownsRow base e 1 v n xs)
    (ro : Option Addr) (m c : Nat) (news : List Value) (hx : a.eval y = .slice ro m c) (hl : news.length = m) (hc : ro = none → c = 0) (hrow : RowAt w ro news) (h1 : ∀ u ∈ news, u.oneCell' = true)
    (h63 : n + m ≤ maxLen) (hbytes : (n + m) * bytes ≤ 140737488355328) (hbase : base ≤ w.heap.size)
    (h : ∀ v' w', w'.ownsRow base e 1 v' (n + m) (xs ++ news) → w.grownBy w' v.ownBlock → (v'.ownBlock = v.ownBlock ∨ v'.ownBlock = some w.heap.size) → K (a.put o.dst v') w') :
    if Region.wanted o (yielded ops a.tmps) = true then Oper.wp P o a w K Q else E := by
  have hw : Region.wanted o (yielded ops a.tmps) = true := by simp [Region.wanted, hgd]
  rw [if_pos hw]
  rcases hrow with ⟨rfl, rfl⟩ | ⟨g, off, rfl, hg, hr⟩
  · have hm : m = 0 := by simpa using hl.symm
    subst hm
    have hc0 := hc rfl
    subst hc0
    have hrun := run_append_nil (P := P) w t o.type e i ht hi hown
    unfold Oper.wp execOp
    simp only [ho, resolve, invoke, builtin, Sem.run_bind, Sem.run_pure, Result.andThen_ok, List.map_toArray, List.map_cons, List.map_nil, hs, hx, hrun]
    exact h v w (by simpa using hown) (World.grownBy.refl _ _) (Or.inl rfl)
  · obtain ⟨v', w', hrun, h2, h3, _, h5⟩ := run_append_own_at (P := P) w base t o.type e i z 1 bytes ht hi hz hsize hby hzs (by omega) v n xs hown ⟨g, off, none⟩ m c news (by omega) (fun j u hu => by rw [Addr.add_mid]; exact hr j u hu) h1 h63 hbytes hbase
    unfold Oper.wp execOp
    simp only [ho, resolve, invoke, builtin, Sem.run_bind, Sem.run_pure, Result.andThen_ok, List.map_toArray, List.map_cons, List.map_nil, hs, hx, hrun]
    exact h v' w' h2 h3 h5

theorem infoL : (Try.prog.info? 26).map (fun i => (i.zero, i.size, i.bytes)) = some (some (.slice none 0 0), 1, 24) := by kernel_rfl
theorem own_ext {w w' : World} {base : Nat} {e : TypeId} {size n : Nat} {v : Value} {xs : List Value} (h : w.ownsRow base e size v n xs) (k : Ext w w') : w'.ownsRow base e size v n xs := by
  have hlt := h.lt
  obtain ⟨e1, e2⟩ := h
  refine ⟨e1, ?_⟩
  rcases e2 with e3 | ⟨g, cap, cur, hv, hb, hgc, r⟩
  · exact Or.inl e3
  · exact Or.inr ⟨g, cap, cur, hv, hb, (Below.block k g (hlt g (by rw [hv]; rfl)).2).trans hgc, r⟩
theorem own_none {w : World} {base B : Nat} (hB : base ≤ B) (h : w.heap[B]? = some (.cells #[] 3 (0, 0))) : w.ownsRow base 3 1 (.slice (some ⟨B, 0, none⟩) 0 0) 0 [] :=
  ⟨rfl, Or.inr ⟨B, 0, #[], rfl, hB, h, Nat.le_refl _, by decide, rfl, rfl⟩⟩
theorem heap_new (w : World) (o : Obj) : (w.alloc o).heap[w.heap.size]? = some o := blk_alloc_new w o

end Go.Proofs.Ytgffkjjddhlbpaa

namespace Go.Proofs.Ytgffkjjddhlbpaa
open Go.RowKit Go.Maps Stw Go.Deep Stp

/-- All does what it should, with so many switches left. -/
def AllOk (nn : Nat) (ls : List Lk) (ao : Option Addr) (len cap : Nat) (to : Int) (k : Nat) : Prop :=
  ∀ (p : List Int) (b off pc : Nat) (w : World), p.length + k = 9 → p.Nodup → (∀ y ∈ p, 0 ≤ y ∧ y < (nn : Int)) → p ≠ [] → b < w.heap.size → IntsAt w b off p → p.length ≤ pc → NetAt w ao ls →
    Calls Try.prog 67 #[.agg #[.int .i64 nn, .slice ao len cap], .slice (some ⟨b, off, none⟩) p.length pc, .int .i64 to] w fun e w' => ∃ ro rcap vs, e = .returned (.slice ro vs.length rcap) ∧ Ext w w' ∧ RowAt w' ro vs ∧ (ro = none → rcap = 0) ∧ PVs w' (fun c => c = b ∨ w.heap.size ≤ c) (all (cost ls) nn to k p) vs

theorem lst_last {w : World} {b off : Nat} {p : List Int} (h : IntsAt w b off p) (hp : p ≠ []) : w.cell? ⟨b, off + (p.length - 1), none⟩ = some (.int .i64 (lst p)) := by
  have h0 : 0 < p.length := List.length_pos_iff.2 hp
  rw [h (p.length - 1) (by omega), lst_getD hp]
theorem row_one {W : World} {g : Nat} (h : W.heap.size = g) (v : Value) (T : TypeId) : RowAt (W.alloc (.cells #[v] T)) (some ⟨g, 0, none⟩) [v] := by
  subst h
  refine Or.inr ⟨_, 0, rfl, by simp, fun i u hu => ?_⟩
  match i, hu with
  | 0, hu => simp at hu; subst hu; simp

/-- One switch more of those that are gone to next. -/
def allF (C : Int → Int → Int) (n : Nat) (to : Int) (k : Nat) (p : List Int) (s : Nat) : List (List Int) := if ¬ (s : Int) ∈ p ∧ 0 < C (lst p) (s : Int) then all C n to k (p ++ [(s : Int)]) else []
theorem allF_len {C : Int → Int → Int} {n : Nat} {to : Int} {k : Nat} {p : List Int} (hn : n ≤ 8) (hk : k ≤ 8) (s : Nat) (hs : s ≤ n) : ((List.range s).flatMap (allF C n to k p)).length ≤ 134217728 := by
  have h1 := flat_len (allF C n to k p) (8 ^ k) (List.range s) (fun x _ => by
    unfold allF
    split
    · exact all_len hn k _
    · simp)
  have h2 : 8 ^ k ≤ 8 ^ 8 := Nat.pow_le_pow_right (by omega) hk
  have h3 : (List.range s).length * 8 ^ k ≤ 8 * 8 ^ 8 := Nat.mul_le_mul (by simp; omega) h2
  have h4 : 8 * 8 ^ 8 = 134217728 := by decide
  omega

theorem Ext.grown_own {a b b' c : World} {e : TypeId} {size n : Nat} {v : Value} {xs : List Value} (h : Ext a b) (ho : b'.ownsRow a.heap.size e size v n xs) (hg : b.grownBy c v.ownBlock) : Ext a c := Below.grown h hg h.size (fun k hk => (ho.lt k hk).1)
theorem one1' (x : Int) : ∀ u ∈ [Value.int .i64 x], u.oneCell' = true := by intro u hu; simp at hu; subst hu; rfl
theorem own_zero {w : World} {base : Nat} {e : TypeId} {size n c : Nat} {ro : Option Addr} {xs : List Value} (h : w.ownsRow base e size (.slice ro n c) n xs) : ro = none → c = 0 := by
  intro h0
  subst h0
  rcases h.2 with ⟨h1, _⟩ | ⟨g, c, cur, hv, _⟩
  · cases h1; rfl
  · cases hv
theorem own_ints' {w : World} {base g c : Nat} {p : List Int} {s : Int} (h : w.ownsRow base 3 1 (.slice (some ⟨g, 0, none⟩) (p.length + 1) c) (p.length + 1) (p.map (Value.int .i64) ++ [.int .i64 s])) : IntsAt w g 0 (p ++ [s]) := by
  intro i hi
  have hi' : i < p.length + 1 := by simpa using hi
  have e : p.map (Value.int .i64) ++ [.int .i64 s] = (p ++ [s]).map (Value.int .i64) := by simp
  rw [Nat.zero_add, h.cellAt i (by omega), e, List.getElem?_map, List.getElem?_eq_getElem hi]
  simp [List.getD_eq_getElem?_getD, List.getElem?_eq_getElem hi]
theorem own_cap' {w : World} {base g c : Nat} {p : List Int} {s : Int} (h : w.ownsRow base 3 1 (.slice (some ⟨g, 0, none⟩) (p.length + 1) c) (p.length + 1) (p.map (Value.int .i64) ++ [.int .i64 s])) : (p ++ [s]).length ≤ c := by
  rcases h.2 with ⟨h0, _⟩ | ⟨g', cap', cur, hv, _, _, h1, h2, _⟩
  · cases h0
  · cases hv; simpa using h1

/-- What is kept when the paths on from one switch more are appended. -/
theorem all_rel {w wq w3 w4 w5 : World} {o : Obj} {B g : Nat} {ov v5 : Value} {L vs : List Value} {ps qs : List (List Int)} (hownq : wq.ownsRow B 26 1 ov L.length L) (hpvq : PVs wq (fun c => B ≤ c ∧ ov.ownBlock ≠ some c) ps L) (hbelq : Below B (w.alloc o) wq) (hszq : B ≤ wq.heap.size) (mk4 : Ext wq w4)
    (hown5 : w5.ownsRow B 26 1 v5 (L.length + vs.length) (L ++ vs)) (hgr5 : w4.grownBy w5 ov.ownBlock) (hat5 : v5.ownBlock = ov.ownBlock ∨ v5.ownBlock = some w4.heap.size) (hg : wq.heap.size ≤ g) (h3 : wq.heap.size ≤ w3.heap.size) (hpv4 : PVs w4 (fun c => c = g ∨ w3.heap.size ≤ c) qs vs) :
    w5.ownsRow B 26 1 v5 (L ++ vs).length (L ++ vs) ∧ PVs w5 (fun c => B ≤ c ∧ v5.ownBlock ≠ some c) (ps ++ qs) (L ++ vs) ∧ Below B (w.alloc o) w5 := by
  have hs4 := mk4.size
  have hs5 := hgr5.size
  have hov : ∀ c, ov.ownBlock = some c → c < wq.heap.size := fun c hc => (hownq.lt c hc).2
  have hv5 : ∀ c, ov.ownBlock ≠ some c → c < w4.heap.size → v5.ownBlock ≠ some c := fun c hc hl e => by
    rcases hat5 with h | h
    · exact hc (h.symm.trans e)
    · rw [h] at e
      injection e with e
      omega
  refine ⟨by rw [List.length_append]; exact hown5, ?_, ?_⟩
  · refine PVs.app (hpvq.mono (fun c hc hl => ⟨⟨hc.1, hv5 c hc.2 (by omega)⟩, by omega, ?_⟩)) (hpv4.mono (fun c hc hl => ?_))
    · exact (hgr5.block c (by omega) (fun e => hc.2 e.symm)).trans (Below.block mk4 c hl)
    · have hcq : wq.heap.size ≤ c := by rcases hc with rfl | hc <;> omega
      have hne : ov.ownBlock ≠ some c := fun e => by have := hov c e; omega
      exact ⟨⟨by omega, hv5 c hne hl⟩, by omega, hgr5.block c hl (fun e => hne e.symm)⟩
  · exact Below.grown (below_ext hbelq mk4 hszq) hgr5 (by omega) (fun j hj => (hownq.lt j hj).1)

set_option maxRecDepth 100000 in
set_option maxHeartbeats 4000000 in
theorem all_step {nn : Nat} {ls : List Lk} {ao : Option Addr} {len cap : Nat} {to : Int} (hlen : ls.length = len) (hx : len ≤ 9223372036854775807) (hr : Right (nn : Int) ls) {k : Nat} (IH : AllOk nn ls ao len cap to k) : AllOk nn ls ao len cap to (k + 1) := by
  intro p b off pc w hpk hnd hrg hne hb hat hpc hl
  have hbd := hr.bounds
  have hp0 : 0 < p.length := List.length_pos_iff.2 hne
  have cl := lst_last hat hne
  have i0 : 0 < p.length := hp0
  have i8 : p.length ≤ 8 := by omega
  by_cases ht : lst p = to
  · have HA : Hid (all (cost ls) nn to (k + 1) p = [p]) := by unfold all; rw [if_pos ht]; exact hidp rfl
    have ht' : (lst p == to) = true := by simpa using ht
    clear ht
    go_enter Try.func67, Try.ntmps67
    go_wp2
    go_ret
    refine ⟨some ⟨w.heap.size + 1, 0, none⟩, 1, [.slice (some ⟨b, off, none⟩) p.length pc], rfl, ((Ext.refl w).alloc _).alloc _, row_one (by simp) _ _, fun h => (by cases h), ?_⟩
    rw [HA.out]
    exact ⟨⟨b, off, pc, rfl, Or.inl rfl, by simp; omega, fun i hi => ((((Ext.refl w).alloc _).alloc _).cells.1 _ _ hb).trans (hat i hi), hpc⟩, trivial⟩
  · have HA : Hid (all (cost ls) nn to (k + 1) p = (List.range nn).flatMap (allF (cost ls) nn to k p)) := by unfold all; rw [if_neg ht]; exact hidp rfl
    have ht' : (lst p == to) = false := by simpa using ht
    have hlm : 0 ≤ lst p ∧ lst p < (nn : Int) := hrg _ (lst_mem hne)
    obtain ⟨z, hz⟩ : ∃ z, z = lst p := ⟨_, rfl⟩
    rw [← hz] at cl ht' hlm
    have HZ := hidp hz
    clear ht hz
    go_enter Try.func67, Try.ntmps67
    go_wp2
    go_loopw [8, 9] (fun v iv wr => ∃ (s : Nat) (ov : Value) (L : List Value), ov = v ∧ s ≤ nn ∧ iv = .int .i64 s ∧ wr.ownsRow (w.heap.size + 1) 26 1 ov L.length L ∧ PVs wr (fun c => w.heap.size + 1 ≤ c ∧ ov.ownBlock ≠ some c) ((List.range s).flatMap (allF (cost ls) nn to k p)) L ∧ Below (w.heap.size + 1) (w.alloc (.cells #[.int .i64 nn, .slice ao len cap] 31)) wr) (fun _ iv _ => nn - (intOf iv).toNat)
    case atStart => exact ⟨0, _, [], rfl, Nat.zero_le _, rfl, World.ownsRow_nil _ _ _ _, trivial, Below.refl _ _⟩
    case round =>
      obtain ⟨s, ov, L, hov, hs, rfl, hown, hpv, hbel⟩ := hrel
      subst hov
      obtain ⟨wo, rfl⟩ : ∃ wo : World, wo = wr := ⟨_, rfl⟩
      have hE : Ext w wo := Below.trans ((Ext.refl w).alloc _) (hbel.mono (by omega))
      have hsz : w.heap.size + 1 ≤ wo.heap.size := by have := hbel.size; simp at this; omega
      have hsz' : w.heap.size < wo.heap.size := by omega
      have k0 : w.heap.size < w.heap.size + 1 := by omega
      have c0 : wo.cell? ⟨w.heap.size, 0, none⟩ = some (.int .i64 nn) := (hbel.cell (p := ⟨w.heap.size, 0, none⟩) k0).trans (by simp)
      have c1 : wo.cell? ⟨w.heap.size, 1, none⟩ = some (.slice ao len cap) := (hbel.cell (p := ⟨w.heap.size, 1, none⟩) k0).trans (by simp)
      have hpl : ListAt wo (some ⟨b, off, none⟩) p := Or.inr ⟨b, off, rfl, by omega, fun i hi => (hE.cells.1 _ _ hb).trans (hat i hi)⟩
      have HFl : Hid ((List.range (s + 1)).flatMap (allF (cost ls) nn to k p) = (List.range s).flatMap (allF (cost ls) nn to k p) ++ allF (cost ls) nn to k p s) := by
        have : (List.range (s + 1)).flatMap (allF (cost ls) nn to k p) = (List.range s).flatMap (allF (cost ls) nn to k p) ++ allF (cost ls) nn to k p s := by rw [List.range_succ, List.flatMap_append]; simp
        exact hidp this
      have HB : Hid (∀ W : World, Ext wo W → W.cell? ⟨w.heap.size, 0, none⟩ = some (.int .i64 nn) ∧ W.cell? ⟨w.heap.size, 1, none⟩ = some (.slice ao len cap)) := fun W h => ⟨(h.cells.1 _ _ hsz').trans c0, (h.cells.1 _ _ hsz').trans c1⟩
      by_cases hlt : s < nn
      · cases hin : decide ((s : Int) ∈ p)
        · have hin' : ¬ (s : Int) ∈ p := of_decide_eq_false hin
          by_cases hc : 0 < cost ls z (s : Int)
          · have HF : Hid (allF (cost ls) nn to k p s = all (cost ls) nn to k (p ++ [(s : Int)])) := by unfold allF; rw [← HZ.out, if_pos ⟨hin', hc⟩]; exact hidp rfl
            have HND : Hid ((p ++ [(s : Int)]).Nodup) := by
              rw [List.nodup_append]
              refine ⟨hnd, by simp, fun a ha b hb => ?_⟩
              simp at hb
              subst hb
              intro e
              subst e
              exact hin' ha
            have HRG : Hid (∀ y ∈ p ++ [(s : Int)], 0 ≤ y ∧ y < (nn : Int)) := fun y hy => by
              rcases List.mem_append.1 hy with hy | hy
              · exact hrg y hy
              · simp at hy; subst hy; omega
            have HLn : Hid (∀ vs : List Value, vs.length = (all (cost ls) nn to k (p ++ [(s : Int)])).length → L.length + vs.length ≤ 134217728) := fun vs hvs => by
              have h1 := allF_len (C := cost ls) (n := nn) (to := to) (k := k) (p := p) (by omega) (by omega) (s + 1) (by omega)
              rw [HFl.out, List.length_append, ← hpv.len, HF.out] at h1
              omega
            have HI : Hid (∀ (g gc : Nat) (W : World), g < W.heap.size → IntsAt W g 0 (p ++ [(s : Int)]) → (p ++ [(s : Int)]).length ≤ gc → NetAt W ao ls →
                Calls Try.prog 67 #[.agg #[.int .i64 nn, .slice ao len cap], .slice (some ⟨g, 0, none⟩) (p.length + 1) gc, .int .i64 to] W fun e w' => ∃ ro rcap vs, e = .returned (.slice ro vs.length rcap) ∧ Ext W w' ∧ RowAt w' ro vs ∧ (ro = none → rcap = 0) ∧ PVs w' (fun c => c = g ∨ W.heap.size ≤ c) (all (cost ls) nn to k (p ++ [(s : Int)])) vs) := fun g gc W h1 h2 h3 h4 => by
              have h5 := IH (p ++ [(s : Int)]) g 0 gc W (by simp; omega) HND.out HRG.out (by simp) h1 h2 h3 h4
              have e5 : (p ++ [(s : Int)]).length = p.length + 1 := by simp
              rw [e5] at h5
              exact h5
            obtain ⟨j0, hj0, hy0, hy1, hy2⟩ := info_parts infoI
            obtain ⟨l0, hl0, hm0, hm1, hm2⟩ := info_parts infoL
            clear hin'
            go_wp2_with fail
            refine (in_any (some ⟨b, off, none⟩) pc p.length p (s : Int) _ rfl hpl (by omega)).mono ?_
            rintro e w2 ⟨he, hw2⟩
            obtain rfl := hw2.symm
            rw [hin] at he
            subst he
            go_wp2_with fail
            refine (refCost_any nn z (s : Int) ao len cap ls _ hlen (hl.ext hE) hx).mono ?_
            rintro e wq ⟨rfl, Eq⟩
            have hEq := hE.trans Eq
            have hownq := own_ext hown Eq
            have hpvq := hpv.ext Eq
            have hbelq : Below (w.heap.size + 1) (w.alloc (.cells #[.int .i64 nn, .slice ao len cap] 31)) wq := below_ext hbel Eq hsz
            have hszq : w.heap.size + 1 ≤ wq.heap.size := by have := Eq.size; omega
            have hszq' : w.heap.size < wq.heap.size := by omega
            have hbq : b < wq.heap.size := by have := hEq.size; omega
            clear HB
            have HB : Hid (∀ W : World, Ext wq W → W.cell? ⟨w.heap.size, 0, none⟩ = some (.int .i64 nn) ∧ W.cell? ⟨w.heap.size, 1, none⟩ = some (.slice ao len cap)) := fun W h => ⟨((Eq.trans h).cells.1 _ _ hsz').trans c0, ((Eq.trans h).cells.1 _ _ hsz').trans c1⟩
            have HY : Hid (∀ w4 w5 : World, Ext wq w4 → w4.grownBy w5 ov.ownBlock → w5.cell? ⟨w.heap.size, 0, none⟩ = some (.int .i64 nn) ∧ w5.cell? ⟨w.heap.size, 1, none⟩ = some (.slice ao len cap)) := fun w4 w5 h hg => by
              have hne : some w.heap.size ≠ ov.ownBlock := fun e => by have := (hownq.lt w.heap.size e.symm).1; omega
              have hlt4 : w.heap.size < w4.heap.size := by have := h.size; omega
              obtain ⟨h1, h2⟩ := HB.out w4 h
              exact ⟨(hg.cell_far ⟨w.heap.size, 0, none⟩ hlt4 hne).trans h1, (hg.cell_far ⟨w.heap.size, 1, none⟩ hlt4 hne).trans h2⟩
            obtain ⟨c0q, c1q⟩ := HB.out wq (Ext.refl _)
            clear c0 c1 hown hpv hbel hsz hsz' hpl hin
            have hnews : ∀ W, Ext wq W → RowAt W (some ⟨b, off, none⟩) (p.map (Value.int .i64)) := fun W hW => Or.inr ⟨b, off, rfl, by have := hW.size; omega, fun i u hu => by
              have hi : i < p.length := by have := (List.getElem?_eq_some_iff.1 hu).1; simpa using this
              rw [List.getElem?_map, List.getElem?_eq_getElem hi] at hu
              simp at hu
              rw [(hEq.trans hW).cells.1 _ _ hb, hat i hi, ← hu, getD_eq hi]⟩
            have hone : ∀ u ∈ p.map (Value.int .i64), u.oneCell' = true := fun u hu => by
              obtain ⟨x, _, rfl⟩ := List.mem_map.1 hu
              rfl
            have HA1 := hidp (And.intro (show ((wq.alloc (Obj.cells #[] 3)).drew).ownsRow wq.heap.size 3 1 (.slice (some ⟨wq.heap.size, 0, none⟩) 0 0) 0 [] from own_none (Nat.le_refl _) (heap_new wq _)) (And.intro (hnews ((wq.alloc (Obj.cells #[] 3)).drew) ((Ext.refl wq).alloc _).drew) (And.intro (show wq.heap.size ≤ ((wq.alloc (Obj.cells #[] 3)).drew).heap.size by simp) (fun w2 (h : ((wq.alloc (Obj.cells #[] 3)).drew).grownBy w2 (some wq.heap.size)) => (show Ext wq w2 from Below.grown ((Below.refl _ _).alloc (Nat.le_refl _) _).drew h (by simp) (fun j hj => by cases hj; exact Nat.le_refl _))))))
            have HB1 := hidp (And.intro (show (((wq.alloc (Obj.cells #[] 3)).alloc (Obj.cells #[.int .i64 s] 3)).drew).ownsRow wq.heap.size 3 1 (.slice (some ⟨wq.heap.size, 0, none⟩) 0 0) 0 [] from own_none (Nat.le_refl _) ((blk_alloc_lt _ _ _ (by simp)).trans (heap_new wq _))) (And.intro (hnews (((wq.alloc (Obj.cells #[] 3)).alloc (Obj.cells #[.int .i64 s] 3)).drew) (((Ext.refl wq).alloc _).alloc _).drew) (And.intro (show wq.heap.size ≤ (((wq.alloc (Obj.cells #[] 3)).alloc (Obj.cells #[.int .i64 s] 3)).drew).heap.size by simp; omega) (fun w2 (h : (((wq.alloc (Obj.cells #[] 3)).alloc (Obj.cells #[.int .i64 s] 3)).drew).grownBy w2 (some wq.heap.size)) => (show Ext wq w2 from Below.grown (((Below.refl _ _).alloc (Nat.le_refl _) _).alloc (by simp) _).drew h (by simp; omega) (fun j hj => by cases hj; exact Nat.le_refl _))))))
            have HC1 := hidp (And.intro (show (((wq.alloc (Obj.cells #[.int .i64 s] 3)).alloc (Obj.cells #[] 3)).drew).ownsRow wq.heap.size 3 1 (.slice (some ⟨wq.heap.size + 1, 0, none⟩) 0 0) 0 [] from own_none (by omega) (by have := heap_new (wq.alloc (Obj.cells #[.int .i64 s] 3)) (Obj.cells #[] 3); rwa [World.size_alloc] at this)) (And.intro (hnews (((wq.alloc (Obj.cells #[.int .i64 s] 3)).alloc (Obj.cells #[] 3)).drew) (((Ext.refl wq).alloc _).alloc _).drew) (And.intro (show wq.heap.size ≤ (((wq.alloc (Obj.cells #[.int .i64 s] 3)).alloc (Obj.cells #[] 3)).drew).heap.size by simp; omega) (fun w2 (h : (((wq.alloc (Obj.cells #[.int .i64 s] 3)).alloc (Obj.cells #[] 3)).drew).grownBy w2 (some (wq.heap.size + 1))) => (show Ext wq w2 from Below.grown (((Below.refl _ _).alloc (Nat.le_refl _) _).alloc (by simp) _).drew h (by simp; omega) (fun j hj => by cases hj; omega))))))
            have HNB : Hid (∀ w2, (((wq.alloc (Obj.cells #[] 3)).alloc (Obj.cells #[.int .i64 s] 3)).drew).grownBy w2 (some wq.heap.size) → w2.heap[wq.heap.size + 1]? = some (.cells #[.int .i64 s] 3 (0, 0))) := fun w2 h => by
              rw [h.block (wq.heap.size + 1) (by simp) (by simp)]
              have := heap_new (wq.alloc (Obj.cells #[] 3)) (Obj.cells #[.int .i64 s] 3)
              rwa [World.size_alloc] at this
            have HNC : Hid (∀ w2, (((wq.alloc (Obj.cells #[.int .i64 s] 3)).alloc (Obj.cells #[] 3)).drew).grownBy w2 (some (wq.heap.size + 1)) → w2.heap[wq.heap.size]? = some (.cells #[.int .i64 s] 3 (0, 0))) := fun w2 h => by
              rw [h.block wq.heap.size (by simp; omega) (by simp)]
              exact (blk_alloc_lt _ _ _ (by simp)).trans (heap_new wq _)
            go_wp2
            go_region_held3 (fun W => W.cell? ⟨w.heap.size, 0, none⟩ = some (.int .i64 nn) ∧ W.cell? ⟨w.heap.size, 1, none⟩ = some (.slice ao len cap))
              (first | exact HB.out _ (Ext.refl wq).drew | exact HB.out _ ((Ext.refl wq).alloc _).drew | exact HB.out _ (((Ext.refl wq).alloc _).alloc _).drew | exact HB.out _ hX2 | exact HB.out _ (hX2.alloc _) | exact HB.out _ mk3 | exact HB.out _ mk4 | exact HY.out _ _ mk4 hgr5)
              (first
              | (have _t := mk4
                 refine step_append_row _ ?_ (.tmp 38) (.tmp 47) 133 ?_ (w.heap.size + 1) 26 l0 (.slice none 0 0) 24 Try.underlying133 hl0 hm0 hm1 hm2 rfl ov L.length L ?_ ?_ ro vs.length rcap vs ?_ rfl hrc ?_ hpv4.one ?_ ?_ ?_ ?_
                 · rfl
                 · rfl
                 · rfl
                 · with_reducible exact own_ext hownq mk4
                 · rfl
                 · with_reducible exact hrow
                 · have := HLn.out vs hpv4.len; unfold maxLen; omega
                 · have := HLn.out vs hpv4.len; omega
                 · have := mk4.size; omega
                 intro v5 w5 hown5 hgr5 hat5)
              | (have _t := mk3
                 go_at_call 67
                 refine (HI.out g gc _ hlt3 (own_ints' hown3) (own_cap' hown3) (hl.ext (hEq.trans mk3))).mono ?_
                 rintro e w4 ⟨ro, rcap, vs, rfl, hE4, hrow, hrc, hpv4⟩
                 have mk4 := mk3.trans hE4)
              | (have _t := hX2
                 refine step_append_lies _ ?_ (.tmp 42) (.tmp 44) 26 ?_ wq.heap.size 3 j0 (.int .i64 0) 1 8 Try.underlying26 hj0 hy0 hy1 hy2 rfl (by decide) (.slice (some ⟨g1, 0, none⟩) p.length gc1) p.length (p.map (Value.int .i64)) ?_ ?_ ⟨w2.heap.size, 0, none⟩ 1 1 [.int .i64 s] ?_ ?_ ?_ (one1' _) ?_ ?_ ?_ ?_ _ rfl ?_
                 · rfl
                 · rfl
                 · rfl
                 · with_reducible exact hown2.alloc _
                 · rfl
                 · rfl
                 · exact World.news_of_block (cs := #[.int .i64 s]) (heap_new w2 _)
                 · omega
                 · unfold maxLen; omega
                 · omega
                 · have := hX2.size; simp; omega
                 intro g gc w3 hown3 hgr3 hat3 hlt3
                 have hX3 : Ext wq w3 := Ext.grown_own (hX2.alloc _) hown2 hgr3
                 have mk3 := hX3)
              | (have _t := hX2
                 refine step_append_lies _ ?_ (.tmp 42) (.tmp 44) 26 ?_ wq.heap.size 3 j0 (.int .i64 0) 1 8 Try.underlying26 hj0 hy0 hy1 hy2 rfl (by decide) (.slice (some ⟨g1, 0, none⟩) p.length gc1) p.length (p.map (Value.int .i64)) ?_ ?_ ⟨wq.heap.size + 1, 0, none⟩ 1 1 [.int .i64 s] ?_ ?_ ?_ (one1' _) ?_ ?_ ?_ ?_ _ rfl ?_
                 · rfl
                 · rfl
                 · rfl
                 · with_reducible exact hown2
                 · rfl
                 · rfl
                 · exact World.news_of_block (cs := #[.int .i64 s]) (HNB.out w2 hgr2)
                 · omega
                 · unfold maxLen; omega
                 · omega
                 · have := hX2.size; omega
                 intro g gc w3 hown3 hgr3 hat3 hlt3
                 have hX3 : Ext wq w3 := Ext.grown_own hX2 hown2 hgr3
                 have mk3 := hX3)
              | (have _t := hX2
                 refine step_append_lies _ ?_ (.tmp 42) (.tmp 44) 26 ?_ wq.heap.size 3 j0 (.int .i64 0) 1 8 Try.underlying26 hj0 hy0 hy1 hy2 rfl (by decide) (.slice (some ⟨g1, 0, none⟩) p.length gc1) p.length (p.map (Value.int .i64)) ?_ ?_ ⟨wq.heap.size, 0, none⟩ 1 1 [.int .i64 s] ?_ ?_ ?_ (one1' _) ?_ ?_ ?_ ?_ _ rfl ?_
                 · rfl
                 · rfl
                 · rfl
                 · with_reducible exact hown2
                 · rfl
                 · rfl
                 · exact World.news_of_block (cs := #[.int .i64 s]) (HNC.out w2 hgr2)
                 · omega
                 · unfold maxLen; omega
                 · omega
                 · have := hX2.size; omega
                 intro g gc w3 hown3 hgr3 hat3 hlt3
                 have hX3 : Ext wq w3 := Ext.grown_own hX2 hown2 hgr3
                 have mk3 := hX3)
              | (refine step_append_row _ ?_ (.tmp 40) (.tmp 41) 26 ?_ wq.heap.size 3 j0 (.int .i64 0) 8 Try.underlying26 hj0 hy0 hy1 hy2 rfl (.slice (some ⟨wq.heap.size, 0, none⟩) 0 0) 0 [] ?_ ?_ (some ⟨b, off, none⟩) p.length pc (p.map (Value.int .i64)) ?_ ?_ ?_ ?_ hone ?_ ?_ ?_ ?_
                 · rfl
                 · rfl
                 · rfl
                 · with_reducible exact HA1.out.1
                 · rfl
                 · simp
                 · intro h; cases h
                 · with_reducible exact HA1.out.2.1
                 · unfold maxLen; omega
                 · omega
                 · with_reducible exact HA1.out.2.2.1
                 intro v2 w2 hown2 hgr2 _
                 have hX2 := HA1.out.2.2.2 w2 hgr2
                 obtain ⟨g1, gc1, hv2, hg1a, hg1b⟩ := hown2.form (by omega)
                 rw [Nat.zero_add] at hv2
                 subst hv2
                 rw [Nat.zero_add, List.nil_append] at hown2)
              | (refine step_append_row _ ?_ (.tmp 40) (.tmp 41) 26 ?_ wq.heap.size 3 j0 (.int .i64 0) 8 Try.underlying26 hj0 hy0 hy1 hy2 rfl (.slice (some ⟨wq.heap.size, 0, none⟩) 0 0) 0 [] ?_ ?_ (some ⟨b, off, none⟩) p.length pc (p.map (Value.int .i64)) ?_ ?_ ?_ ?_ hone ?_ ?_ ?_ ?_
                 · rfl
                 · rfl
                 · rfl
                 · with_reducible exact HB1.out.1
                 · rfl
                 · simp
                 · intro h; cases h
                 · with_reducible exact HB1.out.2.1
                 · unfold maxLen; omega
                 · omega
                 · with_reducible exact HB1.out.2.2.1
                 intro v2 w2 hown2 hgr2 _
                 have hX2 := HB1.out.2.2.2 w2 hgr2
                 obtain ⟨g1, gc1, hv2, hg1a, hg1b⟩ := hown2.form (by omega)
                 rw [Nat.zero_add] at hv2
                 subst hv2
                 rw [Nat.zero_add, List.nil_append] at hown2)
              | (refine step_append_row _ ?_ (.tmp 40) (.tmp 41) 26 ?_ wq.heap.size 3 j0 (.int .i64 0) 8 Try.underlying26 hj0 hy0 hy1 hy2 rfl (.slice (some ⟨wq.heap.size + 1, 0, none⟩) 0 0) 0 [] ?_ ?_ (some ⟨b, off, none⟩) p.length pc (p.map (Value.int .i64)) ?_ ?_ ?_ ?_ hone ?_ ?_ ?_ ?_
                 · rfl
                 · rfl
                 · rfl
                 · with_reducible exact HC1.out.1
                 · rfl
                 · simp
                 · intro h; cases h
                 · with_reducible exact HC1.out.2.1
                 · unfold maxLen; omega
                 · omega
                 · with_reducible exact HC1.out.2.2.1
                 intro v2 w2 hown2 hgr2 _
                 have hX2 := HC1.out.2.2.2 w2 hgr2
                 obtain ⟨g1, gc1, hv2, hg1a, hg1b⟩ := hown2.form (by omega)
                 rw [Nat.zero_add] at hv2
                 subst hv2
                 rw [Nat.zero_add, List.nil_append] at hown2)
              | fail)
            all_goals
              go_wp2
              go_roundw
              case rel =>
                obtain ⟨r1, r2, r3⟩ := all_rel hownq hpvq hbelq hszq mk4 hown5 hgr5 hat5 (hown3.lt g rfl).1 mk3.size hpv4
                exact ⟨s + 1, v5, L ++ vs, rfl, by omega, by go_num, r1, by rw [HFl.out, HF.out]; exact r2, r3⟩
              case measure => simp [intOf]; omega
          · have HF : Hid (allF (cost ls) nn to k p s = []) := by unfold allF; rw [← HZ.out, if_neg (fun h => hc h.2)]; exact hidp rfl
            clear hin'
            go_wp2_with fail
            refine (in_any (some ⟨b, off, none⟩) pc p.length p (s : Int) _ rfl hpl (by omega)).mono ?_
            rintro e w2 ⟨he, hw2⟩
            obtain rfl := hw2.symm
            rw [hin] at he
            subst he
            go_wp2_with fail
            refine (refCost_any nn z (s : Int) ao len cap ls _ hlen (hl.ext hE) hx).mono ?_
            rintro e wq ⟨rfl, Eq⟩
            go_wp2
            go_roundw
            case rel => exact ⟨s + 1, ov, L, rfl, by omega, by go_num, own_ext hown Eq, by rw [HFl.out, HF.out, List.append_nil]; exact hpv.ext Eq, below_ext hbel Eq hsz⟩
            case measure => simp [intOf]; omega
        · have HF : Hid (allF (cost ls) nn to k p s = []) := by unfold allF; rw [if_neg (fun h => h.1 (of_decide_eq_true hin))]; exact hidp rfl
          go_wp2_with fail
          refine (in_any (some ⟨b, off, none⟩) pc p.length p (s : Int) _ rfl hpl (by omega)).mono ?_
          rintro e w2 ⟨he, hw2⟩
          obtain rfl := hw2.symm
          rw [hin] at he
          subst he
          go_wp2
          go_roundw
          case rel => exact ⟨s + 1, ov, L, rfl, by omega, by go_num, hown, by rw [HFl.out, HF.out, List.append_nil]; exact hpv, hbel⟩
          case measure => simp [intOf]; omega
      · obtain rfl : s = nn := by omega
        obtain ⟨ro, rcap, rfl, hrow⟩ := rowAt_own hown
        have hrc : ro = none → rcap = 0 := own_zero hown
        go_wp2
        go_ret
        refine ⟨ro, rcap, L, rfl, hE, hrow, hrc, ?_⟩
        rw [HA.out]
        exact hpv.mono (fun c hc hl => ⟨Or.inr (by omega), hl, rfl⟩)

end Go.Proofs.Ytgffkjjddhlbpaa
