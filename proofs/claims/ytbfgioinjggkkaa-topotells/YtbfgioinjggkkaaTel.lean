/- TopoTells answers true, for every net, two numbers and a list; nothing that was there is changed. -/
import Derived.Test.YtbfgioinjggkkaaR3
import Derived.Test.YtbfgioinjggkkaaR4
import Derived.Test.YtbfgioinjggkkaaOpn
import Derived.Deep.RegionHeld3
import Derived.Laws.StructEq
namespace Go.Proofs.Ytbfgioinjggkkaa
open Go.RowKit Go.Maps Stw Go.Sort

theorem rl_len {n : Int} {ls : List Lk} {fr : Int} {L : List Int} (h : RL n ls fr L) : L.length ≤ 8 := by
  refine nodup_le 8 L (h.1.imp (fun {a b} h => by omega)) (fun x hx => ?_)
  obtain ⟨h1, h2, h3⟩ := (h.2 x).1 hx
  have hr := right_of h1
  have hb := hr.bounds
  have : 0 ≤ x ∧ x < n := h3 (fun y => 0 ≤ y ∧ y < n) (swB_true.1 h2) (fun a b _ hc => by have := (hr.cost a b).2.2 (by omega); omega)
  omega

set_option maxRecDepth 100000 in
set_option maxHeartbeats 4000000 in
theorem tells_any (n a b : Int) (ao po : Option Addr) (len cap pl pc : Nat) (ls : List Lk) (ps : List Int) (w : World) (hlen : ls.length = len) (hl : NetAt w ao ls) (hx : len ≤ 9223372036854775807) (hcap : len ≤ cap)
    (ia : I64 a) (ib : I64 b) (hpl : ps.length = pl) (hpx : pl * 8 ≤ 140737488351232) (hp : ListAt w po ps) (hi : ∀ x ∈ ps, I64 x) :
    Calls Try.prog 3 #[.agg #[.int .i64 n, .slice ao len cap], .int .i64 a, .int .i64 b, .slice po pl pc] w fun e w' => e = .returned (.bool true) ∧ Ext w w' := by
  have hfd := fldErr
  have hE0 : Ext w (w.alloc (.cells #[.int .i64 n, .slice ao len cap] 24)) := (Ext.refl w).alloc _
  have HS : Hid (∀ W : World, Ext (w.alloc (.cells #[.int .i64 n, .slice ao len cap] 24)) W → W.cell? ⟨w.heap.size, 0, none⟩ = some (.int .i64 n) ∧ W.cell? ⟨w.heap.size, 1, none⟩ = some (.slice ao len cap)) := fun W h =>
    ⟨(h.cells.1 _ _ (by simp)).trans (by simp), (h.cells.1 _ _ (by simp)).trans (by simp)⟩
  go_enter Try.func3, Try.ntmps3
  go_wp2
  obtain ⟨W0, hW0⟩ : ∃ W0, W0 = w.alloc (.cells #[.int .i64 n, .slice ao len cap] 24) := ⟨_, rfl⟩
  rw [← hW0] at HS hE0 ⊢
  clear hW0
  have hR0 := Ext.refl W0
  go_region_held3 (fun W => W.cell? ⟨w.heap.size, 0, none⟩ = some (.int .i64 n) ∧ W.cell? ⟨w.heap.size, 1, none⟩ = some (.slice ao len cap))
    (first | exact HS.out _ hR0.drew | exact HS.out _ (hR0.drew.trans hb1) | exact HS.out _ ((hR0.drew.trans hb1).trans hb2) | exact HS.out _ (((hR0.drew.trans hb1).trans hb2).trans hb3) | exact HS.out _ ((((hR0.drew.trans hb1).trans hb2).trans hb3).trans hb4) | exact HS.out _ (((((hR0.drew.trans hb1).trans hb2).trans hb3).trans hb4).trans hb5))
    (first
      | (go_at_call 7; refine (Wrong_any n ao len cap ls _ hlen ?_ hx).mono ?_; exact hl.ext (hE0.trans hR0.drew); rintro e v1 ⟨rfl, hb1⟩)
      | (go_at_call 8; refine (refWrong_any n ao len cap ls _ hlen ?_ hx hcap).mono ?_; exact hl.ext (hE0.trans (hR0.drew.trans hb1)); rintro e v2 ⟨rfl, hb2⟩)
      | (go_at_call 10; refine (Reaches_any n a ao len cap ls _ hlen ?_ hx).mono ?_; exact hl.ext (hE0.trans ((hR0.drew.trans hb1).trans hb2)); rintro e v3 ⟨lo1, lc1, L1, rfl, hL1, hrl1, hb3⟩)
      | (go_at_call 11; refine (refReaches_any n a ao len cap ls _ hlen ?_ hx hcap).mono ?_; exact hl.ext (hE0.trans (((hR0.drew.trans hb1).trans hb2).trans hb3)); rintro e v4 ⟨lo2, lc2, L2, rfl, hL2, hrl2, hb4⟩)
      | (go_at_call 9; obtain rfl := hrl1.unique hrl2; refine (Ints_any lo1 lo2 _ _ lc1 lc2 L1 L1 _ rfl rfl ?_ (hL1.ext hb4) hL2).mono ?_; (have := rl_len hrl1; omega); rintro e v5 ⟨he, hb5⟩; rw [show decide (L1 = L1) = true by simp] at he; subst he))
  have hW5 : Ext W0 v5 := ((((hR0.drew.trans hb1).trans hb2).trans hb3).trans hb4).trans hb5
  have hw5 : Ext w v5 := hE0.trans hW5
  obtain ⟨c0, c1⟩ := HS.out _ hW5
  clear hb1 hb2 hb3 hb4 hb5 hL1 hL2 hrl1 hrl2
  go_wp2_with fail
  refine (refWrong_any n ao len cap ls _ hlen (hl.ext hw5) hx hcap).mono ?_
  rintro e v6 ⟨rfl, hb6⟩
  have hw6 := hw5.trans hb6
  obtain ⟨d0, d1⟩ := HS.out _ (hW5.trans hb6)
  clear c0 c1
  by_cases hr : (wrong n ls).1 = 0
  · have hr' : wrong n ls = (0, 0) := (right_of hr).wrong
    have HR : Hid (wrong n ls = (0, 0)) := hr'
    have hrb : ((wrong n ls).1 != 0) = false := by simp [hr]
    clear hr hr'
    go_wp2_with fail
    refine (Length_any n ao po len cap pl pc ls ps _ hlen (hl.ext hw6) hx hpl hpx (hp.ext hw6) hi).mono ?_
    rintro e v7 ⟨rfl, hb7⟩
    have hw7 := hw6.trans hb7
    obtain ⟨c0, c1⟩ := HS.out _ ((hW5.trans hb6).trans hb7)
    clear d0 d1
    go_wp2_with fail
    refine (refLength_any n ao po len cap pl pc ls ps _ hlen (hl.ext hw7) hx HR.out hpl hpx (hp.ext hw7)).mono ?_
    rintro e v8 ⟨rfl, hb8⟩
    have hw8 := hw7.trans hb8
    have hW8 := ((hW5.trans hb6).trans hb7).trans hb8
    clear c0 c1
    have g0 : ∀ d os, (grow (redrawn v8 d) os).cell? ⟨w.heap.size, 0, none⟩ = some (.int .i64 n) := fun d os => (HS.out _ (hW8.trans (below_regrown v8 d os))).1
    have g1 : ∀ d os, (grow (redrawn v8 d) os).cell? ⟨w.heap.size, 1, none⟩ = some (.slice ao len cap) := fun d os => (HS.out _ (hW8.trans (below_regrown v8 d os))).2
    have HQ : Hid (∀ d os, Calls Try.prog 14 #[.agg #[.int .i64 n, .slice ao len cap], .int .i64 a, .int .i64 b] (grow (redrawn v8 d) os) fun e w'' => e = .returned (.int .i64 (cost ls a b)) ∧ ∃ p : Regrown, w'' = grow (redrawn v8 p.d) p.os) := fun d os =>
      Calls.regrown_of (Cost_any n a b ao len cap ls _ hlen (hl.ext (hw8.trans (below_regrown v8 d os))) hx ia ib HR.out)
    have HQ2 : Hid (∀ d os, Calls Try.prog 15 #[.agg #[.int .i64 n, .slice ao len cap], .int .i64 a, .int .i64 b] (grow (redrawn v8 d) os) fun e w'' => e = .returned (.int .i64 (cost ls a b)) ∧ ∃ p : Regrown, w'' = grow (redrawn v8 p.d) p.os) := fun d os =>
      Calls.regrown_of (refCost_any n a b ao len cap ls _ hlen (hl.ext (hw8.trans (below_regrown v8 d os))) hx)
    go_wp2
    refine wp_region_quiet_below (by kernel_rfl) (by kernel_rfl) ?_
    repeat (go_big_quiet_step (first | exact HQ.out _ _ | exact HQ2.out _ _))
    refine wpQuiet_nil ?_
    intro _ hw'
    obtain ⟨⟨dq, oq⟩, hw''⟩ := hw'
    subst hw''
    go_wp2
    go_ret
    exact ⟨by simp, hw8.trans (below_regrown v8 dq oq)⟩
  · have hrb : ((wrong n ls).1 != 0) = true := by simpa using hr
    clear hr
    go_wp2
    go_ret
    exact ⟨rfl, hw6⟩

end Go.Proofs.Ytbfgioinjggkkaa
