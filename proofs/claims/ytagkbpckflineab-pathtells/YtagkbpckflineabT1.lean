/- What the document's own SameFlows answers: whether flows are the same; nothing that was there is changed. -/
import Derived.Test.YtagkbpckflineabH10
import Derived.Lib.QuietBelow
namespace Stf
def tup (f : Fl) : Int × Int × List Int × List Int := (f.fr, f.to, f.via, f.nt)
theorem tup_inj {f g : Fl} (h : tup f = tup g) : f = g := by
  cases f; cases g
  simp only [tup, Prod.mk.injEq] at h
  obtain ⟨h1, h2, h3, h4⟩ := h
  subst h1 h2 h3 h4
  rfl
/-- are these flows the same? -/
def sameF (fs gs : List Fl) : Bool := decide (fs.map tup = gs.map tup)
theorem map_inj : ∀ {fs gs : List Fl}, fs.map tup = gs.map tup → fs = gs
  | [], [], _ => rfl
  | [], _ :: _, h => by cases h
  | _ :: _, [], h => by cases h
  | f :: fs, g :: gs, h => by
    simp only [List.map_cons, List.cons.injEq] at h
    rw [tup_inj h.1, map_inj h.2]
theorem sameF_true {fs gs : List Fl} (h : fs = gs) : sameF fs gs = true := decide_eq_true (by rw [h])
theorem sameF_false {fs gs : List Fl} (h : fs ≠ gs) : sameF fs gs = false := decide_eq_false (fun e => h (map_inj e))

end Stf
namespace Go.Proofs.Ytagkbpckflineab.Fw
open Go.RowKit Go.Maps Stf Go.Sort

theorem cell_lt' {w : World} {a : Addr} {v : Value} (h : w.cell? a = some v) : a.block < w.heap.size := by
  rcases Nat.lt_or_ge a.block w.heap.size with h1 | h1
  · exact h1
  · have : w.heap[a.block]? = none := by simp [h1]
    simp [World.cell?, this] at h
theorem cell_regrown {w : World} {a : Addr} {v : Value} (h : w.cell? a = some v) (d : Nat) (os : Array Obj) : (grow (redrawn w d) os).cell? a = some v := (Below.cell (below_regrown w d os) (cell_lt' h)).trans h
theorem same_diff (ao bo : Option Addr) (la lb c1 c2 : Nat) (w : World) (h : la ≠ lb) :
    Calls Try.prog 27 #[.slice ao la c1, .slice bo lb c2] w fun e w' => e = .returned (.bool false) ∧ w' = w := by
  have h' : ((la : Int) == (lb : Int)) = false := by simp; omega
  go_enter Try.func27, Try.ntmps27
  go_wp2
  go_ret
  exact ⟨rfl, rfl⟩
theorem ne_at {fs gs : List Fl} {k : Nat} {a t a' t' : Int} {X Y X' Y' : List Int} (h1 : fs.getD k f0 = ⟨a, t, X, Y⟩) (h2 : gs.getD k f0 = ⟨a', t', X', Y'⟩) (h : ¬ (a = a' ∧ t = t' ∧ X = X' ∧ Y = Y')) : sameF fs gs = false := by
  refine sameF_false ?_
  rintro rfl
  rw [h1] at h2
  simp only [Fl.mk.injEq] at h2
  exact h h2

set_option maxRecDepth 100000 in
set_option maxHeartbeats 4000000 in
theorem same_some (ao bo : Option Addr) (n c1 c2 : Nat) (fs gs : List Fl) (w : World) (ha : fs.length = n) (hb : gs.length = n) (hn : n ≤ 4611686018427387904) (h1 : FlowsAt w ao fs) (h2 : FlowsAt w bo gs) (hS : Sm fs) :
    Calls Try.prog 27 #[.slice ao n c1, .slice bo n c2] w fun e w' => e = .returned (.bool (sameF fs gs)) ∧ Ext w w' := by
  go_enter Try.func27, Try.ntmps27
  go_wp2
  go_loopw [13] (fun i wr => ∃ k : Nat, k ≤ n ∧ i = .int .i64 k ∧ (∀ j, j < k → fs.getD j f0 = gs.getD j f0) ∧ Ext w wr) (fun i _ => n - (intOf i).toNat)
  case atStart => exact ⟨0, Nat.zero_le _, rfl, fun j hj => by omega, Ext.refl w⟩
  case round =>
    obtain ⟨k, hk, rfl, hpre, hext⟩ := hrel
    by_cases hlt : k < n
    · obtain ⟨b, off, vo, vc, no, nc, a, t, X, Y, rfl, hbk, hg, d0, d1, d2, d3, hv, hnn⟩ := (h1.ext hext).get (k := k) (by omega)
      obtain ⟨b', off', vo', vc', no', nc', a', t', X', Y', rfl, hbk', hg', d0', d1', d2', d3', hv', hnn'⟩ := (h2.ext hext).get (k := k) (by omega)
      have hsm := hS.get (k := k) (by omega) hg
      have HP := hid hpre
      have HG := hid hg
      have HG' := hid hg'
      have g0 := cell_regrown d0
      have g1 := cell_regrown d1
      have g2 := cell_regrown d2
      have g3 := cell_regrown d3
      have q0 := cell_regrown d0'
      have q1 := cell_regrown d1'
      have q2 := cell_regrown d2'
      have q3 := cell_regrown d3'
      have i1 : (k : Int) < (n : Int) := by omega
      obtain ⟨_, _, e1, lv, _⟩ := hv
      obtain ⟨_, _, e2, ln, _⟩ := hnn
      obtain ⟨_, _, e1', lv', _⟩ := hv'
      obtain ⟨_, _, e2', ln', _⟩ := hnn'
      cases e1; cases e2; cases e1'; cases e2'
      obtain ⟨β2, hβ2⟩ : ∃ β, β = decide (X = X') := ⟨_, rfl⟩
      obtain ⟨β3, hβ3⟩ : ∃ β, β = decide (Y = Y') := ⟨_, rfl⟩
      have HQ : Hid (∀ d os, Calls Try.prog 10 #[.slice vo X.length vc, .slice vo' X'.length vc'] (grow (redrawn wr d) os) fun e w'' => e = .returned (.bool β2) ∧ ∃ p : Regrown, w'' = grow (redrawn wr p.d) p.os) := fun d os =>
        Calls.regrown_of (by rw [hβ2]; exact Ints_any vo vo' X.length X'.length vc vc' X X' _ rfl rfl hsm.1 (lv.ext (below_regrown wr d os)) (lv'.ext (below_regrown wr d os)))
      have HQ2 : Hid (∀ d os, Calls Try.prog 10 #[.slice no Y.length nc, .slice no' Y'.length nc'] (grow (redrawn wr d) os) fun e w'' => e = .returned (.bool β3) ∧ ∃ p : Regrown, w'' = grow (redrawn wr p.d) p.os) := fun d os =>
        Calls.regrown_of (by rw [hβ3]; exact Ints_any no no' Y.length Y'.length nc nc' Y Y' _ rfl rfl hsm.2 (ln.ext (below_regrown wr d os)) (ln'.ext (below_regrown wr d os)))
      have HB2 := hid hβ2
      have HB3 := hid hβ3
      clear hβ2 hβ3 hpre hg hg' d0 d1 d2 d3 d0' d1' d2' d3' lv ln lv' ln'
      cases r0 : (a != a')
      · have ea : a = a' := by simpa using r0
        have EA := hid ea
        clear ea
        cases r1 : (t != t')
        · have et : t = t' := by simpa using r1
          have ET := hid et
          clear et
          cases β2
          · go_wp2
            refine wp_region_quiet_below (by kernel_rfl) (by kernel_rfl) ?_
            repeat (go_big_quiet_step (first | (with_reducible exact HQ.out _ _) | (with_reducible exact HQ2.out _ _)))
            refine wpQuiet_nil ?_
            intro _ hw'
            obtain ⟨⟨dq, oq⟩, hw''⟩ := hw'
            subst hw''
            clear g0 g1 g2 g3 q0 q1 q2 q3 HQ HQ2
            go_wp2
            go_ret
            exact ⟨by rw [ne_at HG.out HG'.out (fun h => by have := HB2.out; simp [h.2.2.1] at this)]; rfl, hext.trans (below_regrown wr dq oq)⟩
          · cases β3
            · go_wp2
              refine wp_region_quiet_below (by kernel_rfl) (by kernel_rfl) ?_
              repeat (go_big_quiet_step (first | (with_reducible exact HQ.out _ _) | (with_reducible exact HQ2.out _ _)))
              refine wpQuiet_nil ?_
              intro _ hw'
              obtain ⟨⟨dq, oq⟩, hw''⟩ := hw'
              subst hw''
              clear g0 g1 g2 g3 q0 q1 q2 q3 HQ HQ2
              go_wp2
              go_ret
              exact ⟨by rw [ne_at HG.out HG'.out (fun h => by have := HB3.out; simp [h.2.2.2] at this)]; rfl, hext.trans (below_regrown wr dq oq)⟩
            · go_wp2
              refine wp_region_quiet_below (by kernel_rfl) (by kernel_rfl) ?_
              repeat (go_big_quiet_step (first | (with_reducible exact HQ.out _ _) | (with_reducible exact HQ2.out _ _)))
              refine wpQuiet_nil ?_
              intro _ hw'
              obtain ⟨⟨dq, oq⟩, hw''⟩ := hw'
              subst hw''
              clear g0 g1 g2 g3 q0 q1 q2 q3 HQ HQ2
              go_wp2
              refine ⟨⟨k + 1, by omega, by go_num, fun j hj => ?_, hext.trans (below_regrown wr dq oq)⟩, by simp [intOf]; omega⟩
              by_cases e : j = k
              · subst e
                rw [HG.out, HG'.out, EA.out, ET.out, of_decide_eq_true HB2.out.symm, of_decide_eq_true HB3.out.symm]
              · exact HP.out j (by omega)
        · go_wp2
          refine wp_region_quiet_below (by kernel_rfl) (by kernel_rfl) ?_
          repeat (go_big_quiet_step (first | (with_reducible exact HQ.out _ _) | (with_reducible exact HQ2.out _ _)))
          refine wpQuiet_nil ?_
          intro _ hw'
          obtain ⟨⟨dq, oq⟩, hw''⟩ := hw'
          subst hw''
          clear g0 g1 g2 g3 q0 q1 q2 q3 HQ HQ2
          go_wp2
          go_ret
          exact ⟨by rw [ne_at HG.out HG'.out (fun h => by simp [h.2.1] at r1)]; rfl, hext.trans (below_regrown wr dq oq)⟩
      · go_wp2
        refine wp_region_quiet_below (by kernel_rfl) (by kernel_rfl) ?_
        repeat (go_big_quiet_step (first | (with_reducible exact HQ.out _ _) | (with_reducible exact HQ2.out _ _)))
        refine wpQuiet_nil ?_
        intro _ hw'
        obtain ⟨⟨dq, oq⟩, hw''⟩ := hw'
        subst hw''
        clear g0 g1 g2 g3 q0 q1 q2 q3 HQ HQ2
        go_wp2
        go_ret
        exact ⟨by rw [ne_at HG.out HG'.out (fun h => by simp [h.1] at r0)]; rfl, hext.trans (below_regrown wr dq oq)⟩
    · have heq : sameF fs gs = true := by
        refine sameF_true ?_
        refine List.ext_getElem (by omega) (fun j j1 j2 => ?_)
        have := hpre j (by omega)
        simpa [List.getD_eq_getElem?_getD, j1, j2] using this
      have HEQ := hid heq
      clear heq
      go_wp2
      go_ret
      exact ⟨by rw [HEQ.out]; rfl, hext⟩

theorem SameFlows_any (ao bo : Option Addr) (la lb c1 c2 : Nat) (fs gs : List Fl) (w : World) (ha : fs.length = la) (hb : gs.length = lb) (hn : la ≤ 4611686018427387904) (h1 : FlowsAt w ao fs) (h2 : FlowsAt w bo gs) (hS : Sm fs) :
    Calls Try.prog 27 #[.slice ao la c1, .slice bo lb c2] w fun e w' => e = .returned (.bool (sameF fs gs)) ∧ Ext w w' := by
  by_cases hab : la = lb
  · subst hab
    exact same_some ao bo la c1 c2 fs gs w ha hb hn h1 h2 hS
  · refine (same_diff ao bo la lb c1 c2 w hab).mono ?_
    rintro e w' ⟨rfl, rfl⟩
    have : sameF fs gs = false := by
      refine sameF_false ?_
      rintro rfl
      omega
    exact ⟨by rw [this], Ext.refl _⟩

end Go.Proofs.Ytagkbpckflineab.Fw
