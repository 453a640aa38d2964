/- What the law ControlTells answers. -/
import Derived.Test.YtgffkjjddhlbpaaH10
import Derived.Lib.QuietBelow
import Derived.Test.YtgffkjjddhlbpaaT3
import Derived.Test.YtgffkjjddhlbpaaN0
import Derived.Test.YtgffkjjddhlbpaaN3
import Derived.Test.YtgffkjjddhlbpaaI0
import Derived.Test.YtgffkjjddhlbpaaCTd
import Derived.Test.YtgffkjjddhlbpaaCTf
/- What the document's own SameFlows answers: whether flows are the same; nothing that was there is changed. -/
namespace Stf
def tup (f : Fl) : Int × Int × List Int × List Int := (f.fr, f.to, f.via, f.nt)
theorem tup_inj {f g : Fl} (h : tup f = tup g) : f = g := by
  cases f; cases g
  simp only [tup, Prod.mk.injEq] at h
  obtain ⟨h1, h2, h3, h4⟩ := h
  subst h1 h2 h3 h4
  rfl
/-- are these flows the same? -/
def sameF (fs gs : List Fl) : Bool := decide (fs.map tup = gs.map tup)
theorem map_inj : ∀ {fs gs : List Fl}, fs.map tup = gs.map tup → fs = gs
  | [], [], _ => rfl
  | [], _ :: _, h => by cases h
  | _ :: _, [], h => by cases h
  | f :: fs, g :: gs, h => by
    simp only [List.map_cons, List.cons.injEq] at h
    rw [tup_inj h.1, map_inj h.2]
theorem sameF_true {fs gs : List Fl} (h : fs = gs) : sameF fs gs = true := decide_eq_true (by rw [h])
theorem sameF_false {fs gs : List Fl} (h : fs ≠ gs) : sameF fs gs = false := decide_eq_false (fun e => h (map_inj e))

end Stf
namespace Go.Proofs.Ytgffkjjddhlbpaa.Fw
open Go.RowKit Go.Maps Stf Go.Sort

theorem cell_lt' {w : World} {a : Addr} {v : Value} (h : w.cell? a = some v) : a.block < w.heap.size := by
  rcases Nat.lt_or_ge a.block w.heap.size with h1 | h1
  · exact h1
  · have : w.heap[a.block]? = none := by simp [h1]
    simp [World.cell?, this] at h
theorem cell_regrown {w : World} {a : Addr} {v : Value} (h : w.cell? a = some v) (d : Nat) (os : Array Obj) : (grow (redrawn w d) os).cell? a = some v := (Below.cell (below_regrown w d os) (cell_lt' h)).trans h
theorem same_diff (ao bo : Option Addr) (la lb c1 c2 : Nat) (w : World) (h : la ≠ lb) :
    Calls Try.prog 55 #[.slice ao la c1, .slice bo lb c2] w fun e w' => e = .returned (.bool false) ∧ w' = w := by
  have h' : ((la : Int) == (lb : Int)) = false := by simp; omega
  go_enter Try.func55, Try.ntmps55
  go_wp2
  go_ret
  exact ⟨rfl, rfl⟩
theorem ne_at {fs gs : List Fl} {k : Nat} {a t a' t' : Int} {X Y X' Y' : List Int} (h1 : fs.getD k f0 = ⟨a, t, X, Y⟩) (h2 : gs.getD k f0 = ⟨a', t', X', Y'⟩) (h : ¬ (a = a' ∧ t = t' ∧ X = X' ∧ Y = Y')) : sameF fs gs = false := by
  refine sameF_false ?_
  rintro rfl
  rw [h1] at h2
  simp only [Fl.mk.injEq] at h2
  exact h h2

set_option maxRecDepth 100000 in
set_option maxHeartbeats 4000000 in
theorem same_some (ao bo : Option Addr) (n c1 c2 : Nat) (fs gs : List Fl) (w : World) (ha : fs.length = n) (hb : gs.length = n) (hn : n ≤ 4611686018427387904) (h1 : FlowsAt w ao fs) (h2 : FlowsAt w bo gs) (hS : Sm fs) :
    Calls Try.prog 55 #[.slice ao n c1, .slice bo n c2] w fun e w' => e = .returned (.bool (sameF fs gs)) ∧ Ext w w' := by
  go_enter Try.func55, Try.ntmps55
  go_wp2
  go_loopw [13] (fun i wr => ∃ k : Nat, k ≤ n ∧ i = .int .i64 k ∧ (∀ j, j < k → fs.getD j f0 = gs.getD j f0) ∧ Ext w wr) (fun i _ => n - (intOf i).toNat)
  case atStart => exact ⟨0, Nat.zero_le _, rfl, fun j hj => by omega, Ext.refl w⟩
  case round =>
    obtain ⟨k, hk, rfl, hpre, hext⟩ := hrel
    by_cases hlt : k < n
    · obtain ⟨b, off, vo, vc, no, nc, a, t, X, Y, rfl, hbk, hg, d0, d1, d2, d3, hv, hnn⟩ := (h1.ext hext).get (k := k) (by omega)
      obtain ⟨b', off', vo', vc', no', nc', a', t', X', Y', rfl, hbk', hg', d0', d1', d2', d3', hv', hnn'⟩ := (h2.ext hext).get (k := k) (by omega)
      have hsm := hS.get (k := k) (by omega) hg
      have HP := hid hpre
      have HG := hid hg
      have HG' := hid hg'
      have g0 := cell_regrown d0
      have g1 := cell_regrown d1
      have g2 := cell_regrown d2
      have g3 := cell_regrown d3
      have q0 := cell_regrown d0'
      have q1 := cell_regrown d1'
      have q2 := cell_regrown d2'
      have q3 := cell_regrown d3'
      have i1 : (k : Int) < (n : Int) := by omega
      obtain ⟨_, _, e1, lv, _⟩ := hv
      obtain ⟨_, _, e2, ln, _⟩ := hnn
      obtain ⟨_, _, e1', lv', _⟩ := hv'
      obtain ⟨_, _, e2', ln', _⟩ := hnn'
      cases e1; cases e2; cases e1'; cases e2'
      obtain ⟨β2, hβ2⟩ : ∃ β, β = decide (X = X') := ⟨_, rfl⟩
      obtain ⟨β3, hβ3⟩ : ∃ β, β = decide (Y = Y') := ⟨_, rfl⟩
      have HQ : Hid (∀ d os, Calls Try.prog 32 #[.slice vo X.length vc, .slice vo' X'.length vc'] (grow (redrawn wr d) os) fun e w'' => e = .returned (.bool β2) ∧ ∃ p : Regrown, w'' = grow (redrawn wr p.d) p.os) := fun d os =>
        Calls.regrown_of (by rw [hβ2]; exact Ints_any vo vo' X.length X'.length vc vc' X X' _ rfl rfl hsm.1 (lv.ext (below_regrown wr d os)) (lv'.ext (below_regrown wr d os)))
      have HQ2 : Hid (∀ d os, Calls Try.prog 32 #[.slice no Y.length nc, .slice no' Y'.length nc'] (grow (redrawn wr d) os) fun e w'' => e = .returned (.bool β3) ∧ ∃ p : Regrown, w'' = grow (redrawn wr p.d) p.os) := fun d os =>
        Calls.regrown_of (by rw [hβ3]; exact Ints_any no no' Y.length Y'.length nc nc' Y Y' _ rfl rfl hsm.2 (ln.ext (below_regrown wr d os)) (ln'.ext (below_regrown wr d os)))
      have HB2 := hid hβ2
      have HB3 := hid hβ3
      clear hβ2 hβ3 hpre hg hg' d0 d1 d2 d3 d0' d1' d2' d3' lv ln lv' ln'
      cases r0 : (a != a')
      · have ea : a = a' := by simpa using r0
        have EA := hid ea
        clear ea
        cases r1 : (t != t')
        · have et : t = t' := by simpa using r1
          have ET := hid et
          clear et
          cases β2
          · go_wp2
            refine wp_region_quiet_below (by kernel_rfl) (by kernel_rfl) ?_
            repeat (go_big_quiet_step (first | (with_reducible exact HQ.out _ _) | (with_reducible exact HQ2.out _ _)))
            refine wpQuiet_nil ?_
            intro _ hw'
            obtain ⟨⟨dq, oq⟩, hw''⟩ := hw'
            subst hw''
            clear g0 g1 g2 g3 q0 q1 q2 q3 HQ HQ2
            go_wp2
            go_ret
            exact ⟨by rw [ne_at HG.out HG'.out (fun h => by have := HB2.out; simp [h.2.2.1] at this)]; rfl, hext.trans (below_regrown wr dq oq)⟩
          · cases β3
            · go_wp2
              refine wp_region_quiet_below (by kernel_rfl) (by kernel_rfl) ?_
              repeat (go_big_quiet_step (first | (with_reducible exact HQ.out _ _) | (with_reducible exact HQ2.out _ _)))
              refine wpQuiet_nil ?_
              intro _ hw'
              obtain ⟨⟨dq, oq⟩, hw''⟩ := hw'
              subst hw''
              clear g0 g1 g2 g3 q0 q1 q2 q3 HQ HQ2
              go_wp2
              go_ret
              exact ⟨by rw [ne_at HG.out HG'.out (fun h => by have := HB3.out; simp [h.2.2.2] at this)]; rfl, hext.trans (below_regrown wr dq oq)⟩
            · go_wp2
              refine wp_region_quiet_below (by kernel_rfl) (by kernel_rfl) ?_
              repeat (go_big_quiet_step (first | (with_reducible exact HQ.out _ _) | (with_reducible exact HQ2.out _ _)))
              refine wpQuiet_nil ?_
              intro _ hw'
              obtain ⟨⟨dq, oq⟩, hw''⟩ := hw'
              subst hw''
              clear g0 g1 g2 g3 q0 q1 q2 q3 HQ HQ2
              go_wp2
              refine ⟨⟨k + 1, by omega, by go_num, fun j hj => ?_, hext.trans (below_regrown wr dq oq)⟩, by simp [intOf]; omega⟩
              by_cases e : j = k
              · subst e
                rw [HG.out, HG'.out, EA.out, ET.out, of_decide_eq_true HB2.out.symm, of_decide_eq_true HB3.out.symm]
              · exact HP.out j (by omega)
        · go_wp2
          refine wp_region_quiet_below (by kernel_rfl) (by kernel_rfl) ?_
          repeat (go_big_quiet_step (first | (with_reducible exact HQ.out _ _) | (with_reducible exact HQ2.out _ _)))
          refine wpQuiet_nil ?_
          intro _ hw'
          obtain ⟨⟨dq, oq⟩, hw''⟩ := hw'
          subst hw''
          clear g0 g1 g2 g3 q0 q1 q2 q3 HQ HQ2
          go_wp2
          go_ret
          exact ⟨by rw [ne_at HG.out HG'.out (fun h => by simp [h.2.1] at r1)]; rfl, hext.trans (below_regrown wr dq oq)⟩
      · go_wp2
        refine wp_region_quiet_below (by kernel_rfl) (by kernel_rfl) ?_
        repeat (go_big_quiet_step (first | (with_reducible exact HQ.out _ _) | (with_reducible exact HQ2.out _ _)))
        refine wpQuiet_nil ?_
        intro _ hw'
        obtain ⟨⟨dq, oq⟩, hw''⟩ := hw'
        subst hw''
        clear g0 g1 g2 g3 q0 q1 q2 q3 HQ HQ2
        go_wp2
        go_ret
        exact ⟨by rw [ne_at HG.out HG'.out (fun h => by simp [h.1] at r0)]; rfl, hext.trans (below_regrown wr dq oq)⟩
    · have heq : sameF fs gs = true := by
        refine sameF_true ?_
        refine List.ext_getElem (by omega) (fun j j1 j2 => ?_)
        have := hpre j (by omega)
        simpa [List.getD_eq_getElem?_getD, j1, j2] using this
      have HEQ := hid heq
      clear heq
      go_wp2
      go_ret
      exact ⟨by rw [HEQ.out]; rfl, hext⟩

theorem SameFlows_any (ao bo : Option Addr) (la lb c1 c2 : Nat) (fs gs : List Fl) (w : World) (ha : fs.length = la) (hb : gs.length = lb) (hn : la ≤ 4611686018427387904) (h1 : FlowsAt w ao fs) (h2 : FlowsAt w bo gs) (hS : Sm fs) :
    Calls Try.prog 55 #[.slice ao la c1, .slice bo lb c2] w fun e w' => e = .returned (.bool (sameF fs gs)) ∧ Ext w w' := by
  by_cases hab : la = lb
  · subst hab
    exact same_some ao bo la c1 c2 fs gs w ha hb hn h1 h2 hS
  · refine (same_diff ao bo la lb c1 c2 w hab).mono ?_
    rintro e w' ⟨rfl, rfl⟩
    have : sameF fs gs = false := by
      refine sameF_false ?_
      rintro rfl
      omega
    exact ⟨by rw [this], Ext.refl _⟩

end Go.Proofs.Ytgffkjjddhlbpaa.Fw

/- What the document's own SamePlan answers of two plans that are the same. -/
namespace Go.Proofs.Ytgffkjjddhlbpaa
open Go.RowKit Go.Maps Stw Go.Deep Stp Go.Sort

set_option maxRecDepth 100000 in
set_option maxHeartbeats 4000000 in
theorem SamePlan_same (v : Int) (fo go qo ro : Option Addr) (fl ql fc gc qc rc : Nat) (fs : List Stf.Fl) (ps : List (List Int)) (w : World) (hfl : fs.length = fl) (hfx : fl ≤ 4611686018427387904) (hf : Fw.FlowsAt w fo fs) (hg : Fw.FlowsAt w go fs) (hS : Fw.Sm fs)
    (hql : ps.length = ql) (hqx : ql ≤ 4611686018427387904) (hq : PthsAt w qo ps) (hr : PthsAt w ro ps) (hP : ∀ i, i < ps.length → (ps.getD i []).length ≤ 4611686018427387904) :
    Calls Try.prog 31 #[.agg #[.int .i64 v, .slice fo fl fc, .slice qo ql qc], .agg #[.int .i64 v, .slice go fl gc, .slice ro ql rc]] w fun e w' => e = .returned (.bool true) ∧ Ext w w' := by
  have hE0 : Ext w ((w.alloc (.cells #[.int .i64 v, .slice fo fl fc, .slice qo ql qc] 25)).alloc (.cells #[.int .i64 v, .slice go fl gc, .slice ro ql rc] 25)) := ((Ext.refl w).alloc _).alloc _
  go_enter Try.func31, Try.ntmps31
  go_wp2_with fail
  refine (Fw.SameFlows_any fo go fl fl fc gc fs fs _ hfl hfl hfx (hf.ext hE0) (hg.ext hE0) hS).mono ?_
  rintro e w1 ⟨rfl, E1⟩
  rw [Stf.sameF_true rfl]
  have hE1 : Ext w w1 := hE0.trans E1
  have hs1 : w.heap.size + 1 < w1.heap.size := by have := E1.size; simp at this; omega
  have hs0 : w.heap.size < w1.heap.size := by omega
  have q := E1.cells.1
  have a2 : w1.cell? ⟨w.heap.size, 2, none⟩ = some (.slice qo ql qc) := (q _ _ (by simp; omega)).trans (by simp)
  have b2 : w1.cell? ⟨w.heap.size + 1, 2, none⟩ = some (.slice ro ql rc) := (q _ _ (by simp)).trans (by simp)
  clear q
  go_wp2_with fail
  go_loopw [31] (fun iv wr => ∃ k : Nat, k ≤ ql ∧ iv = .int .i64 k ∧ Ext w1 wr) (fun iv _ => ql - (intOf iv).toNat)
  case atStart => exact ⟨0, Nat.zero_le _, rfl, Ext.refl w1⟩
  case round =>
    obtain ⟨k, hk, rfl, hext⟩ := hrel
    have a2r := (hext.cells.1 _ _ hs0).trans a2
    have b2r := (hext.cells.1 _ _ hs1).trans b2
    by_cases hlt : k < ql
    · rcases hq.ext (hE1.trans hext) with h0 | ⟨g1, o1, rfl, hg1, hc1⟩
      · exfalso; rw [h0] at hql; simp at hql; omega
      rcases hr.ext (hE1.trans hext) with h0 | ⟨g2, o2, rfl, hg2, hc2⟩
      · exfalso; rw [h0] at hql; simp at hql; omega
      obtain ⟨v1, d1, x1, y1, rfl, l1, _⟩ := hc1 k (by omega)
      obtain ⟨v2, d2, x2, y2, rfl, l2, _⟩ := hc2 k (by omega)
      have hPk := hP k (by omega)
      obtain ⟨x, hx⟩ : ∃ x, x = ps.getD k [] := ⟨_, rfl⟩
      rw [← hx] at d1 d2 l1 l2 hPk
      clear hx hc1 hc2
      have HQ : Hid (∀ d os, Calls Try.prog 32 #[.slice x1 x.length y1, .slice x2 x.length y2] (grow (redrawn wr d) os) fun e w'' => e = .returned (.bool true) ∧ ∃ p : Regrown, w'' = grow (redrawn wr p.d) p.os) := fun d os => by
        have := Ints_any x1 x2 _ _ y1 y2 x x (grow (redrawn wr d) os) rfl rfl hPk (l1.ext (below_regrown wr d os)) (l2.ext (below_regrown wr d os))
        rw [decide_eq_true rfl] at this
        exact Calls.regrown_of this
      have g1' := Fw.cell_regrown a2r
      have g2' := Fw.cell_regrown b2r
      have g3' := Fw.cell_regrown d1
      have g4' := Fw.cell_regrown d2
      have i1 : (k : Int) < (ql : Int) := by omega
      clear d1 d2 l1 l2
      go_wp2
      refine wp_region_quiet_below (by kernel_rfl) (by kernel_rfl) ?_
      repeat (go_big_quiet_step (with_reducible exact HQ.out _ _))
      refine wpQuiet_nil ?_
      intro _ hw'
      obtain ⟨⟨dq, oq⟩, hw''⟩ := hw'
      subst hw''
      clear g1' g2' g3' g4' HQ
      go_wp2
      refine ⟨⟨k + 1, by omega, by go_num, hext.trans (below_regrown wr dq oq)⟩, by simp [intOf]; omega⟩
    · have i1 : ¬ (k : Int) < (ql : Int) := by omega
      go_wp2
      go_ret
      exact ⟨rfl, hE1.trans hext⟩

end Go.Proofs.Ytgffkjjddhlbpaa

/- What SameRules answers of two rows of rules that are the same. -/
namespace Go.Proofs.Ytgffkjjddhlbpaa.Tb
open Go.RowKit Go.Deep Rul

set_option maxRecDepth 100000 in
set_option maxHeartbeats 800000 in
theorem SameRules_same (ao bo : Option Addr) (len ac bc : Nat) (rs : List Ru) (w : World) (hlen : rs.length = len) (ha : RsAt w ao rs) (hb : RsAt w bo rs) (hl : len ≤ 4611686018427387904) :
    Calls Try.prog 56 #[.slice ao len ac, .slice bo len bc] w fun e w' => e = .returned (.bool true) ∧ Ext w w' := by
  go_enter Try.func56, Try.ntmps56
  go_wp2
  go_loopw [13] (fun iv wd => ∃ k : Nat, k ≤ len ∧ iv = .int .i64 k ∧ Ext w wd) (fun iv _ => len - (intOf iv).toNat)
  case atStart => exact ⟨0, Nat.zero_le _, rfl, Ext.refl w⟩
  case round =>
    obtain ⟨k, hk, rfl, hE⟩ := hrel
    by_cases hlt : k < len
    · obtain ⟨g, off, rfl, hg, hcs⟩ := (ha.ext hE).get (k := k) (by omega)
      obtain ⟨g', off', rfl, hg', hcs'⟩ := (hb.ext hE).get (k := k) (by omega)
      have i1 : (k : Int) < (len : Int) := by omega
      obtain ⟨c0, c1, c2⟩ := hcs k (by omega)
      obtain ⟨e0, e1, e2⟩ := hcs' k (by omega)
      obtain ⟨r, hr⟩ : ∃ r, rs.getD k r0 = r := ⟨_, rfl⟩
      rw [hr] at c0 c1 c2 e0 e1 e2
      clear hr hcs hcs'
      go_wp2
      go_region
      go_wp2
      exact ⟨⟨k + 1, by omega, by go_num, hE.drew⟩, by simp [intOf]; omega⟩
    · have i1 : ¬ (k : Int) < (len : Int) := by omega
      go_wp2
      go_ret
      exact ⟨rfl, hE⟩

end Go.Proofs.Ytgffkjjddhlbpaa.Tb

/- What SameOrder answers of two orders that are the same. -/
namespace Go.Proofs.Ytgffkjjddhlbpaa.Wi
open Go.RowKit Go.Maps Go.Deep Go.Sort Tb Rul

set_option maxRecDepth 100000 in
set_option maxHeartbeats 800000 in
theorem SameOrder_same (o : Wir.Od) (ro fo ro' fo' : Option Addr) (rc fc rc' fc' : Nat) (w : World) (h : OAt w o ro fo) (h' : OAt w o ro' fo') :
    Calls Try.prog 33 #[ovl o ro fo rc fc, ovl o ro' fo' rc' fc'] w fun e w' => e = .returned (.bool true) ∧ Ext w w' := by
  obtain ⟨k, n, v, rs, fs⟩ := o
  unfold ovl
  have HA : Hid _ := h
  have HB : Hid _ := h'
  clear h h'
  go_enter Try.func33, Try.ntmps33
  go_wp2_with fail
  obtain ⟨B, hB⟩ : ∃ B, B = (w.alloc (.cells #[.int .i64 k, .int .i64 n, .int .i64 v, .slice ro rs.length rc, .slice fo fs.length fc] 56)).alloc (.cells #[.int .i64 k, .int .i64 n, .int .i64 v, .slice ro' rs.length rc', .slice fo' fs.length fc'] 56) := ⟨_, rfl⟩
  have hE0 : Ext w B := by rw [hB]; exact ((Ext.refl w).alloc _).alloc _
  have HK : Hid (∀ W, Ext B W → W.cell? ⟨w.heap.size, 4, none⟩ = some (.slice fo fs.length fc) ∧ W.cell? ⟨w.heap.size + 1, 4, none⟩ = some (.slice fo' fs.length fc')) := fun W hW => by
    have l0 : w.heap.size < B.heap.size := by rw [hB]; simp; omega
    have l1 : w.heap.size + 1 < B.heap.size := by rw [hB]; simp
    exact ⟨(hW.cells.1 _ _ l0).trans (by rw [hB]; simp), (hW.cells.1 _ _ l1).trans (by rw [hB]; simp)⟩
  rw [← hB]
  clear hB
  refine (SameRules_same ro ro' rs.length rc rc' rs _ rfl (HA.out.hr.ext hE0) (HB.out.hr.ext hE0) HA.out.rl).mono ?_
  rintro e w1 ⟨rfl, E1⟩
  obtain ⟨q0, q1⟩ := HK.out _ E1
  have hE1 := hE0.trans E1
  go_wp2_with fail
  refine (Ints_any fo fo' fs.length fs.length fc fc' fs fs _ rfl rfl HA.out.fl (HA.out.hf.ext hE1) (HB.out.hf.ext hE1)).mono ?_
  rintro e w2 ⟨he, E2⟩
  rw [show decide (fs = fs) = true from decide_eq_true rfl] at he
  subst he
  go_wp2
  go_ret
  exact ⟨rfl, hE1.trans E2⟩

end Go.Proofs.Ytgffkjjddhlbpaa.Wi

/- The law's own copy of what was told; SameTo and SameControl of what is the same. -/
namespace Go.Proofs.Ytgffkjjddhlbpaa.Ct
open Go.RowKit Go.Deep Stw Stp Tb Rul

/-- What was told at a place, by its cells. -/
def TS (w : World) (out : List (Nat × Wir.Od)) (TV : List Value) (i : Nat) : Prop := ∀ h : i < out.length, ∃ ro rc fo fc, TV[i * 6]? = some (.int .i64 ((out[i].1 : Nat) : Int)) ∧ TV[i * 6 + 1]? = some (.int .i64 out[i].2.k) ∧ TV[i * 6 + 2]? = some (.int .i64 out[i].2.n) ∧ TV[i * 6 + 3]? = some (.int .i64 out[i].2.v) ∧ TV[i * 6 + 4]? = some (.slice ro out[i].2.rs.length rc) ∧ TV[i * 6 + 5]? = some (.slice fo out[i].2.fs.length fc) ∧ RsAt w ro out[i].2.rs ∧ ListAt w fo out[i].2.fs
theorem get_app {α : Type} {l us : List α} {i : Nat} {x : α} (h : l[i]? = some x) : (l ++ us)[i]? = some x := by
  rw [List.getElem?_append_left (List.getElem?_eq_some_iff.1 h).1]; exact h
theorem get_app_last {α : Type} {l us : List α} {n j : Nat} (h : l.length = n) : (l ++ us)[n + j]? = us[j]? := by
  rw [List.getElem?_append_right (by omega), show n + j - l.length = j by omega]
theorem TS.more {w : World} {out : List (Nat × Wir.Od)} {TV : List Value} {i : Nat} (h : TS w out TV i) (us : List Value) : TS w out (TV ++ us) i := fun hi => by
  obtain ⟨ro, rc, fo, fc, k0, k1, k2, k3, k4, k5, hr, hf⟩ := h hi
  exact ⟨ro, rc, fo, fc, get_app k0, get_app k1, get_app k2, get_app k3, get_app k4, get_app k5, hr, hf⟩
theorem tos_cells {w w' : World} {base : Nat} {e : TypeId} {v : Value} {TV : List Value} {out : List (Nat × Wir.Od)} (h : w'.ownsRow base e 6 v out.length TV) (hT : ∀ i, i < out.length → TS w out TV i) (E : Ext w w') : ∃ tO tc, v = .slice tO out.length tc ∧ TosAt w' tO out := by
  have hn : TV.length = out.length * 6 := h.1
  rcases h.2 with ⟨h1, h2⟩ | ⟨g, c, cur, hv, _⟩
  · exact ⟨none, 0, by rw [h2]; exact h1, Or.inl (List.eq_nil_of_length_eq_zero h2)⟩
  · subst hv
    refine ⟨some ⟨g, 0, none⟩, c, rfl, Or.inr ⟨g, 0, rfl, (h.lt g rfl).2, fun i hi => ?_⟩⟩
    obtain ⟨ro, rc, fo, fc, k0, k1, k2, k3, k4, k5, hr, hf⟩ := hT i hi hi
    refine ⟨ro, rc, fo, fc, ?_, ?_, ?_, ?_, ?_, ?_, hr.ext E, hf.ext E⟩
    · rw [Nat.zero_add, h.cellAt _ (by omega)]; exact k0
    · rw [Nat.add_assoc, Nat.zero_add, h.cellAt _ (by omega)]; exact k1
    · rw [Nat.add_assoc, Nat.zero_add, h.cellAt _ (by omega)]; exact k2
    · rw [Nat.add_assoc, Nat.zero_add, h.cellAt _ (by omega)]; exact k3
    · rw [Nat.add_assoc, Nat.zero_add, h.cellAt _ (by omega)]; exact k4
    · rw [Nat.add_assoc, Nat.zero_add, h.cellAt _ (by omega)]; exact k5

set_option maxRecDepth 100000 in
set_option maxHeartbeats 4000000 in
theorem tos_any (uo : Option Addr) (tc : Nat) (out : List (Nat × Wir.Od)) (w : World) (h : TosAt w uo out) (hl : out.length ≤ 1000) :
    Calls Try.prog 11 #[.slice uo out.length tc] w fun e w' => ∃ tO tc', e = .returned (.slice tO out.length tc') ∧ TosAt w' tO out ∧ Ext w w' := by
  obtain ⟨j0, hj0, hy0, hy1, hy2⟩ := info_parts infoRT
  have HT := hidp h
  clear h
  go_enter Try.func11, Try.ntmps11
  go_wp2
  go_loopw [3, 8] (fun lv iv wr => ∃ (k : Nat) (fv : Value) (TV : List Value), k ≤ out.length ∧ iv = .int .i64 k ∧ lv = fv ∧ Hid (wr.ownsRow w.heap.size 84 6 fv k TV ∧ ∀ i, i < k → TS w out TV i) ∧ Ext w wr) (fun _ iv _ => out.length - (intOf iv).toNat)
  case atStart => exact ⟨0, .slice none 0 0, [], Nat.zero_le _, rfl, rfl, ⟨World.ownsRow_nil _ _ _ _, fun i hi => by omega⟩, Ext.refl _⟩
  case round =>
    obtain ⟨k, fv, TV, hk, rfl, hfv, HO, hEr⟩ := hrel
    obtain rfl := hfv.symm
    have hsr := hEr.size
    by_cases hlt : k < out.length
    · have i1 : (k : Int) < (out.length : Int) := by omega
      rcases HT.out with h0 | ⟨b, off, hto, hb, hcs⟩
      · exfalso; rw [h0] at hlt; simp at hlt
      obtain ⟨ro, rc, fo, fc, d0, d1, d2, d3, d4, d5, hr, hf⟩ := hcs k hlt
      have e0 := (hEr.cells.1 _ _ hb).trans d0
      have e1 := (hEr.cells.1 _ _ hb).trans d1
      have e2 := (hEr.cells.1 _ _ hb).trans d2
      have e3 := (hEr.cells.1 _ _ hb).trans d3
      have e4 := (hEr.cells.1 _ _ hb).trans d4
      have e5 := (hEr.cells.1 _ _ hb).trans d5
      have hbr : b < wr.heap.size := by omega
      have hTl : TV.length = k * 6 := HO.out.1.1
      have HLast : Hid (TS w out (TV ++ [.int .i64 ((out[k].1 : Nat) : Int), .int .i64 out[k].2.k, .int .i64 out[k].2.n, .int .i64 out[k].2.v, .slice ro out[k].2.rs.length rc, .slice fo out[k].2.fs.length fc]) k) := fun _ =>
        ⟨ro, rc, fo, fc, get_app_last (j := 0) hTl, get_app_last (j := 1) hTl, get_app_last (j := 2) hTl, get_app_last (j := 3) hTl, get_app_last (j := 4) hTl, get_app_last (j := 5) hTl, hr, hf⟩
      clear d0 d1 d2 d3 d4 d5 hr hf hcs
      obtain ⟨x0, hx0⟩ : ∃ x : Int, ((out[k].1 : Nat) : Int) = x := ⟨_, rfl⟩
      obtain ⟨x1, hx1⟩ : ∃ x, out[k].2.k = x := ⟨_, rfl⟩
      obtain ⟨x2, hx2⟩ : ∃ x, out[k].2.n = x := ⟨_, rfl⟩
      obtain ⟨x3, hx3⟩ : ∃ x, out[k].2.v = x := ⟨_, rfl⟩
      obtain ⟨x4, hx4⟩ : ∃ x, out[k].2.rs.length = x := ⟨_, rfl⟩
      obtain ⟨x5, hx5⟩ : ∃ x, out[k].2.fs.length = x := ⟨_, rfl⟩
      rw [hx0, hx1, hx2, hx3, hx4, hx5] at HLast
      rw [hx0] at e0
      rw [hx1] at e1
      rw [hx2] at e2
      rw [hx3] at e3
      rw [hx4] at e4
      rw [hx5] at e5
      clear hx0 hx1 hx2 hx3 hx4 hx5 hTl
      rw [hto]
      clear hto
      obtain ⟨wf, hwf⟩ : ∃ wf, wf = wr.alloc (.cells #[.int .i64 x0, .int .i64 x1, .int .i64 x2, .int .i64 x3, .slice ro x4 rc, .slice fo x5 fc] 58) := ⟨_, rfl⟩
      have E4 : Ext wr wf := by rw [hwf]; exact (Ext.refl _).alloc _
      have HOF : Hid (wf.ownsRow w.heap.size 84 6 fv k TV) := own_extU HO.out.1 E4
      have hfs : wf.heap.size = wr.heap.size + 1 := by rw [hwf]; simp
      go_wp2_with (first | (at_builtin; rw [← hwf, ← hfs]; refine wpList_append_lies _ rfl _ _ 36 rfl w.heap.size 84 j0 (.agg #[.int .i64 0, .int .i64 0, .int .i64 0, .int .i64 0, .slice none 0 0, .slice none 0 0]) 6 80 Try.underlying36 hj0 hy0 hy1 hy2 rfl (by decide) _ _ _ rfl (HOF.out.alloc _) ⟨wf.heap.size, 0, none⟩ 1 1 [.int .i64 x0, .int .i64 x1, .int .i64 x2, .int .i64 x3, .slice ro x4 rc, .slice fo x5 fc] rfl rfl (World.news_of_block (cs := #[.int .i64 x0, .int .i64 x1, .int .i64 x2, .int .i64 x3, .slice ro x4 rc, .slice fo x5 fc]) (blk_alloc_new wf _)) (one6s _ _ _ _ _ _ _ _ _ _) (by decide) (by unfold maxLen; omega) (by omega) (by simp; omega) _ rfl ?_) | go_in)
      intro g7 gc7 w7 hown7 hgr7 hat7 hlt7
      have HO7 : Hid (w7.ownsRow w.heap.size 84 6 (.slice (some ⟨g7, 0, none⟩) (k + 1) gc7) (k + 1) (TV ++ [.int .i64 x0, .int .i64 x1, .int .i64 x2, .int .i64 x3, .slice ro x4 rc, .slice fo x5 fc])) := hown7
      have hE7 : Ext w w7 := Below.grown ((hEr.alloc _).alloc _) hgr7 (by simp; omega) (fun j hj => (HOF.out.lt j hj).1)
      clear hown7 hgr7 hat7
      go_wp2
      exact ⟨⟨k + 1, _, _, by omega, by go_num, rfl, ⟨HO7.out, fun i hi => by
        by_cases e : i = k
        · subst e; exact HLast.out
        · exact (HO.out.2 i (by omega)).more _⟩, hE7⟩, by simp [intOf]; omega⟩
    · have i1 : ¬ (k : Int) < (out.length : Int) := by omega
      have hkl : k = out.length := by omega
      subst hkl
      obtain ⟨tO, tc', hfv, hT⟩ := tos_cells HO.out.1 HO.out.2 hEr
      subst hfv
      have HTT := hidp hT
      clear hT
      go_wp2
      go_ret
      first | exact ⟨_, rfl, HTT.out, hEr⟩ | exact ⟨_, ⟨_, rfl⟩, HTT.out, hEr⟩ | exact ⟨tO, by simp, HTT.out, hEr⟩

/-- Lists of what was told that are not too long. -/
def TosOk (out : List (Nat × Wir.Od)) : Prop := ∀ i (h : i < out.length), I64 out[i].2.k ∧ out[i].2.rs.length ≤ 4611686018427387904 ∧ out[i].2.fs.length ≤ 4611686018427387904

set_option maxRecDepth 100000 in
set_option maxHeartbeats 4000000 in
theorem SameTo_same (uo vo : Option Addr) (uc vc : Nat) (out : List (Nat × Wir.Od)) (w : World) (hu : TosAt w uo out) (hv : TosAt w vo out) (hok : TosOk out) (hl : out.length ≤ 1000) :
    Calls Try.prog 10 #[.slice uo out.length uc, .slice vo out.length vc] w fun e w' => e = .returned (.bool true) ∧ Ext w w' := by
  have HU := hidp hu
  have HV := hidp hv
  clear hu hv
  go_enter Try.func10, Try.ntmps10
  go_wp2
  go_loopw [13] (fun iv wr => ∃ k : Nat, k ≤ out.length ∧ iv = .int .i64 k ∧ Ext w wr) (fun iv _ => out.length - (intOf iv).toNat)
  case atStart => exact ⟨0, Nat.zero_le _, rfl, Ext.refl _⟩
  case round =>
    obtain ⟨k, hk, rfl, hEr⟩ := hrel
    by_cases hlt : k < out.length
    · have i1 : (k : Int) < (out.length : Int) := by omega
      rcases HU.out.ext hEr with h0 | ⟨b, off, huo, hb, hcs⟩
      · exfalso; rw [h0] at hlt; simp at hlt
      rcases HV.out.ext hEr with h0 | ⟨b', off', hvo, hb', hcs'⟩
      · exfalso; rw [h0] at hlt; simp at hlt
      obtain ⟨ro, rc, fo, fc, d0, d1, d2, d3, d4, d5, hr, hf⟩ := hcs k hlt
      obtain ⟨ro', rc', fo', fc', e0, e1, e2, e3, e4, e5, hr', hf'⟩ := hcs' k hlt
      obtain ⟨o1, o2, o3⟩ := hok k hlt
      have HSO : Hid (∀ V, Ext wr V → Calls Try.prog 33 #[Wi.ovl out[k].2 ro fo rc fc, Wi.ovl out[k].2 ro' fo' rc' fc'] V fun e w' => e = .returned (.bool true) ∧ Ext V w') := fun V hV => Wi.SameOrder_same out[k].2 ro fo ro' fo' rc fc rc' fc' V ⟨hr.ext hV, hf.ext hV, o1, o2, o3⟩ ⟨hr'.ext hV, hf'.ext hV, o1, o2, o3⟩
      unfold Wi.ovl at HSO
      clear hcs hcs' hr hf hr' hf' o1 o2 o3
      obtain ⟨x0, hx0⟩ : ∃ x : Int, ((out[k].1 : Nat) : Int) = x := ⟨_, rfl⟩
      obtain ⟨x1, hx1⟩ : ∃ x, out[k].2.k = x := ⟨_, rfl⟩
      obtain ⟨x2, hx2⟩ : ∃ x, out[k].2.n = x := ⟨_, rfl⟩
      obtain ⟨x3, hx3⟩ : ∃ x, out[k].2.v = x := ⟨_, rfl⟩
      obtain ⟨x4, hx4⟩ : ∃ x, out[k].2.rs.length = x := ⟨_, rfl⟩
      obtain ⟨x5, hx5⟩ : ∃ x, out[k].2.fs.length = x := ⟨_, rfl⟩
      rw [hx0] at d0 e0
      rw [hx1] at d1 e1 HSO
      rw [hx2] at d2 e2 HSO
      rw [hx3] at d3 e3 HSO
      rw [hx4] at d4 e4 HSO
      rw [hx5] at d5 e5 HSO
      clear hx0 hx1 hx2 hx3 hx4 hx5
      rw [huo, hvo]
      clear huo hvo
      have HKP : Hid (∀ V : World, Ext wr V → V.cell? ⟨b, off + k * 6, none⟩ = some (.int .i64 x0) ∧ V.cell? ⟨b, off + k * 6 + 1, none⟩ = some (.int .i64 x1) ∧ V.cell? ⟨b, off + k * 6 + 2, none⟩ = some (.int .i64 x2) ∧ V.cell? ⟨b, off + k * 6 + 3, none⟩ = some (.int .i64 x3) ∧ V.cell? ⟨b, off + k * 6 + 4, none⟩ = some (.slice ro x4 rc) ∧ V.cell? ⟨b, off + k * 6 + 5, none⟩ = some (.slice fo x5 fc) ∧ V.cell? ⟨b', off' + k * 6, none⟩ = some (.int .i64 x0) ∧ V.cell? ⟨b', off' + k * 6 + 1, none⟩ = some (.int .i64 x1) ∧ V.cell? ⟨b', off' + k * 6 + 2, none⟩ = some (.int .i64 x2) ∧ V.cell? ⟨b', off' + k * 6 + 3, none⟩ = some (.int .i64 x3) ∧ V.cell? ⟨b', off' + k * 6 + 4, none⟩ = some (.slice ro' x4 rc') ∧ V.cell? ⟨b', off' + k * 6 + 5, none⟩ = some (.slice fo' x5 fc')) := fun V hV =>
        ⟨(hV.cells.1 _ _ hb).trans d0, (hV.cells.1 _ _ hb).trans d1, (hV.cells.1 _ _ hb).trans d2, (hV.cells.1 _ _ hb).trans d3, (hV.cells.1 _ _ hb).trans d4, (hV.cells.1 _ _ hb).trans d5, (hV.cells.1 _ _ hb').trans e0, (hV.cells.1 _ _ hb').trans e1, (hV.cells.1 _ _ hb').trans e2, (hV.cells.1 _ _ hb').trans e3, (hV.cells.1 _ _ hb').trans e4, (hV.cells.1 _ _ hb').trans e5⟩
      have hR0 := Ext.refl wr
      go_wp2
      go_region_held3 (fun V => V.cell? ⟨b, off + k * 6, none⟩ = some (.int .i64 x0) ∧ V.cell? ⟨b, off + k * 6 + 1, none⟩ = some (.int .i64 x1) ∧ V.cell? ⟨b, off + k * 6 + 2, none⟩ = some (.int .i64 x2) ∧ V.cell? ⟨b, off + k * 6 + 3, none⟩ = some (.int .i64 x3) ∧ V.cell? ⟨b, off + k * 6 + 4, none⟩ = some (.slice ro x4 rc) ∧ V.cell? ⟨b, off + k * 6 + 5, none⟩ = some (.slice fo x5 fc) ∧ V.cell? ⟨b', off' + k * 6, none⟩ = some (.int .i64 x0) ∧ V.cell? ⟨b', off' + k * 6 + 1, none⟩ = some (.int .i64 x1) ∧ V.cell? ⟨b', off' + k * 6 + 2, none⟩ = some (.int .i64 x2) ∧ V.cell? ⟨b', off' + k * 6 + 3, none⟩ = some (.int .i64 x3) ∧ V.cell? ⟨b', off' + k * 6 + 4, none⟩ = some (.slice ro' x4 rc') ∧ V.cell? ⟨b', off' + k * 6 + 5, none⟩ = some (.slice fo' x5 fc'))
        (first | exact HKP.out _ hR0.drew | exact HKP.out _ mk1)
        (first | (go_at_call 33; refine (HSO.out _ hR0.drew).mono ?_; rintro e w5 ⟨rfl, E5⟩; have mk1 : Ext wr w5 := hR0.drew.trans E5; clear E5))
      go_wp2
      exact ⟨⟨k + 1, by omega, by go_num, hEr.trans mk1⟩, by simp [intOf]; omega⟩
    · have i1 : ¬ (k : Int) < (out.length : Int) := by omega
      go_wp2
      go_ret
      exact ⟨rfl, hEr⟩

set_option maxRecDepth 100000 in
set_option maxHeartbeats 4000000 in
theorem SameControl_same (c : Co) (a a' : CA) (w : World) (h : CoAt w c a) (h' : CoAt w c a') (hok : CoOk c) :
    Calls Try.prog 9 #[cvl c a, cvl c a'] w fun e w' => e = .returned (.bool true) ∧ Ext w w' := by
  have HA := hidp h
  have HB := hidp h'
  have HN := hidp hok.n
  have HX := hidp hok.x
  have hwl := hok.w
  clear h h' hok
  unfold cvl
  go_enter Try.func9, Try.ntmps9
  go_upto_region 1 with fail
  obtain ⟨B, hB⟩ : ∃ B, B = (w.alloc (.cells #[.int .i64 c.st, .int .i64 c.now.v, .slice a.n.fo c.now.fs.length a.n.fc, .slice a.n.qo c.now.ps.length a.n.qc, .int .i64 c.nxt.v, .slice a.x.fo c.nxt.fs.length a.x.fc, .slice a.x.qo c.nxt.ps.length a.x.qc, .int .i64 c.num, .slice a.wo c.wts.length a.wc] 28)).alloc (.cells #[.int .i64 c.st, .int .i64 c.now.v, .slice a'.n.fo c.now.fs.length a'.n.fc, .slice a'.n.qo c.now.ps.length a'.n.qc, .int .i64 c.nxt.v, .slice a'.x.fo c.nxt.fs.length a'.x.fc, .slice a'.x.qo c.nxt.ps.length a'.x.qc, .int .i64 c.num, .slice a'.wo c.wts.length a'.wc] 28) := ⟨_, rfl⟩
  have hE0 : Ext w B := by rw [hB]; exact ((Ext.refl w).alloc _).alloc _
  have HK : Hid (∀ V, Ext B V → BX V w.heap.size (coL c a) ∧ BX V (w.heap.size + 1) (coL c a') ∧ w.heap.size < V.heap.size ∧ w.heap.size + 1 < V.heap.size) := fun V hV => by
    have r0 : BX B w.heap.size (coL c a) := by rw [hB]; exact World.rowIs.alloc (box_row rfl _ _ _ _ _ _ _ _ _) _
    have r1 : BX B (w.heap.size + 1) (coL c a') := by rw [hB]; exact box_row (by simp) _ _ _ _ _ _ _ _ _
    have l0 := World.rowIs.lt r0
    have l1 := World.rowIs.lt r1
    exact ⟨World.rowIs.of_block r0 (Below.block hV _ l0), World.rowIs.of_block r1 (Below.block hV _ l1), Nat.lt_of_lt_of_le l0 hV.size, Nat.lt_of_lt_of_le l1 hV.size⟩
  rw [← hB]
  clear hB
  have sm : ∀ p : Pl, PlOk p → Fw.Sm p.fs := fun p hp k hk => by have := hp.sm _ (List.getElem_mem hk); omega
  have gd : ∀ p : Pl, PlOk p → ∀ i, i < p.ps.length → (p.ps.getD i []).length ≤ 4611686018427387904 := fun p hp i _ => by have h1 := getD_sum (ps := p.ps) (i := i); have := hp.tt; omega
  have HS1 := hidp (fun V (hV : Ext B V) => SamePlan_same c.now.v a.n.fo a'.n.fo a.n.qo a'.n.qo c.now.fs.length c.now.ps.length a.n.fc a'.n.fc a.n.qc a'.n.qc c.now.fs c.now.ps V rfl (by have := HN.out.fl; omega) (HA.out.hn.hf.ext (hE0.trans hV)) (HB.out.hn.hf.ext (hE0.trans hV)) (sm _ HN.out) rfl (by have := HN.out.ql; omega) (HA.out.hn.hq.ext (hE0.trans hV)) (HB.out.hn.hq.ext (hE0.trans hV)) (gd _ HN.out))
  have HS2 := hidp (fun V (hV : Ext B V) => SamePlan_same c.nxt.v a.x.fo a'.x.fo a.x.qo a'.x.qo c.nxt.fs.length c.nxt.ps.length a.x.fc a'.x.fc a.x.qc a'.x.qc c.nxt.fs c.nxt.ps V rfl (by have := HX.out.fl; omega) (HA.out.hx.hf.ext (hE0.trans hV)) (HB.out.hx.hf.ext (hE0.trans hV)) (sm _ HX.out) rfl (by have := HX.out.ql; omega) (HA.out.hx.hq.ext (hE0.trans hV)) (HB.out.hx.hq.ext (hE0.trans hV)) (gd _ HX.out))
  clear sm gd
  obtain ⟨q, q', hl0, hl1⟩ := HK.out B (Ext.refl _)
  have c0 : B.cell? ⟨w.heap.size, 0, none⟩ = some (.int .i64 c.st) := World.rowIs.cell q (i := 0) (by omega)
  have c1 : B.cell? ⟨w.heap.size, 1, none⟩ = some (.int .i64 c.now.v) := World.rowIs.cell q (i := 1) (by omega)
  have c2 : B.cell? ⟨w.heap.size, 2, none⟩ = some (.slice a.n.fo c.now.fs.length a.n.fc) := World.rowIs.cell q (i := 2) (by omega)
  have c3 : B.cell? ⟨w.heap.size, 3, none⟩ = some (.slice a.n.qo c.now.ps.length a.n.qc) := World.rowIs.cell q (i := 3) (by omega)
  have c7 : B.cell? ⟨w.heap.size, 7, none⟩ = some (.int .i64 c.num) := World.rowIs.cell q (i := 7) (by omega)
  have d0 : B.cell? ⟨w.heap.size + 1, 0, none⟩ = some (.int .i64 c.st) := World.rowIs.cell q' (i := 0) (by omega)
  have d1 : B.cell? ⟨w.heap.size + 1, 1, none⟩ = some (.int .i64 c.now.v) := World.rowIs.cell q' (i := 1) (by omega)
  have d2 : B.cell? ⟨w.heap.size + 1, 2, none⟩ = some (.slice a'.n.fo c.now.fs.length a'.n.fc) := World.rowIs.cell q' (i := 2) (by omega)
  have d3 : B.cell? ⟨w.heap.size + 1, 3, none⟩ = some (.slice a'.n.qo c.now.ps.length a'.n.qc) := World.rowIs.cell q' (i := 3) (by omega)
  have d7 : B.cell? ⟨w.heap.size + 1, 7, none⟩ = some (.int .i64 c.num) := World.rowIs.cell q' (i := 7) (by omega)
  clear q q'
  go_wp2_with fail
  refine Calls.mono (HS1.out B (Ext.refl _)) ?_
  rintro e w1 ⟨rfl, E1⟩
  clear c0 c1 c2 c3 c7 d0 d1 d2 d3 d7 HS1
  obtain ⟨q, q', hl10, hl11⟩ := HK.out w1 E1
  have c4 : w1.cell? ⟨w.heap.size, 4, none⟩ = some (.int .i64 c.nxt.v) := World.rowIs.cell q (i := 4) (by omega)
  have c5 : w1.cell? ⟨w.heap.size, 5, none⟩ = some (.slice a.x.fo c.nxt.fs.length a.x.fc) := World.rowIs.cell q (i := 5) (by omega)
  have c6 : w1.cell? ⟨w.heap.size, 6, none⟩ = some (.slice a.x.qo c.nxt.ps.length a.x.qc) := World.rowIs.cell q (i := 6) (by omega)
  have d4 : w1.cell? ⟨w.heap.size + 1, 4, none⟩ = some (.int .i64 c.nxt.v) := World.rowIs.cell q' (i := 4) (by omega)
  have d5 : w1.cell? ⟨w.heap.size + 1, 5, none⟩ = some (.slice a'.x.fo c.nxt.fs.length a'.x.fc) := World.rowIs.cell q' (i := 5) (by omega)
  have d6 : w1.cell? ⟨w.heap.size + 1, 6, none⟩ = some (.slice a'.x.qo c.nxt.ps.length a'.x.qc) := World.rowIs.cell q' (i := 6) (by omega)
  clear q q'
  go_wp2_with fail
  refine Calls.mono (HS2.out w1 E1) ?_
  rintro e w2 ⟨rfl, E2⟩
  have E12 := E1.trans E2
  clear c4 c5 c6 d4 d5 d6 HS2
  obtain ⟨q, q', hl20, hl21⟩ := HK.out w2 E12
  have c8 : w2.cell? ⟨w.heap.size, 8, none⟩ = some (.slice a.wo c.wts.length a.wc) := World.rowIs.cell q (i := 8) (by omega)
  have d8 : w2.cell? ⟨w.heap.size + 1, 8, none⟩ = some (.slice a'.wo c.wts.length a'.wc) := World.rowIs.cell q' (i := 8) (by omega)
  clear q q'
  go_wp2_with fail
  refine Calls.mono (Ints_any a.wo a'.wo c.wts.length c.wts.length a.wc a'.wc c.wts c.wts _ rfl rfl (by omega) (HA.out.hw.ext (hE0.trans E12)) (HB.out.hw.ext (hE0.trans E12))) ?_
  rintro e w3 ⟨he, E3⟩
  rw [show decide (c.wts = c.wts) = true from decide_eq_true rfl] at he
  subst he
  go_wp2
  go_ret
  exact ⟨rfl, hE0.trans (E12.trans E3)⟩

end Go.Proofs.Ytgffkjjddhlbpaa.Ct

/- What is told is not too long, in words. -/
namespace Go.Proofs.Ytgffkjjddhlbpaa.Ct
open Go.RowKit Go.Deep Stw Stp Tb Rul

def OOk (o : Wir.Od) : Prop := I64 o.k ∧ o.rs.length ≤ 16777216 ∧ o.fs.length ≤ 16777216
/-- A control and what it told, not too long. -/
structure GOk (K M : Nat) (g : Cg) : Prop where
  n : PlOk g.c.now
  x : PlOk g.c.nxt
  w : g.c.wts.length ≤ K
  t : ∀ y ∈ g.out, OOk y.2
  l : g.out.length ≤ M
theorem GOk.mono {K M K' M' : Nat} {g : Cg} (h : GOk K M g) (hK : K ≤ K') (hM : M ≤ M') : GOk K' M' g := ⟨h.n, h.x, Nat.le_trans h.w hK, h.t, Nat.le_trans h.l hM⟩
theorem GOk.told {K M : Nat} {g : Cg} {ord : Nat → Option Wir.Od} (h : GOk K M g) (ho : ∀ s o, ord s = some o → OOk o) : ∀ m, GOk (K + m) (M + m) (told m ord g)
  | 0 => h
  | m + 1 => by
    have ih := GOk.told h ho m
    cases e : ord m with
    | none => rw [told_none e]; exact ih.mono (by omega) (by omega)
    | some o =>
      rw [told_some e]
      have hw := ih.w
      have hl := ih.l
      refine ⟨ih.n, ih.x, by simp only [List.length_append, List.length_cons, List.length_nil]; omega, fun y hy => ?_, by simp only [List.length_append, List.length_cons, List.length_nil]; omega⟩
      rcases List.mem_append.1 hy with hy | hy
      · exact ih.t y hy
      · obtain rfl := List.mem_singleton.1 hy
        obtain ⟨k1, k2, k3⟩ := ho m o e
        exact ⟨k1, k2, k3⟩
theorem add_ok {p : Pl} (h : PlOk p) : ∀ s o, addO p s = some o → OOk o := fun s o e => by
  unfold addO at e
  split at e
  · cases e
  · cases e; exact ⟨rfl, rls_len h s, by simp⟩
theorem drp_ok {p : Pl} : ∀ s o, drpO p s = some o → OOk o := fun s o e => by
  unfold drpO at e
  split at e
  · cases e
  · cases e; exact ⟨rfl, by simp, by simp⟩
theorem stp_ok {a p : Pl} (h : PlOk p) : ∀ s o, stpO a p s = some o → OOk o := fun s o e => by
  unfold stpO at e
  split at e
  · cases e
  · cases e; exact ⟨rfl, by simp, Nat.le_trans (beg_len _) h.fl⟩
theorem GOk.go {K M n : Nat} {g : Cg} (h : GOk K M g) : GOk (K + n) (M + n) (goS n g) := by
  have h' : GOk (K + n) (M + n) g := h.mono (by omega) (by omega)
  have hs : ∀ (k : Int) (g' : Cg) (K' M' : Nat), GOk K' M' g' → GOk K' M' (setSt g' k) := fun k g' K' M' q => ⟨q.n, q.x, q.w, q.t, q.l⟩
  rcases goS_cases n g with ⟨_, e⟩ | ⟨_, _, e⟩ | ⟨_, _, e⟩ | ⟨_, _, e⟩ | ⟨_, _, _, _, e⟩
  · rw [e]; exact h'
  · rw [e]
    have q := GOk.told (hs 2 g K M h) (stp_ok (a := g.c.now) h.x) n
    unfold calmS
    split
    · exact q
    · exact hs _ _ _ _ q
  · rw [e]; exact hs _ _ _ _ h'
  · rw [e]; exact ⟨h'.x, PlOk.zero, h'.w, h'.t, h'.l⟩
  · rw [e]; exact h'
theorem GOk.zero (K M : Nat) : GOk K M ⟨co0, []⟩ := ⟨PlOk.zero, PlOk.zero, Nat.zero_le _, fun y hy => by simp at hy, Nat.zero_le _⟩
theorem drop_gok {c : Co} {n : Int} {ls : List Lk} (hok : CoOk c) (hw : c.wts.length ≤ 1048576) : GOk 1048600 16 (dropS c n ls).1 := by
  unfold dropS
  split
  · exact GOk.zero _ _
  · rename_i hr
    have hbd := (right_of (by simpa using hr)).bounds
    split
    · exact GOk.zero _ _
    · have q : GOk 1048576 0 ⟨⟨4, c.now, c.nxt, c.num, c.wts⟩, []⟩ := ⟨hok.n, hok.x, hw, fun y hy => by simp at hy, Nat.le_refl _⟩
      exact (GOk.go (q.told drp_ok n.toNat)).mono (by omega) (by omega)
theorem back_gok {c : Co} {n k : Int} {ls : List Lk} (hok : CoOk c) (hw : c.wts.length ≤ 1048576) : GOk 1048600 16 (backS c n ls k).1 := by
  unfold backS
  split
  · exact GOk.zero _ _
  · rename_i hr
    have hbd := (right_of (by simpa using hr)).bounds
    split
    · exact GOk.zero _ _
    · have q : GOk 1048576 0 ⟨⟨c.st, c.now, c.nxt, c.num, c.wts.erase k⟩, []⟩ := ⟨hok.n, hok.x, Nat.le_trans (List.length_erase_le ..) hw, fun y hy => by simp at hy, Nat.le_refl _⟩
      exact (GOk.go (n := n.toNat) q).mono (by omega) (by omega)
theorem ask_gok {c : Co} {n : Int} {ls : List Lk} {fs : List Stf.Fl} (hok : CoOk c) (hw : c.wts.length ≤ 1048576) : GOk 1048600 16 (askS c n ls fs).1 := by
  unfold askS
  split
  · exact GOk.zero _ _
  · split
    · exact GOk.zero _ _
    · rename_i hp
      have hp0 : (plnF n (nx c.now.v) ls fs).1 = 0 := by simpa using hp
      have hgd := plan_good hp0
      have h8 := hgd.n8
      split
      · exact GOk.zero _ _
      · have q : GOk 1048576 0 ⟨⟨1, c.now, ⟨nx c.now.v, fs, plnP n ls fs⟩, c.num, c.wts⟩, []⟩ := ⟨hok.n, plan_ok hp0, hw, fun y hy => by simp at hy, Nat.le_refl _⟩
        exact (GOk.go (q.told (add_ok (plan_ok hp0)) n.toNat)).mono (by omega) (by omega)
theorem GOk.tos {K M : Nat} {g : Cg} (h : GOk K M g) : TosOk g.out := fun i hi => by
  obtain ⟨k1, k2, k3⟩ := h.t _ (List.getElem_mem hi)
  exact ⟨k1, by omega, by omega⟩
theorem GOk.co {g : Cg} (h : GOk 1048600 16 g) : CoOk g.c := ⟨h.n, h.x, Nat.le_trans h.w (by decide)⟩

/-- Nine cells of a row are written. -/
theorem row9 {V : World} {b : Nat} {T : TypeId} {f : Nat → Value} (h : V.rowIs b T 9 f) (x0 x1 x2 x3 x4 x5 x6 x7 x8 : Value) : (W9 V b x0 x1 x2 x3 x4 x5 x6 x7 x8).rowIs b T 9 (fun j => [x0, x1, x2, x3, x4, x5, x6, x7, x8].getD j vd) := by
  unfold W9
  refine (World.rowIs.set (World.rowIs.set (World.rowIs.set (World.rowIs.set (World.rowIs.set (World.rowIs.set (World.rowIs.set (World.rowIs.set (World.rowIs.set h 0 x0) 1 x1) 2 x2) 3 x3) 4 x4) 5 x5) 6 x6) 7 x7) 8 x8).congr (fun j hj => ?_)
  match j, hj with
  | 0, _ | 1, _ | 2, _ | 3, _ | 4, _ | 5, _ | 6, _ | 7, _ | 8, _ => simp
/-- The document's answer, by its letters. -/
def LtR (Y : Nat → Prop) (w0 : World) (G : Cg) (k : Int) (e : Ending) (w' : World) : Prop := ∃ (k0 k1 : Int) (o2 : Option Addr) (l2 q2 : Nat) (o3 : Option Addr) (l3 q3 : Nat) (k4 : Int) (o5 : Option Addr) (l5 q5 : Nat) (o6 : Option Addr) (l6 q6 : Nat) (k7 : Int) (o8 : Option Addr) (l8 q8 : Nat) (tO : Option Addr) (l9 tc : Nat),
  e = .returned (.tuple #[.agg #[.int .i64 k0, .int .i64 k1, .slice o2 l2 q2, .slice o3 l3 q3, .int .i64 k4, .slice o5 l5 q5, .slice o6 l6 q6, .int .i64 k7, .slice o8 l8 q8], .slice tO l9 tc, .int .i64 k]) ∧ Ext w0 w' ∧
  Hid (∃ a', Value.agg #[.int .i64 k0, .int .i64 k1, .slice o2 l2 q2, .slice o3 l3 q3, .int .i64 k4, .slice o5 l5 q5, .slice o6 l6 q6, .int .i64 k7, .slice o8 l8 q8] = cvl G.c a' ∧ l9 = G.out.length ∧ ∀ U : World, w'.heap.size ≤ U.heap.size → (∀ b, (Y b ∨ w0.heap.size ≤ b) → b < w'.heap.size → U.heap[b]? = w'.heap[b]?) → CoAt U G.c a' ∧ TosAt U tO G.out)
theorem RfOut.letters {Y : Nat → Prop} {w0 w' : World} {G : Cg} {k : Int} {e : Ending} (h : RfOut Y w0 G k e w') : LtR Y w0 G k e w' := by
  obtain ⟨a', tO, tc, h1, h2, h3⟩ := h
  exact ⟨_, _, _, _, _, _, _, _, _, _, _, _, _, _, _, _, _, _, _, _, _, _, h1, h3, a', rfl, rfl, h2.out⟩

end Go.Proofs.Ytgffkjjddhlbpaa.Ct

namespace Go.Proofs.Ytgffkjjddhlbpaa.Ct
open Go.RowKit Go.Deep Stw Stp Tb Rul

set_option maxRecDepth 100000 in
set_option maxHeartbeats 8000000 in
theorem controlTells_any (c : Co) (a : CA) (n num : Int) (ao : Option Addr) (len cap : Nat) (ls : List Lk) (lo : Option Addr) (lc : Nat) (fs : List Stf.Fl) (w : World) (h : CoAt w c a) (hok : CoOk c) (hwb : c.wts.length ≤ 1048576) (hwn : a.wo = none → a.wc = 0) (hlen : ls.length = len) (hl : NetAt w ao ls) (hx : len ≤ 9223372036854775807) (hcap : len ≤ cap) (hI : I64 n)
    (hf : Fw.FlowsAt w lo fs) (hS : Fw.Sm fs) (hlx : fs.length ≤ 9223372036854775807) :
    Calls Try.prog 3 #[cvl c a, .agg #[.int .i64 n, .slice ao len cap], .slice lo fs.length lc, .int .i64 num] w fun e w' => e = .returned (.bool true) ∧ Ext w w' := by
  obtain ⟨w0, hw0⟩ : ∃ w0, w0 = (w.alloc (.cells #[.int .i64 c.st, .int .i64 c.now.v, .slice a.n.fo c.now.fs.length a.n.fc, .slice a.n.qo c.now.ps.length a.n.qc, .int .i64 c.nxt.v, .slice a.x.fo c.nxt.fs.length a.x.fc, .slice a.x.qo c.nxt.ps.length a.x.qc, .int .i64 c.num, .slice a.wo c.wts.length a.wc] 28)).alloc (.cells #[.int .i64 n, .slice ao len cap] 31) := ⟨_, rfl⟩
  have E0 : Ext w w0 := by rw [hw0]; exact ((Ext.refl w).alloc _).alloc _
  have hs0 : w0.heap.size = w.heap.size + 1 + 1 := by rw [hw0]; simp
  have HB : Hid (∀ U, Ext w0 U → BX U w.heap.size (coL c a) ∧ U.cell? ⟨w.heap.size + 1, 0, none⟩ = some (.int .i64 n) ∧ U.cell? ⟨w.heap.size + 1, 1, none⟩ = some (.slice ao len cap) ∧ w.heap.size < U.heap.size ∧ w.heap.size + 1 < U.heap.size) := fun U hU => by
    have r0 : BX w0 w.heap.size (coL c a) := by rw [hw0]; exact World.rowIs.alloc (box_row rfl _ _ _ _ _ _ _ _ _) _
    have l0 := World.rowIs.lt r0
    have hu := hU.size
    exact ⟨World.rowIs.of_block r0 (Below.block hU _ l0), (hU.cells.1 _ _ (by omega)).trans (by rw [hw0]; simp), (hU.cells.1 _ _ (by omega)).trans (by rw [hw0]; simp), by omega, by omega⟩
  have hst : ∀ U, Ext w0 U → Stb (fun b => b < w.heap.size ∧ b < U.heap.size) U (fun V => CoAt V c a) := fun U hU => (h.stb.ext (E0.trans hU)).more (fun b hb hlt => ⟨hb, hlt⟩)
  have hsf : ∀ U, Ext w0 U → Stb (fun b => b < w.heap.size ∧ b < U.heap.size) U (fun V => Fw.FlowsAt V lo fs) := fun U hU => ((FlowsAt.stb hf).ext (E0.trans hU)).more (fun b hb hlt => ⟨hb, hlt⟩)
  obtain ⟨G1, hG1⟩ : ∃ G, (askS c n ls fs).1 = G := ⟨_, rfl⟩
  obtain ⟨e1, he1⟩ : ∃ e, (askS c n ls fs).2 = e := ⟨_, rfl⟩
  have HO1 : Hid (GOk 1048600 16 G1) := by show GOk _ _ _; rw [← hG1]; exact ask_gok hok hwb
  have HC1 : Hid (∀ U, Ext w0 U → Calls Try.prog 7 #[cvl c a, .agg #[.int .i64 n, .slice ao len cap], .slice lo fs.length lc] U fun e w' => GoOut U.heap.size U G1 e1 e w') := fun U hU => by rw [← hG1, ← he1]; exact Ask_any c a n ao len cap ls lo fs.length lc fs U (h.ext (E0.trans hU)) hok hlen (hl.ext (E0.trans hU)) hx hI rfl (hf.ext (E0.trans hU)) hS hlx
  have HD1 : Hid (∀ U, Ext w0 U → Calls Try.prog 8 #[cvl c a, .agg #[.int .i64 n, .slice ao len cap], .slice lo fs.length lc] U fun e w' => RfOut (fun b => b < w.heap.size) U G1 e1 e w') := fun U hU => by rw [← hG1, ← he1]; exact refAsk_any (fun b => b < w.heap.size) c a n ao len cap ls lo fs.length lc fs U (hst U hU) hok hwn hlen (hl.ext (E0.trans hU)) hx hcap rfl (hsf U hU) hS hlx
  unfold cvl at HC1 HD1
  clear hG1 he1
  obtain ⟨G2, hG2⟩ : ∃ G, (backS c n ls num).1 = G := ⟨_, rfl⟩
  obtain ⟨e2, he2⟩ : ∃ e, (backS c n ls num).2 = e := ⟨_, rfl⟩
  have HO2 : Hid (GOk 1048600 16 G2) := by show GOk _ _ _; rw [← hG2]; exact back_gok hok hwb
  have HC2 : Hid (∀ U, Ext w0 U → Calls Try.prog 12 #[cvl c a, .agg #[.int .i64 n, .slice ao len cap], .int .i64 num] U fun e w' => GoOut U.heap.size U G2 e2 e w') := fun U hU => by rw [← hG2, ← he2]; exact Back_any c a n num ao len cap ls U (h.ext (E0.trans hU)) hok hlen (hl.ext (E0.trans hU)) hx
  have HD2 : Hid (∀ U, Ext w0 U → Calls Try.prog 13 #[cvl c a, .agg #[.int .i64 n, .slice ao len cap], .int .i64 num] U fun e w' => RfOut (fun b => b < w.heap.size) U G2 e2 e w') := fun U hU => by rw [← hG2, ← he2]; exact refBack_any (fun b => b < w.heap.size) c a n num ao len cap ls U (hst U hU) hok hlen (hl.ext (E0.trans hU)) hx hcap
  unfold cvl at HC2 HD2
  clear hG2 he2
  obtain ⟨G3, hG3⟩ : ∃ G, (dropS c n ls).1 = G := ⟨_, rfl⟩
  obtain ⟨e3, he3⟩ : ∃ e, (dropS c n ls).2 = e := ⟨_, rfl⟩
  have HO3 : Hid (GOk 1048600 16 G3) := by show GOk _ _ _; rw [← hG3]; exact drop_gok hok hwb
  have HC3 : Hid (∀ U, Ext w0 U → Calls Try.prog 14 #[cvl c a, .agg #[.int .i64 n, .slice ao len cap]] U fun e w' => GoOut U.heap.size U G3 e3 e w') := fun U hU => by rw [← hG3, ← he3]; exact Drop_any c a n ao len cap ls U (h.ext (E0.trans hU)) hok hlen (hl.ext (E0.trans hU)) hx
  have HD3 : Hid (∀ U, Ext w0 U → Calls Try.prog 15 #[cvl c a, .agg #[.int .i64 n, .slice ao len cap]] U fun e w' => RfOut (fun b => b < w.heap.size) U G3 e3 e w') := fun U hU => by rw [← hG3, ← he3]; exact refDrop_any (fun b => b < w.heap.size) c a n ao len cap ls U (hst U hU) hok hwn hlen (hl.ext (E0.trans hU)) hx hcap
  unfold cvl at HC3 HD3
  clear hG3 he3
  clear hst hsf h hok hwb hwn hlen hl hx hcap hI hf hS hlx
  unfold cvl
  go_enter Try.func3, Try.ntmps3
  go_upto_region 1 with fail
  rw [← hw0]
  clear hw0
  obtain ⟨q, n0, n1, hp0, hp1⟩ := HB.out w0 (Ext.refl w0)
  have c0 : w0.cell? ⟨w.heap.size, 0, none⟩ = some (.int .i64 c.st) := World.rowIs.cell q (i := 0) (by omega)
  have c1 : w0.cell? ⟨w.heap.size, 1, none⟩ = some (.int .i64 c.now.v) := World.rowIs.cell q (i := 1) (by omega)
  have c2 : w0.cell? ⟨w.heap.size, 2, none⟩ = some (.slice a.n.fo c.now.fs.length a.n.fc) := World.rowIs.cell q (i := 2) (by omega)
  have c3 : w0.cell? ⟨w.heap.size, 3, none⟩ = some (.slice a.n.qo c.now.ps.length a.n.qc) := World.rowIs.cell q (i := 3) (by omega)
  have c4 : w0.cell? ⟨w.heap.size, 4, none⟩ = some (.int .i64 c.nxt.v) := World.rowIs.cell q (i := 4) (by omega)
  have c5 : w0.cell? ⟨w.heap.size, 5, none⟩ = some (.slice a.x.fo c.nxt.fs.length a.x.fc) := World.rowIs.cell q (i := 5) (by omega)
  have c6 : w0.cell? ⟨w.heap.size, 6, none⟩ = some (.slice a.x.qo c.nxt.ps.length a.x.qc) := World.rowIs.cell q (i := 6) (by omega)
  have c7 : w0.cell? ⟨w.heap.size, 7, none⟩ = some (.int .i64 c.num) := World.rowIs.cell q (i := 7) (by omega)
  have c8 : w0.cell? ⟨w.heap.size, 8, none⟩ = some (.slice a.wo c.wts.length a.wc) := World.rowIs.cell q (i := 8) (by omega)
  clear q
  go_wp2_with fail
  refine Calls.mono (HC1.out w0 (Ext.refl w0)) ?_
  intro e u1 hg
  obtain ⟨k0a1, k1a1, o2a1, l2a1, q2a1, o3a1, l3a1, q3a1, k4a1, o5a1, l5a1, q5a1, o6a1, l6a1, q6a1, k7a1, o8a1, l8a1, q8a1, tOa1, l9a1, tca1, rfl, F1, HF1⟩ := hg.letters
  clear hg
  clear c0 c1 c2 c3 c4 c5 c6 c7 c8 n0 n1 hp0 hp1
  have hEu1 : Ext w0 u1 := (Ext.refl w0).trans F1
  have hsu1 := F1.size
  obtain ⟨v1, hv1⟩ : ∃ v1, v1 = u1.alloc (.cells #[.int .i64 k0a1, .int .i64 k1a1, .slice o2a1 l2a1 q2a1, .slice o3a1 l3a1 q3a1, .int .i64 k4a1, .slice o5a1 l5a1 q5a1, .slice o6a1 l6a1 q6a1, .int .i64 k7a1, .slice o8a1 l8a1 q8a1] 28) := ⟨_, rfl⟩
  have hAw : w0.heap.size ≤ u1.heap.size := by have := hEu1.size; omega
  have hEv1 : Ext w0 v1 := by rw [hv1]; exact hEu1.alloc _
  have hsv1 : v1.heap.size = u1.heap.size + 1 := by rw [hv1]; simp
  have HFA1 : Hid (∀ U, Ext v1 U → U.rowIs u1.heap.size 28 9 (fun j => [.int .i64 k0a1, .int .i64 k1a1, .slice o2a1 l2a1 q2a1, .slice o3a1 l3a1 q3a1, .int .i64 k4a1, .slice o5a1 l5a1 q5a1, .slice o6a1 l6a1 q6a1, .int .i64 k7a1, .slice o8a1 l8a1 q8a1].getD j vd)) := fun U hU => by
    have r : v1.rowIs u1.heap.size 28 9 (fun j => [.int .i64 k0a1, .int .i64 k1a1, .slice o2a1 l2a1 q2a1, .slice o3a1 l3a1 q3a1, .int .i64 k4a1, .slice o5a1 l5a1 q5a1, .slice o6a1 l6a1 q6a1, .int .i64 k7a1, .slice o8a1 l8a1 q8a1].getD j vd) := by rw [hv1]; exact box_row rfl _ _ _ _ _ _ _ _ _
    exact World.rowIs.of_block r (Below.block hU _ (World.rowIs.lt r))
  have HFC1 : Hid (∀ b, b < u1.heap.size → v1.heap[b]? = u1.heap[b]?) := fun b hb => by rw [hv1]; exact blk_alloc_lt _ _ _ hb
  go_upto_region 2 with fail
  rw [← hv1]
  clear hv1
  obtain ⟨q, n0, n1, hp0, hp1⟩ := HB.out v1 hEv1
  have c0 : v1.cell? ⟨w.heap.size, 0, none⟩ = some (.int .i64 c.st) := World.rowIs.cell q (i := 0) (by omega)
  have c1 : v1.cell? ⟨w.heap.size, 1, none⟩ = some (.int .i64 c.now.v) := World.rowIs.cell q (i := 1) (by omega)
  have c2 : v1.cell? ⟨w.heap.size, 2, none⟩ = some (.slice a.n.fo c.now.fs.length a.n.fc) := World.rowIs.cell q (i := 2) (by omega)
  have c3 : v1.cell? ⟨w.heap.size, 3, none⟩ = some (.slice a.n.qo c.now.ps.length a.n.qc) := World.rowIs.cell q (i := 3) (by omega)
  have c4 : v1.cell? ⟨w.heap.size, 4, none⟩ = some (.int .i64 c.nxt.v) := World.rowIs.cell q (i := 4) (by omega)
  have c5 : v1.cell? ⟨w.heap.size, 5, none⟩ = some (.slice a.x.fo c.nxt.fs.length a.x.fc) := World.rowIs.cell q (i := 5) (by omega)
  have c6 : v1.cell? ⟨w.heap.size, 6, none⟩ = some (.slice a.x.qo c.nxt.ps.length a.x.qc) := World.rowIs.cell q (i := 6) (by omega)
  have c7 : v1.cell? ⟨w.heap.size, 7, none⟩ = some (.int .i64 c.num) := World.rowIs.cell q (i := 7) (by omega)
  have c8 : v1.cell? ⟨w.heap.size, 8, none⟩ = some (.slice a.wo c.wts.length a.wc) := World.rowIs.cell q (i := 8) (by omega)
  clear q
  go_wp2_with fail
  refine Calls.mono (HD1.out v1 hEv1) ?_
  intro e y1 hg
  obtain ⟨k0b1, k1b1, o2b1, l2b1, q2b1, o3b1, l3b1, q3b1, k4b1, o5b1, l5b1, q5b1, o6b1, l6b1, q6b1, k7b1, o8b1, l8b1, q8b1, tOb1, l9b1, tcb1, rfl, R1, HR1⟩ := hg.letters
  clear hg
  clear c0 c1 c2 c3 c4 c5 c6 c7 c8 n0 n1 hp0 hp1
  have hEy1 : Ext w0 y1 := hEv1.trans R1
  have hsy1 := R1.size
  obtain ⟨z1, hz1⟩ : ∃ z1, z1 = y1.alloc (.cells #[.int .i64 k0b1, .int .i64 k1b1, .slice o2b1 l2b1 q2b1, .slice o3b1 l3b1 q3b1, .int .i64 k4b1, .slice o5b1 l5b1 q5b1, .slice o6b1 l6b1 q6b1, .int .i64 k7b1, .slice o8b1 l8b1 q8b1] 28) := ⟨_, rfl⟩
  have hBw : w0.heap.size ≤ y1.heap.size := by have := hEy1.size; omega
  have hAB : u1.heap.size < y1.heap.size := by omega
  have hEz1 : Ext w0 z1 := by rw [hz1]; exact hEy1.alloc _
  have hsz1 : z1.heap.size = y1.heap.size + 1 := by rw [hz1]; simp
  have HFB1 : Hid (∀ U, Ext z1 U → U.rowIs y1.heap.size 28 9 (fun j => [.int .i64 k0b1, .int .i64 k1b1, .slice o2b1 l2b1 q2b1, .slice o3b1 l3b1 q3b1, .int .i64 k4b1, .slice o5b1 l5b1 q5b1, .slice o6b1 l6b1 q6b1, .int .i64 k7b1, .slice o8b1 l8b1 q8b1].getD j vd)) := fun U hU => by
    have r : z1.rowIs y1.heap.size 28 9 (fun j => [.int .i64 k0b1, .int .i64 k1b1, .slice o2b1 l2b1 q2b1, .slice o3b1 l3b1 q3b1, .int .i64 k4b1, .slice o5b1 l5b1 q5b1, .slice o6b1 l6b1 q6b1, .int .i64 k7b1, .slice o8b1 l8b1 q8b1].getD j vd) := by rw [hz1]; exact box_row rfl _ _ _ _ _ _ _ _ _
    exact World.rowIs.of_block r (Below.block hU _ (World.rowIs.lt r))
  have HFD1 : Hid (∀ b, b < y1.heap.size → z1.heap[b]? = y1.heap[b]?) := fun b hb => by rw [hz1]; exact blk_alloc_lt _ _ _ hb
  go_upto_region 3 with fail
  rw [← hz1]
  clear hz1
  have HSA1 : Hid (∃ a', Value.agg #[.int .i64 k0a1, .int .i64 k1a1, .slice o2a1 l2a1 q2a1, .slice o3a1 l3a1 q3a1, .int .i64 k4a1, .slice o5a1 l5a1 q5a1, .slice o6a1 l6a1 q6a1, .int .i64 k7a1, .slice o8a1 l8a1 q8a1] = cvl G1.c a' ∧ l9a1 = G1.out.length ∧ CoAt z1 G1.c a' ∧ TosAt z1 tOa1 G1.out) := by
    obtain ⟨a', k1, k2, k3⟩ := HF1.out
    have := k3 z1 (by omega) (fun b _ hlt => (HFD1.out b (by omega)).trans ((Below.block R1 b (by omega)).trans (HFC1.out b hlt)))
    exact ⟨a', k1, k2, this.1, this.2⟩
  have HSB1 : Hid (∃ a', Value.agg #[.int .i64 k0b1, .int .i64 k1b1, .slice o2b1 l2b1 q2b1, .slice o3b1 l3b1 q3b1, .int .i64 k4b1, .slice o5b1 l5b1 q5b1, .slice o6b1 l6b1 q6b1, .int .i64 k7b1, .slice o8b1 l8b1 q8b1] = cvl G1.c a' ∧ l9b1 = G1.out.length ∧ CoAt z1 G1.c a' ∧ TosAt z1 tOb1 G1.out) := by
    obtain ⟨a', k1, k2, k3⟩ := HR1.out
    have := k3 z1 (by omega) (fun b _ hlt => HFD1.out b hlt)
    exact ⟨a', k1, k2, this.1, this.2⟩
  have HRA1 : Hid (∀ U, Ext z1 U → U.rowIs u1.heap.size 28 9 (fun j => [.int .i64 k0a1, .int .i64 k1a1, .slice o2a1 l2a1 q2a1, .slice o3a1 l3a1 q3a1, .int .i64 k4a1, .slice o5a1 l5a1 q5a1, .slice o6a1 l6a1 q6a1, .int .i64 k7a1, .slice o8a1 l8a1 q8a1].getD j vd)) := fun U hU => by
    have r := HFA1.out y1 R1
    have r2 : z1.rowIs u1.heap.size 28 9 (fun j => [.int .i64 k0a1, .int .i64 k1a1, .slice o2a1 l2a1 q2a1, .slice o3a1 l3a1 q3a1, .int .i64 k4a1, .slice o5a1 l5a1 q5a1, .slice o6a1 l6a1 q6a1, .int .i64 k7a1, .slice o8a1 l8a1 q8a1].getD j vd) := World.rowIs.of_block r (HFD1.out u1.heap.size (by omega))
    exact World.rowIs.of_block r2 (Below.block hU _ (World.rowIs.lt r2))
  have HRB1 := HFB1
  have HQ1 : Hid (Calls Try.prog 9 #[.agg #[.int .i64 k0a1, .int .i64 k1a1, .slice o2a1 l2a1 q2a1, .slice o3a1 l3a1 q3a1, .int .i64 k4a1, .slice o5a1 l5a1 q5a1, .slice o6a1 l6a1 q6a1, .int .i64 k7a1, .slice o8a1 l8a1 q8a1], .agg #[.int .i64 k0b1, .int .i64 k1b1, .slice o2b1 l2b1 q2b1, .slice o3b1 l3b1 q3b1, .int .i64 k4b1, .slice o5b1 l5b1 q5b1, .slice o6b1 l6b1 q6b1, .int .i64 k7b1, .slice o8b1 l8b1 q8b1]] z1 fun e w' => e = .returned (.bool true) ∧ Ext z1 w') := by
    obtain ⟨a', k1, _, k3, _⟩ := HSA1.out
    obtain ⟨a2, j1, _, j3, _⟩ := HSB1.out
    show Calls _ _ _ _ _
    rw [k1, j1]
    exact SameControl_same G1.c a' a2 z1 k3 j3 HO1.out.co
  have HTA1 : Hid (TosAt z1 tOa1 G1.out ∧ TosAt z1 tOb1 G1.out) := by
    obtain ⟨a', _, _, _, k4⟩ := HSA1.out
    obtain ⟨a2, _, _, _, j4⟩ := HSB1.out
    exact ⟨k4, j4⟩
  have hla1 : l9a1 = G1.out.length := by obtain ⟨_, _, k2, _⟩ := HSA1.out; exact k2
  have hlb1 : l9b1 = G1.out.length := by obtain ⟨_, _, k2, _⟩ := HSB1.out; exact k2
  have hgl1 : G1.out.length ≤ 1000 := Nat.le_trans HO1.out.l (by decide)
  have rA := HRA1.out z1 (Ext.refl _)
  have rB := HRB1.out z1 (Ext.refl _)
  have hAl := World.rowIs.lt rA
  have hBl := World.rowIs.lt rB
  clear HF1 HR1 HSA1 HSB1 HFC1 HFD1 HC1 HD1
  have x0 : z1.cell? ⟨u1.heap.size, 0, none⟩ = some (.int .i64 k0a1) := World.rowIs.cell rA (i := 0) (by omega)
  have x1 : z1.cell? ⟨u1.heap.size, 1, none⟩ = some (.int .i64 k1a1) := World.rowIs.cell rA (i := 1) (by omega)
  have x2 : z1.cell? ⟨u1.heap.size, 2, none⟩ = some (.slice o2a1 l2a1 q2a1) := World.rowIs.cell rA (i := 2) (by omega)
  have x3 : z1.cell? ⟨u1.heap.size, 3, none⟩ = some (.slice o3a1 l3a1 q3a1) := World.rowIs.cell rA (i := 3) (by omega)
  have x4 : z1.cell? ⟨u1.heap.size, 4, none⟩ = some (.int .i64 k4a1) := World.rowIs.cell rA (i := 4) (by omega)
  have x5 : z1.cell? ⟨u1.heap.size, 5, none⟩ = some (.slice o5a1 l5a1 q5a1) := World.rowIs.cell rA (i := 5) (by omega)
  have x6 : z1.cell? ⟨u1.heap.size, 6, none⟩ = some (.slice o6a1 l6a1 q6a1) := World.rowIs.cell rA (i := 6) (by omega)
  have x7 : z1.cell? ⟨u1.heap.size, 7, none⟩ = some (.int .i64 k7a1) := World.rowIs.cell rA (i := 7) (by omega)
  have x8 : z1.cell? ⟨u1.heap.size, 8, none⟩ = some (.slice o8a1 l8a1 q8a1) := World.rowIs.cell rA (i := 8) (by omega)
  have d0 : z1.cell? ⟨y1.heap.size, 0, none⟩ = some (.int .i64 k0b1) := World.rowIs.cell rB (i := 0) (by omega)
  have d1 : z1.cell? ⟨y1.heap.size, 1, none⟩ = some (.int .i64 k1b1) := World.rowIs.cell rB (i := 1) (by omega)
  have d2 : z1.cell? ⟨y1.heap.size, 2, none⟩ = some (.slice o2b1 l2b1 q2b1) := World.rowIs.cell rB (i := 2) (by omega)
  have d3 : z1.cell? ⟨y1.heap.size, 3, none⟩ = some (.slice o3b1 l3b1 q3b1) := World.rowIs.cell rB (i := 3) (by omega)
  have d4 : z1.cell? ⟨y1.heap.size, 4, none⟩ = some (.int .i64 k4b1) := World.rowIs.cell rB (i := 4) (by omega)
  have d5 : z1.cell? ⟨y1.heap.size, 5, none⟩ = some (.slice o5b1 l5b1 q5b1) := World.rowIs.cell rB (i := 5) (by omega)
  have d6 : z1.cell? ⟨y1.heap.size, 6, none⟩ = some (.slice o6b1 l6b1 q6b1) := World.rowIs.cell rB (i := 6) (by omega)
  have d7 : z1.cell? ⟨y1.heap.size, 7, none⟩ = some (.int .i64 k7b1) := World.rowIs.cell rB (i := 7) (by omega)
  have d8 : z1.cell? ⟨y1.heap.size, 8, none⟩ = some (.slice o8b1 l8b1 q8b1) := World.rowIs.cell rB (i := 8) (by omega)
  clear rA rB
  rw [hla1, hlb1]
  clear hla1 hlb1
  go_wp2_with fail
  refine Calls.mono HQ1.out ?_
  rintro e f1 ⟨rfl, E51⟩
  clear x0 x1 x2 x3 x4 x5 x6 x7 x8 d0 d1 d2 d3 d4 d5 d6 d7 d8 HQ1
  go_wp2_with fail
  refine Calls.mono (tos_any tOa1 tca1 G1.out f1 (HTA1.out.1.ext E51) hgl1) ?_
  rintro e g1 ⟨tO61, tc61, rfl, hT61, E61⟩
  have HT61 := hidp hT61
  clear hT61
  go_wp2_with fail
  refine Calls.mono (SameTo_same tO61 tOb1 tc61 tcb1 G1.out g1 HT61.out (HTA1.out.2.ext (E51.trans E61)) HO1.out.tos hgl1) ?_
  rintro e m1 ⟨rfl, E71⟩
  have hEm1 : Ext z1 m1 := E51.trans (E61.trans E71)
  have hEw1 : Ext w0 m1 := hEz1.trans hEm1
  clear HT61 HTA1 E51 E61 E71 hAl hBl
  have HFA : Hid (∀ U, Ext m1 U → U.rowIs u1.heap.size 28 9 (fun j => [.int .i64 k0a1, .int .i64 k1a1, .slice o2a1 l2a1 q2a1, .slice o3a1 l3a1 q3a1, .int .i64 k4a1, .slice o5a1 l5a1 q5a1, .slice o6a1 l6a1 q6a1, .int .i64 k7a1, .slice o8a1 l8a1 q8a1].getD j vd)) := fun U hU => HRA1.out U (hEm1.trans hU)
  have HFB : Hid (∀ U, Ext m1 U → U.rowIs y1.heap.size 28 9 (fun j => [.int .i64 k0b1, .int .i64 k1b1, .slice o2b1 l2b1 q2b1, .slice o3b1 l3b1 q3b1, .int .i64 k4b1, .slice o5b1 l5b1 q5b1, .slice o6b1 l6b1 q6b1, .int .i64 k7b1, .slice o8b1 l8b1 q8b1].getD j vd)) := fun U hU => HRB1.out U (hEm1.trans hU)
  have hsm1 := hEm1.size
  have hABm : u1.heap.size < m1.heap.size ∧ y1.heap.size < m1.heap.size := ⟨World.rowIs.lt (HFA.out m1 (Ext.refl _)), World.rowIs.lt (HFB.out m1 (Ext.refl _))⟩
  clear HRA1 HRB1 HFA1 HO1
  obtain ⟨q, n0, n1, hp0, hp1⟩ := HB.out m1 hEw1
  have c0 : m1.cell? ⟨w.heap.size, 0, none⟩ = some (.int .i64 c.st) := World.rowIs.cell q (i := 0) (by omega)
  have c1 : m1.cell? ⟨w.heap.size, 1, none⟩ = some (.int .i64 c.now.v) := World.rowIs.cell q (i := 1) (by omega)
  have c2 : m1.cell? ⟨w.heap.size, 2, none⟩ = some (.slice a.n.fo c.now.fs.length a.n.fc) := World.rowIs.cell q (i := 2) (by omega)
  have c3 : m1.cell? ⟨w.heap.size, 3, none⟩ = some (.slice a.n.qo c.now.ps.length a.n.qc) := World.rowIs.cell q (i := 3) (by omega)
  have c4 : m1.cell? ⟨w.heap.size, 4, none⟩ = some (.int .i64 c.nxt.v) := World.rowIs.cell q (i := 4) (by omega)
  have c5 : m1.cell? ⟨w.heap.size, 5, none⟩ = some (.slice a.x.fo c.nxt.fs.length a.x.fc) := World.rowIs.cell q (i := 5) (by omega)
  have c6 : m1.cell? ⟨w.heap.size, 6, none⟩ = some (.slice a.x.qo c.nxt.ps.length a.x.qc) := World.rowIs.cell q (i := 6) (by omega)
  have c7 : m1.cell? ⟨w.heap.size, 7, none⟩ = some (.int .i64 c.num) := World.rowIs.cell q (i := 7) (by omega)
  have c8 : m1.cell? ⟨w.heap.size, 8, none⟩ = some (.slice a.wo c.wts.length a.wc) := World.rowIs.cell q (i := 8) (by omega)
  clear q
  go_wp2_with fail
  refine Calls.mono (HC2.out m1 hEw1) ?_
  intro e u2 hg
  obtain ⟨k0a2, k1a2, o2a2, l2a2, q2a2, o3a2, l3a2, q3a2, k4a2, o5a2, l5a2, q5a2, o6a2, l6a2, q6a2, k7a2, o8a2, l8a2, q8a2, tOa2, l9a2, tca2, rfl, F2, HF2⟩ := hg.letters
  clear hg
  clear c0 c1 c2 c3 c4 c5 c6 c7 c8 n0 n1 hp0 hp1
  have hEu2 : Ext w0 u2 := hEw1.trans F2
  have hsu2 := F2.size
  have rA := HFA.out u2 F2
  have x0 := World.rowIs.cell rA (i := 0) (by omega)
  have x1 := World.rowIs.cell rA (i := 1) (by omega)
  have x2 := World.rowIs.cell rA (i := 2) (by omega)
  have x3 := World.rowIs.cell rA (i := 3) (by omega)
  have x4 := World.rowIs.cell rA (i := 4) (by omega)
  have x5 := World.rowIs.cell rA (i := 5) (by omega)
  have x6 := World.rowIs.cell rA (i := 6) (by omega)
  have x7 := World.rowIs.cell rA (i := 7) (by omega)
  have x8 := World.rowIs.cell rA (i := 8) (by omega)
  have fz0 : u2.frozen? ⟨u1.heap.size, 0, none⟩ = false := World.rowIs.frozen rA 0
  have fz1 : u2.frozen? ⟨u1.heap.size, 1, none⟩ = false := World.rowIs.frozen rA 1
  have fz2 : u2.frozen? ⟨u1.heap.size, 2, none⟩ = false := World.rowIs.frozen rA 2
  have fz3 : u2.frozen? ⟨u1.heap.size, 3, none⟩ = false := World.rowIs.frozen rA 3
  have fz4 : u2.frozen? ⟨u1.heap.size, 4, none⟩ = false := World.rowIs.frozen rA 4
  have fz5 : u2.frozen? ⟨u1.heap.size, 5, none⟩ = false := World.rowIs.frozen rA 5
  have fz6 : u2.frozen? ⟨u1.heap.size, 6, none⟩ = false := World.rowIs.frozen rA 6
  have fz7 : u2.frozen? ⟨u1.heap.size, 7, none⟩ = false := World.rowIs.frozen rA 7
  have fz8 : u2.frozen? ⟨u1.heap.size, 8, none⟩ = false := World.rowIs.frozen rA 8
  obtain ⟨v2, hv2⟩ : ∃ v, v = W9 u2 u1.heap.size (.int .i64 k0a2) (.int .i64 k1a2) (.slice o2a2 l2a2 q2a2) (.slice o3a2 l3a2 q3a2) (.int .i64 k4a2) (.slice o5a2 l5a2 q5a2) (.slice o6a2 l6a2 q6a2) (.int .i64 k7a2) (.slice o8a2 l8a2 q8a2) := ⟨_, rfl⟩
  have hEv2 : Ext w0 v2 := by rw [hv2]; exact W9_ext0 hEu2 hAw
  have hsv2 : v2.heap.size = u2.heap.size := by rw [hv2]; exact W9_size0
  have HFA2 : Hid (∀ U, Ext v2 U → U.rowIs u1.heap.size 28 9 (fun j => [.int .i64 k0a2, .int .i64 k1a2, .slice o2a2 l2a2 q2a2, .slice o3a2 l3a2 q3a2, .int .i64 k4a2, .slice o5a2 l5a2 q5a2, .slice o6a2 l6a2 q6a2, .int .i64 k7a2, .slice o8a2 l8a2 q8a2].getD j vd)) := fun U hU => by
    have r : v2.rowIs u1.heap.size 28 9 (fun j => [.int .i64 k0a2, .int .i64 k1a2, .slice o2a2 l2a2 q2a2, .slice o3a2 l3a2 q3a2, .int .i64 k4a2, .slice o5a2 l5a2 q5a2, .slice o6a2 l6a2 q6a2, .int .i64 k7a2, .slice o8a2 l8a2 q8a2].getD j vd) := by rw [hv2]; exact row9 rA _ _ _ _ _ _ _ _ _
    exact World.rowIs.of_block r (Below.block hU _ (World.rowIs.lt r))
  have HFC2 : Hid (∀ b, b ≠ u1.heap.size → v2.heap[b]? = u2.heap[b]?) := fun b hb => by rw [hv2]; exact W9_block0 b hb
  clear rA
  go_upto_region 6 with fail
  unfold W9 at hv2
  rw [← hv2]
  clear hv2 x0 x1 x2 x3 x4 x5 x6 x7 x8 fz0 fz1 fz2 fz3 fz4 fz5 fz6 fz7 fz8
  obtain ⟨q, n0, n1, hp0, hp1⟩ := HB.out v2 hEv2
  have c0 : v2.cell? ⟨w.heap.size, 0, none⟩ = some (.int .i64 c.st) := World.rowIs.cell q (i := 0) (by omega)
  have c1 : v2.cell? ⟨w.heap.size, 1, none⟩ = some (.int .i64 c.now.v) := World.rowIs.cell q (i := 1) (by omega)
  have c2 : v2.cell? ⟨w.heap.size, 2, none⟩ = some (.slice a.n.fo c.now.fs.length a.n.fc) := World.rowIs.cell q (i := 2) (by omega)
  have c3 : v2.cell? ⟨w.heap.size, 3, none⟩ = some (.slice a.n.qo c.now.ps.length a.n.qc) := World.rowIs.cell q (i := 3) (by omega)
  have c4 : v2.cell? ⟨w.heap.size, 4, none⟩ = some (.int .i64 c.nxt.v) := World.rowIs.cell q (i := 4) (by omega)
  have c5 : v2.cell? ⟨w.heap.size, 5, none⟩ = some (.slice a.x.fo c.nxt.fs.length a.x.fc) := World.rowIs.cell q (i := 5) (by omega)
  have c6 : v2.cell? ⟨w.heap.size, 6, none⟩ = some (.slice a.x.qo c.nxt.ps.length a.x.qc) := World.rowIs.cell q (i := 6) (by omega)
  have c7 : v2.cell? ⟨w.heap.size, 7, none⟩ = some (.int .i64 c.num) := World.rowIs.cell q (i := 7) (by omega)
  have c8 : v2.cell? ⟨w.heap.size, 8, none⟩ = some (.slice a.wo c.wts.length a.wc) := World.rowIs.cell q (i := 8) (by omega)
  clear q
  go_wp2_with fail
  refine Calls.mono (HD2.out v2 hEv2) ?_
  intro e y2 hg
  obtain ⟨k0b2, k1b2, o2b2, l2b2, q2b2, o3b2, l3b2, q3b2, k4b2, o5b2, l5b2, q5b2, o6b2, l6b2, q6b2, k7b2, o8b2, l8b2, q8b2, tOb2, l9b2, tcb2, rfl, R2, HR2⟩ := hg.letters
  clear hg
  clear c0 c1 c2 c3 c4 c5 c6 c7 c8 n0 n1 hp0 hp1
  have hEy2 : Ext w0 y2 := hEv2.trans R2
  have hsy2 := R2.size
  have rB : y2.rowIs y1.heap.size 28 9 _ := World.rowIs.of_block (HFB.out u2 F2) ((Below.block R2 y1.heap.size (by omega)).trans (HFC2.out y1.heap.size (by omega)))
  have x0 := World.rowIs.cell rB (i := 0) (by omega)
  have x1 := World.rowIs.cell rB (i := 1) (by omega)
  have x2 := World.rowIs.cell rB (i := 2) (by omega)
  have x3 := World.rowIs.cell rB (i := 3) (by omega)
  have x4 := World.rowIs.cell rB (i := 4) (by omega)
  have x5 := World.rowIs.cell rB (i := 5) (by omega)
  have x6 := World.rowIs.cell rB (i := 6) (by omega)
  have x7 := World.rowIs.cell rB (i := 7) (by omega)
  have x8 := World.rowIs.cell rB (i := 8) (by omega)
  have fz0 : y2.frozen? ⟨y1.heap.size, 0, none⟩ = false := World.rowIs.frozen rB 0
  have fz1 : y2.frozen? ⟨y1.heap.size, 1, none⟩ = false := World.rowIs.frozen rB 1
  have fz2 : y2.frozen? ⟨y1.heap.size, 2, none⟩ = false := World.rowIs.frozen rB 2
  have fz3 : y2.frozen? ⟨y1.heap.size, 3, none⟩ = false := World.rowIs.frozen rB 3
  have fz4 : y2.frozen? ⟨y1.heap.size, 4, none⟩ = false := World.rowIs.frozen rB 4
  have fz5 : y2.frozen? ⟨y1.heap.size, 5, none⟩ = false := World.rowIs.frozen rB 5
  have fz6 : y2.frozen? ⟨y1.heap.size, 6, none⟩ = false := World.rowIs.frozen rB 6
  have fz7 : y2.frozen? ⟨y1.heap.size, 7, none⟩ = false := World.rowIs.frozen rB 7
  have fz8 : y2.frozen? ⟨y1.heap.size, 8, none⟩ = false := World.rowIs.frozen rB 8
  obtain ⟨z2, hz2⟩ : ∃ v, v = W9 y2 y1.heap.size (.int .i64 k0b2) (.int .i64 k1b2) (.slice o2b2 l2b2 q2b2) (.slice o3b2 l3b2 q3b2) (.int .i64 k4b2) (.slice o5b2 l5b2 q5b2) (.slice o6b2 l6b2 q6b2) (.int .i64 k7b2) (.slice o8b2 l8b2 q8b2) := ⟨_, rfl⟩
  have hEz2 : Ext w0 z2 := by rw [hz2]; exact W9_ext0 hEy2 hBw
  have hsz2 : z2.heap.size = y2.heap.size := by rw [hz2]; exact W9_size0
  have HRB2 : Hid (∀ U, Ext z2 U → U.rowIs y1.heap.size 28 9 (fun j => [.int .i64 k0b2, .int .i64 k1b2, .slice o2b2 l2b2 q2b2, .slice o3b2 l3b2 q3b2, .int .i64 k4b2, .slice o5b2 l5b2 q5b2, .slice o6b2 l6b2 q6b2, .int .i64 k7b2, .slice o8b2 l8b2 q8b2].getD j vd)) := fun U hU => by
    have r : z2.rowIs y1.heap.size 28 9 (fun j => [.int .i64 k0b2, .int .i64 k1b2, .slice o2b2 l2b2 q2b2, .slice o3b2 l3b2 q3b2, .int .i64 k4b2, .slice o5b2 l5b2 q5b2, .slice o6b2 l6b2 q6b2, .int .i64 k7b2, .slice o8b2 l8b2 q8b2].getD j vd) := by rw [hz2]; exact row9 rB _ _ _ _ _ _ _ _ _
    exact World.rowIs.of_block r (Below.block hU _ (World.rowIs.lt r))
  have HFD2 : Hid (∀ b, b ≠ y1.heap.size → z2.heap[b]? = y2.heap[b]?) := fun b hb => by rw [hz2]; exact W9_block0 b hb
  clear rB
  go_upto_region 7 with fail
  unfold W9 at hz2
  rw [← hz2]
  clear hz2 x0 x1 x2 x3 x4 x5 x6 x7 x8 fz0 fz1 fz2 fz3 fz4 fz5 fz6 fz7 fz8
  have HSA2 : Hid (∃ a', Value.agg #[.int .i64 k0a2, .int .i64 k1a2, .slice o2a2 l2a2 q2a2, .slice o3a2 l3a2 q3a2, .int .i64 k4a2, .slice o5a2 l5a2 q5a2, .slice o6a2 l6a2 q6a2, .int .i64 k7a2, .slice o8a2 l8a2 q8a2] = cvl G2.c a' ∧ l9a2 = G2.out.length ∧ CoAt z2 G2.c a' ∧ TosAt z2 tOa2 G2.out) := by
    obtain ⟨a', k1, k2, k3⟩ := HF2.out
    have := k3 z2 (by omega) (fun b hb hlt => (HFD2.out b (by omega)).trans ((Below.block R2 b (by omega)).trans (HFC2.out b (by omega))))
    exact ⟨a', k1, k2, this.1, this.2⟩
  have HSB2 : Hid (∃ a', Value.agg #[.int .i64 k0b2, .int .i64 k1b2, .slice o2b2 l2b2 q2b2, .slice o3b2 l3b2 q3b2, .int .i64 k4b2, .slice o5b2 l5b2 q5b2, .slice o6b2 l6b2 q6b2, .int .i64 k7b2, .slice o8b2 l8b2 q8b2] = cvl G2.c a' ∧ l9b2 = G2.out.length ∧ CoAt z2 G2.c a' ∧ TosAt z2 tOb2 G2.out) := by
    obtain ⟨a', k1, k2, k3⟩ := HR2.out
    have := k3 z2 (by omega) (fun b hb hlt => HFD2.out b (by rcases hb with hb | hb <;> omega))
    exact ⟨a', k1, k2, this.1, this.2⟩
  have HRA2 : Hid (∀ U, Ext z2 U → U.rowIs u1.heap.size 28 9 (fun j => [.int .i64 k0a2, .int .i64 k1a2, .slice o2a2 l2a2 q2a2, .slice o3a2 l3a2 q3a2, .int .i64 k4a2, .slice o5a2 l5a2 q5a2, .slice o6a2 l6a2 q6a2, .int .i64 k7a2, .slice o8a2 l8a2 q8a2].getD j vd)) := fun U hU => by
    have r := HFA2.out y2 R2
    have r2 : z2.rowIs u1.heap.size 28 9 (fun j => [.int .i64 k0a2, .int .i64 k1a2, .slice o2a2 l2a2 q2a2, .slice o3a2 l3a2 q3a2, .int .i64 k4a2, .slice o5a2 l5a2 q5a2, .slice o6a2 l6a2 q6a2, .int .i64 k7a2, .slice o8a2 l8a2 q8a2].getD j vd) := World.rowIs.of_block r (HFD2.out u1.heap.size (by omega))
    exact World.rowIs.of_block r2 (Below.block hU _ (World.rowIs.lt r2))
  have HQ2 : Hid (Calls Try.prog 9 #[.agg #[.int .i64 k0a2, .int .i64 k1a2, .slice o2a2 l2a2 q2a2, .slice o3a2 l3a2 q3a2, .int .i64 k4a2, .slice o5a2 l5a2 q5a2, .slice o6a2 l6a2 q6a2, .int .i64 k7a2, .slice o8a2 l8a2 q8a2], .agg #[.int .i64 k0b2, .int .i64 k1b2, .slice o2b2 l2b2 q2b2, .slice o3b2 l3b2 q3b2, .int .i64 k4b2, .slice o5b2 l5b2 q5b2, .slice o6b2 l6b2 q6b2, .int .i64 k7b2, .slice o8b2 l8b2 q8b2]] z2 fun e w' => e = .returned (.bool true) ∧ Ext z2 w') := by
    obtain ⟨a', k1, _, k3, _⟩ := HSA2.out
    obtain ⟨a2, j1, _, j3, _⟩ := HSB2.out
    show Calls _ _ _ _ _
    rw [k1, j1]
    exact SameControl_same G2.c a' a2 z2 k3 j3 HO2.out.co
  have HTA2 : Hid (TosAt z2 tOa2 G2.out ∧ TosAt z2 tOb2 G2.out) := by
    obtain ⟨a', _, _, _, k4⟩ := HSA2.out
    obtain ⟨a2, _, _, _, j4⟩ := HSB2.out
    exact ⟨k4, j4⟩
  have hla2 : l9a2 = G2.out.length := by obtain ⟨_, _, k2, _⟩ := HSA2.out; exact k2
  have hlb2 : l9b2 = G2.out.length := by obtain ⟨_, _, k2, _⟩ := HSB2.out; exact k2
  have hgl2 : G2.out.length ≤ 1000 := Nat.le_trans HO2.out.l (by decide)
  have rA := HRA2.out z2 (Ext.refl _)
  have rB := HRB2.out z2 (Ext.refl _)
  have hAl := World.rowIs.lt rA
  have hBl := World.rowIs.lt rB
  clear HF2 HR2 HSA2 HSB2 HFC2 HFD2 HC2 HD2
  have x0 : z2.cell? ⟨u1.heap.size, 0, none⟩ = some (.int .i64 k0a2) := World.rowIs.cell rA (i := 0) (by omega)
  have x1 : z2.cell? ⟨u1.heap.size, 1, none⟩ = some (.int .i64 k1a2) := World.rowIs.cell rA (i := 1) (by omega)
  have x2 : z2.cell? ⟨u1.heap.size, 2, none⟩ = some (.slice o2a2 l2a2 q2a2) := World.rowIs.cell rA (i := 2) (by omega)
  have x3 : z2.cell? ⟨u1.heap.size, 3, none⟩ = some (.slice o3a2 l3a2 q3a2) := World.rowIs.cell rA (i := 3) (by omega)
  have x4 : z2.cell? ⟨u1.heap.size, 4, none⟩ = some (.int .i64 k4a2) := World.rowIs.cell rA (i := 4) (by omega)
  have x5 : z2.cell? ⟨u1.heap.size, 5, none⟩ = some (.slice o5a2 l5a2 q5a2) := World.rowIs.cell rA (i := 5) (by omega)
  have x6 : z2.cell? ⟨u1.heap.size, 6, none⟩ = some (.slice o6a2 l6a2 q6a2) := World.rowIs.cell rA (i := 6) (by omega)
  have x7 : z2.cell? ⟨u1.heap.size, 7, none⟩ = some (.int .i64 k7a2) := World.rowIs.cell rA (i := 7) (by omega)
  have x8 : z2.cell? ⟨u1.heap.size, 8, none⟩ = some (.slice o8a2 l8a2 q8a2) := World.rowIs.cell rA (i := 8) (by omega)
  have d0 : z2.cell? ⟨y1.heap.size, 0, none⟩ = some (.int .i64 k0b2) := World.rowIs.cell rB (i := 0) (by omega)
  have d1 : z2.cell? ⟨y1.heap.size, 1, none⟩ = some (.int .i64 k1b2) := World.rowIs.cell rB (i := 1) (by omega)
  have d2 : z2.cell? ⟨y1.heap.size, 2, none⟩ = some (.slice o2b2 l2b2 q2b2) := World.rowIs.cell rB (i := 2) (by omega)
  have d3 : z2.cell? ⟨y1.heap.size, 3, none⟩ = some (.slice o3b2 l3b2 q3b2) := World.rowIs.cell rB (i := 3) (by omega)
  have d4 : z2.cell? ⟨y1.heap.size, 4, none⟩ = some (.int .i64 k4b2) := World.rowIs.cell rB (i := 4) (by omega)
  have d5 : z2.cell? ⟨y1.heap.size, 5, none⟩ = some (.slice o5b2 l5b2 q5b2) := World.rowIs.cell rB (i := 5) (by omega)
  have d6 : z2.cell? ⟨y1.heap.size, 6, none⟩ = some (.slice o6b2 l6b2 q6b2) := World.rowIs.cell rB (i := 6) (by omega)
  have d7 : z2.cell? ⟨y1.heap.size, 7, none⟩ = some (.int .i64 k7b2) := World.rowIs.cell rB (i := 7) (by omega)
  have d8 : z2.cell? ⟨y1.heap.size, 8, none⟩ = some (.slice o8b2 l8b2 q8b2) := World.rowIs.cell rB (i := 8) (by omega)
  clear rA rB
  rw [hla2, hlb2]
  clear hla2 hlb2
  go_wp2_with fail
  refine Calls.mono HQ2.out ?_
  rintro e f2 ⟨rfl, E52⟩
  clear x0 x1 x2 x3 x4 x5 x6 x7 x8 d0 d1 d2 d3 d4 d5 d6 d7 d8 HQ2
  go_wp2_with fail
  refine Calls.mono (tos_any tOa2 tca2 G2.out f2 (HTA2.out.1.ext E52) hgl2) ?_
  rintro e g2 ⟨tO62, tc62, rfl, hT62, E62⟩
  have HT62 := hidp hT62
  clear hT62
  go_wp2_with fail
  refine Calls.mono (SameTo_same tO62 tOb2 tc62 tcb2 G2.out g2 HT62.out (HTA2.out.2.ext (E52.trans E62)) HO2.out.tos hgl2) ?_
  rintro e m2 ⟨rfl, E72⟩
  have hEm2 : Ext z2 m2 := E52.trans (E62.trans E72)
  have hEw2 : Ext w0 m2 := hEz2.trans hEm2
  clear HT62 HTA2 E52 E62 E72 hAl hBl
  have HFA : Hid (∀ U, Ext m2 U → U.rowIs u1.heap.size 28 9 (fun j => [.int .i64 k0a2, .int .i64 k1a2, .slice o2a2 l2a2 q2a2, .slice o3a2 l3a2 q3a2, .int .i64 k4a2, .slice o5a2 l5a2 q5a2, .slice o6a2 l6a2 q6a2, .int .i64 k7a2, .slice o8a2 l8a2 q8a2].getD j vd)) := fun U hU => HRA2.out U (hEm2.trans hU)
  have HFB : Hid (∀ U, Ext m2 U → U.rowIs y1.heap.size 28 9 (fun j => [.int .i64 k0b2, .int .i64 k1b2, .slice o2b2 l2b2 q2b2, .slice o3b2 l3b2 q3b2, .int .i64 k4b2, .slice o5b2 l5b2 q5b2, .slice o6b2 l6b2 q6b2, .int .i64 k7b2, .slice o8b2 l8b2 q8b2].getD j vd)) := fun U hU => HRB2.out U (hEm2.trans hU)
  have hsm2 := hEm2.size
  have hABm : u1.heap.size < m2.heap.size ∧ y1.heap.size < m2.heap.size := ⟨World.rowIs.lt (HFA.out m2 (Ext.refl _)), World.rowIs.lt (HFB.out m2 (Ext.refl _))⟩
  clear HRA2 HRB2 HFA2 HO2
  obtain ⟨q, n0, n1, hp0, hp1⟩ := HB.out m2 hEw2
  have c0 : m2.cell? ⟨w.heap.size, 0, none⟩ = some (.int .i64 c.st) := World.rowIs.cell q (i := 0) (by omega)
  have c1 : m2.cell? ⟨w.heap.size, 1, none⟩ = some (.int .i64 c.now.v) := World.rowIs.cell q (i := 1) (by omega)
  have c2 : m2.cell? ⟨w.heap.size, 2, none⟩ = some (.slice a.n.fo c.now.fs.length a.n.fc) := World.rowIs.cell q (i := 2) (by omega)
  have c3 : m2.cell? ⟨w.heap.size, 3, none⟩ = some (.slice a.n.qo c.now.ps.length a.n.qc) := World.rowIs.cell q (i := 3) (by omega)
  have c4 : m2.cell? ⟨w.heap.size, 4, none⟩ = some (.int .i64 c.nxt.v) := World.rowIs.cell q (i := 4) (by omega)
  have c5 : m2.cell? ⟨w.heap.size, 5, none⟩ = some (.slice a.x.fo c.nxt.fs.length a.x.fc) := World.rowIs.cell q (i := 5) (by omega)
  have c6 : m2.cell? ⟨w.heap.size, 6, none⟩ = some (.slice a.x.qo c.nxt.ps.length a.x.qc) := World.rowIs.cell q (i := 6) (by omega)
  have c7 : m2.cell? ⟨w.heap.size, 7, none⟩ = some (.int .i64 c.num) := World.rowIs.cell q (i := 7) (by omega)
  have c8 : m2.cell? ⟨w.heap.size, 8, none⟩ = some (.slice a.wo c.wts.length a.wc) := World.rowIs.cell q (i := 8) (by omega)
  clear q
  go_wp2_with fail
  refine Calls.mono (HC3.out m2 hEw2) ?_
  intro e u3 hg
  obtain ⟨k0a3, k1a3, o2a3, l2a3, q2a3, o3a3, l3a3, q3a3, k4a3, o5a3, l5a3, q5a3, o6a3, l6a3, q6a3, k7a3, o8a3, l8a3, q8a3, tOa3, l9a3, tca3, rfl, F3, HF3⟩ := hg.letters
  clear hg
  clear c0 c1 c2 c3 c4 c5 c6 c7 c8 n0 n1 hp0 hp1
  have hEu3 : Ext w0 u3 := hEw2.trans F3
  have hsu3 := F3.size
  have rA := HFA.out u3 F3
  have x0 := World.rowIs.cell rA (i := 0) (by omega)
  have x1 := World.rowIs.cell rA (i := 1) (by omega)
  have x2 := World.rowIs.cell rA (i := 2) (by omega)
  have x3 := World.rowIs.cell rA (i := 3) (by omega)
  have x4 := World.rowIs.cell rA (i := 4) (by omega)
  have x5 := World.rowIs.cell rA (i := 5) (by omega)
  have x6 := World.rowIs.cell rA (i := 6) (by omega)
  have x7 := World.rowIs.cell rA (i := 7) (by omega)
  have x8 := World.rowIs.cell rA (i := 8) (by omega)
  have fz0 : u3.frozen? ⟨u1.heap.size, 0, none⟩ = false := World.rowIs.frozen rA 0
  have fz1 : u3.frozen? ⟨u1.heap.size, 1, none⟩ = false := World.rowIs.frozen rA 1
  have fz2 : u3.frozen? ⟨u1.heap.size, 2, none⟩ = false := World.rowIs.frozen rA 2
  have fz3 : u3.frozen? ⟨u1.heap.size, 3, none⟩ = false := World.rowIs.frozen rA 3
  have fz4 : u3.frozen? ⟨u1.heap.size, 4, none⟩ = false := World.rowIs.frozen rA 4
  have fz5 : u3.frozen? ⟨u1.heap.size, 5, none⟩ = false := World.rowIs.frozen rA 5
  have fz6 : u3.frozen? ⟨u1.heap.size, 6, none⟩ = false := World.rowIs.frozen rA 6
  have fz7 : u3.frozen? ⟨u1.heap.size, 7, none⟩ = false := World.rowIs.frozen rA 7
  have fz8 : u3.frozen? ⟨u1.heap.size, 8, none⟩ = false := World.rowIs.frozen rA 8
  obtain ⟨v3, hv3⟩ : ∃ v, v = W9 u3 u1.heap.size (.int .i64 k0a3) (.int .i64 k1a3) (.slice o2a3 l2a3 q2a3) (.slice o3a3 l3a3 q3a3) (.int .i64 k4a3) (.slice o5a3 l5a3 q5a3) (.slice o6a3 l6a3 q6a3) (.int .i64 k7a3) (.slice o8a3 l8a3 q8a3) := ⟨_, rfl⟩
  have hEv3 : Ext w0 v3 := by rw [hv3]; exact W9_ext0 hEu3 hAw
  have hsv3 : v3.heap.size = u3.heap.size := by rw [hv3]; exact W9_size0
  have HFA3 : Hid (∀ U, Ext v3 U → U.rowIs u1.heap.size 28 9 (fun j => [.int .i64 k0a3, .int .i64 k1a3, .slice o2a3 l2a3 q2a3, .slice o3a3 l3a3 q3a3, .int .i64 k4a3, .slice o5a3 l5a3 q5a3, .slice o6a3 l6a3 q6a3, .int .i64 k7a3, .slice o8a3 l8a3 q8a3].getD j vd)) := fun U hU => by
    have r : v3.rowIs u1.heap.size 28 9 (fun j => [.int .i64 k0a3, .int .i64 k1a3, .slice o2a3 l2a3 q2a3, .slice o3a3 l3a3 q3a3, .int .i64 k4a3, .slice o5a3 l5a3 q5a3, .slice o6a3 l6a3 q6a3, .int .i64 k7a3, .slice o8a3 l8a3 q8a3].getD j vd) := by rw [hv3]; exact row9 rA _ _ _ _ _ _ _ _ _
    exact World.rowIs.of_block r (Below.block hU _ (World.rowIs.lt r))
  have HFC3 : Hid (∀ b, b ≠ u1.heap.size → v3.heap[b]? = u3.heap[b]?) := fun b hb => by rw [hv3]; exact W9_block0 b hb
  clear rA
  go_upto_region 10 with fail
  unfold W9 at hv3
  rw [← hv3]
  clear hv3 x0 x1 x2 x3 x4 x5 x6 x7 x8 fz0 fz1 fz2 fz3 fz4 fz5 fz6 fz7 fz8
  obtain ⟨q, n0, n1, hp0, hp1⟩ := HB.out v3 hEv3
  have c0 : v3.cell? ⟨w.heap.size, 0, none⟩ = some (.int .i64 c.st) := World.rowIs.cell q (i := 0) (by omega)
  have c1 : v3.cell? ⟨w.heap.size, 1, none⟩ = some (.int .i64 c.now.v) := World.rowIs.cell q (i := 1) (by omega)
  have c2 : v3.cell? ⟨w.heap.size, 2, none⟩ = some (.slice a.n.fo c.now.fs.length a.n.fc) := World.rowIs.cell q (i := 2) (by omega)
  have c3 : v3.cell? ⟨w.heap.size, 3, none⟩ = some (.slice a.n.qo c.now.ps.length a.n.qc) := World.rowIs.cell q (i := 3) (by omega)
  have c4 : v3.cell? ⟨w.heap.size, 4, none⟩ = some (.int .i64 c.nxt.v) := World.rowIs.cell q (i := 4) (by omega)
  have c5 : v3.cell? ⟨w.heap.size, 5, none⟩ = some (.slice a.x.fo c.nxt.fs.length a.x.fc) := World.rowIs.cell q (i := 5) (by omega)
  have c6 : v3.cell? ⟨w.heap.size, 6, none⟩ = some (.slice a.x.qo c.nxt.ps.length a.x.qc) := World.rowIs.cell q (i := 6) (by omega)
  have c7 : v3.cell? ⟨w.heap.size, 7, none⟩ = some (.int .i64 c.num) := World.rowIs.cell q (i := 7) (by omega)
  have c8 : v3.cell? ⟨w.heap.size, 8, none⟩ = some (.slice a.wo c.wts.length a.wc) := World.rowIs.cell q (i := 8) (by omega)
  clear q
  go_wp2_with fail
  refine Calls.mono (HD3.out v3 hEv3) ?_
  intro e y3 hg
  obtain ⟨k0b3, k1b3, o2b3, l2b3, q2b3, o3b3, l3b3, q3b3, k4b3, o5b3, l5b3, q5b3, o6b3, l6b3, q6b3, k7b3, o8b3, l8b3, q8b3, tOb3, l9b3, tcb3, rfl, R3, HR3⟩ := hg.letters
  clear hg
  clear c0 c1 c2 c3 c4 c5 c6 c7 c8 n0 n1 hp0 hp1
  have hEy3 : Ext w0 y3 := hEv3.trans R3
  have hsy3 := R3.size
  have rB : y3.rowIs y1.heap.size 28 9 _ := World.rowIs.of_block (HFB.out u3 F3) ((Below.block R3 y1.heap.size (by omega)).trans (HFC3.out y1.heap.size (by omega)))
  have x0 := World.rowIs.cell rB (i := 0) (by omega)
  have x1 := World.rowIs.cell rB (i := 1) (by omega)
  have x2 := World.rowIs.cell rB (i := 2) (by omega)
  have x3 := World.rowIs.cell rB (i := 3) (by omega)
  have x4 := World.rowIs.cell rB (i := 4) (by omega)
  have x5 := World.rowIs.cell rB (i := 5) (by omega)
  have x6 := World.rowIs.cell rB (i := 6) (by omega)
  have x7 := World.rowIs.cell rB (i := 7) (by omega)
  have x8 := World.rowIs.cell rB (i := 8) (by omega)
  have fz0 : y3.frozen? ⟨y1.heap.size, 0, none⟩ = false := World.rowIs.frozen rB 0
  have fz1 : y3.frozen? ⟨y1.heap.size, 1, none⟩ = false := World.rowIs.frozen rB 1
  have fz2 : y3.frozen? ⟨y1.heap.size, 2, none⟩ = false := World.rowIs.frozen rB 2
  have fz3 : y3.frozen? ⟨y1.heap.size, 3, none⟩ = false := World.rowIs.frozen rB 3
  have fz4 : y3.frozen? ⟨y1.heap.size, 4, none⟩ = false := World.rowIs.frozen rB 4
  have fz5 : y3.frozen? ⟨y1.heap.size, 5, none⟩ = false := World.rowIs.frozen rB 5
  have fz6 : y3.frozen? ⟨y1.heap.size, 6, none⟩ = false := World.rowIs.frozen rB 6
  have fz7 : y3.frozen? ⟨y1.heap.size, 7, none⟩ = false := World.rowIs.frozen rB 7
  have fz8 : y3.frozen? ⟨y1.heap.size, 8, none⟩ = false := World.rowIs.frozen rB 8
  obtain ⟨z3, hz3⟩ : ∃ v, v = W9 y3 y1.heap.size (.int .i64 k0b3) (.int .i64 k1b3) (.slice o2b3 l2b3 q2b3) (.slice o3b3 l3b3 q3b3) (.int .i64 k4b3) (.slice o5b3 l5b3 q5b3) (.slice o6b3 l6b3 q6b3) (.int .i64 k7b3) (.slice o8b3 l8b3 q8b3) := ⟨_, rfl⟩
  have hEz3 : Ext w0 z3 := by rw [hz3]; exact W9_ext0 hEy3 hBw
  have hsz3 : z3.heap.size = y3.heap.size := by rw [hz3]; exact W9_size0
  have HRB3 : Hid (∀ U, Ext z3 U → U.rowIs y1.heap.size 28 9 (fun j => [.int .i64 k0b3, .int .i64 k1b3, .slice o2b3 l2b3 q2b3, .slice o3b3 l3b3 q3b3, .int .i64 k4b3, .slice o5b3 l5b3 q5b3, .slice o6b3 l6b3 q6b3, .int .i64 k7b3, .slice o8b3 l8b3 q8b3].getD j vd)) := fun U hU => by
    have r : z3.rowIs y1.heap.size 28 9 (fun j => [.int .i64 k0b3, .int .i64 k1b3, .slice o2b3 l2b3 q2b3, .slice o3b3 l3b3 q3b3, .int .i64 k4b3, .slice o5b3 l5b3 q5b3, .slice o6b3 l6b3 q6b3, .int .i64 k7b3, .slice o8b3 l8b3 q8b3].getD j vd) := by rw [hz3]; exact row9 rB _ _ _ _ _ _ _ _ _
    exact World.rowIs.of_block r (Below.block hU _ (World.rowIs.lt r))
  have HFD3 : Hid (∀ b, b ≠ y1.heap.size → z3.heap[b]? = y3.heap[b]?) := fun b hb => by rw [hz3]; exact W9_block0 b hb
  clear rB
  go_upto_region 11 with fail
  unfold W9 at hz3
  rw [← hz3]
  clear hz3 x0 x1 x2 x3 x4 x5 x6 x7 x8 fz0 fz1 fz2 fz3 fz4 fz5 fz6 fz7 fz8
  have HSA3 : Hid (∃ a', Value.agg #[.int .i64 k0a3, .int .i64 k1a3, .slice o2a3 l2a3 q2a3, .slice o3a3 l3a3 q3a3, .int .i64 k4a3, .slice o5a3 l5a3 q5a3, .slice o6a3 l6a3 q6a3, .int .i64 k7a3, .slice o8a3 l8a3 q8a3] = cvl G3.c a' ∧ l9a3 = G3.out.length ∧ CoAt z3 G3.c a' ∧ TosAt z3 tOa3 G3.out) := by
    obtain ⟨a', k1, k2, k3⟩ := HF3.out
    have := k3 z3 (by omega) (fun b hb hlt => (HFD3.out b (by omega)).trans ((Below.block R3 b (by omega)).trans (HFC3.out b (by omega))))
    exact ⟨a', k1, k2, this.1, this.2⟩
  have HSB3 : Hid (∃ a', Value.agg #[.int .i64 k0b3, .int .i64 k1b3, .slice o2b3 l2b3 q2b3, .slice o3b3 l3b3 q3b3, .int .i64 k4b3, .slice o5b3 l5b3 q5b3, .slice o6b3 l6b3 q6b3, .int .i64 k7b3, .slice o8b3 l8b3 q8b3] = cvl G3.c a' ∧ l9b3 = G3.out.length ∧ CoAt z3 G3.c a' ∧ TosAt z3 tOb3 G3.out) := by
    obtain ⟨a', k1, k2, k3⟩ := HR3.out
    have := k3 z3 (by omega) (fun b hb hlt => HFD3.out b (by rcases hb with hb | hb <;> omega))
    exact ⟨a', k1, k2, this.1, this.2⟩
  have HRA3 : Hid (∀ U, Ext z3 U → U.rowIs u1.heap.size 28 9 (fun j => [.int .i64 k0a3, .int .i64 k1a3, .slice o2a3 l2a3 q2a3, .slice o3a3 l3a3 q3a3, .int .i64 k4a3, .slice o5a3 l5a3 q5a3, .slice o6a3 l6a3 q6a3, .int .i64 k7a3, .slice o8a3 l8a3 q8a3].getD j vd)) := fun U hU => by
    have r := HFA3.out y3 R3
    have r2 : z3.rowIs u1.heap.size 28 9 (fun j => [.int .i64 k0a3, .int .i64 k1a3, .slice o2a3 l2a3 q2a3, .slice o3a3 l3a3 q3a3, .int .i64 k4a3, .slice o5a3 l5a3 q5a3, .slice o6a3 l6a3 q6a3, .int .i64 k7a3, .slice o8a3 l8a3 q8a3].getD j vd) := World.rowIs.of_block r (HFD3.out u1.heap.size (by omega))
    exact World.rowIs.of_block r2 (Below.block hU _ (World.rowIs.lt r2))
  have HQ3 : Hid (Calls Try.prog 9 #[.agg #[.int .i64 k0a3, .int .i64 k1a3, .slice o2a3 l2a3 q2a3, .slice o3a3 l3a3 q3a3, .int .i64 k4a3, .slice o5a3 l5a3 q5a3, .slice o6a3 l6a3 q6a3, .int .i64 k7a3, .slice o8a3 l8a3 q8a3], .agg #[.int .i64 k0b3, .int .i64 k1b3, .slice o2b3 l2b3 q2b3, .slice o3b3 l3b3 q3b3, .int .i64 k4b3, .slice o5b3 l5b3 q5b3, .slice o6b3 l6b3 q6b3, .int .i64 k7b3, .slice o8b3 l8b3 q8b3]] z3 fun e w' => e = .returned (.bool true) ∧ Ext z3 w') := by
    obtain ⟨a', k1, _, k3, _⟩ := HSA3.out
    obtain ⟨a2, j1, _, j3, _⟩ := HSB3.out
    show Calls _ _ _ _ _
    rw [k1, j1]
    exact SameControl_same G3.c a' a2 z3 k3 j3 HO3.out.co
  have HTA3 : Hid (TosAt z3 tOa3 G3.out ∧ TosAt z3 tOb3 G3.out) := by
    obtain ⟨a', _, _, _, k4⟩ := HSA3.out
    obtain ⟨a2, _, _, _, j4⟩ := HSB3.out
    exact ⟨k4, j4⟩
  have hla3 : l9a3 = G3.out.length := by obtain ⟨_, _, k2, _⟩ := HSA3.out; exact k2
  have hlb3 : l9b3 = G3.out.length := by obtain ⟨_, _, k2, _⟩ := HSB3.out; exact k2
  have hgl3 : G3.out.length ≤ 1000 := Nat.le_trans HO3.out.l (by decide)
  have rA := HRA3.out z3 (Ext.refl _)
  have rB := HRB3.out z3 (Ext.refl _)
  have hAl := World.rowIs.lt rA
  have hBl := World.rowIs.lt rB
  clear HF3 HR3 HSA3 HSB3 HFC3 HFD3 HC3 HD3
  have x0 : z3.cell? ⟨u1.heap.size, 0, none⟩ = some (.int .i64 k0a3) := World.rowIs.cell rA (i := 0) (by omega)
  have x1 : z3.cell? ⟨u1.heap.size, 1, none⟩ = some (.int .i64 k1a3) := World.rowIs.cell rA (i := 1) (by omega)
  have x2 : z3.cell? ⟨u1.heap.size, 2, none⟩ = some (.slice o2a3 l2a3 q2a3) := World.rowIs.cell rA (i := 2) (by omega)
  have x3 : z3.cell? ⟨u1.heap.size, 3, none⟩ = some (.slice o3a3 l3a3 q3a3) := World.rowIs.cell rA (i := 3) (by omega)
  have x4 : z3.cell? ⟨u1.heap.size, 4, none⟩ = some (.int .i64 k4a3) := World.rowIs.cell rA (i := 4) (by omega)
  have x5 : z3.cell? ⟨u1.heap.size, 5, none⟩ = some (.slice o5a3 l5a3 q5a3) := World.rowIs.cell rA (i := 5) (by omega)
  have x6 : z3.cell? ⟨u1.heap.size, 6, none⟩ = some (.slice o6a3 l6a3 q6a3) := World.rowIs.cell rA (i := 6) (by omega)
  have x7 : z3.cell? ⟨u1.heap.size, 7, none⟩ = some (.int .i64 k7a3) := World.rowIs.cell rA (i := 7) (by omega)
  have x8 : z3.cell? ⟨u1.heap.size, 8, none⟩ = some (.slice o8a3 l8a3 q8a3) := World.rowIs.cell rA (i := 8) (by omega)
  have d0 : z3.cell? ⟨y1.heap.size, 0, none⟩ = some (.int .i64 k0b3) := World.rowIs.cell rB (i := 0) (by omega)
  have d1 : z3.cell? ⟨y1.heap.size, 1, none⟩ = some (.int .i64 k1b3) := World.rowIs.cell rB (i := 1) (by omega)
  have d2 : z3.cell? ⟨y1.heap.size, 2, none⟩ = some (.slice o2b3 l2b3 q2b3) := World.rowIs.cell rB (i := 2) (by omega)
  have d3 : z3.cell? ⟨y1.heap.size, 3, none⟩ = some (.slice o3b3 l3b3 q3b3) := World.rowIs.cell rB (i := 3) (by omega)
  have d4 : z3.cell? ⟨y1.heap.size, 4, none⟩ = some (.int .i64 k4b3) := World.rowIs.cell rB (i := 4) (by omega)
  have d5 : z3.cell? ⟨y1.heap.size, 5, none⟩ = some (.slice o5b3 l5b3 q5b3) := World.rowIs.cell rB (i := 5) (by omega)
  have d6 : z3.cell? ⟨y1.heap.size, 6, none⟩ = some (.slice o6b3 l6b3 q6b3) := World.rowIs.cell rB (i := 6) (by omega)
  have d7 : z3.cell? ⟨y1.heap.size, 7, none⟩ = some (.int .i64 k7b3) := World.rowIs.cell rB (i := 7) (by omega)
  have d8 : z3.cell? ⟨y1.heap.size, 8, none⟩ = some (.slice o8b3 l8b3 q8b3) := World.rowIs.cell rB (i := 8) (by omega)
  clear rA rB
  rw [hla3, hlb3]
  clear hla3 hlb3
  go_wp2_with fail
  refine Calls.mono HQ3.out ?_
  rintro e f3 ⟨rfl, E53⟩
  clear x0 x1 x2 x3 x4 x5 x6 x7 x8 d0 d1 d2 d3 d4 d5 d6 d7 d8 HQ3
  go_wp2_with fail
  refine Calls.mono (tos_any tOa3 tca3 G3.out f3 (HTA3.out.1.ext E53) hgl3) ?_
  rintro e g3 ⟨tO63, tc63, rfl, hT63, E63⟩
  have HT63 := hidp hT63
  clear hT63
  go_wp2_with fail
  refine Calls.mono (SameTo_same tO63 tOb3 tc63 tcb3 G3.out g3 HT63.out (HTA3.out.2.ext (E53.trans E63)) HO3.out.tos hgl3) ?_
  rintro e m3 ⟨rfl, E73⟩
  have hEm3 : Ext z3 m3 := E53.trans (E63.trans E73)
  have hEw3 : Ext w0 m3 := hEz3.trans hEm3
  clear HT63 HTA3 E53 E63 E73 hAl hBl
  go_wp2
  go_ret
  exact ⟨rfl, E0.trans hEw3⟩

end Go.Proofs.Ytgffkjjddhlbpaa.Ct
