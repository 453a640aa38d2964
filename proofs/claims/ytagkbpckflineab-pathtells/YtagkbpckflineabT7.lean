/- PathTells answers true, for every net, flows and number; nothing that was there is changed. -/
import Derived.Test.YtagkbpckflineabT5
import Derived.Test.YtagkbpckflineabT6
namespace Go.Proofs.Ytagkbpckflineab
open Go.RowKit Go.Maps Stw Go.Deep Stp

theorem fnd_len {n : Int} {ls : List Lk} {f : Stf.Fl} : (fnd n ls f).2.length ≤ 8 := by
  unfold fnd
  by_cases hw : (wrong n ls).1 = 0
  · have hr := right_of hw
    have hb := hr.bounds
    rw [if_neg (by simp [hw])]
    by_cases hf : Stf.wflow f n = 0
    · rw [if_neg (by simp [hf])]
      have hF := rightF_of hf
      have hC : ∀ x y, 0 ≤ cost ls x y := fun x y => (hr.cost x y).1
      cases hfi : find (cost ls) f.fr f.to f.via f.nt with
      | none => simp
      | some y =>
        obtain ⟨p, c⟩ := y
        have hbest := find_some hC (by have := hF.fr; omega) (fun h => (hF.nt _ h).2.2.1 rfl) hfi
        exact pth_len hbest.1.toPth
    · rw [if_pos hf]; simp
  · rw [if_pos hw]; simp

theorem plnF_len {n version : Int} {ls : List Lk} {fs : List Stf.Fl} (h : (plnF n version ls fs).1 = 0) : fs.length ≤ 12 := by
  by_cases h1 : (wrong n ls).1 = 0
  · by_cases h2 : version < 1 ∨ 1000 < version
    · rw [plnF_range h1 h2] at h; simp at h
    · by_cases h3 : (Stf.wflows fs n).1 = 0
      · exact wflows_len h3
      · rw [plnF_flows h1 h2 h3] at h; exact absurd h h3
  · rw [plnF_wrong h1] at h; exact absurd h h1
/-- Two plans of the same are the same. -/
theorem plans_same {w3 w4 : World} {n version pv pv2 : Int} {ls : List Lk} {fs : List Stf.Fl} {fo qo fo2 qo2 : Option Addr} {fl ql fl2 ql2 : Nat} (hS : Fw.Sm fs)
    (h3 : ((plnF n version ls fs).1 ≠ 0 ∧ pv = 0 ∧ fl = 0 ∧ ql = 0) ∨ ((plnF n version ls fs).1 = 0 ∧ pv = version ∧ fl = fs.length ∧ Fw.FlowsAt w3 fo fs ∧ ql = (plnP n ls fs).length ∧ PthsAt w3 qo (plnP n ls fs)))
    (h4 : ((plnF n version ls fs).1 ≠ 0 ∧ pv2 = 0 ∧ fl2 = 0 ∧ ql2 = 0) ∨ ((plnF n version ls fs).1 = 0 ∧ pv2 = version ∧ fl2 = fs.length ∧ Fw.FlowsAt w4 fo2 fs ∧ ql2 = (plnP n ls fs).length ∧ PthsAt w4 qo2 (plnP n ls fs))) (E : Ext w3 w4) :
    ∃ (gs : List Stf.Fl) (ps : List (List Int)), pv = pv2 ∧ gs.length = fl2 ∧ fl = fl2 ∧ fl2 ≤ 4611686018427387904 ∧ Fw.FlowsAt w4 fo gs ∧ Fw.FlowsAt w4 fo2 gs ∧ Fw.Sm gs ∧ ps.length = ql2 ∧ ql = ql2 ∧ ql2 ≤ 4611686018427387904 ∧ PthsAt w4 qo ps ∧ PthsAt w4 qo2 ps ∧ ∀ i, i < ps.length → (ps.getD i []).length ≤ 4611686018427387904 := by
  rcases h3 with ⟨h, rfl, rfl, rfl⟩ | ⟨h, rfl, rfl, hf, rfl, hp⟩
  · rcases h4 with ⟨_, rfl, rfl, rfl⟩ | ⟨h', _⟩
    · exact ⟨[], [], rfl, rfl, rfl, by omega, Or.inl rfl, Or.inl rfl, fun k hk => by simp at hk, rfl, rfl, by omega, Or.inl rfl, Or.inl rfl, fun i hi => by simp at hi⟩
    · exact absurd h' h
  · rcases h4 with ⟨h', _⟩ | ⟨_, rfl, rfl, hf2, rfl, hp2⟩
    · exact absurd h h'
    · have h12 := plnF_len h
      refine ⟨fs, plnP n ls fs, rfl, rfl, rfl, by omega, hf.ext E, hf2, hS, rfl, rfl, by simp [plnP]; omega, hp.ext E, hp2, fun i hi => ?_⟩
      have hi' : i < fs.length := by simpa [plnP] using hi
      have := fnd_len (n := n) (ls := ls) (f := fs[i])
      simp [plnP, List.getD_eq_getElem?_getD, hi']
      omega

set_option maxRecDepth 100000 in
set_option maxHeartbeats 4000000 in
theorem pathTells_any (n version : Int) (ao : Option Addr) (len cap : Nat) (ls : List Lk) (lo : Option Addr) (ll lc : Nat) (fs : List Stf.Fl) (w : World) (hlen : ls.length = len) (hl : NetAt w ao ls) (hx : len ≤ 9223372036854775807) (hcap : len ≤ cap) (hI : I64 n)
    (hll : fs.length = ll) (hf : Fw.FlowsAt w lo fs) (hS : Fw.Sm fs) (hlx : ll ≤ 9223372036854775807) :
    Calls Try.prog 3 #[.agg #[.int .i64 n, .slice ao len cap], .slice lo ll lc, .int .i64 version] w fun e w' => e = .returned (.bool true) ∧ Ext w w' := by
  go_enter Try.func3, Try.ntmps3
  go_wp2_with fail
  go_loopw [19] (fun iv wr => ∃ k : Nat, k ≤ ll ∧ iv = .int .i64 k ∧ Ext (w.alloc (.cells #[.int .i64 n, .slice ao len cap] 24)) wr) (fun iv _ => ll - (intOf iv).toNat)
  case atStart => exact ⟨0, Nat.zero_le _, rfl, Ext.refl _⟩
  case round =>
    obtain ⟨k, hk, rfl, hext⟩ := hrel
    have hEr : Ext w wr := ((Ext.refl w).alloc _).trans hext
    have sr : w.heap.size < wr.heap.size := by have := hext.size; simp at this; omega
    have n0 : wr.cell? ⟨w.heap.size, 0, none⟩ = some (.int .i64 n) := (hext.cells.1 _ _ (by simp)).trans (by simp)
    have n1 : wr.cell? ⟨w.heap.size, 1, none⟩ = some (.slice ao len cap) := (hext.cells.1 _ _ (by simp)).trans (by simp)
    by_cases hlt : k < ll
    · obtain ⟨b, off, vo, vc, no, nc, a, t, X, Y, rfl, hb, hg, c0, c1, c2, c3, ⟨_, _, e1, hv, hvc⟩, ⟨_, _, e2, hn, hnc⟩⟩ := (hf.ext hEr).get (k := k) (by omega)
      cases e1
      cases e2
      have hsm := hS.get (k := k) (by omega) hg
      have i1 : (k : Int) < (ll : Int) := by omega
      clear hg
      go_wp2_with fail
      refine (Find_any n ao len cap ls ⟨a, t, X, Y⟩ vo no vc nc _ hlen (hl.ext (hEr.alloc _)) hx hI (hv.ext ((Ext.refl wr).alloc _)) hsm.1 hvc (hn.ext ((Ext.refl wr).alloc _)) hsm.2 hnc).mono ?_
      rintro e w3 ⟨go, gc, rfl, hga, hgl, E3⟩
      have E3' : Ext wr w3 := ((Ext.refl wr).alloc _).trans E3
      have hE3 := hEr.trans E3'
      have m0 := (E3'.cells.1 _ _ sr).trans n0
      have m1 := (E3'.cells.1 _ _ sr).trans n1
      have k0 : w3.cell? ⟨wr.heap.size, 0, none⟩ = some (.int .i64 a) := (E3.cells.1 _ _ (by simp)).trans (by simp)
      have k1 : w3.cell? ⟨wr.heap.size, 1, none⟩ = some (.int .i64 t) := (E3.cells.1 _ _ (by simp)).trans (by simp)
      have k2 : w3.cell? ⟨wr.heap.size, 2, none⟩ = some (.slice vo X.length vc) := (E3.cells.1 _ _ (by simp)).trans (by simp)
      have k3 : w3.cell? ⟨wr.heap.size, 3, none⟩ = some (.slice no Y.length nc) := (E3.cells.1 _ _ (by simp)).trans (by simp)
      have s3 : w.heap.size < w3.heap.size := by have := E3'.size; omega
      have s3' : wr.heap.size < w3.heap.size := by have := E3.size; simp at this; omega
      clear n0 n1 c0 c1 c2 c3
      go_wp2_with fail
      refine (refFind_any n ao len cap ls ⟨a, t, X, Y⟩ vo no vc nc _ hlen (hl.ext hE3) hx hcap (hv.ext E3') hsm.1 hvc (hn.ext E3') hsm.2 hnc).mono ?_
      rintro e w4 ⟨ho, hc, rfl, hfn, E4⟩
      obtain ⟨_, _, e3, hla, _⟩ := hfn.fv
      cases e3
      have hrl := fnd_len (n := n) (ls := ls) (f := ⟨a, t, X, Y⟩)
      have hga4 := hga.ext E4
      obtain ⟨r, hr⟩ : ∃ r, r = fnd n ls ⟨a, t, X, Y⟩ := ⟨_, rfl⟩
      rw [← hr] at hla hrl hga4 hgl ⊢
      clear hr hga hfn m0 m1 k0 k1 k2 k3
      go_wp2_with fail
      refine (Ints_any go ho _ _ gc hc r.2 r.2 _ rfl rfl (by omega) hga4 hla).mono ?_
      rintro e w5 ⟨rfl, E5⟩
      rw [decide_eq_true rfl]
      have hext5 := hext.trans (E3'.trans (E4.trans E5))
      clear hga4 hla hrl E3 hE3
      go_wp2
      go_roundw
      case rel => exact ⟨k + 1, by omega, by go_num, hext5⟩
      case measure => simp [intOf]; omega
    · have i1 : ¬ (k : Int) < (ll : Int) := by omega
      go_wp2_with fail
      refine (Plan_any n version ao len cap ls lo ll lc fs _ hlen (hl.ext hEr) hx hI hll (hf.ext hEr) hS hlx).mono ?_
      rintro e w3 ⟨pv, fo, fl, fc, qo, ql, qc, rfl, E3, hc3⟩
      have hE3 := hEr.trans E3
      have m0 := (E3.cells.1 _ _ sr).trans n0
      have m1 := (E3.cells.1 _ _ sr).trans n1
      have s3 : w.heap.size < w3.heap.size := by have := E3.size; omega
      clear n0 n1
      go_wp2_with fail
      have hE3a : Ext w ((w3.alloc (.cells #[.int .i64 pv, .slice fo fl fc, .slice qo ql qc] 36)).alloc (.cells #[.int .i64 (plnF n version ls fs).1, .int .i64 (plnF n version ls fs).2] 38)) := (hE3.alloc _).alloc _
      refine (refPlan_any n version ao len cap ls lo ll lc fs _ hlen (hl.ext hE3a) hx hcap hll (hf.ext hE3a) hS hlx).mono ?_
      rintro e w4 ⟨pv2, fo2, fl2, fc2, qo2, ql2, qc2, rfl, E4, hc4⟩
      have hE4 : Ext w w4 := hE3a.trans E4
      have E4' : Ext w3 w4 := (((Ext.refl w3).alloc _).alloc _).trans E4
      obtain ⟨gs, ps, rfl, x1, rfl, x2, x3, x4, x5, x6, rfl, x7, x8, x9, x10⟩ := plans_same hS hc3 hc4 E4'
      obtain ⟨r, hr⟩ : ∃ r, r = plnF n version ls fs := ⟨_, rfl⟩
      rw [← hr] at E4 ⊢
      have s4 : w3.heap.size < w4.heap.size := by have := E4.size; simp at this; omega
      have s4' : w3.heap.size + 1 < w4.heap.size := by have := E4.size; simp at this; omega
      have k0 : w4.cell? ⟨w3.heap.size, 0, none⟩ = some (.int .i64 pv) := (E4.cells.1 _ _ (by simp; omega)).trans (by simp)
      have k1 : w4.cell? ⟨w3.heap.size, 1, none⟩ = some (.slice fo fl fc) := (E4.cells.1 _ _ (by simp; omega)).trans (by simp)
      have k2 : w4.cell? ⟨w3.heap.size, 2, none⟩ = some (.slice qo ql qc) := (E4.cells.1 _ _ (by simp; omega)).trans (by simp)
      have k3 : w4.cell? ⟨w3.heap.size + 1, 0, none⟩ = some (.int .i64 r.1) := (E4.cells.1 _ _ (by simp)).trans (by simp)
      have k4 : w4.cell? ⟨w3.heap.size + 1, 1, none⟩ = some (.int .i64 r.2) := (E4.cells.1 _ _ (by simp)).trans (by simp)
      clear hr hE3a m0 m1 hc3 hc4 E4
      go_wp2_with fail
      refine (SamePlan_same pv fo fo2 qo qo2 fl ql fc fc2 qc qc2 gs ps _ x1 x2 (x3.ext (((Ext.refl w4).alloc _).alloc _)) (x4.ext (((Ext.refl w4).alloc _).alloc _)) x5 x6 x7 (x8.ext (((Ext.refl w4).alloc _).alloc _)) (x9.ext (((Ext.refl w4).alloc _).alloc _)) x10).mono ?_
      rintro e w5 ⟨rfl, E5⟩
      clear k0 k1 k2 k3 k4
      go_wp2
      go_ret
      exact ⟨rfl, ((hE4.alloc _).alloc _).trans E5⟩

end Go.Proofs.Ytagkbpckflineab
