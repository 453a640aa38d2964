/- What Wrong answers, for all flows and every number; nothing that was there is changed. -/
import Derived.Test.YtgffkjjddhlbpaaH9
namespace Go.Proofs.Ytgffkjjddhlbpaa.Fw
open Go.RowKit Go.Maps Stf

def f0 : Fl := ⟨0, 0, [], []⟩
def Sm (fs : List Fl) : Prop := ∀ k (h : k < fs.length), (fs[k]).via.length ≤ 4611686018427387904 ∧ (fs[k]).nt.length ≤ 4611686018427387904
theorem wflows_bad {fs : List Fl} {n : Int} {k : Nat} (hl : ¬ 12 < fs.length) (hk : k < fs.length) (h : ∀ j, j < k → wflow (fs.getD j f0) n = 0) (hb : wflow (fs.getD k f0) n ≠ 0) : wflows fs n = (wflow (fs.getD k f0) n, (k : Int)) := by
  rw [wflows, if_neg hl]
  have := firstBad_some (e := fun k => wflow (fs.getD k ⟨0, 0, [], []⟩) n) hk h hb
  rw [this]; rfl
theorem wflows_good {fs : List Fl} {n : Int} (hl : ¬ 12 < fs.length) (h : ∀ j, j < fs.length → wflow (fs.getD j f0) n = 0) : wflows fs n = (0, 0) := by
  rw [wflows, if_neg hl]
  have := firstBad_none (e := fun k => wflow (fs.getD k ⟨0, 0, [], []⟩) n) h
  rw [this]
/-- One flow of those that lie there. -/
theorem FlowsAt.get {w : World} {ao : Option Addr} {fs : List Fl} (h : FlowsAt w ao fs) {k : Nat} (hk : k < fs.length) : ∃ b off vo vc no nc a t X Y, ao = some ⟨b, off, none⟩ ∧ b < w.heap.size ∧ fs.getD k f0 = ⟨a, t, X, Y⟩ ∧
    w.cell? ⟨b, off + k * 4, none⟩ = some (.int .i64 a) ∧ w.cell? ⟨b, off + k * 4 + 1, none⟩ = some (.int .i64 t) ∧ w.cell? ⟨b, off + k * 4 + 2, none⟩ = some (.slice vo X.length vc) ∧ w.cell? ⟨b, off + k * 4 + 3, none⟩ = some (.slice no Y.length nc) ∧ FV w X (.slice vo X.length vc) ∧ FV w Y (.slice no Y.length nc) := by
  rcases h with rfl | ⟨b, off, h1, h2, h3⟩
  · simp at hk
  · obtain ⟨v, n, c0, c1, c2, c3, hv, hn⟩ := h3 k hk
    have hg : fs.getD k f0 = fs[k] := by simp [List.getD_eq_getElem?_getD, hk]
    have hv' := hv
    have hn' := hn
    obtain ⟨vo, vc, rfl, _⟩ := hv
    obtain ⟨no, nc, rfl, _⟩ := hn
    exact ⟨b, off, vo, vc, no, nc, (fs[k]).fr, (fs[k]).to, (fs[k]).via, (fs[k]).nt, h1, h2, hg, c0, c1, c2, c3, hv', hn'⟩
theorem Sm.get {fs : List Fl} (h : Sm fs) {k : Nat} (hk : k < fs.length) {a t : Int} {X Y : List Int} (e : fs.getD k f0 = ⟨a, t, X, Y⟩) : X.length ≤ 4611686018427387904 ∧ Y.length ≤ 4611686018427387904 := by
  have hg : fs.getD k f0 = fs[k] := by simp [List.getD_eq_getElem?_getD, hk]
  have := h k hk
  rw [← hg, e] at this
  exact this

set_option maxHeartbeats 1000000 in
theorem Wrong_many (ao : Option Addr) (len cap : Nat) (n : Int) (w : World) (h : 12 < len) (hl : len ≤ 9223372036854775807) :
    Calls Try.prog 44 #[.slice ao len cap, .int .i64 n] w fun e w' => e = .returned (.agg #[.int .i64 5, .int .i64 0]) ∧ Ext w w' := by
  go_enter Try.func44, Try.ntmps44
  go_wp2
  exact bodyPost_ret (v := .agg #[.int .i64 5, .int .i64 0]) (by simp [results, Try.results44, go_sem]) rfl ⟨rfl, (Ext.refl w).alloc _⟩

set_option maxRecDepth 100000 in
set_option maxHeartbeats 2000000 in
theorem Wrong_few (ao : Option Addr) (len cap : Nat) (n : Int) (fs : List Fl) (w : World) (hlen : fs.length = len) (hf : FlowsAt w ao fs) (hI : I64 n) (hS : Sm fs) (h12 : ¬ 12 < len) :
    Calls Try.prog 44 #[.slice ao len cap, .int .i64 n] w fun e w' => e = .returned (.agg #[.int .i64 (wflows fs n).1, .int .i64 (wflows fs n).2]) ∧ Ext w w' := by
  have hl12 : ¬ 12 < fs.length := by omega
  go_enter Try.func44, Try.ntmps44
  go_wp2
  go_loopw [14] (fun iv wr => ∃ k : Nat, k ≤ len ∧ iv = .int .i64 k ∧ (∀ j, j < k → wflow (fs.getD j f0) n = 0) ∧ Below (w.heap.size + 1) (w.alloc (.cells #[.int .i64 0, .int .i64 0] 64)) wr) (fun iv _ => len - (intOf iv).toNat)
  case atStart => exact ⟨0, Nat.zero_le _, rfl, fun j hj => by omega, Below.refl _ _⟩
  case round =>
    obtain ⟨k, hk, rfl, hpre, hbel⟩ := hrel
    obtain ⟨z0, z1, y0, y1, hsz⟩ := fault_kept hbel
    have hEw : Ext w wr := Below.trans ((Ext.refl w).alloc _) (hbel.mono (by omega))
    have HP := hid hpre
    clear hpre
    by_cases hlt : k < len
    · obtain ⟨b, off, vo, vc, no, nc, a, t, X, Y, rfl, hb, hg, c0, c1, c2, c3, hv, hn⟩ := (hf.ext hEw).get (k := k) (by omega)
      have hsm := hS.get (k := k) (by omega) hg
      have i1 : (k : Int) < (len : Int) := by omega
      have HG := hid hg
      clear hg
      obtain ⟨r, hr⟩ : ∃ r, r = wflow ⟨a, t, X, Y⟩ n := ⟨_, rfl⟩
      have HR := hid hr
      go_wp2_with fail
      refine (wrongFlow_any a t n X Y _ _ _ (hv.ext ((Ext.refl _).alloc _)) (hn.ext ((Ext.refl _).alloc _)) hI hsm.1 hsm.2).mono ?_
      rintro e w1 ⟨he, E1⟩
      rw [← hr] at he
      subst he
      clear hr
      have hbel1 : Below (w.heap.size + 1) (w.alloc (.cells #[.int .i64 0, .int .i64 0] 64)) w1 := (hbel.alloc (by omega) _).trans (Below.mono E1 (by simp; omega))
      obtain ⟨z0', z1', y0', y1', hsz'⟩ := fault_kept hbel1
      have hE1 : Ext w w1 := (hEw.alloc _).trans E1
      clear z0 z1 y0 y1
      by_cases h0 : r = 0
      · subst h0
        go_wp2
        refine ⟨⟨k + 1, by omega, by go_num, fun j hj => ?_, hbel1⟩, by simp [intOf]; omega⟩
        by_cases e : j = k
        · subst e; rw [HG.out, ← HR.out]
        · exact HP.out j (by omega)
      · have h0' : (r != 0) = true := by simpa using h0
        go_wp2
        have hfin : wflows fs n = (r, (k : Int)) := by rw [wflows_bad hl12 (by omega) HP.out (by rw [HG.out, ← HR.out]; exact h0), HG.out, ← HR.out]
        refine bodyPost_ret (v := .agg #[.int .i64 r, .int .i64 k]) (by simp [results, Try.results44, go_sem, z0', z1']) rfl ⟨by rw [hfin], ?_⟩
        exact (hE1.setCell (Nat.le_refl _) _).setCell (Nat.le_refl _) _
    · have hfin : wflows fs n = (0, 0) := wflows_good hl12 (fun j hj => HP.out j (by omega))
      have HF := hid hfin
      clear hfin
      go_wp2
      refine bodyPost_ret (v := .agg #[.int .i64 0, .int .i64 0]) (by simp [results, Try.results44, go_sem, z0, z1]) rfl ⟨by rw [HF.out], ?_⟩
      exact (hEw.setCell (Nat.le_refl _) _).setCell (Nat.le_refl _) _

theorem Wrong_any (ao : Option Addr) (len cap : Nat) (n : Int) (fs : List Fl) (w : World) (hlen : fs.length = len) (hf : FlowsAt w ao fs) (hI : I64 n) (hS : Sm fs) (hl : len ≤ 9223372036854775807) :
    Calls Try.prog 44 #[.slice ao len cap, .int .i64 n] w fun e w' => e = .returned (.agg #[.int .i64 (wflows fs n).1, .int .i64 (wflows fs n).2]) ∧ Ext w w' := by
  by_cases h : 12 < len
  · have e : wflows fs n = (5, 0) := by rw [wflows, if_pos (by omega)]
    rw [e]
    exact Wrong_many ao len cap n w h hl
  · exact Wrong_few ao len cap n fs w hlen hf hI hS h

end Go.Proofs.Ytgffkjjddhlbpaa.Fw
