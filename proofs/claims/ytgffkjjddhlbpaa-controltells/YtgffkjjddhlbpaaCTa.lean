/- What haveRoom answers. -/
import Derived.Test.YtgffkjjddhlbpaaC8
import Derived.Test.YtgffkjjddhlbpaaC5
import Derived.Test.YtgffkjjddhlbpaaC1
import Derived.Test.YtgffkjjddhlbpaaU1
import Derived.Deep.RegionHeld3
import Derived.Deep.RegionLaw
import Derived.Laws.OwnMore
import Derived.Lib.SliceRun
import Derived.Test.YtgffkjjddhlbpaaC6
/- What nextStage does. -/
namespace Go.Proofs.Ytgffkjjddhlbpaa.Ct
open Go.RowKit Go.Deep Stw Stp Tb Rul

theorem step_tell {B : Nat} {X : Nat → Prop} {F n P p1 p2 : Nat} {ord : Nat → Option Wir.Od} {w0 w w1 : World} {g : Cg} {a : CA} {wv tv : Value} {TV : List Value} (hC : CSt B X P w0 w g a n wv tv TV) (hX : ∀ b, w.heap.size ≤ b → X b)
    (h : Hid (∀ (Q : Nat → Prop) (W : World), (∀ b, w.heap.size ≤ b → b < w1.heap.size → Q b ∧ b < W.heap.size ∧ W.heap[b]? = w1.heap[b]?) → Ext w0 W → (∀ b, W.heap.size ≤ b → Q b) → ∀ s : Nat, s < n → Calls Try.prog F #[.int .i64 s, .pointer (some ⟨p1, 0, none⟩), .pointer (some ⟨p2, 0, none⟩)] W fun e w'' => StOut Q (ord s) e w'' ∧ Ext W w'')) :
    ∀ W tv' wv', Kp P w1 tv wv W tv' wv' → Ext w0 W → (∀ b, W.heap.size ≤ b → Qn P tv' wv' b ∧ X b) → ∀ s : Nat, s < n → Calls Try.prog F #[.int .i64 s, .pointer (some ⟨p1, 0, none⟩), .pointer (some ⟨p2, 0, none⟩)] W fun e w' => StOut (fun b => Qn P tv' wv' b ∧ X b) (ord s) e w' ∧ Ext W w' :=
  fun W tv' wv' hk hW hf s hs => h.out (fun b => Qn P tv' wv' b ∧ X b) W (fun b hb hlt => ⟨⟨(hk.block b (hC.fresh b hb) hlt).1, hX b hb⟩, Nat.lt_of_lt_of_le hlt hk.size, (hk.block b (hC.fresh b hb) hlt).2⟩) hW hf s hs
theorem rowL_set {P i : Nat} {w : World} {l : List Value} {T : TypeId} (h : w.rowIs P T 11 (fun j => l.getD j vd)) (hi : i < l.length) (v : Value) : (w.setCell ⟨P, i, none⟩ v).rowIs P T 11 (fun j => (l.set i v).getD j vd) :=
  (h.set i v).congr (fun j _ => getD_put hi j)
theorem CSt.redo {B : Nat} {X : Nat → Prop} {P n : Nat} {w0 w w' : World} {g g' : Cg} {a a' : CA} {wv tv : Value} {TV : List Value} (h : CSt B X P w0 w g a n wv tv TV) (hrow : w'.rowIs P 71 11 (fun j => (chL g'.c a' n wv tv).getD j vd)) (H : ∀ b, b ≠ P → w'.heap[b]? = w.heap[b]?) (hs : w'.heap.size = w.heap.size) (hE : Ext w0 w')
    (hw : g'.c.wts = g.c.wts) (ho : g'.out = g.out) (hn : PlNew B w0 g'.c.now a'.n) (hx : PlNew B w0 g'.c.nxt a'.x) : CSt B X P w0 w' g' a' n wv tv TV := by
  refine ⟨hrow, ?_, ?_, h.wP, h.apart, ?_, hE, h.hP, h.hB, hn, hx⟩
  · rw [hw]
    refine ⟨h.ownW.1, ?_⟩
    rcases h.ownW.2 with h2 | ⟨b, cap, cur, h1, h2, h3, h4⟩
    · exact Or.inl h2
    · exact Or.inr ⟨b, cap, cur, h1, h2, (H b (fun e => h.wP (by rw [h1, e]; rfl))).trans h3, h4⟩
  · rw [ho]
    refine ⟨h.ownT.1, ?_⟩
    rcases h.ownT.2 with h2 | ⟨b, cap, cur, h1, h2, h3, h4⟩
    · exact Or.inl h2
    · exact Or.inr ⟨b, cap, cur, h1, h2, (H b (by omega)).trans h3, h4⟩
  · rw [ho]; exact h.lt.mono (fun b hb hlt => ⟨hb, by omega, H b (by have := hb.1.1; omega)⟩)
/-- Behind nextStage. -/
def NsOut (B : Nat) (X : Nat → Prop) (P n : Nat) (w0 w : World) (tv wv : Value) (g : Cg) (e : Ending) (w' : World) : Prop := e = .returned (.bool (nextS n g).isSome) ∧ ∃ a' wv' tv' TV', CSt B X P w0 w' ((nextS n g).getD g) a' n wv' tv' TV' ∧ Kp P w tv wv w' tv' wv'
/-- The plans' cells of a change. -/
abbrev S7 (P : Nat) (v1 : Int) (f1 q1 : Value) (v2 : Int) (f2 q2 : Value) (V : World) : Prop := V.cell? ⟨P, 1, none⟩ = some (.int .i64 v1) ∧ V.cell? ⟨P, 2, none⟩ = some f1 ∧ V.cell? ⟨P, 3, none⟩ = some q1 ∧ V.cell? ⟨P, 4, none⟩ = some (.int .i64 v2) ∧ V.cell? ⟨P, 5, none⟩ = some f2 ∧ V.cell? ⟨P, 6, none⟩ = some q2
theorem CSt.s7 {B : Nat} {X : Nat → Prop} {P n : Nat} {w0 w : World} {g : Cg} {a : CA} {wv tv : Value} {TV : List Value} (h : CSt B X P w0 w g a n wv tv TV) : S7 P g.c.now.v (.slice a.n.fo g.c.now.fs.length a.n.fc) (.slice a.n.qo g.c.now.ps.length a.n.qc) g.c.nxt.v (.slice a.x.fo g.c.nxt.fs.length a.x.fc) (.slice a.x.qo g.c.nxt.ps.length a.x.qc) w :=
  ⟨h.row.cell (i := 1) (by omega), h.row.cell (i := 2) (by omega), h.row.cell (i := 3) (by omega), h.row.cell (i := 4) (by omega), h.row.cell (i := 5) (by omega), h.row.cell (i := 6) (by omega)⟩

set_option maxRecDepth 100000 in
set_option maxHeartbeats 4000000 in
theorem nextStage_any (B : Nat) (X : Nat → Prop) (P n : Nat) (w0 w : World) (g : Cg) (a : CA) (wv tv : Value) (TV : List Value) (h : CSt B X P w0 w g a n wv tv TV) (hX : ∀ b, w.heap.size ≤ b → X b) (hn : n ≤ 8) (hnk : PlOk g.c.now) (hxk : PlOk g.c.nxt) (hwl : g.c.wts.length ≤ 16777216) (hol : g.c.st = 1 → g.out.length ≤ 100) :
    Calls Try.prog 52 #[.pointer (some ⟨P, 0, none⟩)] w fun e w' => NsOut B X P n w0 w tv wv g e w' := by
  obtain ⟨⟨st, now, nxt, num, wts⟩, out⟩ := g
  simp only at hnk hxk hwl hol
  have s0 : w.cell? ⟨P, 0, none⟩ = some (.int .i64 st) := h.row.cell (i := 0) (by omega)
  have z0 := h.row.frozen 0
  have HC := hidp h
  have hPl := h.row.lt
  clear h
  by_cases h1 : st = 1
  · subst h1
    have ho : out.length ≤ 100 := hol rfl
    clear hol
    have HN : Hid (nextS n ⟨⟨1, now, nxt, num, wts⟩, out⟩ = some (told n (stpO now nxt) ⟨⟨2, now, nxt, num, wts⟩, out⟩)) := rfl
    go_enter Try.func52, Try.ntmps52
    go_upto_region 6 with fail
    obtain ⟨w2, hw2⟩ : ∃ w2, w2 = w.setCell ⟨P, 0, none⟩ (.int .i64 2) := ⟨_, rfl⟩
    have HC2 : Hid (CSt B X P w0 w2 ⟨⟨2, now, nxt, num, wts⟩, out⟩ a n wv tv TV) := by rw [hw2]; exact HC.out.put (g' := ⟨⟨2, now, nxt, num, wts⟩, out⟩) 0 (by omega) _ rfl rfl rfl HC.out.hn HC.out.hx
    have HKp : Hid (Kp P w tv wv w2 tv wv) := by rw [hw2]; exact CSt.kput
    rw [← hw2]
    clear hw2 HC s0 z0
    have HX2 : Hid (∀ b, w2.drew.heap.size ≤ b → X b) := hidp (fun b hb => hX b (by have := HKp.out.size; exact Nat.le_trans this hb))
    have hd : Ext w2 w2.drew := (Ext.refl w2).drew
    have HS7 : Hid (∀ V, Ext w2 V → S7 P now.v (.slice a.n.fo now.fs.length a.n.fc) (.slice a.n.qo now.ps.length a.n.qc) nxt.v (.slice a.x.fo nxt.fs.length a.x.fc) (.slice a.x.qo nxt.ps.length a.x.qc) V) := fun V hV => (HC2.out.ext hV).s7
    have HST : Hid (Calls Try.prog 64 #[.agg #[.int .i64 now.v, .slice a.n.fo now.fs.length a.n.fc, .slice a.n.qo now.ps.length a.n.qc], .agg #[.int .i64 nxt.v, .slice a.x.fo nxt.fs.length a.x.fc, .slice a.x.qo nxt.ps.length a.x.qc]] w2.drew fun e w' => StepOf 75 n (stpO now nxt) w0 w2.drew w' e) := stamping_any now nxt a.n a.x n w0 _ HC2.out.hn.at HC2.out.hx.at hnk hxk
    have HTE : Hid (∀ (w1 : World) (p1 p2 : Nat), Ext w2.drew w1 → Hid (∀ (Q : Nat → Prop) (W : World), (∀ b, w2.drew.heap.size ≤ b → b < w1.heap.size → Q b ∧ b < W.heap.size ∧ W.heap[b]? = w1.heap[b]?) → Ext w0 W → (∀ b, W.heap.size ≤ b → Q b) → ∀ s : Nat, s < n → Calls Try.prog 75 #[.int .i64 s, .pointer (some ⟨p1, 0, none⟩), .pointer (some ⟨p2, 0, none⟩)] W fun e w'' => StOut Q (stpO now nxt s) e w'' ∧ Ext W w'') →
        Calls Try.prog 24 #[.pointer (some ⟨P, 0, none⟩), .func (.func 75) #[] #[.pointer (some ⟨p1, 0, none⟩), .pointer (some ⟨p2, 0, none⟩)]] w1 fun e w' => TeOut B X P w0 w1 (told n (stpO now nxt) ⟨⟨2, now, nxt, num, wts⟩, out⟩) a n wv tv e w') := fun w1 p1 p2 E1 hs =>
      tell_any B X 75 p1 p2 P n (stpO now nxt) w0 w1 _ a wv tv TV ((HC2.out.ext hd).ext E1) (Or.inr (Or.inr rfl)) (fun b hb => HX2.out b (Nat.le_trans E1.size hb)) hn hwl ho (step_tell (HC2.out.ext hd) HX2.out hs)
    clear hnk hxk hwl ho
    obtain ⟨v1, f1, q1, v2, f2, q2, e1, e2, e3, e4, e5, e6⟩ : ∃ v1 f1 q1 v2 f2 q2, now.v = v1 ∧ Value.slice a.n.fo now.fs.length a.n.fc = f1 ∧ Value.slice a.n.qo now.ps.length a.n.qc = q1 ∧ nxt.v = v2 ∧ Value.slice a.x.fo nxt.fs.length a.x.fc = f2 ∧ Value.slice a.x.qo nxt.ps.length a.x.qc = q2 := ⟨_, _, _, _, _, _, rfl, rfl, rfl, rfl, rfl, rfl⟩
    have HS8 : Hid (∀ V wv' tv' TV', CSt B X P w0 V (told n (stpO now nxt) ⟨⟨2, now, nxt, num, wts⟩, out⟩) a n wv' tv' TV' → S7 P now.v (.slice a.n.fo now.fs.length a.n.fc) (.slice a.n.qo now.ps.length a.n.qc) nxt.v (.slice a.x.fo nxt.fs.length a.x.fc) (.slice a.x.qo nxt.ps.length a.x.qc) V) := fun V wv' tv' TV' hV => hV.s7
    rw [e1, e2, e3, e4, e5, e6] at HS7 HST HS8
    clear e1 e2 e3 e4 e5 e6
    go_region_held3 (fun V => V.cell? ⟨P, 1, none⟩ = some (.int .i64 v1) ∧ V.cell? ⟨P, 2, none⟩ = some f1 ∧ V.cell? ⟨P, 3, none⟩ = some q1 ∧ V.cell? ⟨P, 4, none⟩ = some (.int .i64 v2) ∧ V.cell? ⟨P, 5, none⟩ = some f2 ∧ V.cell? ⟨P, 6, none⟩ = some q2)
      (first | with_reducible exact HS7.out _ hd | with_reducible exact HS7.out _ mk1 | with_reducible exact HSL.out)
      (first
      | (have _t := mk1
         go_at_call 24
         refine (HTE.out _ _ _ E1 HP).mono ?_
         rintro e w4 ⟨rfl, wv', tv', TV', hC4, hK4⟩
         have HC4 := hidp hC4
         have HSL := hidp (HS8.out _ _ _ _ hC4)
         have HK4 := hidp (HKp.out.trans ((Kp.ext mk1).trans hK4))
         clear hC4 hK4)
      | (go_at_call 64
         refine HST.out.mono ?_
         rintro e w3 ⟨p1, p2, rfl, E1, HP⟩
         have mk1 := hd.trans E1)
      | fail)
    all_goals
      go_wp2
      go_ret
      exact ⟨by rw [HN.out]; first | done | rfl, a, wv', tv', TV', by rw [HN.out]; exact HC4.out, HK4.out⟩
  · by_cases h2 : st = 2
    · subst h2
      have HN : Hid (nextS n ⟨⟨2, now, nxt, num, wts⟩, out⟩ = some ⟨⟨3, now, nxt, num, wts⟩, out⟩) := rfl
      clear hol hnk hxk hwl h1
      go_enter Try.func52, Try.ntmps52
      go_wp2
      go_ret
      exact ⟨by rw [HN.out]; first | done | rfl, a, wv, tv, TV, by rw [HN.out]; exact HC.out.put (g' := ⟨⟨3, now, nxt, num, wts⟩, out⟩) 0 (by omega) _ rfl rfl rfl HC.out.hn HC.out.hx, CSt.kput⟩
    · by_cases h4 : st = 4
      · subst h4
        have HN : Hid (nextS n ⟨⟨4, now, nxt, num, wts⟩, out⟩ = some ⟨⟨0, nxt, pl0, num, wts⟩, out⟩) := rfl
        clear hol hnk hxk hwl h1 h2
        obtain ⟨t1, t2, t3, t4, t5, t6⟩ := HC.out.s7
        simp only at t1 t2 t3 t4 t5 t6
        have z1 := HC.out.row.frozen 1
        have z2 := HC.out.row.frozen 2
        have z3 := HC.out.row.frozen 3
        have z4 := HC.out.row.frozen 4
        have z5 := HC.out.row.frozen 5
        have z6 := HC.out.row.frozen 6
        have HF : Hid (∃ a', CSt B X P w0 (((((((w.setCell ⟨P, 0, none⟩ (.int .i64 0)).setCell ⟨P, 1, none⟩ (.int .i64 nxt.v)).setCell ⟨P, 2, none⟩ (.slice a.x.fo nxt.fs.length a.x.fc)).setCell ⟨P, 3, none⟩ (.slice a.x.qo nxt.ps.length a.x.qc)).setCell ⟨P, 4, none⟩ (.int .i64 0)).setCell ⟨P, 5, none⟩ (.slice none 0 0)).setCell ⟨P, 6, none⟩ (.slice none 0 0)) ⟨⟨0, nxt, pl0, num, wts⟩, out⟩ a' n wv tv TV) := by
          have c := HC.out
          have hp : w0.heap.size ≤ P := c.hP
          refine ⟨⟨a.x, pa0, a.wo, a.wc⟩, c.redo ?_ (fun b hb => ?_) (by simp) ?_ rfl rfl c.hx (PlNew.zero B w0)⟩
          · exact rowL_set (rowL_set (rowL_set (rowL_set (rowL_set (rowL_set (rowL_set c.row (i := 0) (by simp [chL]) _) (i := 1) (by simp [chL]) _) (i := 2) (by simp [chL]) _) (i := 3) (by simp [chL]) _) (i := 4) (by simp [chL]) _) (i := 5) (by simp [chL]) _) (i := 6) (by simp [chL]) _
          · simp only [blk_setCell_other _ _ _ _ (show b ≠ (⟨P, 0, none⟩ : Addr).block from hb), blk_setCell_other _ _ _ _ (show b ≠ (⟨P, 1, none⟩ : Addr).block from hb), blk_setCell_other _ _ _ _ (show b ≠ (⟨P, 2, none⟩ : Addr).block from hb), blk_setCell_other _ _ _ _ (show b ≠ (⟨P, 3, none⟩ : Addr).block from hb), blk_setCell_other _ _ _ _ (show b ≠ (⟨P, 4, none⟩ : Addr).block from hb), blk_setCell_other _ _ _ _ (show b ≠ (⟨P, 5, none⟩ : Addr).block from hb), blk_setCell_other _ _ _ _ (show b ≠ (⟨P, 6, none⟩ : Addr).block from hb)]
          · exact ((((((c.bel.setCell (by simpa using hp) _).setCell (by simpa using hp) _).setCell (by simpa using hp) _).setCell (by simpa using hp) _).setCell (by simpa using hp) _).setCell (by simpa using hp) _).setCell (by simpa using hp) _
        obtain ⟨a', hF⟩ := HF.out
        have HF' := hidp hF
        clear hF HF
        go_enter Try.func52, Try.ntmps52
        go_wp2
        go_ret
        exact ⟨by rw [HN.out]; first | done | rfl, a', wv, tv, TV, by rw [HN.out]; exact HF'.out, (CSt.kput.trans (CSt.kput.trans (CSt.kput.trans (CSt.kput.trans (CSt.kput.trans (CSt.kput.trans CSt.kput))))))⟩
      · have HN : Hid (nextS n ⟨⟨st, now, nxt, num, wts⟩, out⟩ = none) := by show nextS _ _ = _; unfold nextS; simp [h1, h2, h4]
        have b1 : (st == 1) = false := by simpa using h1
        have b2 : (st == 2) = false := by simpa using h2
        have b4 : (st == 4) = false := by simpa using h4
        clear hol hnk hxk hwl h1 h2 h4
        go_enter Try.func52, Try.ntmps52
        go_wp2
        go_ret
        exact ⟨by rw [HN.out]; first | done | rfl, a, wv, tv, TV, by rw [HN.out]; exact HC.out, Kp.ext (Ext.refl w)⟩

end Go.Proofs.Ytgffkjjddhlbpaa.Ct

/- What goOn does: the stages that follow, for as long as nothing is waited for. -/
namespace Go.Proofs.Ytgffkjjddhlbpaa.Ct
open Go.RowKit Go.Deep Stw Stp Tb Rul

theorem goS_wait {n : Nat} {g : Cg} (h : g.c.wts ≠ []) : goS n g = g := by unfold goS; rw [if_pos h]
theorem goS_stay {n : Nat} {g : Cg} (hw : g.c.wts = []) (h : nextS n g = none) : goS n g = g := by
  unfold nextS at h
  unfold goS
  rw [if_neg (by simp [hw])]
  split at h
  · cases h
  · split at h
    · cases h
    · split at h
      · cases h
      · rename_i h1 h2 h4
        rw [if_neg h1, if_neg h2, if_neg h4]
theorem goS_step {n : Nat} {g g' : Cg} (hw : g.c.wts = []) (h : nextS n g = some g') : goS n g' = goS n g ∧ g'.c.st ≠ 1 ∧ (g.c.st = 1 → g'.c.st = 2) ∧ (g.c.st ≠ 1 → (g.c.st = 2 ∨ g.c.st = 4) ∧ g'.c.st ≠ 2 ∧ g'.c.st ≠ 4) := by
  unfold nextS at h
  split at h
  · rename_i h1
    cases h
    refine ⟨?_, by simp [told, setSt], fun _ => rfl, fun h => absurd h1 h⟩
    rw [show goS n g = calmS (told n (stpO g.c.now g.c.nxt) (setSt g 2)) by unfold goS; rw [if_neg (by simp [hw]), if_pos h1]]
    unfold goS calmS
    split
    · rfl
    · rw [if_neg (by simp [told, setSt]), if_pos (by simp [told, setSt])]
  · rename_i h1
    split at h
    · rename_i h2
      cases h
      refine ⟨?_, by simp [setSt], fun h => absurd h h1, fun _ => ⟨Or.inl h2, by simp [setSt], by simp [setSt]⟩⟩
      rw [show goS n g = setSt g 3 by unfold goS; rw [if_neg (by simp [hw]), if_neg h1, if_pos h2]]
      unfold goS
      rw [if_neg (by simp [setSt, hw]), if_neg (by simp [setSt]), if_neg (by simp [setSt]), if_neg (by simp [setSt])]
    · rename_i h2
      split at h
      · rename_i h4
        cases h
        refine ⟨?_, by simp, fun h => absurd h h1, fun _ => ⟨Or.inr h4, by simp, by simp⟩⟩
        rw [show goS n g = ⟨⟨0, g.c.nxt, pl0, g.c.num, g.c.wts⟩, g.out⟩ by unfold goS; rw [if_neg (by simp [hw]), if_neg h1, if_neg h2, if_pos h4]]
        unfold goS
        rw [if_neg (by simp [hw]), if_neg (by simp), if_neg (by simp), if_neg (by simp)]
      · cases h
theorem nextS_ok {n : Nat} {g g' : Cg} (h : nextS n g = some g') (hn : PlOk g.c.now) (hx : PlOk g.c.nxt) : PlOk g'.c.now ∧ PlOk g'.c.nxt := by
  unfold nextS at h
  split at h
  · cases h; exact ⟨hn, hx⟩
  · split at h
    · cases h; exact ⟨hn, hx⟩
    · split at h
      · cases h; exact ⟨hx, PlOk.zero⟩
      · cases h
/-- How many stages follow at most. -/
def rk (st : Int) : Nat := if st = 1 then 2 else if st = 2 ∨ st = 4 then 1 else 0
def rkW (P : Nat) (w : World) : Nat := match w.cell? ⟨P, 0, none⟩ with
  | some (.int .i64 k) => rk k
  | _ => 0
theorem CSt.rkW {B : Nat} {X : Nat → Prop} {P n : Nat} {w0 w : World} {g : Cg} {a : CA} {wv tv : Value} {TV : List Value} (h : CSt B X P w0 w g a n wv tv TV) : rkW P w = rk g.c.st := by
  have : w.cell? ⟨P, 0, none⟩ = some (.int .i64 g.c.st) := h.row.cell (i := 0) (by omega)
  unfold Ct.rkW; rw [this]
theorem nextS_len {n : Nat} {g g' : Cg} (hw : g.c.wts.length ≤ 8) (hn : n ≤ 8) (h : nextS n g = some g') : g'.c.wts.length ≤ 16777216 := by
  unfold nextS at h
  split at h
  · cases h
    have := (told_len (ord := stpO g.c.now g.c.nxt) (g := setSt g 2) n).1
    have e : (setSt g 2).c.wts = g.c.wts := rfl
    rw [e] at this
    omega
  · split at h
    · cases h; show g.c.wts.length ≤ _; omega
    · split at h
      · cases h; show g.c.wts.length ≤ _; omega
      · cases h
theorem rk_lt {s s' : Int} (h : s' ≠ 1 ∧ (s = 1 → s' = 2) ∧ (s ≠ 1 → (s = 2 ∨ s = 4) ∧ s' ≠ 2 ∧ s' ≠ 4)) : rk s' < rk s := by
  unfold rk
  by_cases h1 : s = 1
  · rw [if_pos h1, h.2.1 h1]; decide
  · obtain ⟨h2, h3, h4⟩ := h.2.2 h1
    rw [if_neg h1, if_pos h2, if_neg h.1, if_neg (by omega)]; decide
/-- What Ask, Back and Drop answer. -/
def GoOut (B : Nat) (w0 : World) (G : Cg) (k : Int) (e : Ending) (w' : World) : Prop := ∃ a' tO tc, e = .returned (.tuple #[cvl G.c a', .slice tO G.out.length tc, .int .i64 k]) ∧ Hid (∀ U : World, w'.heap.size ≤ U.heap.size → (∀ b, B ≤ b → b < w'.heap.size → U.heap[b]? = w'.heap[b]?) → CoAt U G.c a' ∧ TosAt U tO G.out) ∧ Ext w0 w'

theorem drew_heap (V : World) : V.drew.heap = V.heap := rfl
/-- Nine cells are written. -/
def W9 (V : World) (R : Nat) (x0 x1 x2 x3 x4 x5 x6 x7 x8 : Value) : World := ((((((((V.setCell ⟨R, 0, none⟩ x0).setCell ⟨R, 1, none⟩ x1).setCell ⟨R, 2, none⟩ x2).setCell ⟨R, 3, none⟩ x3).setCell ⟨R, 4, none⟩ x4).setCell ⟨R, 5, none⟩ x5).setCell ⟨R, 6, none⟩ x6).setCell ⟨R, 7, none⟩ x7).setCell ⟨R, 8, none⟩ x8
theorem W9_block0 {V : World} {R : Nat} {x0 x1 x2 x3 x4 x5 x6 x7 x8 : Value} : ∀ b, b ≠ R → (W9 V R x0 x1 x2 x3 x4 x5 x6 x7 x8).heap[b]? = V.heap[b]? := fun b hb => by
  unfold W9
  rw [blk_setCell_other _ _ _ _ hb, blk_setCell_other _ _ _ _ hb, blk_setCell_other _ _ _ _ hb, blk_setCell_other _ _ _ _ hb, blk_setCell_other _ _ _ _ hb, blk_setCell_other _ _ _ _ hb, blk_setCell_other _ _ _ _ hb, blk_setCell_other _ _ _ _ hb, blk_setCell_other _ _ _ _ hb]
theorem W9_size0 {V : World} {R : Nat} {x0 x1 x2 x3 x4 x5 x6 x7 x8 : Value} : (W9 V R x0 x1 x2 x3 x4 x5 x6 x7 x8).heap.size = V.heap.size := by
  unfold W9
  simp
theorem W9_ext0 {w0 V : World} {R : Nat} {x0 x1 x2 x3 x4 x5 x6 x7 x8 : Value} (h : Ext w0 V) (hR : w0.heap.size ≤ R) : Ext w0 (W9 V R x0 x1 x2 x3 x4 x5 x6 x7 x8) :=
  ((((((((h.setCell hR _).setCell hR _).setCell hR _).setCell hR _).setCell hR _).setCell hR _).setCell hR _).setCell hR _).setCell hR _
theorem W9_block {V : World} {R : Nat} {x0 x1 x2 x3 x4 x5 x6 x7 x8 : Value} : ∀ b, b ≠ R → (W9 V R x0 x1 x2 x3 x4 x5 x6 x7 x8).drew.heap[b]? = V.heap[b]? := fun b hb => by
  rw [drew_heap]; exact W9_block0 b hb
theorem W9_size {V : World} {R : Nat} {x0 x1 x2 x3 x4 x5 x6 x7 x8 : Value} : (W9 V R x0 x1 x2 x3 x4 x5 x6 x7 x8).drew.heap.size = V.heap.size := by
  rw [drew_heap]; exact W9_size0
theorem W9_ext {w0 V : World} {R : Nat} {x0 x1 x2 x3 x4 x5 x6 x7 x8 : Value} (h : Ext w0 V) (hR : w0.heap.size ≤ R) : Ext w0 (W9 V R x0 x1 x2 x3 x4 x5 x6 x7 x8).drew := (W9_ext0 h hR).drew
/-- What is kept while stages follow. -/
def GInv (B R P n : Nat) (w0 w1 : World) (tv wv : Value) (g : Cg) (wr : World) : Prop := ∃ g' a' wv' tv' TV', CSt B (· ≠ R) P w0 wr g' a' n wv' tv' TV' ∧ Kp P w1 tv wv wr tv' wv' ∧ goS n g' = goS n g ∧ PlOk g'.c.now ∧ PlOk g'.c.nxt ∧ (g'.c.st = 1 → g'.out.length ≤ 100) ∧ g'.c.wts.length ≤ 16777216
/-- The answer is written: what the change has is there still. -/
theorem CSt.fin9 {B R P n : Nat} {w0 w V : World} {g : Cg} {a : CA} {wv tv : Value} {TV : List Value} (h : CSt B (· ≠ R) P w0 w g a n wv tv TV) (hR : Qn P tv wv R) (hw0 : w0.heap.size ≤ R) (hV : ∀ b, b ≠ R → V.heap[b]? = w.heap[b]?) (hs : V.heap.size = w.heap.size) {wo tO : Option Addr} {wc tc : Nat} (ew : wv = .slice wo g.c.wts.length wc) (et : tv = .slice tO g.out.length tc) :
    ∀ U : World, V.heap.size ≤ U.heap.size → (∀ b, B ≤ b → b < V.heap.size → U.heap[b]? = V.heap[b]?) → CoAt U g.c ⟨a.n, a.x, wo, wc⟩ ∧ TosAt U tO g.out := fun U hsU hU => by
  have hB := h.hB
  have hP := h.hP
  have hK : ∀ b, b ≠ R → B ≤ b → b < w.heap.size → U.heap[b]? = w.heap[b]? := fun b h1 h2 h3 => (hU b h2 (by omega)).trans (hV b h1)
  have oW : U.ownsRow w0.heap.size 3 1 wv g.c.wts.length (g.c.wts.map (Value.int .i64)) := by
    refine ⟨h.ownW.1, ?_⟩
    rcases h.ownW.2 with h2 | ⟨b, cap, cur, h1, h2, h3, h4⟩
    · exact Or.inl h2
    · exact Or.inr ⟨b, cap, cur, h1, h2, (hK b (fun e => hR.2.1 (by rw [h1, e]; rfl)) (by omega) (h.ownW.lt b (by rw [h1]; rfl)).2).trans h3, h4⟩
  have oT : U.ownsRow (P + 1) 58 6 tv g.out.length TV := by
    refine ⟨h.ownT.1, ?_⟩
    rcases h.ownT.2 with h2 | ⟨b, cap, cur, h1, h2, h3, h4⟩
    · exact Or.inl h2
    · exact Or.inr ⟨b, cap, cur, h1, h2, (hK b (fun e => hR.2.2 (by rw [h1, e]; rfl)) (by omega) (h.ownT.lt b (by rw [h1]; rfl)).2).trans h3, h4⟩
  obtain ⟨wo', wc', e1, hl, _⟩ := (fn_own oW).fv
  obtain ⟨tO', tc', e2, ht⟩ := tos_own oT (h.lt.mono (w' := U) (Q' := fun _ => True) (fun b hb hlt => ⟨trivial, by omega, hK b hb.2 (by have := hb.1.1; omega) hlt⟩))
  rw [ew] at e1
  rw [et] at e2
  cases e1
  cases e2
  have hbl := h.bel.size
  have hp : ∀ b, B ≤ b → b < w0.heap.size → U.heap[b]? = w0.heap[b]? := fun b h1 h2 => (hK b (by omega) h1 (by omega)).trans (Below.block h.bel b h2)
  exact ⟨⟨h.hn U (by omega) hp, h.hx U (by omega) hp, hl⟩, ht⟩

set_option maxRecDepth 100000 in
set_option maxHeartbeats 4000000 in
theorem goOn_any (B P n : Nat) (w0 w : World) (g : Cg) (a : CA) (wv tv : Value) (TV : List Value) (h : CSt B (fun _ => True) P w0 w g a n wv tv TV) (hn : n ≤ 8) (hnk : PlOk g.c.now) (hxk : PlOk g.c.nxt) (hwl : g.c.wts.length ≤ 16777216) (hol : g.out.length ≤ 100) :
    Calls Try.prog 26 #[.pointer (some ⟨P, 0, none⟩)] w fun e w' => GoOut B w0 (goS n g) 0 e w' := by
  have HC := hidp h
  have hPl := h.row.lt
  have HK := hidp (And.intro hnk hxk)
  have hw0 : w0.heap.size ≤ w.heap.size := h.bel.size
  clear h hnk hxk
  go_enter Try.func26, Try.ntmps26
  go_wp2
  obtain ⟨w1, hw1⟩ : ∃ w1, w1 = w.alloc (.cells #[.int .i64 0, .int .i64 0, .slice none 0 0, .slice none 0 0, .int .i64 0, .slice none 0 0, .slice none 0 0, .int .i64 0, .slice none 0 0] 28) := ⟨_, rfl⟩
  have hE1 : Ext w w1 := by rw [hw1]; exact (Ext.refl w).alloc _
  have HC1 : Hid (CSt B (· ≠ w.heap.size) P w0 w1 g a n wv tv TV) := by
    have c := HC.out.ext hE1
    refine ⟨c.row, c.ownW, c.ownT, c.wP, c.apart, ?_, c.bel, c.hP, c.hB, c.hn, c.hx⟩
    exact HC.out.lt.mono (fun b hb hlt => ⟨⟨hb.1, by omega⟩, Nat.lt_of_lt_of_le hlt hE1.size, Below.block hE1 b hlt⟩)
  have HR : Hid (Qn P tv wv w.heap.size ∧ w1.heap[w.heap.size]? = some (.cells #[.int .i64 0, .int .i64 0, .slice none 0 0, .slice none 0 0, .int .i64 0, .slice none 0 0, .slice none 0 0, .int .i64 0, .slice none 0 0] 28 (0, 0)) ∧ w.heap.size < w1.heap.size) := by
    refine ⟨HC.out.fresh _ (Nat.le_refl _), ?_, by rw [hw1]; simp⟩
    rw [hw1]; exact blk_alloc_new _ _
  rw [← hw1]
  obtain ⟨R, hR⟩ : ∃ R, R = w.heap.size := ⟨_, rfl⟩
  rw [← hR] at HC1 HR hw0 ⊢
  clear hw1 HC hE1 hR
  go_loopw [] (fun wr => Hid (GInv B R P n w0 w1 tv wv g wr)) (fun wr => rkW P wr)
  case atStart => exact ⟨g, a, wv, tv, TV, HC1.out, Kp.ext (Ext.refl w1), rfl, HK.out.1, HK.out.2, fun _ => hol, hwl⟩
  case round =>
    clear HC1 HK
    obtain ⟨⟨⟨st, now, nxt, num, wts⟩, out⟩, a2, wv2, tv2, TV2, hC2, hK2, hg2, hn2, hx2, ho2, hwl2⟩ := hrel.out
    clear hrel
    have HC2 := hidp hC2
    have HK2 := hidp hK2
    have HG2 := hidp hg2
    have hRK : rkW P wr = rk st := hC2.rkW
    obtain ⟨wo, wc, hwv, _⟩ := fn_own hC2.ownW
    have c8 : wr.cell? ⟨P, 8, none⟩ = some (.slice wo wts.length wc) := by rw [← hwv]; exact hC2.row.cell (i := 8) (by omega)
    have hPl2 := hC2.row.lt
    clear hC2 hK2 hg2 hwv
    have HRK := hidp hRK
    clear hRK
    by_cases hw : wts = []
    · subst hw
      simp only [List.length_nil] at c8 hwl2
      have HNS := hidp (nextStage_any B (· ≠ R) P n w0 wr _ a2 wv2 tv2 TV2 HC2.out (fun b hb => by have := HR.out.2.2; have := HK2.out.size; omega) hn hn2 hx2 (by simp) ho2)
      go_wp2_with fail
      refine HNS.out.mono ?_
      rintro e w2 ⟨rfl, a3, wv3, tv3, TV3, hC3, hK3⟩
      have HC3 := hidp hC3
      have HK3 := hidp (HK2.out.trans hK3)
      clear hC3 hK3 HNS c8
      cases hns : nextS n ⟨⟨st, now, nxt, num, []⟩, out⟩ with
      | some g4 =>
        rw [hns] at HC3
        have HST := hidp (goS_step rfl hns)
        have HOK := hidp (nextS_ok hns hn2 hx2)
        have HWL : Hid (g4.c.wts.length ≤ 16777216) := nextS_len (by simp) hn hns
        clear hns
        go_wp2
        refine ⟨⟨g4, a3, wv3, tv3, TV3, HC3.out, HK3.out, HST.out.1.trans HG2.out, HOK.out.1, HOK.out.2, fun h => absurd h HST.out.2.1, HWL.out⟩, ?_⟩
        rw [HRK.out, HC3.out.rkW]
        exact rk_lt HST.out.2
      | none =>
        rw [hns] at HC3
        have HST := hidp ((goS_stay rfl hns).symm.trans HG2.out)
        clear hns
        go_wp2
        obtain ⟨G5, hG5⟩ : ∃ G5 : Cg, (⟨⟨st, now, nxt, num, []⟩, out⟩ : Cg) = G5 := ⟨_, rfl⟩
        have HC5 : Hid (CSt B (· ≠ R) P w0 w2 G5 a3 n wv3 tv3 TV3) := by rw [← hG5]; exact HC3.out
        rw [hG5] at HST
        obtain ⟨V5, a5, wv5, tv5, TV5, eV, ea, ew, et, eT⟩ : ∃ V5 a5 wv5 tv5 TV5, w2 = V5 ∧ a3 = a5 ∧ wv3 = wv5 ∧ tv3 = tv5 ∧ TV3 = TV5 := ⟨_, _, _, _, _, rfl, rfl, rfl, rfl, rfl⟩
        rw [ea, ew, et, eT] at HC5
        rw [ew, et] at HK3
        rw [eV] at HC5 HK3 ⊢
        have HK5 := HK3
        clear HC3 HK3 HC2 HK2 HG2 HRK hG5 eV ea ew et eT hn2 hx2 ho2 hwl2
        have hb5 : V5.heap[R]? = some (.cells #[.int .i64 0, .int .i64 0, .slice none 0 0, .slice none 0 0, .int .i64 0, .slice none 0 0, .slice none 0 0, .int .i64 0, .slice none 0 0] 28 (0, 0)) := ((HK5.out.block R HR.out.1 HR.out.2.2).2).trans HR.out.2.1
        have HFIN : Hid (∀ (V : World) (wo tO : Option Addr) (wc tc : Nat), (∀ b, b ≠ R → V.heap[b]? = V5.heap[b]?) → V.heap.size = V5.heap.size → wv5 = .slice wo G5.c.wts.length wc → tv5 = .slice tO G5.out.length tc → _) := fun V wo tO wc tc hV hs ew et => HC5.out.fin9 (V := V) ((HK5.out.block R HR.out.1 HR.out.2.2).1) hw0 hV hs ew et
        have HBE : Hid (Ext w0 V5) := HC5.out.bel
        obtain ⟨wo5, wc5, hwv, _⟩ := fn_own HC5.out.ownW
        obtain ⟨tO5, tc5, htv, _⟩ := tos_own HC5.out.ownT HC5.out.lt
        obtain ⟨k0, hk0⟩ : ∃ v, G5.c.st = v := ⟨_, rfl⟩
        obtain ⟨k1, hk1⟩ : ∃ v, G5.c.now.v = v := ⟨_, rfl⟩
        obtain ⟨k4, hk4⟩ : ∃ v, G5.c.nxt.v = v := ⟨_, rfl⟩
        obtain ⟨k7, hk7⟩ : ∃ v, G5.c.num = v := ⟨_, rfl⟩
        obtain ⟨o2, l2, q2, eo2, el2, eq2⟩ : ∃ o l q, a5.n.fo = o ∧ G5.c.now.fs.length = l ∧ a5.n.fc = q := ⟨_, _, _, rfl, rfl, rfl⟩
        obtain ⟨o3, l3, q3, eo3, el3, eq3⟩ : ∃ o l q, a5.n.qo = o ∧ G5.c.now.ps.length = l ∧ a5.n.qc = q := ⟨_, _, _, rfl, rfl, rfl⟩
        obtain ⟨o5, l5, q5, eo5, el5, eq5⟩ : ∃ o l q, a5.x.fo = o ∧ G5.c.nxt.fs.length = l ∧ a5.x.fc = q := ⟨_, _, _, rfl, rfl, rfl⟩
        obtain ⟨o6, l6, q6, eo6, el6, eq6⟩ : ∃ o l q, a5.x.qo = o ∧ G5.c.nxt.ps.length = l ∧ a5.x.qc = q := ⟨_, _, _, rfl, rfl, rfl⟩
        obtain ⟨l8, el8⟩ : ∃ l, G5.c.wts.length = l := ⟨_, rfl⟩
        obtain ⟨l9, el9⟩ : ∃ l, G5.out.length = l := ⟨_, rfl⟩
        have c0 : V5.cell? ⟨P, 0, none⟩ = some (.int .i64 k0) := by rw [← hk0]; exact HC5.out.row.cell (i := 0) (by omega)
        have c1 : V5.cell? ⟨P, 1, none⟩ = some (.int .i64 k1) := by rw [← hk1]; exact HC5.out.row.cell (i := 1) (by omega)
        have c2 : V5.cell? ⟨P, 2, none⟩ = some (.slice o2 l2 q2) := by rw [← eo2, ← el2, ← eq2]; exact HC5.out.row.cell (i := 2) (by omega)
        have c3 : V5.cell? ⟨P, 3, none⟩ = some (.slice o3 l3 q3) := by rw [← eo3, ← el3, ← eq3]; exact HC5.out.row.cell (i := 3) (by omega)
        have c4 : V5.cell? ⟨P, 4, none⟩ = some (.int .i64 k4) := by rw [← hk4]; exact HC5.out.row.cell (i := 4) (by omega)
        have c5 : V5.cell? ⟨P, 5, none⟩ = some (.slice o5 l5 q5) := by rw [← eo5, ← el5, ← eq5]; exact HC5.out.row.cell (i := 5) (by omega)
        have c6 : V5.cell? ⟨P, 6, none⟩ = some (.slice o6 l6 q6) := by rw [← eo6, ← el6, ← eq6]; exact HC5.out.row.cell (i := 6) (by omega)
        have c7 : V5.cell? ⟨P, 7, none⟩ = some (.int .i64 k7) := by rw [← hk7]; exact HC5.out.row.cell (i := 7) (by omega)
        have c8 : V5.cell? ⟨P, 8, none⟩ = some (.slice wo5 l8 wc5) := by rw [← el8, ← hwv]; exact HC5.out.row.cell (i := 8) (by omega)
        have c10 : V5.cell? ⟨P, 10, none⟩ = some (.slice tO5 l9 tc5) := by rw [← el9, ← htv]; exact HC5.out.row.cell (i := 10) (by omega)
        have HV : Hid (cvl G5.c ⟨a5.n, a5.x, wo5, wc5⟩ = .agg #[.int .i64 k0, .int .i64 k1, .slice o2 l2 q2, .slice o3 l3 q3, .int .i64 k4, .slice o5 l5 q5, .slice o6 l6 q6, .int .i64 k7, .slice wo5 l8 wc5] ∧ G5.out.length = l9 ∧ wv5 = .slice wo5 G5.c.wts.length wc5 ∧ tv5 = .slice tO5 G5.out.length tc5) := ⟨by rw [← hk0, ← hk1, ← hk4, ← hk7, ← eo2, ← el2, ← eq2, ← eo3, ← el3, ← eq3, ← eo5, ← el5, ← eq5, ← eo6, ← el6, ← eq6, ← el8]; rfl, el9, hwv, htv⟩
        clear hk0 hk1 hk4 hk7 eo2 el2 eq2 eo3 el3 eq3 eo5 el5 eq5 eo6 el6 eq6 el8 el9 hwv htv
        have r0 := box_cell hb5 0
        have r1 := box_cell hb5 1
        have r2 := box_cell hb5 2
        have r3 := box_cell hb5 3
        have r4 := box_cell hb5 4
        have r5 := box_cell hb5 5
        have r6 := box_cell hb5 6
        have r7 := box_cell hb5 7
        have r8 := box_cell hb5 8
        have z0 := box_frozen hb5 0
        have z1 := box_frozen hb5 1
        have z2 := box_frozen hb5 2
        have z3 := box_frozen hb5 3
        have z4 := box_frozen hb5 4
        have z5 := box_frozen hb5 5
        have z6 := box_frozen hb5 6
        have z7 := box_frozen hb5 7
        have z8 := box_frozen hb5 8
        simp only [List.getElem?_toArray, List.getElem?_cons_zero, List.getElem?_cons_succ] at r0 r1 r2 r3 r4 r5 r6 r7 r8
        have hPR : P < R := HR.out.1.1
        have hRl : R < V5.heap.size := (Array.getElem?_eq_some_iff.1 hb5).1
        have hPl5 := HC5.out.row.lt
        clear hb5
        go_region
        go_wp2
        refine bodyPost_ret (v := .tuple #[.agg #[.int .i64 k0, .int .i64 k1, .slice o2 l2 q2, .slice o3 l3 q3, .int .i64 k4, .slice o5 l5 q5, .slice o6 l6 q6, .int .i64 k7, .slice wo5 l8 wc5], .slice tO5 l9 tc5, .int .i64 0]) (by simp [results, Try.results26, go_sem, r0, r1, r2, r3, r4, r5, r6, r7, r8]) rfl ?_
        rw [← HST.out]
        have h1 := HFIN.out (W9 V5 R (.int .i64 k0) (.int .i64 k1) (.slice o2 l2 q2) (.slice o3 l3 q3) (.int .i64 k4) (.slice o5 l5 q5) (.slice o6 l6 q6) (.int .i64 k7) (.slice wo5 l8 wc5)).drew _ _ _ _ W9_block W9_size HV.out.2.2.1 HV.out.2.2.2
        exact ⟨_, _, _, by rw [HV.out.1, HV.out.2.1], h1, W9_ext HBE.out hw0⟩
    · have HST := hidp ((goS_wait (n := n) (g := ⟨⟨st, now, nxt, num, wts⟩, out⟩) hw).symm.trans HG2.out)
      have b0 : ((wts.length : Int) == 0) = false := by
        cases wts with
        | nil => exact absurd rfl hw
        | cons => simp; omega
      clear hw
      go_wp2
      obtain ⟨G5, hG5⟩ : ∃ G5 : Cg, (⟨⟨st, now, nxt, num, wts⟩, out⟩ : Cg) = G5 := ⟨_, rfl⟩
      have HC5 : Hid (CSt B (· ≠ R) P w0 wr G5 a2 n wv2 tv2 TV2) := by rw [← hG5]; exact HC2.out
      rw [hG5] at HST
      obtain ⟨V5, a5, wv5, tv5, TV5, eV, ea, ew, et, eT⟩ : ∃ V5 a5 wv5 tv5 TV5, wr = V5 ∧ a2 = a5 ∧ wv2 = wv5 ∧ tv2 = tv5 ∧ TV2 = TV5 := ⟨_, _, _, _, _, rfl, rfl, rfl, rfl, rfl⟩
      rw [ea, ew, et, eT] at HC5
      rw [ew, et] at HK2
      rw [eV] at HC5 HK2 ⊢
      have HK5 := HK2
      clear HC2 HK2 HG2 HRK hG5 eV ea ew et eT hn2 hx2 ho2 hwl2 c8 b0 hPl2
      have hb5 : V5.heap[R]? = some (.cells #[.int .i64 0, .int .i64 0, .slice none 0 0, .slice none 0 0, .int .i64 0, .slice none 0 0, .slice none 0 0, .int .i64 0, .slice none 0 0] 28 (0, 0)) := ((HK5.out.block R HR.out.1 HR.out.2.2).2).trans HR.out.2.1
      have HFIN : Hid (∀ (V : World) (wo tO : Option Addr) (wc tc : Nat), (∀ b, b ≠ R → V.heap[b]? = V5.heap[b]?) → V.heap.size = V5.heap.size → wv5 = .slice wo G5.c.wts.length wc → tv5 = .slice tO G5.out.length tc → _) := fun V wo tO wc tc hV hs ew et => HC5.out.fin9 (V := V) ((HK5.out.block R HR.out.1 HR.out.2.2).1) hw0 hV hs ew et
      have HBE : Hid (Ext w0 V5) := HC5.out.bel
      obtain ⟨wo5, wc5, hwv, _⟩ := fn_own HC5.out.ownW
      obtain ⟨tO5, tc5, htv, _⟩ := tos_own HC5.out.ownT HC5.out.lt
      obtain ⟨k0, hk0⟩ : ∃ v, G5.c.st = v := ⟨_, rfl⟩
      obtain ⟨k1, hk1⟩ : ∃ v, G5.c.now.v = v := ⟨_, rfl⟩
      obtain ⟨k4, hk4⟩ : ∃ v, G5.c.nxt.v = v := ⟨_, rfl⟩
      obtain ⟨k7, hk7⟩ : ∃ v, G5.c.num = v := ⟨_, rfl⟩
      obtain ⟨o2, l2, q2, eo2, el2, eq2⟩ : ∃ o l q, a5.n.fo = o ∧ G5.c.now.fs.length = l ∧ a5.n.fc = q := ⟨_, _, _, rfl, rfl, rfl⟩
      obtain ⟨o3, l3, q3, eo3, el3, eq3⟩ : ∃ o l q, a5.n.qo = o ∧ G5.c.now.ps.length = l ∧ a5.n.qc = q := ⟨_, _, _, rfl, rfl, rfl⟩
      obtain ⟨o5, l5, q5, eo5, el5, eq5⟩ : ∃ o l q, a5.x.fo = o ∧ G5.c.nxt.fs.length = l ∧ a5.x.fc = q := ⟨_, _, _, rfl, rfl, rfl⟩
      obtain ⟨o6, l6, q6, eo6, el6, eq6⟩ : ∃ o l q, a5.x.qo = o ∧ G5.c.nxt.ps.length = l ∧ a5.x.qc = q := ⟨_, _, _, rfl, rfl, rfl⟩
      obtain ⟨l8, el8⟩ : ∃ l, G5.c.wts.length = l := ⟨_, rfl⟩
      obtain ⟨l9, el9⟩ : ∃ l, G5.out.length = l := ⟨_, rfl⟩
      have c0 : V5.cell? ⟨P, 0, none⟩ = some (.int .i64 k0) := by rw [← hk0]; exact HC5.out.row.cell (i := 0) (by omega)
      have c1 : V5.cell? ⟨P, 1, none⟩ = some (.int .i64 k1) := by rw [← hk1]; exact HC5.out.row.cell (i := 1) (by omega)
      have c2 : V5.cell? ⟨P, 2, none⟩ = some (.slice o2 l2 q2) := by rw [← eo2, ← el2, ← eq2]; exact HC5.out.row.cell (i := 2) (by omega)
      have c3 : V5.cell? ⟨P, 3, none⟩ = some (.slice o3 l3 q3) := by rw [← eo3, ← el3, ← eq3]; exact HC5.out.row.cell (i := 3) (by omega)
      have c4 : V5.cell? ⟨P, 4, none⟩ = some (.int .i64 k4) := by rw [← hk4]; exact HC5.out.row.cell (i := 4) (by omega)
      have c5 : V5.cell? ⟨P, 5, none⟩ = some (.slice o5 l5 q5) := by rw [← eo5, ← el5, ← eq5]; exact HC5.out.row.cell (i := 5) (by omega)
      have c6 : V5.cell? ⟨P, 6, none⟩ = some (.slice o6 l6 q6) := by rw [← eo6, ← el6, ← eq6]; exact HC5.out.row.cell (i := 6) (by omega)
      have c7 : V5.cell? ⟨P, 7, none⟩ = some (.int .i64 k7) := by rw [← hk7]; exact HC5.out.row.cell (i := 7) (by omega)
      have c8 : V5.cell? ⟨P, 8, none⟩ = some (.slice wo5 l8 wc5) := by rw [← el8, ← hwv]; exact HC5.out.row.cell (i := 8) (by omega)
      have c10 : V5.cell? ⟨P, 10, none⟩ = some (.slice tO5 l9 tc5) := by rw [← el9, ← htv]; exact HC5.out.row.cell (i := 10) (by omega)
      have HV : Hid (cvl G5.c ⟨a5.n, a5.x, wo5, wc5⟩ = .agg #[.int .i64 k0, .int .i64 k1, .slice o2 l2 q2, .slice o3 l3 q3, .int .i64 k4, .slice o5 l5 q5, .slice o6 l6 q6, .int .i64 k7, .slice wo5 l8 wc5] ∧ G5.out.length = l9 ∧ wv5 = .slice wo5 G5.c.wts.length wc5 ∧ tv5 = .slice tO5 G5.out.length tc5) := ⟨by rw [← hk0, ← hk1, ← hk4, ← hk7, ← eo2, ← el2, ← eq2, ← eo3, ← el3, ← eq3, ← eo5, ← el5, ← eq5, ← eo6, ← el6, ← eq6, ← el8]; rfl, el9, hwv, htv⟩
      clear hk0 hk1 hk4 hk7 eo2 el2 eq2 eo3 el3 eq3 eo5 el5 eq5 eo6 el6 eq6 el8 el9 hwv htv
      have r0 := box_cell hb5 0
      have r1 := box_cell hb5 1
      have r2 := box_cell hb5 2
      have r3 := box_cell hb5 3
      have r4 := box_cell hb5 4
      have r5 := box_cell hb5 5
      have r6 := box_cell hb5 6
      have r7 := box_cell hb5 7
      have r8 := box_cell hb5 8
      have z0 := box_frozen hb5 0
      have z1 := box_frozen hb5 1
      have z2 := box_frozen hb5 2
      have z3 := box_frozen hb5 3
      have z4 := box_frozen hb5 4
      have z5 := box_frozen hb5 5
      have z6 := box_frozen hb5 6
      have z7 := box_frozen hb5 7
      have z8 := box_frozen hb5 8
      simp only [List.getElem?_toArray, List.getElem?_cons_zero, List.getElem?_cons_succ] at r0 r1 r2 r3 r4 r5 r6 r7 r8
      have hPR : P < R := HR.out.1.1
      have hRl : R < V5.heap.size := (Array.getElem?_eq_some_iff.1 hb5).1
      have hPl5 := HC5.out.row.lt
      clear hb5
      go_region
      go_wp2
      refine bodyPost_ret (v := .tuple #[.agg #[.int .i64 k0, .int .i64 k1, .slice o2 l2 q2, .slice o3 l3 q3, .int .i64 k4, .slice o5 l5 q5, .slice o6 l6 q6, .int .i64 k7, .slice wo5 l8 wc5], .slice tO5 l9 tc5, .int .i64 0]) (by simp [results, Try.results26, go_sem, r0, r1, r2, r3, r4, r5, r6, r7, r8]) rfl ?_
      rw [← HST.out]
      have h1 := HFIN.out (W9 V5 R (.int .i64 k0) (.int .i64 k1) (.slice o2 l2 q2) (.slice o3 l3 q3) (.int .i64 k4) (.slice o5 l5 q5) (.slice o6 l6 q6) (.int .i64 k7) (.slice wo5 l8 wc5)).drew _ _ _ _ W9_block W9_size HV.out.2.2.1 HV.out.2.2.2
      exact ⟨_, _, _, by rw [HV.out.1, HV.out.2.1], h1, W9_ext HBE.out hw0⟩

end Go.Proofs.Ytgffkjjddhlbpaa.Ct

/- What refused answers, and what Copy answers: the same plan, in lists of its own. -/
namespace Go.Proofs.Ytgffkjjddhlbpaa.Ct
open Go.RowKit Go.Deep Stw Stp Tb Rul

set_option maxRecDepth 100000 in
set_option maxHeartbeats 800000 in
theorem refused_any (k : Int) (w : World) :
    Calls Try.prog 20 #[.int .i64 k] w fun e w' => e = .returned (.tuple #[cvl co0 ca0, .slice none 0 0, .int .i64 k]) ∧ Ext w w' := by
  go_enter Try.func20, Try.ntmps20
  go_wp2
  refine bodyPost_ret (v := .tuple #[cvl co0 ca0, .slice none 0 0, .int .i64 k]) (by simp [results, Try.results20, go_sem, cvl, co0, ca0, pl0, pa0]) rfl ⟨rfl, (Ext.refl w).alloc _⟩

set_option maxHeartbeats 1000000 in
theorem clonePt_nil (n c : Nat) (w : World) :
    Calls Try.prog 63 #[.slice none n c] w fun e w' => e = .returned (.slice none 0 0) ∧ w' = w := by
  have hq : ∀ (w : World) (a : Option Addr) (n c : Nat), (binOp .eql 105 (.slice a n c) (.slice none 0 0)).run Try.prog w = .ok (.bool a.isNone) w := fun w a n c => Lib.run_eql_slice_nil w _ _ a n c 0 0 Try.underlying105
  go_enter Try.func63, Try.ntmps63
  go_wp2
  go_ret
  exact ⟨rfl, rfl⟩

set_option maxHeartbeats 1000000 in
theorem clonePt_some (ad : Addr) (n c : Nat) (ps : List Int) (w : World) (hn : ps.length = n) (hb : n * 8 ≤ 140737488351232) (hp : ∀ j u, (ps.map (Value.int .i64))[j]? = some u → (w.alloc (.cells #[] 3)).cell? (ad.add j) = some u) :
    Calls Try.prog 63 #[.slice (some ad) n c] w fun e w' => ∃ v', e = .returned v' ∧ w'.ownsRow w.heap.size 3 1 v' n (ps.map (Value.int .i64)) ∧ Ext w w' := by
  obtain ⟨i0, hi, hz0, hz1, hz2⟩ := info_parts infoI
  have hq : ∀ (w : World) (a : Option Addr) (n c : Nat), (binOp .eql 105 (.slice a n c) (.slice none 0 0)).run Try.prog w = .ok (.bool a.isNone) w := fun w a n c => Lib.run_eql_slice_nil w _ _ a n c 0 0 Try.underlying105
  have A := hidp hp
  clear hp
  go_enter Try.func63, Try.ntmps63
  go_wp2_with (at_builtin; refine wpList_append_own _ rfl _ _ 105 rfl w.heap.size 3 i0 (.int .i64 0) 1 8 Try.underlying105 hi hz0 hz1 hz2 rfl (by decide) _ _ _ rfl (World.ownsRow_made w #[] 0 (Nat.le_refl _) (Nat.zero_le _) rfl) ad n c (ps.map (Value.int .i64)) rfl ?qc1 ?qc2 ?qc3 ?qc4 ?qc5 ?qc6 ?_)
  case qc1 => simp; omega
  case qc2 => exact A.out
  case qc3 => intro u hu; obtain ⟨x, _, rfl⟩ := List.mem_map.1 hu; rfl
  case qc4 => unfold maxLen; omega
  case qc5 => omega
  case qc6 => simp
  intro v' w1 hown hgrow hnil
  go_wp2
  go_ret
  refine ⟨v', rfl, by simpa using hown, ?_⟩
  exact ((Below.refl _ w).alloc (Nat.le_refl _) _).grown hgrow (by simp) (by intro k hk; simp [Value.ownBlock] at hk; omega)

/-- A path's copy: the same numbers. -/
theorem clonePt_any (o : Option Addr) (c : Nat) (ps : List Int) (w : World) (hb : ps.length * 8 ≤ 140737488351232) (hp : ListAt w o ps) :
    Calls Try.prog 63 #[.slice o ps.length c] w fun e w' => ∃ v', e = .returned v' ∧ FN w.heap.size w' ps v' ∧ Ext w w' := by
  cases o with
  | none =>
    have he : ps = [] := by
      rcases hp with h | ⟨b, off, h, _⟩
      · exact h
      · cases h
    refine (clonePt_nil ps.length c w).mono ?_
    rintro e w' ⟨rfl, rfl⟩
    exact ⟨_, rfl, ⟨none, 0, by rw [he]; rfl, Or.inl he, by rw [he]; exact Nat.le_refl _⟩, Ext.refl _⟩
  | some ad =>
    refine (clonePt_some ad ps.length c ps w rfl hb (fun j u hj => ?_)).mono ?_
    · have hjn : j < ps.length := by have := (List.getElem?_eq_some_iff.1 hj).1; simpa using this
      rcases hp with rfl | ⟨b, off, h, hlt, hat⟩
      · simp at hjn
      · cases h
        rw [Addr.add_mid, World.cell?_alloc_past _ _ _ hlt, hat j hjn]
        rw [List.getElem?_map, List.getElem?_eq_getElem hjn] at hj
        simp at hj
        rw [← hj]
        simp [List.getD_eq_getElem?_getD, hjn]
    · rintro e w' ⟨v', rfl, hown, hE⟩
      exact ⟨v', rfl, fn_own hown, hE⟩

/-- A flow more, in a plan. -/
theorem copy7 {P : Nat} {w0 w w' : World} {o : Obj} {v0 fv qv v n : Value} {kf kq g c : Nat} {FV V : List Value} {fs : List Stf.Fl} {ps : List (List Int)} {f : Stf.Fl} (h : PSt P w0 w v0 fv qv kf kq FV V fs ps) (kv : LQ w (Qn P fv qv) f.via v) (kn : LQ w (Qn P fv qv) f.nt n)
    (hown : w'.ownsRow (P + 1) 91 4 (.slice (some ⟨g, 0, none⟩) (kf + 1) c) (kf + 1) (FV ++ [.int .i64 f.fr, .int .i64 f.to, v, n])) (hg : (w.alloc o).grownBy w' fv.ownBlock) (hat : fv.ownBlock = some g ∨ g = w.heap.size + 1) :
    w'.cell? ⟨P, 1, none⟩ = some fv ∧ w'.frozen? ⟨P, 1, none⟩ = false ∧ PSt P w0 (w'.setCell ⟨P, 1, none⟩ (.slice (some ⟨g, 0, none⟩) (kf + 1) c)) v0 (.slice (some ⟨g, 0, none⟩) (kf + 1) c) qv (kf + 1) kq (FV ++ [.int .i64 f.fr, .int .i64 f.to, v, n]) V (fs ++ [f]) ps := by
  have hP := h.row.lt
  have hneP : some P ≠ fv.ownBlock := fun e => by have := (h.ownF.lt P e.symm).1; omega
  have hr := h.row.of_block ((hg.block P (by simp; omega) hneP).trans (blk_alloc_lt _ _ _ hP))
  exact ⟨hr.cell (i := 1) (by omega), hr.frozen 1, h.pushF kv kn hown hg hat⟩
/-- A path more, in a plan. -/
theorem copy9 {P : Nat} {w0 w w' : World} {o : Obj} {v0 fv qv v : Value} {kf kq g c : Nat} {FV V : List Value} {fs : List Stf.Fl} {ps : List (List Int)} {p : List Int} (h : PSt P w0 w v0 fv qv kf kq FV V fs ps) (kv : LQ w (Qn P fv qv) p v)
    (hown : w'.ownsRow (P + 1) 105 1 (.slice (some ⟨g, 0, none⟩) (kq + 1) c) (kq + 1) (V ++ [v])) (hg : (w.alloc o).grownBy w' qv.ownBlock) (hat : qv.ownBlock = some g ∨ g = w.heap.size + 1) :
    w'.cell? ⟨P, 2, none⟩ = some qv ∧ w'.frozen? ⟨P, 2, none⟩ = false ∧ PSt P w0 (w'.setCell ⟨P, 2, none⟩ (.slice (some ⟨g, 0, none⟩) (kq + 1) c)) v0 fv (.slice (some ⟨g, 0, none⟩) (kq + 1) c) kf (kq + 1) FV (V ++ [v]) fs (ps ++ [p]) := by
  have hP := h.row.lt
  have hneP : some P ≠ qv.ownBlock := fun e => by have := (h.ownQ.lt P e.symm).1; omega
  have hr := h.row.of_block ((hg.block P (by simp; omega) hneP).trans (blk_alloc_lt _ _ _ hP))
  exact ⟨hr.cell (i := 2) (by omega), hr.frozen 2, h.pushQ kv hown hg hat⟩
theorem take_fl {fs : List Stf.Fl} {k : Nat} (h : k < fs.length) : fs.take (k + 1) = fs.take k ++ [fs.getD k Fw.f0] := by
  rw [List.take_succ_eq_append_getElem h]
  simp [List.getD_eq_getElem?_getD, h]
theorem take_pt {ps : List (List Int)} {k : Nat} (h : k < ps.length) : ps.take (k + 1) = ps.take k ++ [ps.getD k []] := by
  rw [List.take_succ_eq_append_getElem h]
  simp [List.getD_eq_getElem?_getD, h]
theorem mem_fl {fs : List Stf.Fl} {k : Nat} (h : k < fs.length) : fs.getD k Fw.f0 ∈ fs := by
  simp [List.getD_eq_getElem?_getD, h]

/-- The box of the plan that came in, and of the answer. -/
structure CB (W : World) (b : Nat) (v : Int) (fv qv : Value) : Prop where
  all : W.cell? ⟨b, 0, none⟩ = some (.int .i64 v) ∧ W.cell? ⟨b, 1, none⟩ = some fv ∧ W.cell? ⟨b, 2, none⟩ = some qv ∧ W.cell? ⟨b + 1, 0, none⟩ = some (.int .i64 0) ∧ W.cell? ⟨b + 1, 1, none⟩ = some (.slice none 0 0) ∧ W.cell? ⟨b + 1, 2, none⟩ = some (.slice none 0 0) ∧ (∀ i, W.frozen? ⟨b + 1, i, none⟩ = false) ∧ b + 1 < W.heap.size
def Cw (w : World) (v : Int) (fv qv : Value) : World := (w.alloc (.cells #[.int .i64 v, fv, qv] 25)).alloc (.cells #[.int .i64 0, .slice none 0 0, .slice none 0 0] 25)
theorem Cw_size (w : World) (v : Int) (fv qv : Value) : (Cw w v fv qv).heap.size = w.heap.size + 1 + 1 := by unfold Cw; simp
theorem Cw_ext (w : World) (v : Int) (fv qv : Value) : Ext w (Cw w v fv qv) := ((Ext.refl w).alloc _).alloc _
theorem CB.of {w W : World} {v : Int} {fv qv : Value} (E : Ext (Cw w v fv qv) W) : CB W w.heap.size v fv qv := by
  have l0 : w.heap.size < (Cw w v fv qv).heap.size := by rw [Cw_size]; omega
  have l1 : w.heap.size + 1 < (Cw w v fv qv).heap.size := by rw [Cw_size]; omega
  obtain ⟨hc, hf⟩ := E.cells
  refine ⟨?_, ?_, ?_, ?_, ?_, ?_, fun i => ?_, Nat.lt_of_lt_of_le l1 E.size⟩
  · rw [hc _ _ l0]; unfold Cw; first | (simp; done) | (simp [go_sem]; done)
  · rw [hc _ _ l0]; unfold Cw; first | (simp; done) | (simp [go_sem]; done)
  · rw [hc _ _ l0]; unfold Cw; first | (simp; done) | (simp [go_sem]; done)
  · rw [hc _ _ l1]; unfold Cw; first | (simp; done) | (simp [go_sem]; done)
  · rw [hc _ _ l1]; unfold Cw; first | (simp; done) | (simp [go_sem]; done)
  · rw [hc _ _ l1]; unfold Cw; first | (simp; done) | (simp [go_sem]; done)
  · rw [hf _ _ l1]; unfold Cw; first | (simp; done) | (simp [go_sem]; done)

end Go.Proofs.Ytgffkjjddhlbpaa.Ct

/- What Copy answers: the same plan, in lists of its own. -/
namespace Go.Proofs.Ytgffkjjddhlbpaa.Ct
open Go.RowKit Go.Deep Stw Stp Tb Rul

set_option maxRecDepth 100000 in
set_option maxHeartbeats 4000000 in
theorem Copy_any (p : Pl) (a : PA) (w : World) (h : PlAt w p a) (hok : PlOk p) :
    Calls Try.prog 49 #[pvl p a] w fun e w' => ∃ a', e = .returned (pvl p a') ∧ PlNew w.heap.size w' p a' ∧ Ext w w' := by
  obtain ⟨pv, fs, ps⟩ := p
  obtain ⟨fo, qo, fc, qc⟩ := a
  obtain ⟨hf, hq⟩ := h
  simp only at hf hq
  have HOK := hidp hok
  have hfl : fs.length ≤ 16777216 := hok.fl
  have hql : ps.length ≤ 16777216 := hok.ql
  clear hok
  unfold pvl
  show Calls _ _ #[.agg #[.int .i64 pv, .slice fo fs.length fc, .slice qo ps.length qc]] _ _
  obtain ⟨i0, hi0, hz00, hz01, hz02⟩ := info_parts infoFl
  obtain ⟨j0, hj0, hy0, hy1, hy2⟩ := info_parts infoP
  go_enter Try.func49, Try.ntmps49
  go_wp2
  obtain ⟨W2, hW2⟩ : ∃ W2, W2 = (w.alloc (.cells #[.int .i64 pv, .slice fo fs.length fc, .slice qo ps.length qc] 25)).alloc (.cells #[.int .i64 0, .slice none 0 0, .slice none 0 0] 25) := ⟨_, rfl⟩
  have hE2 : Ext w W2 := by rw [hW2]; exact Cw_ext w pv _ _
  have HS2 : Hid (W2.heap.size = w.heap.size + 1 + 1) := by show _ = _; rw [hW2]; exact Cw_size w pv _ _
  have HCB : Hid (∀ W, Below (w.heap.size + 1 + 1) W2 W → CB W w.heap.size pv (.slice fo fs.length fc) (.slice qo ps.length qc)) := fun W hW => CB.of (w := w) (by show Below _ _ _; rw [Cw_size]; rw [hW2] at hW; exact hW)
  rw [← hW2]
  clear hW2
  go_loopw [14] (fun iv wr => ∃ (k : Nat) (fv : Value) (FV : List Value), k ≤ fs.length ∧ iv = .int .i64 k ∧ Hid (PSt (w.heap.size + 1 + 1) W2 wr (.int .i64 pv) fv (.slice none 0 0) k 0 FV [] (fs.take k) [])) (fun iv _ => fs.length - (intOf iv).toNat)
  case atStart => exact ⟨0, .slice none 0 0, [], Nat.zero_le _, rfl, pst_start HS2.out _⟩
  case round =>
    obtain ⟨k, fv, FV, hk, rfl, HPS⟩ := hrel
    have hEr : Ext w wr := Below.trans hE2 (HPS.out.bel.mono (by omega))
    obtain ⟨b0, b1, b2, r0, r1, r2, rz, hbs⟩ := (HCB.out _ HPS.out.bel).all
    have hPl := HPS.out.row.lt
    by_cases hlt : k < fs.length
    · obtain ⟨b, off, vo, vc, no, nc, a, t, X, Y, rfl, hb, hg, c0, c1, c2, c3, ⟨_, _, e1, hv, hvc⟩, ⟨_, _, e2, hn, hnc⟩⟩ := (hf.ext hEr).get (k := k) (by omega)
      cases e1
      cases e2
      have hsm := HOK.out.sm _ (mem_fl hlt)
      rw [hg] at hsm
      have HG := hidp hg
      have i1 : (k : Int) < (fs.length : Int) := by omega
      clear hg
      obtain ⟨hX, hY⟩ := hsm
      simp only at hX hY
      have q1 : wr.cell? ⟨w.heap.size + 1 + 1, 1, none⟩ = some fv := HPS.out.row.cell (i := 1) (by omega)
      have HB : Hid (∀ W, Ext (wr.alloc (.cells #[.int .i64 a, .int .i64 t, .slice vo X.length vc, .slice no Y.length nc] 91)) W → W.cell? ⟨w.heap.size + 1 + 1, 1, none⟩ = some fv ∧ W.cell? ⟨wr.heap.size, 0, none⟩ = some (.int .i64 a) ∧ W.cell? ⟨wr.heap.size, 1, none⟩ = some (.int .i64 t) ∧ W.cell? ⟨wr.heap.size, 2, none⟩ = some (.slice vo X.length vc) ∧ W.cell? ⟨wr.heap.size, 3, none⟩ = some (.slice no Y.length nc)) := fun W h => by
        have l0 : wr.heap.size < (wr.alloc (.cells #[.int .i64 a, .int .i64 t, .slice vo X.length vc, .slice no Y.length nc] 91)).heap.size := by simp
        have l1 : w.heap.size + 1 + 1 < (wr.alloc (.cells #[.int .i64 a, .int .i64 t, .slice vo X.length vc, .slice no Y.length nc] 91)).heap.size := by simp; omega
        exact ⟨(h.cells.1 _ _ l1).trans ((World.cell?_alloc_past _ _ _ hPl).trans q1), (h.cells.1 _ _ l0).trans (by simp), (h.cells.1 _ _ l0).trans (by simp), (h.cells.1 _ _ l0).trans (by simp), (h.cells.1 _ _ l0).trans (by simp)⟩
      go_wp2
      obtain ⟨w5, hw5⟩ : ∃ w5, w5 = wr.alloc (.cells #[.int .i64 a, .int .i64 t, .slice vo X.length vc, .slice no Y.length nc] 91) := ⟨_, rfl⟩
      have E5 : Ext wr w5 := by rw [hw5]; exact (Ext.refl wr).alloc _
      rw [← hw5] at HB ⊢
      clear hw5 c0 c1 c2 c3 b0 b1 b2 r0 r1 r2 rz q1
      have HPS5 := hidp (HPS.out.ext E5)
      have l5 := HPS5.out.row.lt
      obtain ⟨q1, f0, f1, f2, f3⟩ := HB.out w5 (Ext.refl w5)
      have l50 : wr.heap.size ≤ w5.heap.size := E5.size
      go_region_law
        (first
        | (have _t := mk6
           refine step_append_lies _ ?_ (.tmp 19) (.tmp 22) 22 ?_ (w.heap.size + 1 + 1 + 1) 91 i0 (.agg #[.int .i64 0, .int .i64 0, .slice none 0 0, .slice none 0 0]) 4 64 Try.underlying22 hi0 hz00 hz01 hz02 rfl (by decide) fv k FV ?_ ?_ ⟨w6.heap.size, 0, none⟩ 1 1 [.int .i64 a, .int .i64 t, .slice vo' X.length vc', .slice no' Y.length nc'] ?_ ?_ ?_ (one4s _ _ _ _ _ _ _ _) ?_ ?_ ?_ ?_ _ rfl ?_
           · rfl
           · rfl
           · rfl
           · with_reducible exact (HPS5.out.ext mk6).ownF.alloc _
           · rfl
           · rfl
           · exact World.news_of_block (cs := #[.int .i64 a, .int .i64 t, .slice vo' X.length vc', .slice no' Y.length nc']) (blk_alloc_new w6 _)
           · omega
           · unfold maxLen; omega
           · omega
           · have := mk6.size; simp; omega
           intro g7 gc7 w7 hown7 hgr7 hat7 hlt7
           have H7 := hidp (copy7 (f := ⟨a, t, X, Y⟩) (HPS5.out.ext mk6) (HPS5.out.fresh hv6) (HPS5.out.fresh hn6) hown7 hgr7 (hat7.imp id (fun h => by simpa using h)))
           have q7 := H7.out.1
           have q7z := H7.out.2.1
           clear hown7 hgr7 hat7)
        | (go_simp
           go_at_call 47
           refine (copyOf_any ⟨a, t, X, Y⟩ vo no vc nc _ (hv.ext E5.drew) hX (hn.ext E5.drew) hY).mono ?_
           rintro e w6 ⟨v', n', rfl, hv6, hn6, E6⟩
           have mk6 : Ext w5 w6 := (Ext.refl w5).drew.trans E6
           obtain ⟨r0, r1, r2, r3, r4⟩ := HB.out w6 mk6
           have l6 : w.heap.size + 1 + 1 < w6.heap.size := Nat.lt_of_lt_of_le l5 mk6.size
           obtain ⟨vo', vc', rfl, hv6'⟩ := hv6
           obtain ⟨no', nc', rfl, hn6'⟩ := hn6
           have hv6 : FN w5.heap.size w6 X (.slice vo' X.length vc') := ⟨_, _, rfl, hv6'⟩
           have hn6 : FN w5.heap.size w6 Y (.slice no' Y.length nc') := ⟨_, _, rfl, hn6'⟩
           clear hv6' hn6' E6))
      all_goals
        clear q1 f0 f1 f2 f3
        go_wp2
        go_roundw
        case rel =>
          have ef : fs.take (k + 1) = fs.take k ++ [⟨a, t, X, Y⟩] := by rw [take_fl (by omega), HG.out]
          have hq := H7.out.2.2
          rw [← ef] at hq
          exact ⟨k + 1, _, _, by omega, by go_num, hq⟩
        case measure => simp [intOf]; omega
    · have hkl : k = fs.length := by omega
      have HPS0 : Hid (PSt (w.heap.size + 1 + 1) W2 wr (.int .i64 pv) fv (.slice none 0 0) fs.length 0 FV [] fs ([] : List (List Int))) := by
        have := HPS.out
        rw [hkl, List.take_of_length_le (Nat.le_refl _)] at this
        exact this
      have HKL := hidp hkl
      have i1 : ¬ (k : Int) < (fs.length : Int) := by omega
      clear HPS hkl
      go_wp2
      clear b0 b1 b2 r0 r1 r2 rz
      go_loopw [29] (fun iv wx => ∃ (m : Nat) (qv : Value) (V : List Value), m ≤ ps.length ∧ iv = .int .i64 m ∧ Hid (PSt (w.heap.size + 1 + 1) W2 wx (.int .i64 pv) fv qv fs.length m FV V fs (ps.take m))) (fun iv _ => ps.length - (intOf iv).toNat)
      case atStart => exact ⟨0, .slice none 0 0, [], Nat.zero_le _, rfl, by rw [List.take_zero]; exact HPS0⟩
      case round =>
        clear HPS0
        obtain ⟨m, qv, V, hm, rfl, HPS⟩ := hrel
        have hEr : Ext w wr := Below.trans hE2 (HPS.out.bel.mono (by omega))
        obtain ⟨b0, b1, b2, r0, r1, r2, rz, hbs⟩ := (HCB.out _ HPS.out.bel).all
        have hPl := HPS.out.row.lt
        by_cases hlt : m < ps.length
        · rcases hq.ext hEr with h0 | ⟨g1, o1, rfl, hg1, hc1⟩
          · exfalso; rw [h0] at hlt; simp at hlt
          obtain ⟨v1, d1, x1, y1, rfl, l1, _⟩ := hc1 m hlt
          have hxl : (ps.getD m []).length ≤ 16777216 := Nat.le_trans getD_sum HOK.out.tt
          obtain ⟨x, hx⟩ : ∃ x, x = ps.getD m [] := ⟨_, rfl⟩
          rw [← hx] at d1 l1 hxl
          have HX := hidp hx
          have i1 : (m : Int) < (ps.length : Int) := by omega
          clear hx hc1
          have q2 : wr.cell? ⟨w.heap.size + 1 + 1, 2, none⟩ = some qv := HPS.out.row.cell (i := 2) (by omega)
          have HB : Hid (∀ W, Ext wr W → W.cell? ⟨w.heap.size + 1 + 1, 2, none⟩ = some qv) := fun W h => (h.cells.1 _ _ hPl).trans q2
          clear b0 b1 b2 r0 r1 r2 rz
          go_wp2
          go_region_law
            (first
            | (have _t := mk6
               refine step_append_lies _ ?_ (.tmp 34) (.tmp 37) 23 ?_ (w.heap.size + 1 + 1 + 1) 105 j0 (.slice none 0 0) 1 24 Try.underlying23 hj0 hy0 hy1 hy2 rfl (by decide) qv m V ?_ ?_ ⟨w6.heap.size, 0, none⟩ 1 1 [.slice vo' x.length vc'] ?_ ?_ ?_ (one1s _ _ _) ?_ ?_ ?_ ?_ _ rfl ?_
               · rfl
               · rfl
               · rfl
               · with_reducible exact (HPS.out.ext mk6).ownQ.alloc _
               · rfl
               · rfl
               · exact World.news_of_block (cs := #[.slice vo' x.length vc']) (blk_alloc_new w6 _)
               · omega
               · unfold maxLen; omega
               · omega
               · have := mk6.size; simp; omega
               intro g7 gc7 w7 hown7 hgr7 hat7 hlt7
               have H7 := hidp (copy9 (HPS.out.ext mk6) (HPS.out.fresh hv6) hown7 hgr7 (hat7.imp id (fun h => by simpa using h)))
               have q7 := H7.out.1
               have q7z := H7.out.2.1
               clear hown7 hgr7 hat7)
            | (go_simp
               go_at_call 63
               refine (clonePt_any x1 y1 x _ (by omega) (l1.ext (Ext.refl wr).drew)).mono ?_
               rintro e w6 ⟨v', rfl, hv6, E6⟩
               have mk6 : Ext wr w6 := (Ext.refl wr).drew.trans E6
               have r0 := HB.out w6 mk6
               have l6 : w.heap.size + 1 + 1 < w6.heap.size := Nat.lt_of_lt_of_le hPl mk6.size
               obtain ⟨vo', vc', rfl, hv6'⟩ := hv6
               have hv6 : FN wr.heap.size w6 x (.slice vo' x.length vc') := ⟨_, _, rfl, hv6'⟩
               clear hv6' E6))
          all_goals
            clear q2
            go_wp2
            go_roundw
            case rel =>
              have ef : ps.take (m + 1) = ps.take m ++ [x] := by rw [take_pt (by omega), HX.out]
              have hq := H7.out.2.2
              rw [← ef] at hq
              exact ⟨m + 1, _, _, by omega, by go_num, hq⟩
            case measure => simp [intOf]; omega
        · have hkl : m = ps.length := by omega
          have i1 : ¬ (m : Int) < (ps.length : Int) := by omega
          have HPSm : Hid (PSt (w.heap.size + 1 + 1) W2 wr (.int .i64 pv) fv qv fs.length ps.length FV V fs ps) := by
            have := HPS.out
            rw [hkl, List.take_of_length_le (Nat.le_refl _)] at this
            exact this
          obtain ⟨fo', fc', qo', qc', rfl, rfl, hfa⟩ := HPSm.out.fin3
          have HT := hidp hfa
          have q0 : wr.cell? ⟨w.heap.size + 1 + 1, 0, none⟩ = some (.int .i64 pv) := HPSm.out.row.cell (i := 0) (by omega)
          have q1 : wr.cell? ⟨w.heap.size + 1 + 1, 1, none⟩ = some (.slice fo' fs.length fc') := HPSm.out.row.cell (i := 1) (by omega)
          have q2 : wr.cell? ⟨w.heap.size + 1 + 1, 2, none⟩ = some (.slice qo' ps.length qc') := HPSm.out.row.cell (i := 2) (by omega)
          have z0 := rz 0
          have z1 := rz 1
          have z2 := rz 2
          clear hfa HPS HPSm hkl HKL b0 b1 b2 rz
          go_wp2
          refine bodyPost_ret (v := .agg #[.int .i64 pv, .slice fo' fs.length fc', .slice qo' ps.length qc']) (by simp [results, Try.results49, go_sem, r0, r1, r2]) rfl ?_
          exact ⟨⟨fo', qo', fc', qc'⟩, rfl, fun U hs hU => (fun x => ⟨x.1, x.2⟩) (HT.out U (by simpa using hs) (fun b hb hlt => by rw [hU b (by omega) (by simpa using hlt), blk_setCell_other _ _ _ _ (by simp; omega), blk_setCell_other _ _ _ _ (by simp; omega), blk_setCell_other _ _ _ _ (by simp; omega)])), ((hEr.setCell (by simp) _).setCell (by simp) _).setCell (by simp) _⟩

end Go.Proofs.Ytgffkjjddhlbpaa.Ct

/- What changeOf makes: a change that shares no memory with the control that was handed in. -/
namespace Go.Proofs.Ytgffkjjddhlbpaa.Ct
open Go.RowKit Go.Deep Stw Stp Tb Rul

theorem cloneOwn_any (o : Option Addr) (c : Nat) (ps : List Int) (w : World) (hb : ps.length * 8 ≤ 140737488351232) (hp : ListAt w o ps) :
    Calls Try.prog 50 #[.slice o ps.length c] w fun e w' => ∃ v', e = .returned v' ∧ w'.ownsRow w.heap.size 3 1 v' ps.length (ps.map (Value.int .i64)) ∧ Ext w w' := by
  cases o with
  | none =>
    have he : ps = [] := by
      rcases hp with h | ⟨b, off, h, _⟩
      · exact h
      · cases h
    refine (cloneInts_nil ps.length c w).mono ?_
    rintro e w' ⟨rfl, rfl⟩
    refine ⟨_, rfl, ?_, Ext.refl _⟩
    rw [he]
    exact World.ownsRow_nil _ _ _ _
  | some ad =>
    refine (cloneInts_some ad ps.length c ps w rfl hb (fun j u hj => ?_)).mono ?_
    · have hjn : j < ps.length := by have := (List.getElem?_eq_some_iff.1 hj).1; simpa using this
      rcases hp with rfl | ⟨b, off, h, hlt, hat⟩
      · simp at hjn
      · cases h
        rw [Addr.add_mid, World.cell?_alloc_past _ _ _ hlt, hat j hjn]
        rw [List.getElem?_map, List.getElem?_eq_getElem hjn] at hj
        simp at hj
        rw [← hj]
        simp [List.getD_eq_getElem?_getD, hjn]
    · rintro e w' ⟨v', rfl, hown, hE⟩
      exact ⟨v', rfl, hown, hE⟩

/-- A control's box. -/
def coL (c : Co) (a : CA) : List Value := [.int .i64 c.st, .int .i64 c.now.v, .slice a.n.fo c.now.fs.length a.n.fc, .slice a.n.qo c.now.ps.length a.n.qc, .int .i64 c.nxt.v, .slice a.x.fo c.nxt.fs.length a.x.fc, .slice a.x.qo c.nxt.ps.length a.x.qc, .int .i64 c.num, .slice a.wo c.wts.length a.wc]
abbrev BX (V : World) (b : Nat) (l : List Value) : Prop := V.rowIs b 28 9 (fun j => l.getD j vd)
theorem BX.set {b i : Nat} {w : World} {l : List Value} (h : BX w b l) (hi : i < l.length) (v : Value) : BX (w.setCell ⟨b, i, none⟩ v) b (l.set i v) :=
  (World.rowIs.set h i v).congr (fun j _ => getD_put hi j)
theorem box_row {W : World} {b : Nat} {T : TypeId} (h : W.heap.size = b) (x0 x1 x2 x3 x4 x5 x6 x7 x8 : Value) : (W.alloc (.cells #[x0, x1, x2, x3, x4, x5, x6, x7, x8] T)).rowIs b T 9 (fun j => [x0, x1, x2, x3, x4, x5, x6, x7, x8].getD j vd) := by
  subst h
  exact World.rowIs_alloc W #[x0, x1, x2, x3, x4, x5, x6, x7, x8] T _ (fun i hi => by
    have hi' : i < 9 := hi
    match i, hi' with
    | 0, _ | 1, _ | 2, _ | 3, _ | 4, _ | 5, _ | 6, _ | 7, _ | 8, _ => simp)
theorem chg_row {W : World} {b : Nat} {T : TypeId} (h : W.heap.size = b) (x0 x1 x2 x3 x4 x5 x6 x7 x8 x9 x10 : Value) : (W.alloc (.cells #[x0, x1, x2, x3, x4, x5, x6, x7, x8, x9, x10] T)).rowIs b T 11 (fun j => [x0, x1, x2, x3, x4, x5, x6, x7, x8, x9, x10].getD j vd) := by
  subst h
  exact World.rowIs_alloc W #[x0, x1, x2, x3, x4, x5, x6, x7, x8, x9, x10] T _ (fun i hi => by
    have hi' : i < 11 := hi
    match i, hi' with
    | 0, _ | 1, _ | 2, _ | 3, _ | 4, _ | 5, _ | 6, _ | 7, _ | 8, _ | 9, _ | 10, _ => simp)
theorem setCell_block {a b : World} {k : Nat} (p : Addr) (u : Value) (h : b.heap[k]? = a.heap[k]?) : (b.setCell p u).heap[k]? = (a.setCell p u).heap[k]? := by
  unfold World.setCell
  simp only [Array.getElem?_modify, h]
theorem ext_set {a b : World} (h : Ext a b) (p : Addr) (u : Value) : Ext (a.setCell p u) (b.setCell p u) :=
  ⟨(show b.os = a.os from Below.os h), (show b.tape = a.tape from Below.tape h), (show b.output = a.output from Below.output h), by simpa using Below.size h, fun k hk => setCell_block p u (Below.block h k (by simpa using hk))⟩

/-- Behind changeOf. -/
def ChOut (w : World) (c : Co) (n : Nat) (e : Ending) (w' : World) : Prop := ∃ P w0 a' wv, e = .returned (.pointer (some ⟨P, 0, none⟩)) ∧ CSt w.heap.size (fun _ => True) P w0 w' ⟨c, []⟩ a' n wv (.slice none 0 0) [] ∧ Ext w w0

set_option maxRecDepth 100000 in
set_option maxHeartbeats 4000000 in
theorem changeOf_any (c : Co) (a : CA) (n : Nat) (ao : Option Addr) (len cap : Nat) (w : World) (h : CoAt w c a) (hok : CoOk c) :
    Calls Try.prog 23 #[cvl c a, .agg #[.int .i64 n, .slice ao len cap]] w fun e w' => ChOut w c n e w' := by
  obtain ⟨st, now, nxt, num, wts⟩ := c
  obtain ⟨an, ax, wo, wc⟩ := a
  obtain ⟨hn, hx, hw⟩ := h
  simp only at hn hx hw
  obtain ⟨hnk, hxk, hwl⟩ := hok
  simp only at hnk hxk hwl
  unfold cvl
  simp only
  go_enter Try.func23, Try.ntmps23
  go_wp2_with fail
  obtain ⟨W1, hW1⟩ : ∃ W1, W1 = (w.alloc (.cells #[.int .i64 st, .int .i64 now.v, .slice an.fo now.fs.length an.fc, .slice an.qo now.ps.length an.qc, .int .i64 nxt.v, .slice ax.fo nxt.fs.length ax.fc, .slice ax.qo nxt.ps.length ax.qc, .int .i64 num, .slice wo wts.length wc] 28)).alloc (.cells #[.int .i64 n, .slice ao len cap] 31) := ⟨_, rfl⟩
  have E1 : Ext w W1 := by rw [hW1]; exact ((Ext.refl w).alloc _).alloc _
  have b1 : BX W1 w.heap.size (coL ⟨st, now, nxt, num, wts⟩ ⟨an, ax, wo, wc⟩) := by rw [hW1]; exact (box_row rfl _ _ _ _ _ _ _ _ _).alloc _
  have t1 : W1.cell? ⟨w.heap.size + 1, 0, none⟩ = some (.int .i64 n) := by rw [hW1]; simp
  have s1 : W1.heap.size = w.heap.size + 1 + 1 := by rw [hW1]; simp
  rw [← hW1]
  have HB1 := hidp b1
  have HT1 := hidp t1
  have HS1 := hidp s1
  clear hW1 b1 t1 s1
  refine (Copy_any now an W1 (hn.ext E1) hnk).mono ?_
  rintro e w2 ⟨a1, he, hN1, E2⟩
  have he' : e = .returned (.agg #[.int .i64 now.v, .slice a1.fo now.fs.length a1.fc, .slice a1.qo now.ps.length a1.qc]) := he
  subst he'
  have HN1 := hidp hN1
  have hl2 : w.heap.size < w2.heap.size := by have := HS1.out; have := E2.size; omega
  have hl2' : w.heap.size + 1 < w2.heap.size := by have := HS1.out; have := E2.size; omega
  have HB2 : Hid (BX w2 w.heap.size (coL ⟨st, now, nxt, num, wts⟩ ⟨an, ax, wo, wc⟩)) := World.rowIs.of_block HB1.out (Below.block E2 _ (World.rowIs.lt HB1.out))
  have c1 : w2.cell? ⟨w.heap.size, 1, none⟩ = some (.int .i64 now.v) := World.rowIs.cell HB2.out (i := 1) (by omega)
  have c2 : w2.cell? ⟨w.heap.size, 2, none⟩ = some (.slice an.fo now.fs.length an.fc) := World.rowIs.cell HB2.out (i := 2) (by omega)
  have c3 : w2.cell? ⟨w.heap.size, 3, none⟩ = some (.slice an.qo now.ps.length an.qc) := World.rowIs.cell HB2.out (i := 3) (by omega)
  have c4 : w2.cell? ⟨w.heap.size, 4, none⟩ = some (.int .i64 nxt.v) := World.rowIs.cell HB2.out (i := 4) (by omega)
  have c5 : w2.cell? ⟨w.heap.size, 5, none⟩ = some (.slice ax.fo nxt.fs.length ax.fc) := World.rowIs.cell HB2.out (i := 5) (by omega)
  have c6 : w2.cell? ⟨w.heap.size, 6, none⟩ = some (.slice ax.qo nxt.ps.length ax.qc) := World.rowIs.cell HB2.out (i := 6) (by omega)
  have z1 := World.rowIs.frozen HB2.out 1
  have z2 := World.rowIs.frozen HB2.out 2
  have z3 := World.rowIs.frozen HB2.out 3
  clear he hN1
  go_wp2_with fail
  obtain ⟨W3, hW3⟩ : ∃ W3, W3 = ((w2.setCell ⟨w.heap.size, 1, none⟩ (.int .i64 now.v)).setCell ⟨w.heap.size, 2, none⟩ (.slice a1.fo now.fs.length a1.fc)).setCell ⟨w.heap.size, 3, none⟩ (.slice a1.qo now.ps.length a1.qc) := ⟨_, rfl⟩
  have E3 : Ext w W3 := by rw [hW3]; exact (((E1.trans E2).setCell (Nat.le_refl _) _).setCell (Nat.le_refl _) _).setCell (Nat.le_refl _) _
  have HB3 : Hid (BX W3 w.heap.size (coL ⟨st, now, nxt, num, wts⟩ ⟨a1, ax, wo, wc⟩)) := by rw [hW3]; exact BX.set (BX.set (BX.set HB2.out (i := 1) (by simp [coL]) _) (i := 2) (by simp [coL]) _) (i := 3) (by simp [coL]) _
  have HK3 : Hid (W3.heap.size = w2.heap.size ∧ ∀ b, b ≠ w.heap.size → W3.heap[b]? = w2.heap[b]?) := by
    refine ⟨by rw [hW3]; simp, fun b hb => ?_⟩
    rw [hW3, blk_setCell_other _ _ _ _ hb, blk_setCell_other _ _ _ _ hb, blk_setCell_other _ _ _ _ hb]
  rw [← hW3]
  clear hW3 HB1 HB2 c1 c2 c3 c4 c5 c6 z1 z2 z3
  refine Calls.mono (Copy_any nxt ax W3 (hx.ext E3) hxk) ?_
  rintro e w4 ⟨a2, he, hN2, E4⟩
  have he' : e = .returned (.agg #[.int .i64 nxt.v, .slice a2.fo nxt.fs.length a2.fc, .slice a2.qo nxt.ps.length a2.qc]) := he
  subst he'
  have HN2 := hidp hN2
  have hl4 : w.heap.size < w4.heap.size := by have := HK3.out.1; have := E4.size; omega
  have hl4' : w.heap.size + 1 < w4.heap.size := by have := HK3.out.1; have := E4.size; omega
  have HB4 : Hid (BX w4 w.heap.size (coL ⟨st, now, nxt, num, wts⟩ ⟨a1, ax, wo, wc⟩)) := World.rowIs.of_block HB3.out (Below.block E4 _ (World.rowIs.lt HB3.out))
  have c4 : w4.cell? ⟨w.heap.size, 4, none⟩ = some (.int .i64 nxt.v) := World.rowIs.cell HB4.out (i := 4) (by omega)
  have c5 : w4.cell? ⟨w.heap.size, 5, none⟩ = some (.slice ax.fo nxt.fs.length ax.fc) := World.rowIs.cell HB4.out (i := 5) (by omega)
  have c6 : w4.cell? ⟨w.heap.size, 6, none⟩ = some (.slice ax.qo nxt.ps.length ax.qc) := World.rowIs.cell HB4.out (i := 6) (by omega)
  have c8 : w4.cell? ⟨w.heap.size, 8, none⟩ = some (.slice wo wts.length wc) := World.rowIs.cell HB4.out (i := 8) (by omega)
  have z4 := World.rowIs.frozen HB4.out 4
  have z5 := World.rowIs.frozen HB4.out 5
  have z6 := World.rowIs.frozen HB4.out 6
  clear he hN2
  go_wp2_with fail
  obtain ⟨W5, hW5⟩ : ∃ W5, W5 = ((w4.setCell ⟨w.heap.size, 4, none⟩ (.int .i64 nxt.v)).setCell ⟨w.heap.size, 5, none⟩ (.slice a2.fo nxt.fs.length a2.fc)).setCell ⟨w.heap.size, 6, none⟩ (.slice a2.qo nxt.ps.length a2.qc) := ⟨_, rfl⟩
  have E5 : Ext w W5 := by rw [hW5]; exact (((E3.trans E4).setCell (Nat.le_refl _) _).setCell (Nat.le_refl _) _).setCell (Nat.le_refl _) _
  have HB5 : Hid (BX W5 w.heap.size (coL ⟨st, now, nxt, num, wts⟩ ⟨a1, a2, wo, wc⟩)) := by rw [hW5]; exact BX.set (BX.set (BX.set HB4.out (i := 4) (by simp [coL]) _) (i := 5) (by simp [coL]) _) (i := 6) (by simp [coL]) _
  have HK5 : Hid (W5.heap.size = w4.heap.size ∧ ∀ b, b ≠ w.heap.size → W5.heap[b]? = w4.heap[b]?) := by
    refine ⟨by rw [hW5]; simp, fun b hb => ?_⟩
    rw [hW5, blk_setCell_other _ _ _ _ hb, blk_setCell_other _ _ _ _ hb, blk_setCell_other _ _ _ _ hb]
  rw [← hW5]
  clear hW5 HB3 HB4 c4 c5 c6 c8 z4 z5 z6
  refine Calls.mono (cloneOwn_any wo wc wts W5 (by omega) (hw.ext E5)) ?_
  rintro e w6 ⟨wv, rfl, hown, E6⟩
  obtain ⟨vo, vc, hwv, _⟩ := fn_own hown
  subst hwv
  have HOW := hidp hown
  have hl6 : w.heap.size < w6.heap.size := by have := HK5.out.1; have := E6.size; omega
  have hl6' : w.heap.size + 1 < w6.heap.size := by have := HK5.out.1; have := E6.size; omega
  have HB6 : Hid (BX w6 w.heap.size (coL ⟨st, now, nxt, num, wts⟩ ⟨a1, a2, wo, wc⟩)) := World.rowIs.of_block HB5.out (Below.block E6 _ (World.rowIs.lt HB5.out))
  have t6 : w6.cell? ⟨w.heap.size + 1, 0, none⟩ = some (.int .i64 n) := by
    have hne : w.heap.size + 1 ≠ w.heap.size := by omega
    have s1 := HS1.out
    have q1 := Below.block E2 (w.heap.size + 1) (by omega)
    have q2 := HK3.out.2 _ hne
    have q3 := Below.block E4 (w.heap.size + 1) (by have := HK3.out.1; omega)
    have q4 := HK5.out.2 _ hne
    have q5 := Below.block E6 (w.heap.size + 1) (by have := HK5.out.1; omega)
    exact (World.cell?_of_block (a := ⟨w.heap.size + 1, 0, none⟩) (q5.trans (q4.trans (q3.trans (q2.trans q1))))).trans HT1.out
  have c0 : w6.cell? ⟨w.heap.size, 0, none⟩ = some (.int .i64 st) := World.rowIs.cell HB6.out (i := 0) (by omega)
  have c1 : w6.cell? ⟨w.heap.size, 1, none⟩ = some (.int .i64 now.v) := World.rowIs.cell HB6.out (i := 1) (by omega)
  have c2 : w6.cell? ⟨w.heap.size, 2, none⟩ = some (.slice a1.fo now.fs.length a1.fc) := World.rowIs.cell HB6.out (i := 2) (by omega)
  have c3 : w6.cell? ⟨w.heap.size, 3, none⟩ = some (.slice a1.qo now.ps.length a1.qc) := World.rowIs.cell HB6.out (i := 3) (by omega)
  have c4 : w6.cell? ⟨w.heap.size, 4, none⟩ = some (.int .i64 nxt.v) := World.rowIs.cell HB6.out (i := 4) (by omega)
  have c5 : w6.cell? ⟨w.heap.size, 5, none⟩ = some (.slice a2.fo nxt.fs.length a2.fc) := World.rowIs.cell HB6.out (i := 5) (by omega)
  have c6 : w6.cell? ⟨w.heap.size, 6, none⟩ = some (.slice a2.qo nxt.ps.length a2.qc) := World.rowIs.cell HB6.out (i := 6) (by omega)
  have c7 : w6.cell? ⟨w.heap.size, 7, none⟩ = some (.int .i64 num) := World.rowIs.cell HB6.out (i := 7) (by omega)
  have c8 : w6.cell? ⟨w.heap.size, 8, none⟩ = some (.slice wo wts.length wc) := World.rowIs.cell HB6.out (i := 8) (by omega)
  have z8 := World.rowIs.frozen HB6.out 8
  clear hown
  go_wp2
  go_ret
  have s1 := HS1.out
  have s3 := HK3.out
  have s5 := HK5.out
  have z2 := E2.size
  have z4' := E4.size
  have z6' := E6.size
  have hb8 : ∀ b', b' ≠ w.heap.size → (W5.setCell ⟨w.heap.size, 8, none⟩ (.slice vo wts.length vc)).heap[b']? = W5.heap[b']? := fun b' hb' => blk_setCell_other _ _ _ _ hb'
  refine ⟨w6.heap.size, W5.setCell ⟨w.heap.size, 8, none⟩ (.slice vo wts.length vc), ⟨a1, a2, vo, vc⟩, .slice vo wts.length vc, rfl, ⟨?_, ?_, World.ownsRow_nil _ _ _ _, fun e => ?_, fun b' _ e => ?_, trivial, (ext_set E6 _ _).alloc _, by simpa using z6', by simp; omega, ?_, ?_⟩, E5.setCell (Nat.le_refl _) _⟩
  · exact chg_row (by simp) _ _ _ _ _ _ _ _ _ _ _
  · have h1 := ownsRow_setCell_below HOW.out (a := ⟨w.heap.size, 8, none⟩) (by show w.heap.size < _; omega) (.slice vo wts.length vc)
    have h2 := h1.alloc (.cells #[.int .i64 st, .int .i64 now.v, .slice a1.fo now.fs.length a1.fc, .slice a1.qo now.ps.length a1.qc, .int .i64 nxt.v, .slice a2.fo nxt.fs.length a2.fc, .slice a2.qo nxt.ps.length a2.qc, .int .i64 num, .slice vo wts.length vc, .int .i64 n, .slice none 0 0] 71)
    rw [show (W5.setCell ⟨w.heap.size, 8, none⟩ (.slice vo wts.length vc)).heap.size = W5.heap.size by simp]
    exact h2
  · have := (HOW.out.lt _ e).2; omega
  · simp [Value.ownBlock] at e
  · intro V hV1 hV2
    refine HN1.out V (by simp at hV1; omega) (fun b' hb' hlt => ?_)
    rw [hV2 b' (by omega) (by simp; omega), hb8 b' (by omega), s5.2 b' (by omega), Below.block E4 b' (by omega), s3.2 b' (by omega)]
  · intro V hV1 hV2
    refine HN2.out V (by simp at hV1; omega) (fun b' hb' hlt => ?_)
    rw [hV2 b' (by omega) (by simp; omega), hb8 b' (by omega), s5.2 b' (by omega)]

end Go.Proofs.Ytgffkjjddhlbpaa.Ct

/- What Drop answers, for every control and every net. -/
namespace Go.Proofs.Ytgffkjjddhlbpaa.Ct
open Go.RowKit Go.Deep Stw Stp Tb Rul

/-- An answer, by its letters. -/
def LtOut (B : Nat) (w0 : World) (G : Cg) (k : Int) (e : Ending) (w' : World) : Prop := ∃ (k0 k1 : Int) (o2 : Option Addr) (l2 q2 : Nat) (o3 : Option Addr) (l3 q3 : Nat) (k4 : Int) (o5 : Option Addr) (l5 q5 : Nat) (o6 : Option Addr) (l6 q6 : Nat) (k7 : Int) (o8 : Option Addr) (l8 q8 : Nat) (tO : Option Addr) (l9 tc : Nat),
  e = .returned (.tuple #[.agg #[.int .i64 k0, .int .i64 k1, .slice o2 l2 q2, .slice o3 l3 q3, .int .i64 k4, .slice o5 l5 q5, .slice o6 l6 q6, .int .i64 k7, .slice o8 l8 q8], .slice tO l9 tc, .int .i64 k]) ∧ Ext w0 w' ∧
  Hid (∃ a', Value.agg #[.int .i64 k0, .int .i64 k1, .slice o2 l2 q2, .slice o3 l3 q3, .int .i64 k4, .slice o5 l5 q5, .slice o6 l6 q6, .int .i64 k7, .slice o8 l8 q8] = cvl G.c a' ∧ l9 = G.out.length ∧ ∀ U : World, w'.heap.size ≤ U.heap.size → (∀ b, B ≤ b → b < w'.heap.size → U.heap[b]? = w'.heap[b]?) → CoAt U G.c a' ∧ TosAt U tO G.out)
theorem GoOut.letters {B : Nat} {w0 w' : World} {G : Cg} {k : Int} {e : Ending} (h : GoOut B w0 G k e w') : LtOut B w0 G k e w' := by
  obtain ⟨a', tO, tc, h1, h2, h3⟩ := h
  exact ⟨_, _, _, _, _, _, _, _, _, _, _, _, _, _, _, _, _, _, _, _, _, _, h1, h3, a', rfl, rfl, h2.out⟩
/-- The answer is written into its block. -/
theorem go_fin {B R : Nat} {w V : World} {G : Cg} {k k0 k1 k4 k7 : Int} {o2 o3 o5 o6 o8 tO : Option Addr} {l2 q2 l3 q3 l5 q5 l6 q6 l8 q8 l9 tc : Nat}
    (h : ∃ a', Value.agg #[.int .i64 k0, .int .i64 k1, .slice o2 l2 q2, .slice o3 l3 q3, .int .i64 k4, .slice o5 l5 q5, .slice o6 l6 q6, .int .i64 k7, .slice o8 l8 q8] = cvl G.c a' ∧ l9 = G.out.length ∧ ∀ U : World, V.heap.size ≤ U.heap.size → (∀ b, B ≤ b → b < V.heap.size → U.heap[b]? = V.heap[b]?) → CoAt U G.c a' ∧ TosAt U tO G.out)
    (hRB : R < B) (hwR : w.heap.size ≤ R) (E : Ext w V) (x0 x1 x2 x3 x4 x5 x6 x7 x8 : Value) :
    GoOut w.heap.size w G k (.returned (.tuple #[.agg #[.int .i64 k0, .int .i64 k1, .slice o2 l2 q2, .slice o3 l3 q3, .int .i64 k4, .slice o5 l5 q5, .slice o6 l6 q6, .int .i64 k7, .slice o8 l8 q8], .slice tO l9 tc, .int .i64 k])) (W9 V R x0 x1 x2 x3 x4 x5 x6 x7 x8) := by
  obtain ⟨a', e1, e2, h3⟩ := h
  have hs : (W9 V R x0 x1 x2 x3 x4 x5 x6 x7 x8).heap.size = V.heap.size := W9_size0
  refine ⟨a', tO, tc, by rw [e1, e2], fun U hU hb => h3 U (by omega) (fun b h1 h2 => (hb b (by omega) (by omega)).trans (W9_block0 b (by omega))), W9_ext0 E hwR⟩
/-- The blocks in which Ask, Back and Drop begin: the control, the net, the answer. -/
structure AB (W : World) (b : Nat) (c : Co) (a : CA) (n : Int) (nv : Value) : Prop where
  box : BX W b (coL c a)
  n0 : W.cell? ⟨b + 1, 0, none⟩ = some (.int .i64 n)
  n1 : W.cell? ⟨b + 1, 1, none⟩ = some nv
  ans : W.heap[b + 1 + 1]? = some (.cells #[.int .i64 0, .int .i64 0, .slice none 0 0, .slice none 0 0, .int .i64 0, .slice none 0 0, .slice none 0 0, .int .i64 0, .slice none 0 0] 28 (0, 0))
theorem AB.ext {W V : World} {b : Nat} {c : Co} {a : CA} {n : Int} {nv : Value} (h : AB W b c a n nv) (E : Ext W V) : AB V b c a n nv := by
  have hl : b + 1 + 1 < W.heap.size := (Array.getElem?_eq_some_iff.1 h.ans).1
  exact ⟨World.rowIs.of_block h.box (Below.block E _ (by omega)), (E.cells.1 _ _ (by omega)).trans h.n0, (E.cells.1 _ _ (by omega)).trans h.n1, (Below.block E _ hl).trans h.ans⟩
theorem AB.lt {W : World} {b : Nat} {c : Co} {a : CA} {n : Int} {nv : Value} (h : AB W b c a n nv) : b + 1 + 1 < W.heap.size := (Array.getElem?_eq_some_iff.1 h.ans).1
theorem AB.zeros {W : World} {b : Nat} {c : Co} {a : CA} {n : Int} {nv : Value} (h : AB W b c a n nv) : W.cell? ⟨b + 1 + 1, 0, none⟩ = some (.int .i64 0) ∧ W.cell? ⟨b + 1 + 1, 1, none⟩ = some (.int .i64 0) ∧ W.cell? ⟨b + 1 + 1, 2, none⟩ = some (.slice none 0 0) ∧ W.cell? ⟨b + 1 + 1, 3, none⟩ = some (.slice none 0 0) ∧ W.cell? ⟨b + 1 + 1, 4, none⟩ = some (.int .i64 0) ∧ W.cell? ⟨b + 1 + 1, 5, none⟩ = some (.slice none 0 0) ∧ W.cell? ⟨b + 1 + 1, 6, none⟩ = some (.slice none 0 0) ∧ W.cell? ⟨b + 1 + 1, 7, none⟩ = some (.int .i64 0) ∧ W.cell? ⟨b + 1 + 1, 8, none⟩ = some (.slice none 0 0) :=
  ⟨box_cell h.ans 0, box_cell h.ans 1, box_cell h.ans 2, box_cell h.ans 3, box_cell h.ans 4, box_cell h.ans 5, box_cell h.ans 6, box_cell h.ans 7, box_cell h.ans 8⟩
def Aw (w : World) (c : Co) (a : CA) (n : Int) (nv : Value) : World := ((w.alloc (.cells #[.int .i64 c.st, .int .i64 c.now.v, .slice a.n.fo c.now.fs.length a.n.fc, .slice a.n.qo c.now.ps.length a.n.qc, .int .i64 c.nxt.v, .slice a.x.fo c.nxt.fs.length a.x.fc, .slice a.x.qo c.nxt.ps.length a.x.qc, .int .i64 c.num, .slice a.wo c.wts.length a.wc] 28)).alloc (.cells #[.int .i64 n, nv] 31)).alloc (.cells #[.int .i64 0, .int .i64 0, .slice none 0 0, .slice none 0 0, .int .i64 0, .slice none 0 0, .slice none 0 0, .int .i64 0, .slice none 0 0] 28)
theorem Aw_ext (w : World) (c : Co) (a : CA) (n : Int) (nv : Value) : Ext w (Aw w c a n nv) := (((Ext.refl w).alloc _).alloc _).alloc _
theorem Aw_ab (w : World) (c : Co) (a : CA) (n : Int) (nv : Value) : AB (Aw w c a n nv) w.heap.size c a n nv := by
  refine ⟨((box_row rfl _ _ _ _ _ _ _ _ _).alloc _).alloc _, ?_, ?_, ?_⟩
  · unfold Aw; first | (simp; done) | (simp [go_sem]; done)
  · unfold Aw; first | (simp; done) | (simp [go_sem]; done)
  · unfold Aw
    have := blk_alloc_new ((w.alloc (.cells #[.int .i64 c.st, .int .i64 c.now.v, .slice a.n.fo c.now.fs.length a.n.fc, .slice a.n.qo c.now.ps.length a.n.qc, .int .i64 c.nxt.v, .slice a.x.fo c.nxt.fs.length a.x.fc, .slice a.x.qo c.nxt.ps.length a.x.qc, .int .i64 c.num, .slice a.wo c.wts.length a.wc] 28)).alloc (.cells #[.int .i64 n, nv] 31)) (.cells #[.int .i64 0, .int .i64 0, .slice none 0 0, .slice none 0 0, .int .i64 0, .slice none 0 0, .slice none 0 0, .int .i64 0, .slice none 0 0] 28)
    rw [World.size_alloc, World.size_alloc] at this
    exact this
/-- What is refused. -/
theorem go_none {w V : World} {R : Nat} {k : Int} (hwR : w.heap.size ≤ R) (E : Ext w V) (x0 x1 x2 x3 x4 x5 x6 x7 x8 : Value) : GoOut w.heap.size w ⟨co0, []⟩ k (.returned (.tuple #[.agg #[.int .i64 0, .int .i64 0, .slice none 0 0, .slice none 0 0, .int .i64 0, .slice none 0 0, .slice none 0 0, .int .i64 0, .slice none 0 0], .slice none 0 0, .int .i64 k])) (W9 V R x0 x1 x2 x3 x4 x5 x6 x7 x8) :=
  ⟨ca0, none, 0, rfl, fun U _ _ => ⟨CoAt.zero U, Or.inl rfl⟩, W9_ext0 E hwR⟩

set_option maxRecDepth 100000 in
set_option maxHeartbeats 4000000 in
theorem Drop_any (c : Co) (a : CA) (n : Int) (ao : Option Addr) (len cap : Nat) (ls : List Lk) (w : World) (h : CoAt w c a) (hok : CoOk c) (hlen : ls.length = len) (hl : NetAt w ao ls) (hx : len ≤ 9223372036854775807) :
    Calls Try.prog 14 #[cvl c a, .agg #[.int .i64 n, .slice ao len cap]] w fun e w' => GoOut w.heap.size w (dropS c n ls).1 (dropS c n ls).2 e w' := by
  have HA := hidp (Aw_ab w c a n (.slice ao len cap))
  have hE0 := Aw_ext w c a n (.slice ao len cap)
  unfold cvl
  go_enter Try.func14, Try.ntmps14
  go_wp2_with fail
  unfold Aw at HA hE0
  obtain ⟨W1, hW1⟩ : ∃ W1, W1 = ((w.alloc (.cells #[.int .i64 c.st, .int .i64 c.now.v, .slice a.n.fo c.now.fs.length a.n.fc, .slice a.n.qo c.now.ps.length a.n.qc, .int .i64 c.nxt.v, .slice a.x.fo c.nxt.fs.length a.x.fc, .slice a.x.qo c.nxt.ps.length a.x.qc, .int .i64 c.num, .slice a.wo c.wts.length a.wc] 28)).alloc (.cells #[.int .i64 n, .slice ao len cap] 31)).alloc (.cells #[.int .i64 0, .int .i64 0, .slice none 0 0, .slice none 0 0, .int .i64 0, .slice none 0 0, .slice none 0 0, .int .i64 0, .slice none 0 0] 28) := ⟨_, rfl⟩
  rw [← hW1] at HA hE0 ⊢
  clear hW1
  refine (Wrong_any n ao len cap ls W1 hlen (hl.ext hE0) hx).mono ?_
  rintro e w2 ⟨rfl, E2⟩
  have HA2 := hidp (HA.out.ext E2)
  have hl2 := HA2.out.lt
  have hE2 := hE0.trans E2
  have hl20 : w.heap.size < w2.heap.size := by omega
  have hl21 : w.heap.size + 1 < w2.heap.size := by omega
  by_cases hr : (wrong n ls).1 = 0
  · have hright := right_of hr
    have hbd := hright.bounds
    obtain ⟨nn, rfl⟩ := Int.eq_ofNat_of_zero_le (show 0 ≤ n by omega)
    have hn8 : nn ≤ 8 := by omega
    have HW := hidp hr
    rw [hright.wrong]
    clear hr hright hbd
    have c0 : w2.cell? ⟨w.heap.size, 0, none⟩ = some (.int .i64 c.st) := World.rowIs.cell HA2.out.box (i := 0) (by omega)
    by_cases h3 : c.st = 3
    · have HD : Hid (dropS c nn ls = (goS nn (told nn (drpO c.now) ⟨⟨4, c.now, c.nxt, c.num, c.wts⟩, []⟩), 0)) := by
        show _ = _
        unfold dropS
        rw [if_neg (by simpa using HW.out), if_neg (by simpa using h3)]
        rfl
      rw [h3] at c0
      obtain ⟨V2, hV2⟩ : ∃ V2, V2 = w2.alloc (.cells #[.int .i64 0, .int .i64 0] 64) := ⟨_, rfl⟩
      have E2' : Ext w2 V2 := by rw [hV2]; exact (Ext.refl w2).alloc _
      have HCH := hidp (changeOf_any c a nn ao len cap V2 (h.ext (hE2.trans E2')) hok)
      have HAV := hidp (HA2.out.ext E2')
      have hVR : w.heap.size + 1 + 1 < V2.heap.size := HAV.out.lt
      have c1 : w2.cell? ⟨w.heap.size, 1, none⟩ = some (.int .i64 c.now.v) := World.rowIs.cell HA2.out.box (i := 1) (by omega)
      have c2 : w2.cell? ⟨w.heap.size, 2, none⟩ = some (.slice a.n.fo c.now.fs.length a.n.fc) := World.rowIs.cell HA2.out.box (i := 2) (by omega)
      have c3 : w2.cell? ⟨w.heap.size, 3, none⟩ = some (.slice a.n.qo c.now.ps.length a.n.qc) := World.rowIs.cell HA2.out.box (i := 3) (by omega)
      have c4 : w2.cell? ⟨w.heap.size, 4, none⟩ = some (.int .i64 c.nxt.v) := World.rowIs.cell HA2.out.box (i := 4) (by omega)
      have c5 : w2.cell? ⟨w.heap.size, 5, none⟩ = some (.slice a.x.fo c.nxt.fs.length a.x.fc) := World.rowIs.cell HA2.out.box (i := 5) (by omega)
      have c6 : w2.cell? ⟨w.heap.size, 6, none⟩ = some (.slice a.x.qo c.nxt.ps.length a.x.qc) := World.rowIs.cell HA2.out.box (i := 6) (by omega)
      have c7 : w2.cell? ⟨w.heap.size, 7, none⟩ = some (.int .i64 c.num) := World.rowIs.cell HA2.out.box (i := 7) (by omega)
      have c8 : w2.cell? ⟨w.heap.size, 8, none⟩ = some (.slice a.wo c.wts.length a.wc) := World.rowIs.cell HA2.out.box (i := 8) (by omega)
      have n0 := HA2.out.n0
      have n1 := HA2.out.n1
      unfold cvl at HCH
      rw [h3] at HCH
      have HH3 := hidp h3
      clear h3
      go_wp2_with fail
      rw [← hV2]
      clear hV2 c0 c1 c2 c3 c4 c5 c6 c7 c8 n0 n1
      refine Calls.mono HCH.out ?_
      rintro e w3 ⟨P, w0, a3, wv, rfl, hC3, E0⟩
      have HC3 := hidp hC3
      have hPl := hC3.row.lt
      have s0 : w3.cell? ⟨P, 0, none⟩ = some (.int .i64 c.st) := hC3.row.cell (i := 0) (by omega)
      have z0 := hC3.row.frozen 0
      have HE0 := hidp (E2'.trans E0)
      clear hC3 HCH
      go_upto_region 8 with fail
      obtain ⟨w4, hw4⟩ : ∃ w4, w4 = w3.setCell ⟨P, 0, none⟩ (.int .i64 4) := ⟨_, rfl⟩
      have HC4 : Hid (CSt V2.heap.size (fun _ => True) P w0 w4 ⟨⟨4, c.now, c.nxt, c.num, c.wts⟩, []⟩ a3 nn wv (.slice none 0 0) []) := by rw [hw4]; exact HC3.out.put (g' := ⟨⟨4, c.now, c.nxt, c.num, c.wts⟩, []⟩) 0 (by omega) _ rfl rfl rfl HC3.out.hn HC3.out.hx
      rw [← hw4]
      clear hw4 HC3 s0 z0 hPl
      have E4 : Ext w2 w4 := HE0.out.trans HC4.out.bel
      have HA4 := hidp (HA2.out.ext E4)
      have c1 : w4.cell? ⟨w.heap.size, 1, none⟩ = some (.int .i64 c.now.v) := World.rowIs.cell HA4.out.box (i := 1) (by omega)
      have c2 : w4.cell? ⟨w.heap.size, 2, none⟩ = some (.slice a.n.fo c.now.fs.length a.n.fc) := World.rowIs.cell HA4.out.box (i := 2) (by omega)
      have c3 : w4.cell? ⟨w.heap.size, 3, none⟩ = some (.slice a.n.qo c.now.ps.length a.n.qc) := World.rowIs.cell HA4.out.box (i := 3) (by omega)
      have n0 := HA4.out.n0
      go_wp2_with fail
      refine Calls.mono (dropping_any c.now a.n nn w0 w4 (h.hn.ext (hE2.trans E4)) hok.n hn8) ?_
      rintro e w5 ⟨p1, p2, rfl, E5, HST⟩
      clear c1 c2 c3 n0
      go_wp2_with fail
      refine Calls.mono (tell_any V2.heap.size (fun _ => True) 59 p1 p2 P nn (drpO c.now) w0 w5 _ a3 wv (.slice none 0 0) [] (HC4.out.ext E5) (Or.inr (Or.inl rfl)) (fun _ _ => trivial) hn8 (Nat.le_trans hok.w (by decide)) (by simp) (step_tell HC4.out (fun _ _ => trivial) HST)) ?_
      rintro e w6 ⟨rfl, wv6, tv6, TV6, hC6, hK6⟩
      have HC6 := hidp hC6
      clear hC6 hK6 HST
      have HL6 := hidp (told_len (ord := drpO c.now) (g := ⟨⟨4, c.now, c.nxt, c.num, c.wts⟩, []⟩) nn)
      go_wp2_with fail
      refine Calls.mono (goOn_any V2.heap.size P nn w0 w6 _ a3 wv6 tv6 TV6 HC6.out hn8 hok.n hok.x (by have h1 := HL6.out.1; have h2 := hok.w; exact Nat.le_trans h1 (by show c.wts.length + nn ≤ _; omega)) (by have := HL6.out.2; simp only [List.length_nil] at this; omega)) ?_
      intro e w9 hG
      obtain ⟨k0, k1, o2, l2, q2, o3, l3, q3, k4, o5, l5, q5, o6, l6, q6, k7, o8, l8, q8, tO, l9, tc, rfl, E9, HF⟩ := hG.letters
      clear hG
      have HA9 := hidp (HA2.out.ext (HE0.out.trans E9))
      obtain ⟨r0, r1, r2, r3, r4, r5, r6, r7, r8⟩ := HA9.out.zeros
      have z := box_frozen HA9.out.ans
      have z0 := z 0
      have z1 := z 1
      have z2 := z 2
      have z3 := z 3
      have z4 := z 4
      have z5 := z 5
      have z6 := z 6
      have z7 := z 7
      have z8 := z 8
      have hl9 := HA9.out.lt
      clear z
      go_wp2
      refine bodyPost_ret (v := .tuple #[.agg #[.int .i64 k0, .int .i64 k1, .slice o2 l2 q2, .slice o3 l3 q3, .int .i64 k4, .slice o5 l5 q5, .slice o6 l6 q6, .int .i64 k7, .slice o8 l8 q8], .slice tO l9 tc, .int .i64 0]) (by simp [results, Try.results14, go_sem, r0, r1, r2, r3, r4, r5, r6, r7, r8]) rfl ?_
      rw [HD.out]
      exact go_fin HF.out hVR (by omega) (hE2.trans (HE0.out.trans E9)) _ _ _ _ _ _ _ _ _
    · have HD : Hid (dropS c nn ls = (⟨co0, []⟩, 11)) := by
        show _ = _
        unfold dropS
        rw [if_neg (by simpa using HW.out), if_pos h3]
      have b3 : (c.st != 3) = true := by simpa using h3
      clear h3
      go_wp2_with fail
      refine (refused_any 11 _).mono ?_
      rintro e w9 ⟨he, E9⟩
      have he' : e = .returned (.tuple #[.agg #[.int .i64 0, .int .i64 0, .slice none 0 0, .slice none 0 0, .int .i64 0, .slice none 0 0, .slice none 0 0, .int .i64 0, .slice none 0 0], .slice none 0 0, .int .i64 11]) := he
      subst he'
      clear he
      have E9' : Ext w2 w9 := ((Ext.refl w2).alloc _).trans E9
      have HA9 := hidp (HA2.out.ext E9')
      obtain ⟨r0, r1, r2, r3, r4, r5, r6, r7, r8⟩ := HA9.out.zeros
      have z := box_frozen HA9.out.ans
      have z0 := z 0
      have z1 := z 1
      have z2 := z 2
      have z3 := z 3
      have z4 := z 4
      have z5 := z 5
      have z6 := z 6
      have z7 := z 7
      have z8 := z 8
      have hl9 := HA9.out.lt
      clear z
      go_wp2
      refine bodyPost_ret (v := .tuple #[.agg #[.int .i64 0, .int .i64 0, .slice none 0 0, .slice none 0 0, .int .i64 0, .slice none 0 0, .slice none 0 0, .int .i64 0, .slice none 0 0], .slice none 0 0, .int .i64 11]) (by simp [results, Try.results14, go_sem, r0, r1, r2, r3, r4, r5, r6, r7, r8]) rfl ?_
      rw [HD.out]
      exact go_none (by omega) (hE2.trans E9') _ _ _ _ _ _ _ _ _
  · have HD : Hid (dropS c n ls = (⟨co0, []⟩, (wrong n ls).1)) := by show _ = _; unfold dropS; rw [if_pos hr]
    have b0 : ((wrong n ls).1 != 0) = true := by simpa using hr
    clear hr
    go_wp2_with fail
    refine (refused_any (wrong n ls).1 _).mono ?_
    rintro e w9 ⟨he, E9⟩
    have he' : e = .returned (.tuple #[.agg #[.int .i64 0, .int .i64 0, .slice none 0 0, .slice none 0 0, .int .i64 0, .slice none 0 0, .slice none 0 0, .int .i64 0, .slice none 0 0], .slice none 0 0, .int .i64 (wrong n ls).1]) := he
    subst he'
    clear he
    have E9' : Ext w2 w9 := ((Ext.refl w2).alloc _).trans E9
    have HA9 := hidp (HA2.out.ext E9')
    obtain ⟨r0, r1, r2, r3, r4, r5, r6, r7, r8⟩ := HA9.out.zeros
    have z := box_frozen HA9.out.ans
    have z0 := z 0
    have z1 := z 1
    have z2 := z 2
    have z3 := z 3
    have z4 := z 4
    have z5 := z 5
    have z6 := z 6
    have z7 := z 7
    have z8 := z 8
    have hl9 := HA9.out.lt
    clear z
    go_wp2
    refine bodyPost_ret (v := .tuple #[.agg #[.int .i64 0, .int .i64 0, .slice none 0 0, .slice none 0 0, .int .i64 0, .slice none 0 0, .slice none 0 0, .int .i64 0, .slice none 0 0], .slice none 0 0, .int .i64 (wrong n ls).1]) (by simp [results, Try.results14, go_sem, r0, r1, r2, r3, r4, r5, r6, r7, r8]) rfl ?_
    rw [HD.out]
    exact go_none (by omega) (hE2.trans E9') _ _ _ _ _ _ _ _ _

end Go.Proofs.Ytgffkjjddhlbpaa.Ct

/- What Index and Delete do; what haveRoom answers. -/
namespace Go.Proofs.Ytgffkjjddhlbpaa.Ct
open Go.RowKit Go.Deep Stw Stp Tb Rul

/-- Where a number is. -/
def IxI (ps : List Int) (x r : Int) : Prop := (r = -1 ∧ x ∉ ps) ∨ ∃ k : Nat, k < ps.length ∧ r = k ∧ ps.erase x = ps.eraseIdx k ∧ x ∈ ps
theorem ix_none {ps : List Int} {x : Int} (h : ∀ j, j < ps.length → ps.getD j 0 ≠ x) : x ∉ ps := fun hm => by
  obtain ⟨j, hj, e⟩ := List.mem_iff_getElem.1 hm
  exact h j hj (by simp [List.getD_eq_getElem?_getD, hj, e])
theorem ix_some {ps : List Int} {x : Int} {k : Nat} (hk : k < ps.length) (h : ∀ j, j < k → ps.getD j 0 ≠ x) (e : ps.getD k 0 = x) : ps.erase x = ps.eraseIdx k ∧ x ∈ ps := by
  induction ps generalizing k with
  | nil => simp at hk
  | cons y r ih =>
    cases k with
    | zero =>
      have e' : y = x := by simpa using e
      subst e'
      simp
    | succ k =>
      have h0 : y ≠ x := by simpa using h 0 (by omega)
      obtain ⟨i1, i2⟩ := ih (k := k) (by simpa using hk) (fun j hj => by simpa using h (j + 1) (by omega)) (by simpa using e)
      refine ⟨?_, List.mem_cons_of_mem _ i2⟩
      rw [List.erase_cons_tail (by simpa using h0), i1, List.eraseIdx_cons_succ]

set_option maxRecDepth 100000 in
set_option maxHeartbeats 800000 in
theorem Index_any (o : Option Addr) (c : Nat) (ps : List Int) (x : Int) (w : World) (hp : ListAt w o ps) (hl : ps.length ≤ 16777216) :
    Calls Try.prog 35 #[.slice o ps.length c, .int .i64 x] w fun e w' => ∃ r, e = .returned (.int .i64 r) ∧ Hid (IxI ps x r) ∧ Ext w w' := by
  go_enter Try.func35, Try.ntmps35
  go_wp2
  go_loopw [8] (fun iv wd => ∃ k : Nat, k ≤ ps.length ∧ iv = .int .i64 k ∧ Hid (∀ j, j < k → ps.getD j 0 ≠ x) ∧ Ext w wd) (fun iv _ => ps.length - (intOf iv).toNat)
  case atStart => exact ⟨0, Nat.zero_le _, rfl, hidp (fun j hj => by omega), Ext.refl w⟩
  case round =>
    obtain ⟨k, hk, rfl, HW, hE⟩ := hrel
    by_cases hlt : k < ps.length
    · obtain ⟨g, off, rfl, hg, hcs⟩ := (hp.ext hE).get hlt
      have i1 : (k : Int) < (ps.length : Int) := by omega
      have c0 := hcs k hlt
      obtain ⟨y, hy⟩ : ∃ y, ps.getD k 0 = y := ⟨_, rfl⟩
      rw [hy] at c0
      have HY := hidp hy
      clear hcs hy
      by_cases h1 : x = y
      · have HF : Hid (IxI ps x k) := Or.inr ⟨k, hlt, rfl, ix_some hlt HW.out (by rw [HY.out, h1])⟩
        have b1 : (x == y) = true := by simpa using h1
        clear h1
        go_wp2
        go_ret
        exact ⟨_, rfl, HF, hE⟩
      · have HW2 : Hid (∀ j, j < k + 1 → ps.getD j 0 ≠ x) := hidp (fun j hj => by
          by_cases e : j = k
          · subst e; rw [HY.out]; exact fun e => h1 e.symm
          · exact HW.out j (by omega))
        have b1 : (x == y) = false := by simpa using h1
        clear h1
        go_wp2
        exact ⟨⟨k + 1, by omega, by go_num, HW2, hE⟩, by simp [intOf]; omega⟩
    · have HF : Hid (IxI ps x (-1)) := Or.inl ⟨rfl, ix_none (fun j hj => HW.out j (by omega))⟩
      have i1 : ¬ (k : Int) < (ps.length : Int) := by omega
      clear HW
      go_wp2
      go_ret
      exact ⟨_, rfl, HF, hE⟩

/-- An append whose run is known, at a step of a region that draws its order. -/
theorem step_append_by {ops : Array Oper} {o : Oper} {a : Act} {W W' : World} {K : Act → World → Prop} {Q : Exit → Act → World → Prop} {E : Prop} {v v2 v' : Value} {t : TypeId} (hgd : o.guard = none) (s x : Operand)
    (ho : o.op = .call { callee := .builtin .append, args := #[s, x], argTypes := #[t, t] }) (hs : a.eval s = v) (hx : a.eval x = v2) (hrun : (Builtin.append_ #[t, t] o.type #[v, v2]).run Try.prog W = .ok v' W') (h : K (a.put o.dst v') W') :
    if Region.wanted o (yielded ops a.tmps) = true then Oper.wp Try.prog o a W K Q else E := by
  have hw : Region.wanted o (yielded ops a.tmps) = true := by simp [Region.wanted, hgd]
  rw [if_pos hw]
  unfold Oper.wp execOp
  simp only [ho, resolve, invoke, builtin, Sem.run_bind, Sem.run_pure, Result.andThen_ok, List.map_toArray, List.map_cons, List.map_nil, hs, hx, hrun]
  exact h
theorem own_take {w : World} {base g n c i : Nat} {ps : List Int} (ho : w.ownsRow base 3 1 (.slice (some ⟨g, 0, none⟩) n c) n (ps.map (Value.int .i64))) (hi : i ≤ n) : w.ownsRow base 3 1 (.slice (some ⟨g, 0, none⟩) i c) i ((ps.take i).map (Value.int .i64)) := by
  have hl := ho.1
  rw [List.length_map] at hl
  refine ⟨by simp; omega, Or.inr ?_⟩
  rcases ho.2 with ⟨h, _⟩ | ⟨g', c', cur, h, h2, h3, h4, h5, h6, h7⟩
  · cases h
  · cases h
    refine ⟨g, c, cur, rfl, h2, h3, by omega, h5, h6, ?_⟩
    rw [List.map_take, ← h7, List.take_take]
    congr 1
    omega
theorem own_cell {w : World} {base g n c : Nat} {ps : List Int} (hn : ps.length = n) (ho : w.ownsRow base 3 1 (.slice (some ⟨g, 0, none⟩) n c) n (ps.map (Value.int .i64))) {j : Nat} (hj : j < n) : w.cell? ⟨g, j, none⟩ = some (.int .i64 (ps.getD j 0)) := by
  rw [ho.cellAt j (by omega), List.getElem?_map, List.getElem?_eq_getElem (by omega)]
  simp [List.getD_eq_getElem?_getD, show j < ps.length by omega]
theorem own_clear {w : World} {base g m c : Nat} {z : Value} {ps : List Int} (ho : w.ownsRow base 3 1 (.slice (some ⟨g, 0, none⟩) m c) m (ps.map (Value.int .i64))) : (w.setCells g m (List.replicate 1 z)).ownsRow base 3 1 (.slice (some ⟨g, 0, none⟩) m c) m (ps.map (Value.int .i64)) ∧ w.grownBy (w.setCells g m (List.replicate 1 z)) (some g) := by
  have e : w.setCells g m (List.replicate 1 z) = w.setCell ⟨g, m, none⟩ z := rfl
  rw [e]
  refine ⟨⟨ho.1, ?_⟩, ⟨rfl, rfl, rfl, by simp, fun k hk hne => blk_setCell_other _ _ _ _ (fun e => hne (by rw [e]))⟩⟩
  rcases ho.2 with ⟨h, _⟩ | ⟨g', c', cur, h, h2, h3, h4, h5, h6, h7⟩
  · cases h
  · cases h
    refine Or.inr ⟨g, c, cur.setIfInBounds m z, rfl, h2, ?_, h4, h5, by simpa using h6, ?_⟩
    · unfold World.setCell
      simp [Array.getElem?_modify, h3]
    · rw [← h7]
      simp only [Nat.mul_one, Array.toList_setIfInBounds]
      rw [List.take_set, List.set_eq_of_length_le (by simp; omega)]
theorem grown_trans {a b c : World} {g : Nat} (h : a.grownBy b (some g)) (k : b.grownBy c (some g)) : a.grownBy c (some g) :=
  ⟨k.os.trans h.os, k.tape.trans h.tape, k.output.trans h.output, Nat.le_trans h.size k.size, fun j hj hne => (k.block j (Nat.lt_of_lt_of_le hj h.size) hne).trans (h.block j hj hne)⟩
theorem zero_int (w : World) : (zeroValue 3).run Try.prog w = .ok (.int .i64 0) w := by kernel_rfl

set_option maxRecDepth 100000 in
set_option maxHeartbeats 1600000 in
theorem Delete_any (g m c i : Nat) (base : Nat) (ps : List Int) (w : World) (hn : ps.length = m + 1) (ho : w.ownsRow base 3 1 (.slice (some ⟨g, 0, none⟩) (m + 1) c) (m + 1) (ps.map (Value.int .i64))) (hi : i < m + 1) (hl : m ≤ 16777216) :
    Calls Try.prog 36 #[.slice (some ⟨g, 0, none⟩) (m + 1) c, .int .i64 i, .int .i64 ((i : Int) + 1)] w fun e w' => e = .returned (.slice (some ⟨g, 0, none⟩) m c) ∧ Hid (w'.ownsRow base 3 1 (.slice (some ⟨g, 0, none⟩) m c) m ((ps.eraseIdx i).map (Value.int .i64)) ∧ w.grownBy w' (some g)) := by
  obtain ⟨i0, hi0, hz00, hz01, hz02⟩ := info_parts infoI
  have hnc : m + 1 ≤ c ∧ c ≤ maxLen := by
    rcases ho.2 with ⟨h, _⟩ | ⟨g', c', cur, h, _, _, h4, h5, _⟩
    · cases h
    · cases h; exact ⟨h4, h5⟩
  obtain ⟨hnc, hcm⟩ := hnc
  unfold maxLen at hcm
  have hd : w.drew.ownsRow base 3 1 (.slice (some ⟨g, 0, none⟩) (m + 1) c) (m + 1) (ps.map (Value.int .i64)) := ho
  have he : ps.eraseIdx i = ps.take i ++ ps.drop (i + 1) := List.eraseIdx_eq_take_drop_succ _ _
  have HE := hidp he
  have HF : Hid (∀ w1 : World, w1.ownsRow base 3 1 (.slice (some ⟨g, 0, none⟩) m c) m ((ps.take i).map (Value.int .i64) ++ (ps.drop (i + 1)).map (Value.int .i64)) → w.drew.grownBy w1 (some g) → (∀ ty, (Builtin.clear_ #[26] ty #[.slice (some ⟨g, m, none⟩) 1 (c - m)]).run Try.prog w1 = .ok (.tuple #[]) (w1.setCells g m (List.replicate 1 (.int .i64 0)))) ∧ Hid ((w1.setCells g m (List.replicate 1 (.int .i64 0))).ownsRow base 3 1 (.slice (some ⟨g, 0, none⟩) m c) m ((ps.eraseIdx i).map (Value.int .i64)) ∧ w.grownBy (w1.setCells g m (List.replicate 1 (.int .i64 0))) (some g))) := fun w1 h1 h2 => by
    have h1' : w1.ownsRow base 3 1 (.slice (some ⟨g, 0, none⟩) m c) m ((ps.eraseIdx i).map (Value.int .i64)) := by rw [HE.out, List.map_append]; exact h1
    obtain ⟨k1, k2⟩ := own_clear (z := .int .i64 0) h1'
    refine ⟨fun ty => ?_, k1, grown_trans ⟨h2.os, h2.tape, h2.output, h2.size, h2.block⟩ k2⟩
    obtain ⟨cur, hb, hcs⟩ : ∃ cur, w1.heap[g]? = some (.cells cur 3 (0, 0)) ∧ cur.size = c * 1 := by
      rcases h1.2 with ⟨h, _⟩ | ⟨g', c', cur, h, _, h3, _, _, h6, _⟩
      · cases h
      · cases h; exact ⟨cur, h3, h6⟩
    refine Lib.run_clear_slice w1 26 3 ty (.int .i64 0) Try.underlying26 zero_int rfl rfl g m 1 (c - m) (by omega) (fun j hj => ?_) (fun j _ => box_frozen hb _)
    rw [box_cell hb]
    simp
    omega
  clear he
  by_cases hc : i + 1 < c
  · obtain ⟨w1, hrun, hown1, hg1⟩ := run_append_fits (P := Try.prog) w.drew base 26 26 3 i0 1 Try.underlying26 hi0 hz01 g i c ((ps.take i).map (Value.int .i64)) (own_take hd (by omega)) ⟨g, i + 1, none⟩ (m - i) (c - (i + 1)) ((ps.drop (i + 1)).map (Value.int .i64)) (by simp; omega) (fun j u hj => by
        have hjl : j < ps.length - (i + 1) := by have := (List.getElem?_eq_some_iff.1 hj).1; simpa using this
        rw [Addr.add_mid, own_cell hn hd (by omega), ← hj, List.getElem?_map, List.getElem?_drop, List.getElem?_eq_getElem (by omega)]
        simp [List.getD_eq_getElem?_getD, show i + 1 + j < ps.length by omega]) (by intro u hu; obtain ⟨x, _, rfl⟩ := List.mem_map.1 hu; rfl) (by omega)
    rw [show i + (m - i) = m by omega] at hrun hown1
    obtain ⟨hcl, HR⟩ := HF.out w1 hown1 hg1
    have hcl' := hcl 0
    clear hown1 hg1 HF ho hd HE hcl hz00 hz01 hz02 hi0
    have i1 : (i : Int) < (m : Int) + 1 := by omega
    go_enter Try.func36, Try.ntmps36
    go_wp2
    have i2 : i ≤ c := by omega
    have i3 : i ≤ m := by omega
    have i4 : (0 : Int) ≤ (i : Int) + 1 := by omega
    have i5 : ¬ c = i + 1 := by omega
    have i6 : ¬ c = m := by omega
    go_region_law
      (first | (refine step_append_by ?_ (.tmp 22) (.tmp 25) ?_ ?_ ?_ hrun ?_
                · rfl
                · rfl
                · rfl
                · rfl) | fail)
    all_goals
      go_wp2
      go_ret
      exact ⟨rfl, HR⟩
  · have hic : c = i + 1 := by omega
    have him : m = i := by omega
    obtain ⟨w1, hrun, hown1, hg1⟩ := run_append_fits (P := Try.prog) w.drew base 26 26 3 i0 1 Try.underlying26 hi0 hz01 g i c ((ps.take i).map (Value.int .i64)) (own_take hd (by omega)) ⟨g, 0, none⟩ 0 0 [] (by simp) (fun j u hj => by simp at hj) (by intro u hu; simp at hu) (by omega)
    have hown1' : w1.ownsRow base 3 1 (.slice (some ⟨g, 0, none⟩) m c) m ((ps.take i).map (Value.int .i64) ++ (ps.drop (i + 1)).map (Value.int .i64)) := by
      rw [List.drop_eq_nil_of_le (by omega), List.map_nil, him]
      simpa using hown1
    obtain ⟨hcl, HR⟩ := HF.out w1 hown1' hg1
    subst him
    subst hic
    have hrun' : (Builtin.append_ #[26, 26] 26 #[.slice (some ⟨g, 0, none⟩) m (m + 1), .slice (some ⟨g, 0, none⟩) 0 0]).run Try.prog w.drew = .ok (.slice (some ⟨g, 0, none⟩) m (m + 1)) w1 := hrun
    have hcl' := hcl 0
    rw [show m + 1 - m = 1 by omega] at hcl'
    clear hown1 hown1' hg1 HF ho hd HE hcl hz00 hz01 hz02 hi0 hrun hc
    have i2 : m ≤ m + 1 := by omega
    have i4 : (0 : Int) ≤ (m : Int) + 1 := by omega
    have i7 : (m : Int) ≤ (m : Int) + 1 := by omega
    go_enter Try.func36, Try.ntmps36
    go_wp2
    go_region_law
      (first | (refine step_append_by ?_ (.tmp 22) (.tmp 25) ?_ ?_ ?_ hrun' ?_
                · rfl
                · rfl
                · rfl
                · rfl) | fail)
    all_goals
      go_wp2
      go_ret
      exact ⟨rfl, HR⟩

end Go.Proofs.Ytgffkjjddhlbpaa.Ct

/- What Back answers, for every control, net and number. -/
namespace Go.Proofs.Ytgffkjjddhlbpaa.Ct
open Go.RowKit Go.Deep Stw Stp Tb Rul

/-- One is waited for no more. -/
theorem CSt.delW {B : Nat} {X : Nat → Prop} {P n g1 m cc : Nat} {w0 w w' : World} {g : Cg} {a : CA} {tv : Value} {TV : List Value} {L : List Int} {k : Nat} (h : CSt B X P w0 w g a n (.slice (some ⟨g1, 0, none⟩) k cc) tv TV) (hL : L.length = m)
    (hown : w'.ownsRow w0.heap.size 3 1 (.slice (some ⟨g1, 0, none⟩) m cc) m (L.map (Value.int .i64))) (hg : w.grownBy w' (some g1)) :
    w'.cell? ⟨P, 8, none⟩ = some (.slice (some ⟨g1, 0, none⟩) k cc) ∧ w'.frozen? ⟨P, 8, none⟩ = false ∧ CSt B X P w0 (w'.setCell ⟨P, 8, none⟩ (.slice (some ⟨g1, 0, none⟩) m cc)) ⟨⟨g.c.st, g.c.now, g.c.nxt, g.c.num, L⟩, g.out⟩ a n (.slice (some ⟨g1, 0, none⟩) m cc) tv TV := by
  have hP := h.row.lt
  have hs := hg.size
  have gP : g1 ≠ P := fun e => h.wP (by rw [e]; rfl)
  have hr := h.row.of_block (hg.block P hP (fun e => gP (by injection e with e; exact e.symm)))
  have hK : ∀ b, b < w.heap.size → b ≠ P → b ≠ g1 → (w'.setCell ⟨P, 8, none⟩ (.slice (some ⟨g1, 0, none⟩) m cc)).heap[b]? = w.heap[b]? := fun b hlt hb hne =>
    (blk_setCell_other _ _ _ _ (by simpa using hb)).trans (hg.block b hlt (fun e => hne (by injection e)))
  have hne : ∀ b, Qn P tv (.slice (some ⟨g1, 0, none⟩) k cc) b → b ≠ g1 := fun b hb e => hb.2.1 (by rw [e]; rfl)
  refine ⟨hr.cell (i := 8) (by omega), hr.frozen 8, ⟨((hr.set 8 _).congr (fun j _ => (getD_put (by simp [chL]) j).trans rfl)), ?_, ?_, fun e => gP (by simpa [Value.ownBlock] using e), fun b e => h.apart b e, h.lt.mono (fun b hb hlt => ⟨⟨⟨hb.1.1, hb.1.2.1, hb.1.2.2⟩, hb.2⟩, by simp; omega, hK b hlt (by have := hb.1.1; omega) (hne b hb.1)⟩), ?_, h.hP, h.hB, h.hn, h.hx⟩⟩
  · have hb1 : (w'.setCell ⟨P, 8, none⟩ (.slice (some ⟨g1, 0, none⟩) m cc)).heap[g1]? = w'.heap[g1]? := blk_setCell_other _ _ _ _ (by simpa using gP)
    rw [show (⟨⟨g.c.st, g.c.now, g.c.nxt, g.c.num, L⟩, g.out⟩ : Cg).c.wts.length = m from hL]
    refine ⟨hown.1, ?_⟩
    rcases hown.2 with ⟨h1, h2⟩ | ⟨b, cap, cur, e1, e2, e3, e4⟩
    · cases h1
    · cases e1
      exact Or.inr ⟨g1, cc, cur, rfl, e2, hb1.trans e3, e4⟩
  · refine ⟨h.ownT.1, ?_⟩
    rcases h.ownT.2 with h2 | ⟨b, cap, cur, e1, e2, e3, e4⟩
    · exact Or.inl h2
    · exact Or.inr ⟨b, cap, cur, e1, e2, (hK b (h.ownT.lt b (by rw [e1]; rfl)).2 (by omega) (fun e => h.apart g1 rfl (by rw [e1, e]; rfl))).trans e3, e4⟩
  · exact (Below.grown h.bel hg h.bel.size (fun j hj => (h.ownW.lt j hj).1)).setCell (by simpa using h.hP) _

set_option maxRecDepth 100000 in
set_option maxHeartbeats 4000000 in
theorem Back_any (c : Co) (a : CA) (n num : Int) (ao : Option Addr) (len cap : Nat) (ls : List Lk) (w : World) (h : CoAt w c a) (hok : CoOk c) (hlen : ls.length = len) (hl : NetAt w ao ls) (hx : len ≤ 9223372036854775807) :
    Calls Try.prog 12 #[cvl c a, .agg #[.int .i64 n, .slice ao len cap], .int .i64 num] w fun e w' => GoOut w.heap.size w (backS c n ls num).1 (backS c n ls num).2 e w' := by
  have HA := hidp (Aw_ab w c a n (.slice ao len cap))
  have hE0 := Aw_ext w c a n (.slice ao len cap)
  unfold cvl
  go_enter Try.func12, Try.ntmps12
  go_wp2_with fail
  unfold Aw at HA hE0
  obtain ⟨W1, hW1⟩ : ∃ W1, W1 = ((w.alloc (.cells #[.int .i64 c.st, .int .i64 c.now.v, .slice a.n.fo c.now.fs.length a.n.fc, .slice a.n.qo c.now.ps.length a.n.qc, .int .i64 c.nxt.v, .slice a.x.fo c.nxt.fs.length a.x.fc, .slice a.x.qo c.nxt.ps.length a.x.qc, .int .i64 c.num, .slice a.wo c.wts.length a.wc] 28)).alloc (.cells #[.int .i64 n, .slice ao len cap] 31)).alloc (.cells #[.int .i64 0, .int .i64 0, .slice none 0 0, .slice none 0 0, .int .i64 0, .slice none 0 0, .slice none 0 0, .int .i64 0, .slice none 0 0] 28) := ⟨_, rfl⟩
  rw [← hW1] at HA hE0 ⊢
  clear hW1
  refine (Wrong_any n ao len cap ls W1 hlen (hl.ext hE0) hx).mono ?_
  rintro e w2 ⟨rfl, E2⟩
  have HA2 := hidp (HA.out.ext E2)
  have hl2 := HA2.out.lt
  have hE2 := hE0.trans E2
  have hl20 : w.heap.size < w2.heap.size := by omega
  have hl21 : w.heap.size + 1 < w2.heap.size := by omega
  by_cases hr : (wrong n ls).1 = 0
  · have hright := right_of hr
    have hbd := hright.bounds
    obtain ⟨nn, rfl⟩ := Int.eq_ofNat_of_zero_le (show 0 ≤ n by omega)
    have hn8 : nn ≤ 8 := by omega
    have HW := hidp hr
    rw [hright.wrong]
    clear hr hright hbd
    have c8 : w2.cell? ⟨w.heap.size, 8, none⟩ = some (.slice a.wo c.wts.length a.wc) := World.rowIs.cell HA2.out.box (i := 8) (by omega)
    go_wp2_with fail
    refine Calls.mono (Index_any a.wo a.wc c.wts num _ (h.hw.ext (hE2.alloc _)) (Nat.le_trans hok.w (by decide))) ?_
    rintro e w3 ⟨r, rfl, HI, E3⟩
    have E3' : Ext w2 w3 := ((Ext.refl w2).alloc _).trans E3
    have HA3 := hidp (HA2.out.ext E3')
    have hl3 := HA3.out.lt
    have hl30 : w.heap.size < w3.heap.size := by omega
    have hl31 : w.heap.size + 1 < w3.heap.size := by omega
    clear c8
    rcases HI.out with ⟨rfl, hno⟩ | ⟨k, hk, rfl, her, hmem⟩
    · have HD : Hid (backS c nn ls num = (⟨co0, []⟩, 6)) := by
        show _ = _
        unfold backS
        rw [if_neg (by simpa using HW.out), if_pos hno]
      clear hno HI
      go_wp2_with fail
      refine (refused_any 6 _).mono ?_
      rintro e w9 ⟨he, E9⟩
      have he' : e = .returned (.tuple #[.agg #[.int .i64 0, .int .i64 0, .slice none 0 0, .slice none 0 0, .int .i64 0, .slice none 0 0, .slice none 0 0, .int .i64 0, .slice none 0 0], .slice none 0 0, .int .i64 6]) := he
      subst he'
      clear he
      have E9' : Ext w2 w9 := E3'.trans E9
      have HA9 := hidp (HA2.out.ext E9')
      obtain ⟨r0, r1, r2, r3, r4, r5, r6, r7, r8⟩ := HA9.out.zeros
      have z := box_frozen HA9.out.ans
      have z0 := z 0
      have z1 := z 1
      have z2 := z 2
      have z3 := z 3
      have z4 := z 4
      have z5 := z 5
      have z6 := z 6
      have z7 := z 7
      have z8 := z 8
      have hl9 := HA9.out.lt
      clear z
      go_wp2
      refine bodyPost_ret (v := .tuple #[.agg #[.int .i64 0, .int .i64 0, .slice none 0 0, .slice none 0 0, .int .i64 0, .slice none 0 0, .slice none 0 0, .int .i64 0, .slice none 0 0], .slice none 0 0, .int .i64 6]) (by simp [results, Try.results12, go_sem, r0, r1, r2, r3, r4, r5, r6, r7, r8]) rfl ?_
      rw [HD.out]
      exact go_none (by omega) (hE2.trans E9') _ _ _ _ _ _ _ _ _
    · have HD : Hid (backS c nn ls num = (goS nn ⟨⟨c.st, c.now, c.nxt, c.num, c.wts.eraseIdx k⟩, []⟩, 0)) := by
        show _ = _
        unfold backS
        rw [if_neg (by simpa using HW.out), if_neg (by simpa using hmem), her]
        rfl
      clear her hmem HI
      have HCH := hidp (changeOf_any c a nn ao len cap w3 (h.ext (hE2.trans E3')) hok)
      have c0 : w3.cell? ⟨w.heap.size, 0, none⟩ = some (.int .i64 c.st) := World.rowIs.cell HA3.out.box (i := 0) (by omega)
      have c1 : w3.cell? ⟨w.heap.size, 1, none⟩ = some (.int .i64 c.now.v) := World.rowIs.cell HA3.out.box (i := 1) (by omega)
      have c2 : w3.cell? ⟨w.heap.size, 2, none⟩ = some (.slice a.n.fo c.now.fs.length a.n.fc) := World.rowIs.cell HA3.out.box (i := 2) (by omega)
      have c3 : w3.cell? ⟨w.heap.size, 3, none⟩ = some (.slice a.n.qo c.now.ps.length a.n.qc) := World.rowIs.cell HA3.out.box (i := 3) (by omega)
      have c4 : w3.cell? ⟨w.heap.size, 4, none⟩ = some (.int .i64 c.nxt.v) := World.rowIs.cell HA3.out.box (i := 4) (by omega)
      have c5 : w3.cell? ⟨w.heap.size, 5, none⟩ = some (.slice a.x.fo c.nxt.fs.length a.x.fc) := World.rowIs.cell HA3.out.box (i := 5) (by omega)
      have c6 : w3.cell? ⟨w.heap.size, 6, none⟩ = some (.slice a.x.qo c.nxt.ps.length a.x.qc) := World.rowIs.cell HA3.out.box (i := 6) (by omega)
      have c7 : w3.cell? ⟨w.heap.size, 7, none⟩ = some (.int .i64 c.num) := World.rowIs.cell HA3.out.box (i := 7) (by omega)
      have c8 : w3.cell? ⟨w.heap.size, 8, none⟩ = some (.slice a.wo c.wts.length a.wc) := World.rowIs.cell HA3.out.box (i := 8) (by omega)
      have n0 := HA3.out.n0
      have n1 := HA3.out.n1
      unfold cvl at HCH
      have i0 : ¬ (k : Int) < 0 := by omega
      go_wp2_with fail
      clear c0 c1 c2 c3 c4 c5 c6 c7 c8 n0 n1
      refine Calls.mono HCH.out ?_
      rintro e w4 ⟨P, w0, a3, wv, rfl, hC3, E0⟩
      obtain ⟨m, hm⟩ : ∃ m, c.wts.length = m + 1 := ⟨c.wts.length - 1, by omega⟩
      obtain ⟨g, cc, hwv, hg1, hg2⟩ := hC3.ownW.form (by show 0 < c.wts.length; omega)
      have hwv' : wv = .slice (some ⟨g, 0, none⟩) (m + 1) cc := by rw [hwv, hm]
      subst hwv'
      have HOW : Hid (w4.ownsRow w0.heap.size 3 1 (.slice (some ⟨g, 0, none⟩) (m + 1) cc) (m + 1) (c.wts.map (Value.int .i64))) := by have := hC3.ownW; simp only [hm] at this; exact this
      have HC3 := hidp hC3
      have hPl := hC3.row.lt
      have s8 : w4.cell? ⟨P, 8, none⟩ = some (.slice (some ⟨g, 0, none⟩) (m + 1) cc) := hC3.row.cell (i := 8) (by omega)
      have HE0 := hidp (E3'.trans E0)
      have hkm : k < m + 1 := by omega
      have hml : m ≤ 16777216 := by have := hok.w; omega
      have HM := hidp hm
      have i1 : (k : Int) + 1 ≤ 9223372036854775807 := by omega
      clear hC3 HCH hwv hm
      go_wp2_with fail
      refine Calls.mono (Delete_any g m cc k w0.heap.size c.wts w4 HM.out HOW.out hkm hml) ?_
      rintro e w5 ⟨rfl, HDL⟩
      have H5 := hidp (HC3.out.delW (L := c.wts.eraseIdx k) (m := m) (g1 := g) (cc := cc) (by rw [List.length_eraseIdx_of_lt (by omega), HM.out]; rfl) HDL.out.1 HDL.out.2)
      have q8 := H5.out.1
      have z8 := H5.out.2.1
      have hP5 : P < w5.heap.size := by have := HDL.out.2.size; omega
      clear HDL HOW s8
      go_wp2_with fail
      obtain ⟨w6, hw6⟩ : ∃ w6, w6 = w5.setCell ⟨P, 8, none⟩ (.slice (some ⟨g, 0, none⟩) m cc) := ⟨_, rfl⟩
      have HC6 : Hid (CSt w3.heap.size (fun _ => True) P w0 w6 ⟨⟨c.st, c.now, c.nxt, c.num, c.wts.eraseIdx k⟩, []⟩ a3 nn (.slice (some ⟨g, 0, none⟩) m cc) (.slice none 0 0) []) := by rw [hw6]; exact H5.out.2.2
      rw [← hw6]
      clear hw6 H5 q8 z8
      refine Calls.mono (goOn_any w3.heap.size P nn w0 w6 _ a3 _ _ [] HC6.out hn8 hok.n hok.x (by have h2 := hok.w; exact Nat.le_trans (List.length_eraseIdx_le _ _) (Nat.le_trans h2 (by decide))) (by simp)) ?_
      intro e w9 hG
      obtain ⟨k0, k1, o2, l2, q2, o3, l3, q3, k4, o5, l5, q5, o6, l6, q6, k7, o8, l8, q8, tO, l9, tc, rfl, E9, HF⟩ := hG.letters
      clear hG
      have HA9 := hidp (HA2.out.ext (HE0.out.trans E9))
      obtain ⟨r0, r1, r2, r3, r4, r5, r6, r7, r8⟩ := HA9.out.zeros
      have z := box_frozen HA9.out.ans
      have z0 := z 0
      have z1 := z 1
      have z2 := z 2
      have z3 := z 3
      have z4 := z 4
      have z5 := z 5
      have z6 := z 6
      have z7 := z 7
      have z8 := z 8
      have hl9 := HA9.out.lt
      clear z
      go_wp2
      refine bodyPost_ret (v := .tuple #[.agg #[.int .i64 k0, .int .i64 k1, .slice o2 l2 q2, .slice o3 l3 q3, .int .i64 k4, .slice o5 l5 q5, .slice o6 l6 q6, .int .i64 k7, .slice o8 l8 q8], .slice tO l9 tc, .int .i64 0]) (by simp [results, Try.results12, go_sem, r0, r1, r2, r3, r4, r5, r6, r7, r8]) rfl ?_
      rw [HD.out]
      exact go_fin HF.out (by omega) (by omega) (hE2.trans (HE0.out.trans E9)) _ _ _ _ _ _ _ _ _
  · have HD : Hid (backS c n ls num = (⟨co0, []⟩, (wrong n ls).1)) := by show _ = _; unfold backS; rw [if_pos hr]
    have b0 : ((wrong n ls).1 != 0) = true := by simpa using hr
    clear hr
    go_wp2_with fail
    refine (refused_any (wrong n ls).1 _).mono ?_
    rintro e w9 ⟨he, E9⟩
    have he' : e = .returned (.tuple #[.agg #[.int .i64 0, .int .i64 0, .slice none 0 0, .slice none 0 0, .int .i64 0, .slice none 0 0, .slice none 0 0, .int .i64 0, .slice none 0 0], .slice none 0 0, .int .i64 (wrong n ls).1]) := he
    subst he'
    clear he
    have E9' : Ext w2 w9 := ((Ext.refl w2).alloc _).trans E9
    have HA9 := hidp (HA2.out.ext E9')
    obtain ⟨r0, r1, r2, r3, r4, r5, r6, r7, r8⟩ := HA9.out.zeros
    have z := box_frozen HA9.out.ans
    have z0 := z 0
    have z1 := z 1
    have z2 := z 2
    have z3 := z 3
    have z4 := z 4
    have z5 := z 5
    have z6 := z 6
    have z7 := z 7
    have z8 := z 8
    have hl9 := HA9.out.lt
    clear z
    go_wp2
    refine bodyPost_ret (v := .tuple #[.agg #[.int .i64 0, .int .i64 0, .slice none 0 0, .slice none 0 0, .int .i64 0, .slice none 0 0, .slice none 0 0, .int .i64 0, .slice none 0 0], .slice none 0 0, .int .i64 (wrong n ls).1]) (by simp [results, Try.results12, go_sem, r0, r1, r2, r3, r4, r5, r6, r7, r8]) rfl ?_
    rw [HD.out]
    exact go_none (by omega) (hE2.trans E9') _ _ _ _ _ _ _ _ _

end Go.Proofs.Ytgffkjjddhlbpaa.Ct

namespace Go.Proofs.Ytgffkjjddhlbpaa.Ct
open Go.RowKit Go.Deep Stw Stp Tb Rul

theorem full_true {n k : Nat} {a b : Pl} (hk : k < n) (h : 16 < (rls a k).length + (rls b k).length) : full n a b = true := by
  unfold full
  rw [List.any_eq_true]
  exact ⟨k, List.mem_range.2 hk, by simpa using h⟩
theorem full_false {n : Nat} {a b : Pl} (h : ∀ j, j < n → (rls a j).length + (rls b j).length ≤ 16) : full n a b = false := by
  unfold full
  rw [List.any_eq_false]
  intro x hx
  have := h x (List.mem_range.1 hx)
  simp
  omega

set_option maxRecDepth 100000 in
set_option maxHeartbeats 1600000 in
theorem haveRoom_any (now nxt : Pl) (an ax : PA) (n : Nat) (w : World) (hn : PlAt w now an) (hx : PlAt w nxt ax) (hnk : PlOk now) (hxk : PlOk nxt) (h8 : n ≤ 8) :
    Calls Try.prog 22 #[pvl now an, pvl nxt ax, .int .i64 n] w fun e w' => e = .returned (.bool (!full n now nxt)) ∧ Ext w w' := by
  have HL1 : Hid (∀ s, (rls now s).length ≤ 16777216) := hidp (rls_len hnk)
  have HL2 : Hid (∀ s, (rls nxt s).length ≤ 16777216) := hidp (rls_len hxk)
  obtain ⟨nv, nfs, nps⟩ := now
  obtain ⟨nfo, nqo, nfc, nqc⟩ := an
  obtain ⟨xv, xfs, xps⟩ := nxt
  obtain ⟨xfo, xqo, xfc, xqc⟩ := ax
  have hnq : PthsAt w nqo nps := hn.hq
  have hxq : PthsAt w xqo xps := hx.hq
  have ht1 : tot nps nps.length * 24 ≤ 140737488351232 := by rw [tot_sum]; have := hnk.tt; simp only at this; omega
  have ht2 : tot xps xps.length * 24 ≤ 140737488351232 := by rw [tot_sum]; have := hxk.tt; simp only at this; omega
  have hl1 : nps.length ≤ 16777216 := hnk.ql
  have hl2 : xps.length ≤ 16777216 := hxk.ql
  clear hn hx hnk hxk
  unfold pvl
  show Calls _ _ #[.agg #[.int .i64 nv, .slice nfo nfs.length nfc, .slice nqo nps.length nqc], .agg #[.int .i64 xv, .slice xfo xfs.length xfc, .slice xqo xps.length xqc], _] _ _
  go_enter Try.func22, Try.ntmps22
  go_wp2_with fail
  have hE0 : Ext w ((w.alloc (.cells #[.int .i64 nv, .slice nfo nfs.length nfc, .slice nqo nps.length nqc] 25)).alloc (.cells #[.int .i64 xv, .slice xfo xfs.length xfc, .slice xqo xps.length xqc] 25)) := ((Ext.refl w).alloc _).alloc _
  refine (Of_any xv xfo xqo xfs.length xfc xps.length xqc n xps _ rfl (pths_ps (hxq.ext hE0)) (by omega) ht2 (by omega)).mono ?_
  rintro e w1 ⟨vs1, rfl, hT1, E1⟩
  have q0 : w1.cell? ⟨w.heap.size, 0, none⟩ = some (.int .i64 nv) := (E1.cells.1 _ _ (by simp; omega)).trans (by simp)
  have q1 : w1.cell? ⟨w.heap.size, 1, none⟩ = some (.slice nfo nfs.length nfc) := (E1.cells.1 _ _ (by simp; omega)).trans (by simp)
  have q2 : w1.cell? ⟨w.heap.size, 2, none⟩ = some (.slice nqo nps.length nqc) := (E1.cells.1 _ _ (by simp; omega)).trans (by simp)
  rw [World.size_alloc, World.size_alloc] at hT1
  have HT1 := hidp hT1
  clear hT1
  have hE1 := hE0.trans E1
  go_wp2_with fail
  refine (Of_any nv nfo nqo nfs.length nfc nps.length nqc n nps _ rfl (pths_ps (hnq.ext hE1)) (by omega) ht1 (by omega)).mono ?_
  rintro e w2 ⟨vs2, rfl, hT2, E2⟩
  have HT2 := hidp hT2
  clear hT2
  have hE2 := hE1.trans E2
  have HT1' := hidp (HT1.out.ext E2)
  clear q0 q1 q2 HT1
  go_wp2
  go_loopw [17] (fun iv wr => ∃ k : Nat, k ≤ n ∧ iv = .int .i64 k ∧ Hid (∀ j, j < k → (rls ⟨nv, nfs, nps⟩ j).length + (rls ⟨xv, xfs, xps⟩ j).length ≤ 16) ∧ Ext w2 wr) (fun iv _ => n - (intOf iv).toNat)
  case atStart => exact ⟨0, Nat.zero_le _, rfl, hidp (fun j hj => by omega), Ext.refl w2⟩
  case round =>
    obtain ⟨k, hk, rfl, HW, hE⟩ := hrel
    by_cases hlt : k < n
    · have i1 : (k : Int) < (n : Int) := by omega
      have t1 := (HT1'.out.ext hE)
      have t2 := (HT2.out.ext hE)
      obtain ⟨o1, p1, e1, _⟩ := RO.form (t1.own k hlt)
      obtain ⟨o2, p2, e2, _⟩ := RO.form (t2.own k hlt)
      have c1 := t1.row.cell (i := k) hlt
      have c2 := t2.row.cell (i := k) hlt
      rw [e1] at c1
      rw [e2] at c2
      have m1 := HL1.out k
      have m2 := HL2.out k
      have HD : Hid (16 < (rls ⟨nv, nfs, nps⟩ k).length + (rls ⟨xv, xfs, xps⟩ k).length → full n ⟨nv, nfs, nps⟩ ⟨xv, xfs, xps⟩ = true) := full_true hlt
      have HW2 : Hid ((rls ⟨nv, nfs, nps⟩ k).length + (rls ⟨xv, xfs, xps⟩ k).length ≤ 16 → ∀ j, j < k + 1 → (rls ⟨nv, nfs, nps⟩ j).length + (rls ⟨xv, xfs, xps⟩ j).length ≤ 16) := fun h j hj => by
        by_cases e : j = k
        · subst e; exact h
        · exact HW.out j (by omega)
      obtain ⟨L1, h1⟩ : ∃ L, (rls ⟨xv, xfs, xps⟩ k).length = L := ⟨_, rfl⟩
      obtain ⟨L2, h2⟩ : ∃ L, (rls ⟨nv, nfs, nps⟩ k).length = L := ⟨_, rfl⟩
      have c1' : wr.cell? ⟨w.heap.size + 1 + 1 + 1, k, none⟩ = some (.slice o1 L1 p1) := by rw [← h1]; exact c1
      have c2' : wr.cell? ⟨w1.heap.size + 1, k, none⟩ = some (.slice o2 L2 p2) := by rw [← h2]; exact c2
      rw [h1] at m2 HD HW2
      rw [h2] at m1 HD HW2
      clear t1 t2 e1 e2 c1 c2 h1 h2
      by_cases hs : 16 < L2 + L1
      · have HF := hidp (HD.out hs)
        have i2 : (16 : Int) < (L2 : Int) + (L1 : Int) := by omega
        clear hs
        go_wp2
        go_ret
        exact ⟨by rw [HF.out]; first | done | rfl, hE2.trans hE⟩
      · have HF := hidp (HW2.out (by omega))
        have i2 : ¬ (16 : Int) < (L2 : Int) + (L1 : Int) := by omega
        clear hs
        go_wp2
        exact ⟨⟨k + 1, by omega, by go_num, HF, hE⟩, by simp [intOf]; omega⟩
    · have HF : Hid (full n ⟨nv, nfs, nps⟩ ⟨xv, xfs, xps⟩ = false) := full_false (fun j hj => HW.out j (by omega))
      have i1 : ¬ (k : Int) < (n : Int) := by omega
      clear HW
      go_wp2
      go_ret
      exact ⟨by rw [HF.out]; first | done | rfl, hE2.trans hE⟩

end Go.Proofs.Ytgffkjjddhlbpaa.Ct
