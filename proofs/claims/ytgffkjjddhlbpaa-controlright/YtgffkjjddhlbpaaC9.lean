/- What nextStage does. -/
import Derived.Test.YtgffkjjddhlbpaaC8
import Derived.Test.YtgffkjjddhlbpaaC5
namespace Go.Proofs.Ytgffkjjddhlbpaa.Ct
open Go.RowKit Go.Deep Stw Stp Tb Rul

theorem step_tell {B : Nat} {X : Nat → Prop} {F n P p1 p2 : Nat} {ord : Nat → Option Wir.Od} {w0 w w1 : World} {g : Cg} {a : CA} {wv tv : Value} {TV : List Value} (hC : CSt B X P w0 w g a n wv tv TV) (hX : ∀ b, w.heap.size ≤ b → X b)
    (h : Hid (∀ (Q : Nat → Prop) (W : World), (∀ b, w.heap.size ≤ b → b < w1.heap.size → Q b ∧ b < W.heap.size ∧ W.heap[b]? = w1.heap[b]?) → Ext w0 W → (∀ b, W.heap.size ≤ b → Q b) → ∀ s : Nat, s < n → Calls Try.prog F #[.int .i64 s, .pointer (some ⟨p1, 0, none⟩), .pointer (some ⟨p2, 0, none⟩)] W fun e w'' => StOut Q (ord s) e w'' ∧ Ext W w'')) :
    ∀ W tv' wv', Kp P w1 tv wv W tv' wv' → Ext w0 W → (∀ b, W.heap.size ≤ b → Qn P tv' wv' b ∧ X b) → ∀ s : Nat, s < n → Calls Try.prog F #[.int .i64 s, .pointer (some ⟨p1, 0, none⟩), .pointer (some ⟨p2, 0, none⟩)] W fun e w' => StOut (fun b => Qn P tv' wv' b ∧ X b) (ord s) e w' ∧ Ext W w' :=
  fun W tv' wv' hk hW hf s hs => h.out (fun b => Qn P tv' wv' b ∧ X b) W (fun b hb hlt => ⟨⟨(hk.block b (hC.fresh b hb) hlt).1, hX b hb⟩, Nat.lt_of_lt_of_le hlt hk.size, (hk.block b (hC.fresh b hb) hlt).2⟩) hW hf s hs
theorem rowL_set {P i : Nat} {w : World} {l : List Value} {T : TypeId} (h : w.rowIs P T 11 (fun j => l.getD j vd)) (hi : i < l.length) (v : Value) : (w.setCell ⟨P, i, none⟩ v).rowIs P T 11 (fun j => (l.set i v).getD j vd) :=
  (h.set i v).congr (fun j _ => getD_put hi j)
theorem CSt.redo {B : Nat} {X : Nat → Prop} {P n : Nat} {w0 w w' : World} {g g' : Cg} {a a' : CA} {wv tv : Value} {TV : List Value} (h : CSt B X P w0 w g a n wv tv TV) (hrow : w'.rowIs P 71 11 (fun j => (chL g'.c a' n wv tv).getD j vd)) (H : ∀ b, b ≠ P → w'.heap[b]? = w.heap[b]?) (hs : w'.heap.size = w.heap.size) (hE : Ext w0 w')
    (hw : g'.c.wts = g.c.wts) (ho : g'.out = g.out) (hn : PlNew B w0 g'.c.now a'.n) (hx : PlNew B w0 g'.c.nxt a'.x) : CSt B X P w0 w' g' a' n wv tv TV := by
  refine ⟨hrow, ?_, ?_, h.wP, h.apart, ?_, hE, h.hP, h.hB, hn, hx⟩
  · rw [hw]
    refine ⟨h.ownW.1, ?_⟩
    rcases h.ownW.2 with h2 | ⟨b, cap, cur, h1, h2, h3, h4⟩
    · exact Or.inl h2
    · exact Or.inr ⟨b, cap, cur, h1, h2, (H b (fun e => h.wP (by rw [h1, e]; rfl))).trans h3, h4⟩
  · rw [ho]
    refine ⟨h.ownT.1, ?_⟩
    rcases h.ownT.2 with h2 | ⟨b, cap, cur, h1, h2, h3, h4⟩
    · exact Or.inl h2
    · exact Or.inr ⟨b, cap, cur, h1, h2, (H b (by omega)).trans h3, h4⟩
  · rw [ho]; exact h.lt.mono (fun b hb hlt => ⟨hb, by omega, H b (by have := hb.1.1; omega)⟩)
/-- Behind nextStage. -/
def NsOut (B : Nat) (X : Nat → Prop) (P n : Nat) (w0 w : World) (tv wv : Value) (g : Cg) (e : Ending) (w' : World) : Prop := e = .returned (.bool (nextS n g).isSome) ∧ ∃ a' wv' tv' TV', CSt B X P w0 w' ((nextS n g).getD g) a' n wv' tv' TV' ∧ Kp P w tv wv w' tv' wv'
/-- The plans' cells of a change. -/
abbrev S7 (P : Nat) (v1 : Int) (f1 q1 : Value) (v2 : Int) (f2 q2 : Value) (V : World) : Prop := V.cell? ⟨P, 1, none⟩ = some (.int .i64 v1) ∧ V.cell? ⟨P, 2, none⟩ = some f1 ∧ V.cell? ⟨P, 3, none⟩ = some q1 ∧ V.cell? ⟨P, 4, none⟩ = some (.int .i64 v2) ∧ V.cell? ⟨P, 5, none⟩ = some f2 ∧ V.cell? ⟨P, 6, none⟩ = some q2
theorem CSt.s7 {B : Nat} {X : Nat → Prop} {P n : Nat} {w0 w : World} {g : Cg} {a : CA} {wv tv : Value} {TV : List Value} (h : CSt B X P w0 w g a n wv tv TV) : S7 P g.c.now.v (.slice a.n.fo g.c.now.fs.length a.n.fc) (.slice a.n.qo g.c.now.ps.length a.n.qc) g.c.nxt.v (.slice a.x.fo g.c.nxt.fs.length a.x.fc) (.slice a.x.qo g.c.nxt.ps.length a.x.qc) w :=
  ⟨h.row.cell (i := 1) (by omega), h.row.cell (i := 2) (by omega), h.row.cell (i := 3) (by omega), h.row.cell (i := 4) (by omega), h.row.cell (i := 5) (by omega), h.row.cell (i := 6) (by omega)⟩

set_option maxRecDepth 100000 in
set_option maxHeartbeats 4000000 in
theorem nextStage_any (B : Nat) (X : Nat → Prop) (P n : Nat) (w0 w : World) (g : Cg) (a : CA) (wv tv : Value) (TV : List Value) (h : CSt B X P w0 w g a n wv tv TV) (hX : ∀ b, w.heap.size ≤ b → X b) (hn : n ≤ 8) (hnk : PlOk g.c.now) (hxk : PlOk g.c.nxt) (hwl : g.c.wts.length ≤ 16777216) (hol : g.c.st = 1 → g.out.length ≤ 100) :
    Calls Try.prog 52 #[.pointer (some ⟨P, 0, none⟩)] w fun e w' => NsOut B X P n w0 w tv wv g e w' := by
  obtain ⟨⟨st, now, nxt, num, wts⟩, out⟩ := g
  simp only at hnk hxk hwl hol
  have s0 : w.cell? ⟨P, 0, none⟩ = some (.int .i64 st) := h.row.cell (i := 0) (by omega)
  have z0 := h.row.frozen 0
  have HC := hidp h
  have hPl := h.row.lt
  clear h
  by_cases h1 : st = 1
  · subst h1
    have ho : out.length ≤ 100 := hol rfl
    clear hol
    have HN : Hid (nextS n ⟨⟨1, now, nxt, num, wts⟩, out⟩ = some (told n (stpO now nxt) ⟨⟨2, now, nxt, num, wts⟩, out⟩)) := rfl
    go_enter Try.func52, Try.ntmps52
    go_upto_region 6 with fail
    obtain ⟨w2, hw2⟩ : ∃ w2, w2 = w.setCell ⟨P, 0, none⟩ (.int .i64 2) := ⟨_, rfl⟩
    have HC2 : Hid (CSt B X P w0 w2 ⟨⟨2, now, nxt, num, wts⟩, out⟩ a n wv tv TV) := by rw [hw2]; exact HC.out.put (g' := ⟨⟨2, now, nxt, num, wts⟩, out⟩) 0 (by omega) _ rfl rfl rfl HC.out.hn HC.out.hx
    have HKp : Hid (Kp P w tv wv w2 tv wv) := by rw [hw2]; exact CSt.kput
    rw [← hw2]
    clear hw2 HC s0 z0
    have HX2 : Hid (∀ b, w2.drew.heap.size ≤ b → X b) := hidp (fun b hb => hX b (by have := HKp.out.size; exact Nat.le_trans this hb))
    have hd : Ext w2 w2.drew := (Ext.refl w2).drew
    have HS7 : Hid (∀ V, Ext w2 V → S7 P now.v (.slice a.n.fo now.fs.length a.n.fc) (.slice a.n.qo now.ps.length a.n.qc) nxt.v (.slice a.x.fo nxt.fs.length a.x.fc) (.slice a.x.qo nxt.ps.length a.x.qc) V) := fun V hV => (HC2.out.ext hV).s7
    have HST : Hid (Calls Try.prog 64 #[.agg #[.int .i64 now.v, .slice a.n.fo now.fs.length a.n.fc, .slice a.n.qo now.ps.length a.n.qc], .agg #[.int .i64 nxt.v, .slice a.x.fo nxt.fs.length a.x.fc, .slice a.x.qo nxt.ps.length a.x.qc]] w2.drew fun e w' => StepOf 75 n (stpO now nxt) w0 w2.drew w' e) := stamping_any now nxt a.n a.x n w0 _ HC2.out.hn.at HC2.out.hx.at hnk hxk
    have HTE : Hid (∀ (w1 : World) (p1 p2 : Nat), Ext w2.drew w1 → Hid (∀ (Q : Nat → Prop) (W : World), (∀ b, w2.drew.heap.size ≤ b → b < w1.heap.size → Q b ∧ b < W.heap.size ∧ W.heap[b]? = w1.heap[b]?) → Ext w0 W → (∀ b, W.heap.size ≤ b → Q b) → ∀ s : Nat, s < n → Calls Try.prog 75 #[.int .i64 s, .pointer (some ⟨p1, 0, none⟩), .pointer (some ⟨p2, 0, none⟩)] W fun e w'' => StOut Q (stpO now nxt s) e w'' ∧ Ext W w'') →
        Calls Try.prog 24 #[.pointer (some ⟨P, 0, none⟩), .func (.func 75) #[] #[.pointer (some ⟨p1, 0, none⟩), .pointer (some ⟨p2, 0, none⟩)]] w1 fun e w' => TeOut B X P w0 w1 (told n (stpO now nxt) ⟨⟨2, now, nxt, num, wts⟩, out⟩) a n wv tv e w') := fun w1 p1 p2 E1 hs =>
      tell_any B X 75 p1 p2 P n (stpO now nxt) w0 w1 _ a wv tv TV ((HC2.out.ext hd).ext E1) (Or.inr (Or.inr rfl)) (fun b hb => HX2.out b (Nat.le_trans E1.size hb)) hn hwl ho (step_tell (HC2.out.ext hd) HX2.out hs)
    clear hnk hxk hwl ho
    obtain ⟨v1, f1, q1, v2, f2, q2, e1, e2, e3, e4, e5, e6⟩ : ∃ v1 f1 q1 v2 f2 q2, now.v = v1 ∧ Value.slice a.n.fo now.fs.length a.n.fc = f1 ∧ Value.slice a.n.qo now.ps.length a.n.qc = q1 ∧ nxt.v = v2 ∧ Value.slice a.x.fo nxt.fs.length a.x.fc = f2 ∧ Value.slice a.x.qo nxt.ps.length a.x.qc = q2 := ⟨_, _, _, _, _, _, rfl, rfl, rfl, rfl, rfl, rfl⟩
    have HS8 : Hid (∀ V wv' tv' TV', CSt B X P w0 V (told n (stpO now nxt) ⟨⟨2, now, nxt, num, wts⟩, out⟩) a n wv' tv' TV' → S7 P now.v (.slice a.n.fo now.fs.length a.n.fc) (.slice a.n.qo now.ps.length a.n.qc) nxt.v (.slice a.x.fo nxt.fs.length a.x.fc) (.slice a.x.qo nxt.ps.length a.x.qc) V) := fun V wv' tv' TV' hV => hV.s7
    rw [e1, e2, e3, e4, e5, e6] at HS7 HST HS8
    clear e1 e2 e3 e4 e5 e6
    go_region_held3 (fun V => V.cell? ⟨P, 1, none⟩ = some (.int .i64 v1) ∧ V.cell? ⟨P, 2, none⟩ = some f1 ∧ V.cell? ⟨P, 3, none⟩ = some q1 ∧ V.cell? ⟨P, 4, none⟩ = some (.int .i64 v2) ∧ V.cell? ⟨P, 5, none⟩ = some f2 ∧ V.cell? ⟨P, 6, none⟩ = some q2)
      (first | with_reducible exact HS7.out _ hd | with_reducible exact HS7.out _ mk1 | with_reducible exact HSL.out)
      (first
      | (have _t := mk1
         go_at_call 24
         refine (HTE.out _ _ _ E1 HP).mono ?_
         rintro e w4 ⟨rfl, wv', tv', TV', hC4, hK4⟩
         have HC4 := hidp hC4
         have HSL := hidp (HS8.out _ _ _ _ hC4)
         have HK4 := hidp (HKp.out.trans ((Kp.ext mk1).trans hK4))
         clear hC4 hK4)
      | (go_at_call 64
         refine HST.out.mono ?_
         rintro e w3 ⟨p1, p2, rfl, E1, HP⟩
         have mk1 := hd.trans E1)
      | fail)
    all_goals
      go_wp2
      go_ret
      exact ⟨by rw [HN.out]; first | done | rfl, a, wv', tv', TV', by rw [HN.out]; exact HC4.out, HK4.out⟩
  · by_cases h2 : st = 2
    · subst h2
      have HN : Hid (nextS n ⟨⟨2, now, nxt, num, wts⟩, out⟩ = some ⟨⟨3, now, nxt, num, wts⟩, out⟩) := rfl
      clear hol hnk hxk hwl h1
      go_enter Try.func52, Try.ntmps52
      go_wp2
      go_ret
      exact ⟨by rw [HN.out]; first | done | rfl, a, wv, tv, TV, by rw [HN.out]; exact HC.out.put (g' := ⟨⟨3, now, nxt, num, wts⟩, out⟩) 0 (by omega) _ rfl rfl rfl HC.out.hn HC.out.hx, CSt.kput⟩
    · by_cases h4 : st = 4
      · subst h4
        have HN : Hid (nextS n ⟨⟨4, now, nxt, num, wts⟩, out⟩ = some ⟨⟨0, nxt, pl0, num, wts⟩, out⟩) := rfl
        clear hol hnk hxk hwl h1 h2
        obtain ⟨t1, t2, t3, t4, t5, t6⟩ := HC.out.s7
        simp only at t1 t2 t3 t4 t5 t6
        have z1 := HC.out.row.frozen 1
        have z2 := HC.out.row.frozen 2
        have z3 := HC.out.row.frozen 3
        have z4 := HC.out.row.frozen 4
        have z5 := HC.out.row.frozen 5
        have z6 := HC.out.row.frozen 6
        have HF : Hid (∃ a', CSt B X P w0 (((((((w.setCell ⟨P, 0, none⟩ (.int .i64 0)).setCell ⟨P, 1, none⟩ (.int .i64 nxt.v)).setCell ⟨P, 2, none⟩ (.slice a.x.fo nxt.fs.length a.x.fc)).setCell ⟨P, 3, none⟩ (.slice a.x.qo nxt.ps.length a.x.qc)).setCell ⟨P, 4, none⟩ (.int .i64 0)).setCell ⟨P, 5, none⟩ (.slice none 0 0)).setCell ⟨P, 6, none⟩ (.slice none 0 0)) ⟨⟨0, nxt, pl0, num, wts⟩, out⟩ a' n wv tv TV) := by
          have c := HC.out
          have hp : w0.heap.size ≤ P := c.hP
          refine ⟨⟨a.x, pa0, a.wo, a.wc⟩, c.redo ?_ (fun b hb => ?_) (by simp) ?_ rfl rfl c.hx (PlNew.zero B w0)⟩
          · exact rowL_set (rowL_set (rowL_set (rowL_set (rowL_set (rowL_set (rowL_set c.row (i := 0) (by simp [chL]) _) (i := 1) (by simp [chL]) _) (i := 2) (by simp [chL]) _) (i := 3) (by simp [chL]) _) (i := 4) (by simp [chL]) _) (i := 5) (by simp [chL]) _) (i := 6) (by simp [chL]) _
          · simp only [blk_setCell_other _ _ _ _ (show b ≠ (⟨P, 0, none⟩ : Addr).block from hb), blk_setCell_other _ _ _ _ (show b ≠ (⟨P, 1, none⟩ : Addr).block from hb), blk_setCell_other _ _ _ _ (show b ≠ (⟨P, 2, none⟩ : Addr).block from hb), blk_setCell_other _ _ _ _ (show b ≠ (⟨P, 3, none⟩ : Addr).block from hb), blk_setCell_other _ _ _ _ (show b ≠ (⟨P, 4, none⟩ : Addr).block from hb), blk_setCell_other _ _ _ _ (show b ≠ (⟨P, 5, none⟩ : Addr).block from hb), blk_setCell_other _ _ _ _ (show b ≠ (⟨P, 6, none⟩ : Addr).block from hb)]
          · exact ((((((c.bel.setCell (by simpa using hp) _).setCell (by simpa using hp) _).setCell (by simpa using hp) _).setCell (by simpa using hp) _).setCell (by simpa using hp) _).setCell (by simpa using hp) _).setCell (by simpa using hp) _
        obtain ⟨a', hF⟩ := HF.out
        have HF' := hidp hF
        clear hF HF
        go_enter Try.func52, Try.ntmps52
        go_wp2
        go_ret
        exact ⟨by rw [HN.out]; first | done | rfl, a', wv, tv, TV, by rw [HN.out]; exact HF'.out, (CSt.kput.trans (CSt.kput.trans (CSt.kput.trans (CSt.kput.trans (CSt.kput.trans (CSt.kput.trans CSt.kput))))))⟩
      · have HN : Hid (nextS n ⟨⟨st, now, nxt, num, wts⟩, out⟩ = none) := by show nextS _ _ = _; unfold nextS; simp [h1, h2, h4]
        have b1 : (st == 1) = false := by simpa using h1
        have b2 : (st == 2) = false := by simpa using h2
        have b4 : (st == 4) = false := by simpa using h4
        clear hol hnk hxk hwl h1 h2 h4
        go_enter Try.func52, Try.ntmps52
        go_wp2
        go_ret
        exact ⟨by rw [HN.out]; first | done | rfl, a, wv, tv, TV, by rw [HN.out]; exact HC.out, Kp.ext (Ext.refl w)⟩

end Go.Proofs.Ytgffkjjddhlbpaa.Ct
