/- What tell does, whatever step it is given. -/
import Derived.Test.YtgffkjjddhlbpaaC4
import Derived.Deep.RegionLaw
import Derived.Deep.RegionHeld3
import Derived.Deep.DeepCutAuto
namespace Go.Proofs.Ytgffkjjddhlbpaa.Ct
open Go.RowKit Go.Deep Stw Stp Tb Rul

theorem CSt.fresh {B : Nat} {X : Nat → Prop} {P n : Nat} {w0 w : World} {g : Cg} {a : CA} {wv tv : Value} {TV : List Value} (h : CSt B X P w0 w g a n wv tv TV) : ∀ b, w.heap.size ≤ b → Qn P tv wv b := fun b hb => by
  have hP := h.row.lt
  refine ⟨by omega, fun e => ?_, fun e => ?_⟩
  · have := (h.ownW.lt b e).2; omega
  · have := (h.ownT.lt b e).2; omega
theorem told_zero (ord : Nat → Option Wir.Od) (g : Cg) : told 0 ord g = g := rfl
theorem told_none {k : Nat} {ord : Nat → Option Wir.Od} {g : Cg} (h : ord k = none) : told (k + 1) ord g = told k ord g := by
  unfold told; rw [tel, h]; rfl
theorem told_some {k : Nat} {ord : Nat → Option Wir.Od} {g : Cg} {x : Wir.Od} (h : ord k = some x) : told (k + 1) ord g =
    ⟨⟨(told k ord g).c.st, (told k ord g).c.now, (told k ord g).c.nxt, nx (told k ord g).c.num, (told k ord g).c.wts ++ [nx (told k ord g).c.num]⟩, (told k ord g).out ++ [(k, ⟨x.k, nx (told k ord g).c.num, x.v, x.rs, x.fs⟩)]⟩ := by
  unfold told; rw [tel, h]; rfl
theorem told_len {ord : Nat → Option Wir.Od} {g : Cg} : ∀ k, (told k ord g).c.wts.length ≤ g.c.wts.length + k ∧ (told k ord g).out.length ≤ g.out.length + k
  | 0 => ⟨Nat.le_refl _, Nat.le_refl _⟩
  | k + 1 => by
    have ih := told_len (ord := ord) (g := g) k
    cases h : ord k with
    | none => rw [told_none h]; omega
    | some x => rw [told_some h]; simp only [List.length_append, List.length_cons, List.length_nil]; omega
theorem enter_any {F : Nat} (hF : F = 51 ∨ F = 59 ∨ F = 75) : ∀ (args : Array Value) (W : World), (callFunc F args).run Try.prog W = .ok (.enter F args) W := by
  intro args W
  rcases hF with rfl | rfl | rfl <;> kernel_rfl
/-- Behind tell. -/
def TeOut (B : Nat) (X : Nat → Prop) (P : Nat) (w0 w : World) (G : Cg) (a : CA) (n : Nat) (wv tv : Value) (e : Ending) (w' : World) : Prop := e = .returned (.tuple #[]) ∧ ∃ wv' tv' TV', CSt B X P w0 w' G a n wv' tv' TV' ∧ Kp P w tv wv w' tv' wv'

set_option maxRecDepth 100000 in
set_option maxHeartbeats 4000000 in
theorem tell_any (B : Nat) (X : Nat → Prop) (F p1 p2 P n : Nat) (ord : Nat → Option Wir.Od) (w0 w : World) (g : Cg) (a : CA) (wv tv : Value) (TV : List Value) (h : CSt B X P w0 w g a n wv tv TV) (hF : F = 51 ∨ F = 59 ∨ F = 75) (hX : ∀ b, w.heap.size ≤ b → X b) (hn : n ≤ 8) (hwl : g.c.wts.length ≤ 16777216) (hol : g.out.length ≤ 100)
    (hst : ∀ W tv' wv', Kp P w tv wv W tv' wv' → Ext w0 W → (∀ b, W.heap.size ≤ b → Qn P tv' wv' b ∧ X b) → ∀ s : Nat, s < n → Calls Try.prog F #[.int .i64 s, .pointer (some ⟨p1, 0, none⟩), .pointer (some ⟨p2, 0, none⟩)] W fun e w' => StOut (fun b => Qn P tv' wv' b ∧ X b) (ord s) e w' ∧ Ext W w') :
    Calls Try.prog 24 #[.pointer (some ⟨P, 0, none⟩), .func (.func F) #[] #[.pointer (some ⟨p1, 0, none⟩), .pointer (some ⟨p2, 0, none⟩)]] w fun e w' => TeOut B X P w0 w (told n ord g) a n wv tv e w' := by
  have HCF := hidp (enter_any hF)
  have HXX := hidp hX
  clear hX
  have HST := hidp hst
  have HC := hidp h
  clear hst
  obtain ⟨i0, hi0, hz00, hz01, hz02⟩ := info_parts infoI
  obtain ⟨j0, hj0, hy0, hy1, hy2⟩ := info_parts infoT
  have s9 : w.cell? ⟨P, 9, none⟩ = some (.int .i64 n) := h.row.cell (i := 9) (by omega)
  clear h
  go_enter Try.func24, Try.ntmps24
  go_wp2
  clear s9
  go_loopw [11] (fun iv wr => ∃ (k : Nat) (wv' tv' : Value) (TV' : List Value), k ≤ n ∧ iv = .int .i64 k ∧ Hid (CSt B X P w0 wr (told k ord g) a n wv' tv' TV') ∧ Hid (Kp P w tv wv wr tv' wv')) (fun iv _ => n - (intOf iv).toNat)
  case atStart => exact ⟨0, wv, tv, TV, Nat.zero_le _, rfl, HC, Kp.ext (Ext.refl w)⟩
  case round =>
    obtain ⟨k, wv', tv', TV', hk, rfl, HC1, HK1⟩ := hrel
    by_cases hlt : k < n
    · have i1 : (k : Int) < (n : Int) := by omega
      have HL := hidp (told_len (ord := ord) (g := g) k)
      go_wp2_with fail
      rw [HCF.out]
      refine Calls.mono (HST.out wr tv' wv' HK1.out HC1.out.bel (fun b hb => ⟨HC1.out.fresh b hb, HXX.out b (Nat.le_trans HK1.out.size hb)⟩) k hlt) ?_
      rintro e w1 ⟨⟨ok, ov, ro, fo, rl, rc, fl, fc, rfl, hx⟩, E1⟩
      have HX := hidp hx
      clear hx
      have HC2 := hidp (HC1.out.ext E1)
      have HK2 := hidp (HK1.out.trans (Kp.ext E1))
      clear HC1 HK1
      cases ho : ord k with
      | none =>
        have HT := hidp (told_none (g := g) ho)
        clear ho
        go_wp2
        refine ⟨⟨k + 1, wv', tv', TV', by omega, by go_num, ?_, ?_⟩, by simp [intOf]; omega⟩
        · rw [HT.out]; exact HC2.out.ext ((Ext.refl w1).alloc _)
        · exact HK2.out.trans (Kp.ext ((Ext.refl w1).alloc _))
      | some x =>
        have HT := hidp (told_some (g := g) ho)
        have HX2 := hidp (HX.out x ho)
        clear ho HX
        obtain ⟨G, hG⟩ : ∃ G, told k ord g = G := ⟨_, rfl⟩
        rw [hG] at HC2 HT HL
        clear hG
        obtain ⟨⟨st, now, nxt, num, wts⟩, out⟩ := G
        simp only at HC2 HT HL
        obtain ⟨m, hm⟩ : ∃ m, nx num = m := ⟨_, rfl⟩
        rw [hm] at HT
        have hm' : IntKind.i64.wrap (num + 1) = m := hm
        have c7 : w1.cell? ⟨P, 7, none⟩ = some (.int .i64 num) := HC2.out.row.cell (i := 7) (by omega)
        have z7 := HC2.out.row.frozen 7
        have hPl := HC2.out.row.lt
        clear hm
        go_upto_region 7 with fail
        obtain ⟨w4, hw4⟩ : ∃ w4, w4 = (w1.setCell ⟨P, 7, none⟩ (.int .i64 m)).alloc (.cells #[.int .i64 ok, .int .i64 m, .int .i64 ov, .slice ro rl rc, .slice fo fl fc] 56) := ⟨_, rfl⟩
        have E4 : Ext (w1.setCell ⟨P, 7, none⟩ (.int .i64 m)) w4 := by rw [hw4]; exact (Ext.refl _).alloc _
        have HC4 : Hid (CSt B X P w0 w4 ⟨⟨st, now, nxt, m, wts⟩, out⟩ a n wv' tv' TV') := (HC2.out.put (g' := ⟨⟨st, now, nxt, m, wts⟩, out⟩) 7 (by omega) (.int .i64 m) rfl rfl rfl HC2.out.hn HC2.out.hx).ext E4
        have k4 : Kp P w1 tv' wv' w4 tv' wv' := CSt.kput.trans (Kp.ext E4)
        have HK4 : Hid (Kp P w tv wv w4 tv' wv') := HK2.out.trans k4
        have HR4 : Hid (ok = x.k ∧ ov = x.v ∧ RQ w4 (fun b => Qn P tv' wv' b ∧ X b) x.rs (.slice ro rl rc) ∧ LQ w4 (fun b => Qn P tv' wv' b ∧ X b) x.fs (.slice fo fl fc)) := ⟨HX2.out.1, HX2.out.2.1, HX2.out.2.2.1.mono k4.hx, HX2.out.2.2.2.mono k4.hx⟩
        have HB4 : Hid (w4.heap[w1.heap.size]? = some (.cells #[.int .i64 ok, .int .i64 m, .int .i64 ov, .slice ro rl rc, .slice fo fl fc] 56 (0, 0)) ∧ w1.heap.size < w4.heap.size ∧ w1.heap.size ≠ P ∧ wv'.ownBlock ≠ some w1.heap.size) := by
          refine ⟨?_, by rw [hw4]; simp, by omega, fun e => ?_⟩
          · rw [hw4]
            have := blk_alloc_new (w1.setCell ⟨P, 7, none⟩ (.int .i64 m)) (.cells #[.int .i64 ok, .int .i64 m, .int .i64 ov, .slice ro rl rc, .slice fo fl fc] 56)
            rwa [show (w1.setCell ⟨P, 7, none⟩ (.int .i64 m)).heap.size = w1.heap.size by simp] at this
          · have := (HC2.out.ownW.lt _ e).2; omega
        rw [← hw4]
        clear hw4 E4 k4 c7 z7 hPl HC2 HK2 HX2 E1
        obtain ⟨b, hb⟩ : ∃ b, b = w1.heap.size := ⟨_, rfl⟩
        rw [← hb] at HB4 ⊢
        clear hb
        have q8 : w4.cell? ⟨P, 8, none⟩ = some wv' := HC4.out.row.cell (i := 8) (by omega)
        have o1 : w4.cell? ⟨b, 1, none⟩ = some (.int .i64 m) := box_cell HB4.out.1 1
        have hPl := HC4.out.row.lt
        have hb4 := HB4.out.2.1
        have hL := HL.out
        have HFIN : Hid (∀ (g5 gc5 : Nat) (w5 : World), w5.ownsRow w0.heap.size 3 1 (.slice (some ⟨g5, 0, none⟩) (wts.length + 1) gc5) (wts.length + 1) (wts.map (Value.int .i64) ++ [.int .i64 m]) → (w4.alloc (.cells #[.int .i64 m] 3)).grownBy w5 wv'.ownBlock → (wv'.ownBlock = some g5 ∨ g5 = w4.heap.size + 1) →
            w5.cell? ⟨P, 8, none⟩ = some wv' ∧ w5.frozen? ⟨P, 8, none⟩ = false ∧ Hid (CSt B X P w0 (w5.setCell ⟨P, 8, none⟩ (.slice (some ⟨g5, 0, none⟩) (wts.length + 1) gc5)) ⟨⟨st, now, nxt, m, wts ++ [m]⟩, out⟩ a n (.slice (some ⟨g5, 0, none⟩) (wts.length + 1) gc5) tv' TV' ∧ Kp P w tv wv (w5.setCell ⟨P, 8, none⟩ (.slice (some ⟨g5, 0, none⟩) (wts.length + 1) gc5)) tv' (.slice (some ⟨g5, 0, none⟩) (wts.length + 1) gc5) ∧
              ok = x.k ∧ ov = x.v ∧ RQ (w5.setCell ⟨P, 8, none⟩ (.slice (some ⟨g5, 0, none⟩) (wts.length + 1) gc5)) (fun b => Qn P tv' (.slice (some ⟨g5, 0, none⟩) (wts.length + 1) gc5) b ∧ X b) x.rs (.slice ro rl rc) ∧ LQ (w5.setCell ⟨P, 8, none⟩ (.slice (some ⟨g5, 0, none⟩) (wts.length + 1) gc5)) (fun b => Qn P tv' (.slice (some ⟨g5, 0, none⟩) (wts.length + 1) gc5) b ∧ X b) x.fs (.slice fo fl fc) ∧
              (w5.setCell ⟨P, 8, none⟩ (.slice (some ⟨g5, 0, none⟩) (wts.length + 1) gc5)).heap[b]? = some (.cells #[.int .i64 ok, .int .i64 m, .int .i64 ov, .slice ro rl rc, .slice fo fl fc] 56 (0, 0)))) := fun g5 gc5 w5 hown5 hgr5 hat5 => by
          obtain ⟨r1, r2, r3, r4, r5⟩ := HC4.out.pushW hown5 hgr5 hat5
          exact ⟨r1, r2, r3, HK4.out.trans r4, HR4.out.1, HR4.out.2.1, HR4.out.2.2.1.mono r4.hx, HR4.out.2.2.2.mono r4.hx, (r5 b HB4.out.2.1 HB4.out.2.2.1 HB4.out.2.2.2).trans HB4.out.1⟩
        go_region_law
          (refine step_append_lies _ ?_ (.tmp 42) (.tmp 45) 26 ?_ w0.heap.size 3 i0 (.int .i64 0) 1 8 Try.underlying26 hi0 hz00 hz01 hz02 rfl (by decide) wv' wts.length (wts.map (Value.int .i64)) ?_ ?_ ⟨w4.heap.size, 0, none⟩ 1 1 [.int .i64 m] ?_ ?_ ?_ (one1i _) ?_ ?_ ?_ ?_ _ rfl ?_
           · rfl
           · rfl
           · rfl
           · exact own_extU HC4.out.ownW ((Ext.refl w4).alloc _).drew
           · rfl
           · rfl
           · exact World.news_of_block (cs := #[.int .i64 m]) (blk_alloc_new w4 _)
           · omega
           · unfold maxLen; omega
           · omega
           · have := HC4.out.bel.size; simp; omega
           intro g5 gc5 w5 hown5 hgr5 hat5 hlt5
           have hfin := HFIN.out g5 gc5 w5 hown5 ⟨hgr5.os, hgr5.tape, hgr5.output, hgr5.size, hgr5.block⟩ (hat5.imp id (fun h => by simpa using h))
           have q1 := hfin.1
           have q2 := hfin.2.1
           have HG5 := hidp hfin.2.2.out
           clear hown5 hgr5 hat5 hlt5 hfin)
        all_goals
          clear q8 o1 HFIN HC4 HK4 HR4 HB4 hb4 hPl
          go_upto_region 8 with fail
          obtain ⟨w8, hw8⟩ : ∃ w8, w8 = w5.setCell ⟨P, 8, none⟩ (.slice (some ⟨g5, 0, none⟩) (wts.length + 1) gc5) := ⟨_, rfl⟩
          rw [← hw8] at HG5 ⊢
          clear hw8 q1 q2
          have q10 : w8.cell? ⟨P, 10, none⟩ = some tv' := HG5.out.1.row.cell (i := 10) (by omega)
          have o0 : w8.cell? ⟨b, 0, none⟩ = some (.int .i64 ok) := box_cell HG5.out.2.2.2.2.2.2 0
          have o1 : w8.cell? ⟨b, 1, none⟩ = some (.int .i64 m) := box_cell HG5.out.2.2.2.2.2.2 1
          have o2 : w8.cell? ⟨b, 2, none⟩ = some (.int .i64 ov) := box_cell HG5.out.2.2.2.2.2.2 2
          have o3 : w8.cell? ⟨b, 3, none⟩ = some (.slice ro rl rc) := box_cell HG5.out.2.2.2.2.2.2 3
          have o4 : w8.cell? ⟨b, 4, none⟩ = some (.slice fo fl fc) := box_cell HG5.out.2.2.2.2.2.2 4
          have hPl := HG5.out.1.row.lt
          have hb8 : b < w8.heap.size := (Array.getElem?_eq_some_iff.1 HG5.out.2.2.2.2.2.2).1
          have HFIN : Hid (∀ (g6 gc6 : Nat) (w6 : World), w6.ownsRow (P + 1) 58 6 (.slice (some ⟨g6, 0, none⟩) (out.length + 1) gc6) (out.length + 1) (TV' ++ [.int .i64 (k : Int), .int .i64 ok, .int .i64 m, .int .i64 ov, .slice ro rl rc, .slice fo fl fc]) → (w8.alloc (.cells #[.int .i64 (k : Int), .int .i64 ok, .int .i64 m, .int .i64 ov, .slice ro rl rc, .slice fo fl fc] 58)).grownBy w6 tv'.ownBlock → (tv'.ownBlock = some g6 ∨ g6 = w8.heap.size + 1) →
              w6.cell? ⟨P, 10, none⟩ = some tv' ∧ w6.frozen? ⟨P, 10, none⟩ = false ∧ Hid (CSt B X P w0 (w6.setCell ⟨P, 10, none⟩ (.slice (some ⟨g6, 0, none⟩) (out.length + 1) gc6)) (told (k + 1) ord g) a n (.slice (some ⟨g5, 0, none⟩) (wts.length + 1) gc5) (.slice (some ⟨g6, 0, none⟩) (out.length + 1) gc6) (TV' ++ [.int .i64 (k : Int), .int .i64 ok, .int .i64 m, .int .i64 ov, .slice ro rl rc, .slice fo fl fc]) ∧
                Kp P w tv wv (w6.setCell ⟨P, 10, none⟩ (.slice (some ⟨g6, 0, none⟩) (out.length + 1) gc6)) (.slice (some ⟨g6, 0, none⟩) (out.length + 1) gc6) (.slice (some ⟨g5, 0, none⟩) (wts.length + 1) gc5))) := fun g6 gc6 w6 hown6 hgr6 hat6 => by
            obtain ⟨hC, hK, e1, e2, hR, hF, _⟩ := HG5.out
            rw [e1, e2] at hown6 hgr6 ⊢
            obtain ⟨r1, r2, r3, r4⟩ := hC.pushT (x := (k, ⟨x.k, m, x.v, x.rs, x.fs⟩)) hR hF hown6 hgr6 hat6
            exact ⟨r1, r2, by rw [HT.out]; exact r3, hK.trans r4⟩
          go_region_law
            (refine step_append_lies _ ?_ (.tmp 54) (.tmp 58) 32 ?_ (P + 1) 58 j0 (.agg #[.int .i64 0, .int .i64 0, .int .i64 0, .int .i64 0, .slice none 0 0, .slice none 0 0]) 6 80 Try.underlying32 hj0 hy0 hy1 hy2 rfl (by decide) tv' out.length TV' ?_ ?_ ⟨w8.heap.size, 0, none⟩ 1 1 [.int .i64 (k : Int), .int .i64 ok, .int .i64 m, .int .i64 ov, .slice ro rl rc, .slice fo fl fc] ?_ ?_ ?_ (one6s _ _ _ _ _ _ _ _ _ _) ?_ ?_ ?_ ?_ _ rfl ?_
             · rfl
             · rfl
             · rfl
             · exact own_extU HG5.out.1.ownT ((Ext.refl w8).alloc _).drew
             · rfl
             · rfl
             · exact World.news_of_block (cs := #[.int .i64 (k : Int), .int .i64 ok, .int .i64 m, .int .i64 ov, .slice ro rl rc, .slice fo fl fc]) (blk_alloc_new w8 _)
             · omega
             · unfold maxLen; omega
             · omega
             · simp; omega
             intro g6 gc6 w6 hown6 hgr6 hat6 hlt6
             have hfin := HFIN.out g6 gc6 w6 hown6 ⟨hgr6.os, hgr6.tape, hgr6.output, hgr6.size, hgr6.block⟩ (hat6.imp id (fun h => by simpa using h))
             have q1 := hfin.1
             have q2 := hfin.2.1
             have HG6 := hidp hfin.2.2.out
             clear hown6 hgr6 hat6 hlt6 hfin)
          all_goals
            clear q10 o0 o1 o2 o3 o4 HFIN
            go_wp2
            refine ⟨⟨k + 1, _, _, _, by omega, by go_num, HG6.out.1, HG6.out.2⟩, by simp [intOf]; omega⟩
    · have hkn : k = n := by omega
      have i1 : ¬ (k : Int) < (n : Int) := by omega
      rw [hkn] at HC1
      clear hkn
      go_wp2
      go_end0
      exact ⟨rfl, _, _, _, HC1.out, HK1.out⟩

end Go.Proofs.Ytgffkjjddhlbpaa.Ct
