/- What the document's own Back answers. -/
import Derived.Test.YtgffkjjddhlbpaaV21
import Derived.Test.YtgffkjjddhlbpaaCTc
import Derived.Test.YtgffkjjddhlbpaaR1
/- What the document's own Rules of a plan at a switch answers; nothing that was there is changed. -/
namespace Go.Proofs.Ytgffkjjddhlbpaa.Tb
open Go.RowKit Go.Maps Stw Go.Deep Rul Go.Sort

set_option maxRecDepth 100000 in
set_option maxHeartbeats 800000 in
theorem refRules_any (v s : Int) (fo qo : Option Addr) (fl fc ql qc : Nat) (ps : List (List Int)) (w : World) (hql : ps.length = ql) (hps : PsAt w qo ps) (hT : tot ps ps.length * 24 ≤ 140737488351232) (hqx : ql ≤ 4611686018427387904) :
    Calls Try.prog 28 #[.agg #[.int .i64 v, .slice fo fl fc, .slice qo ql qc], .int .i64 s] w fun e w' => ∃ v', e = .returned v' ∧ RO w' w.heap.size v' (rof v s ps ql) ∧ Ext w w' := by
  obtain ⟨i3', hi3, hz0, hz1, hz2⟩ := infoR'
  have hE0 : Ext w (w.alloc (.cells #[.int .i64 v, .slice fo fl fc, .slice qo ql qc] 25)) := (Ext.refl w).alloc _
  have HB : Hid (∀ W : World, Ext (w.alloc (.cells #[.int .i64 v, .slice fo fl fc, .slice qo ql qc] 25)) W → W.cell? ⟨w.heap.size, 0, none⟩ = some (.int .i64 v) ∧ W.cell? ⟨w.heap.size, 2, none⟩ = some (.slice qo ql qc)) := fun W h =>
    ⟨(h.cells.1 _ _ (by simp)).trans (by simp), (h.cells.1 _ _ (by simp)).trans (by simp)⟩
  have HT : Hid _ := hT
  clear hT
  go_enter Try.func28, Try.ntmps28
  go_wp2
  obtain ⟨W1, hW1⟩ : ∃ W1, W1 = w.alloc (.cells #[.int .i64 v, .slice fo fl fc, .slice qo ql qc] 25) := ⟨_, rfl⟩
  have hW1s : w.heap.size < W1.heap.size := by rw [hW1]; simp
  rw [← hW1] at HB hE0 ⊢
  clear hW1
  go_loopw [5, 13] (fun ov iv wd => ∃ k : Nat, k ≤ ql ∧ iv = .int .i64 k ∧ Hid (RO wd W1.heap.size ov (rof v s ps k)) ∧ Ext W1 wd) (fun _ iv _ => ql - (intOf iv).toNat)
  case atStart => exact ⟨0, Nat.zero_le _, rfl, RO.nil _ _, Ext.refl W1⟩
  case round =>
    obtain ⟨k, hk, rfl, HO, hE⟩ := hrel
    by_cases hlt : k < ql
    · have i1 : (k : Int) < (ql : Int) := by omega
      have htk : tot ps k + (ps.getD k []).length ≤ tot ps ps.length := by have := tot_mono (ps := ps) (j := k + 1) (k := ps.length) (by omega); rwa [tot] at this
      rcases hps.ext hE0 with h0 | ⟨g, off, rfl, hg, hcs⟩
      · exfalso; rw [h0] at hql; simp at hql; omega
      obtain ⟨xo, xc, cx0, lx⟩ := hcs k (by omega)
      have cx := (hE.cells.1 _ _ hg).trans cx0
      clear cx0
      obtain ⟨path, hpath⟩ : ∃ path, path = ps.getD k [] := ⟨_, rfl⟩
      rw [← hpath] at cx lx htk
      have hr1 : Hid (rof v s ps (k + 1) = rof v s ps k ++ stk v k s path path.length) := by show rof v s ps k ++ _ = _; rw [hpath]
      clear hpath hcs
      obtain ⟨L, hL⟩ : ∃ L, L = path.length := ⟨_, rfl⟩
      rw [← hL] at cx htk
      have hL1 : L ≤ path.length := by omega
      have hL2 : path.length ≤ L := by omega
      have HL : Hid (L = path.length) := hL
      clear hL
      have hLx : L ≤ 4611686018427387904 := by have := HT.out; omega
      have HO1 : Hid (RO wr W1.heap.size u5 (rof v s ps k ++ stk v k s path 0)) := by show RO _ _ _ (_ ++ []); rw [List.append_nil]; exact HO.out
      go_wp2
      clear cx
      go_loopw [5, 20] (fun ov jv wd => ∃ j : Nat, j ≤ L ∧ jv = .int .i64 j ∧ Hid (RO wd W1.heap.size ov (rof v s ps k ++ stk v k s path j)) ∧ Ext W1 wd) (fun _ jv _ => L - (intOf jv).toNat)
      case atStart => exact ⟨0, Nat.zero_le _, rfl, HO1, hE⟩
      case round =>
        clear HO1 HO hE
        obtain ⟨j, hj, rfl, HO, hE⟩ := hrel
        by_cases hjl : j < L
        · have i2 : (j : Int) < (L : Int) := by omega
          rcases lx with h0 | ⟨b, o, rfl, hb, hin0⟩
          · exfalso; rw [h0] at hL2 hL1; simp at hL1 hL2; omega
          have c1 := (hE.cells.1 _ _ hb).trans (hin0 j (by omega))
          obtain ⟨a, ha⟩ : ∃ a, path.getD j 0 = a := ⟨_, rfl⟩
          rw [ha] at c1
          obtain ⟨b0, b2⟩ := HB.out wr hE
          by_cases hc : a = s ∧ j + 1 < L
          · have c2 := (hE.cells.1 _ _ hb).trans (hin0 (j + 1) (by omega))
            obtain ⟨y, hy⟩ : ∃ a, path.getD (j + 1) 0 = a := ⟨_, rfl⟩
            rw [hy] at c2
            have hst : stk v k s path (j + 1) = stk v k s path j ++ [(v, (k : Int), y)] := by rw [stk, ha, hy, if_pos ⟨hc.1, by omega⟩]
            have HST : Hid _ := hst
            have e1 : (a == s) = true := by simpa using hc.1
            have i3 : (j : Int) < (L : Int) - 1 := by omega
            have i4 : (j : Int) + 1 < (L : Int) := by omega
            have p0 : (0 : Int) ≤ (j : Int) + 1 := by omega
            obtain ⟨R, hR⟩ : ∃ R, rof v s ps k ++ stk v k s path j = R := ⟨_, rfl⟩
            have hRl : R.length ≤ tot ps k + L := by
              rw [← hR, List.length_append]
              have h1 := rof_len (v := v) (s := s) (ps := ps) k
              have h2 := stk_len (v := v) (f := k) (s := s) (path := path) j
              omega
            have hown : RO wr W1.heap.size u5 R := by rw [← hR]; exact HO.out
            have HOw : Hid (RO wr W1.heap.size u5 R) := hown
            have HRR : Hid _ := hR
            have hTo := HT.out
            have hsz := hE.size
            have ww : IntKind.i64.wrap ((j : Int) + 1) = (j : Int) + 1 := by rw [IntKind.wrap_i64]; omega
            have HFIN : Hid (∀ (g5 gc5 : Nat) (w5 : World), w5.ownsRow W1.heap.size 116 3 (.slice (some ⟨g5, 0, none⟩) (R.length + 1) gc5) (R.length + 1) (rcs R ++ [.int .i64 v, .int .i64 k, .int .i64 y]) → (wr.alloc (.cells #[.int .i64 v, .int .i64 k, .int .i64 y] 116)).grownBy w5 u5.ownBlock →
                RO w5 W1.heap.size (.slice (some ⟨g5, 0, none⟩) (R.length + 1) gc5) (rof v s ps k ++ stk v k s path (j + 1)) ∧ Ext W1 w5) := fun g5 gc5 w5 ho hg => by
              refine ⟨?_, Below.grown (hE.alloc _) hg (by simp; omega) (fun q hq => (hown.block q hq).1)⟩
              rw [hst, ← List.append_assoc, hR]
              unfold RO
              rw [rcs_append, List.length_append]
              simpa [rcs] using ho
            clear hst ha hy hc hin0 hR hown HO
            go_wp2
            go_region_law
              (refine step_append_lies _ ?_ (.tmp 35) (.tmp 45) 54 ?_ W1.heap.size 116 i3' (.agg #[.int .i64 0, .int .i64 0, .int .i64 0]) 3 24 Try.underlying54 hi3 hz0 hz1 hz2 rfl (by decide) u5 R.length (rcs R) ?_ ?_ ⟨wr.heap.size, 0, none⟩ 1 1 [.int .i64 v, .int .i64 k, .int .i64 y] ?_ ?_ ?_ (one3 _ _ _) ?_ ?_ ?_ ?_ _ rfl ?_
               · rfl
               · rfl
               · rfl
               · exact RO.ext HOw.out ((Ext.refl wr).alloc _).drew
               · rfl
               · rfl
               · exact World.news_of_block (cs := #[.int .i64 v, .int .i64 k, .int .i64 y]) (blk_alloc_new wr _)
               · omega
               · unfold maxLen; omega
               · omega
               · simp; omega
               intro g5 gc5 w5 hown5 hgr5 hat5 hlt5
               have HG5 : Hid _ := HFIN.out g5 gc5 w5 hown5 ⟨hgr5.os, hgr5.tape, hgr5.output, hgr5.size, hgr5.block⟩
               clear hown5 hgr5 hat5 hlt5)
            all_goals (
              go_wp2
              exact ⟨⟨j + 1, by omega, by go_num, HG5.out.1, HG5.out.2⟩, by simp [intOf]; omega⟩)
          · have HO2 : Hid (RO wr W1.heap.size u5 (rof v s ps k ++ stk v k s path (j + 1))) := by
              show RO _ _ _ _
              rw [stk, ha, if_neg (fun h => hc ⟨h.1, by omega⟩), List.append_nil]
              exact HO.out
            by_cases hs : a = s
            · have hjn : ¬ j + 1 < L := fun h => hc ⟨hs, h⟩
              have e1 : (a == s) = true := by simpa using hs
              have i3 : ¬ (j : Int) < (L : Int) - 1 := by omega
              clear hc hs ha HO hin0
              go_wp2
              exact ⟨⟨j + 1, by omega, by go_num, HO2, hE⟩, by simp [intOf]; omega⟩
            · have e1 : (a == s) = false := by simpa using hs
              clear hc hs ha HO hin0
              go_wp2
              exact ⟨⟨j + 1, by omega, by go_num, HO2, hE⟩, by simp [intOf]; omega⟩
        · have i2 : ¬ (j : Int) < (L : Int) := by omega
          have HO2 : Hid (RO wr W1.heap.size u5 (rof v s ps (k + 1))) := by
            show RO _ _ _ _
            rw [hr1.out, show path.length = j by omega]
            exact HO.out
          go_wp2
          exact ⟨⟨k + 1, by omega, by go_num, HO2, hE⟩, by simp [intOf]; omega⟩
    · have hkq : k = ql := by omega
      have HO2 : Hid (RO wr W1.heap.size u5 (rof v s ps ql)) := by have := HO.out; rwa [hkq] at this
      go_wp2
      go_ret
      refine ⟨_, rfl, ?_, hE0.trans hE⟩
      have h := HO2.out
      refine ⟨h.1, ?_⟩
      rcases h.2 with h2 | ⟨g, cap, cur, h1, h2, h3⟩
      · exact Or.inl h2
      · exact Or.inr ⟨g, cap, cur, h1, by omega, h3⟩

end Go.Proofs.Ytgffkjjddhlbpaa.Tb

/- What the document's own Drop answers. -/
namespace Go.Proofs.Ytgffkjjddhlbpaa.Ct
open Go.RowKit Go.Deep Stw Stp Tb Rul

/-- The blocks that an answer lies in: those of what came in, and new ones. -/
def ZR (Y : Nat → Prop) (w : World) (b : Nat) : Prop := b ≠ w.heap.size + 1 + 1 ∧ (Y b ∨ w.heap.size ≤ b)
/-- What the document's own answers. -/
def RfOut (Y : Nat → Prop) (w : World) (G : Cg) (k : Int) (e : Ending) (w' : World) : Prop := ∃ (a' : CA) (tO : Option Addr) (tc : Nat), e = .returned (.tuple #[cvl G.c a', .slice tO G.out.length tc, .int .i64 k]) ∧ Hid (∀ U : World, w'.heap.size ≤ U.heap.size → (∀ b, (Y b ∨ w.heap.size ≤ b) → b < w'.heap.size → U.heap[b]? = w'.heap[b]?) → CoAt U G.c a' ∧ TosAt U tO G.out) ∧ Ext w w'
theorem rf_none {Y : Nat → Prop} {w V : World} {R : Nat} {k : Int} (hwR : w.heap.size ≤ R) (E : Ext w V) (x0 x1 x2 x3 x4 x5 x6 x7 x8 : Value) : RfOut Y w ⟨co0, []⟩ k (.returned (.tuple #[.agg #[.int .i64 0, .int .i64 0, .slice none 0 0, .slice none 0 0, .int .i64 0, .slice none 0 0, .slice none 0 0, .int .i64 0, .slice none 0 0], .slice none 0 0, .int .i64 k])) (W9 V R x0 x1 x2 x3 x4 x5 x6 x7 x8) :=
  ⟨ca0, none, 0, rfl, fun U _ _ => ⟨CoAt.zero U, Or.inl rfl⟩, W9_ext0 E hwR⟩
theorem rf_noneD {Y : Nat → Prop} {w V : World} {R : Nat} {k : Int} (hwR : w.heap.size ≤ R) (E : Ext w V) (x0 x1 x2 x3 x4 x5 x6 x7 x8 : Value) : RfOut Y w ⟨co0, []⟩ k (.returned (.tuple #[.agg #[.int .i64 0, .int .i64 0, .slice none 0 0, .slice none 0 0, .int .i64 0, .slice none 0 0, .slice none 0 0, .int .i64 0, .slice none 0 0], .slice none 0 0, .int .i64 k])) (W9 V R x0 x1 x2 x3 x4 x5 x6 x7 x8).drew :=
  ⟨ca0, none, 0, rfl, fun U _ _ => ⟨CoAt.zero U, Or.inl rfl⟩, W9_ext E hwR⟩
theorem one_row {W : World} {b : Nat} {T : TypeId} (h : W.heap.size = b) (v : Value) : (W.alloc (.cells #[v] T)).rowIs b T 1 (fun _ => v) := by
  subst h
  exact World.rowIs_alloc W #[v] T _ (fun i hi => by
    have hi' : i < 1 := hi
    match i, hi' with
    | 0, _ => simp)
/-- The document's own control, as it begins. -/
theorem RSt.start {Y : Nat → Prop} {O : Nat} {w V : World} {c : Co} {a : CA} (hbox : BX V w.heap.size (coL c a)) (hobx : V.rowIs O 36 1 (fun _ => .slice none 0 0)) (hat : Stb (fun b => Y b ∧ b < w.heap.size ∨ w.heap.size + 1 + 1 < b ∧ b < O) V (fun U => CoAt U c a)) (E : Ext w V) (hO : w.heap.size + 1 + 1 < O) (hwn : a.wo = none → a.wc = 0) :
    RSt (ZR Y w) w.heap.size O w V ⟨c, []⟩ a (.slice none 0 0) [] :=
  ⟨hbox, hobx, World.ownsRow_nil _ _ _ _, by simp [Value.ownBlock], by simp [Value.ownBlock], trivial, hat.more (fun b h1 _ => by
    rcases h1 with ⟨y, h1⟩ | h1
    · exact ⟨⟨by omega, by omega, by simp [Value.ownBlock]⟩, by omega, Or.inl y⟩
    · exact ⟨⟨by omega, by omega, by simp [Value.ownBlock]⟩, by omega, Or.inr (by omega)⟩), hwn, E, Nat.le_refl _, by omega, by omega, fun b hb => by have := hobx.lt; exact ⟨by omega, Or.inr (by omega)⟩⟩
/-- The control and what it told, by letters. -/
theorem RSt.letters {Z : Nat → Prop} {P O : Nat} {w0 w : World} {g : Cg} {a : CA} {tv : Value} {TV : List Value} (h : RSt Z P O w0 w g a tv TV) :
    ∃ (k0 k1 : Int) (o2 : Option Addr) (l2 q2 : Nat) (o3 : Option Addr) (l3 q3 : Nat) (k4 : Int) (o5 : Option Addr) (l5 q5 : Nat) (o6 : Option Addr) (l6 q6 : Nat) (k7 : Int) (o8 : Option Addr) (l8 q8 : Nat) (tO : Option Addr) (l9 tc : Nat),
      w.cell? ⟨P, 0, none⟩ = some (.int .i64 k0) ∧ w.cell? ⟨P, 1, none⟩ = some (.int .i64 k1) ∧ w.cell? ⟨P, 2, none⟩ = some (.slice o2 l2 q2) ∧ w.cell? ⟨P, 3, none⟩ = some (.slice o3 l3 q3) ∧ w.cell? ⟨P, 4, none⟩ = some (.int .i64 k4) ∧ w.cell? ⟨P, 5, none⟩ = some (.slice o5 l5 q5) ∧ w.cell? ⟨P, 6, none⟩ = some (.slice o6 l6 q6) ∧ w.cell? ⟨P, 7, none⟩ = some (.int .i64 k7) ∧ w.cell? ⟨P, 8, none⟩ = some (.slice o8 l8 q8) ∧ w.cell? ⟨O, 0, none⟩ = some (.slice tO l9 tc) ∧
      Hid (Value.agg #[.int .i64 k0, .int .i64 k1, .slice o2 l2 q2, .slice o3 l3 q3, .int .i64 k4, .slice o5 l5 q5, .slice o6 l6 q6, .int .i64 k7, .slice o8 l8 q8] = cvl g.c a ∧ l9 = g.out.length ∧ ((∀ b, tv.ownBlock = some b → Z b) → ∀ V : World, w.heap.size ≤ V.heap.size → (∀ b, Z b → b < w.heap.size → V.heap[b]? = w.heap[b]?) → CoAt V g.c a ∧ TosAt V tO g.out)) := by
  obtain ⟨tO, tc, htv, _⟩ := tos_own h.ownT h.lt
  have ho : w.cell? ⟨O, 0, none⟩ = some tv := h.obx.cell (i := 0) (by omega)
  rw [htv] at ho
  refine ⟨_, _, _, _, _, _, _, _, _, _, _, _, _, _, _, _, _, _, _, _, _, _, World.rowIs.cell h.box (i := 0) (by omega), World.rowIs.cell h.box (i := 1) (by omega), World.rowIs.cell h.box (i := 2) (by omega), World.rowIs.cell h.box (i := 3) (by omega), World.rowIs.cell h.box (i := 4) (by omega), World.rowIs.cell h.box (i := 5) (by omega), World.rowIs.cell h.box (i := 6) (by omega), World.rowIs.cell h.box (i := 7) (by omega), World.rowIs.cell h.box (i := 8) (by omega), ho, rfl, rfl, fun hZ V hs hV => ?_⟩
  refine ⟨h.at_ V hs (fun b hb hlt => hV b hb.2 hlt), ?_⟩
  have oT : V.ownsRow w0.heap.size 84 6 tv g.out.length TV := by
    refine ⟨h.ownT.1, ?_⟩
    rcases h.ownT.2 with h2 | ⟨b, cap, cur, h1, h2, h3, h4⟩
    · exact Or.inl h2
    · exact Or.inr ⟨b, cap, cur, h1, h2, (hV b (hZ b (by rw [h1]; rfl)) (h.ownT.lt b (by rw [h1]; rfl)).2).trans h3, h4⟩
  obtain ⟨tO', tc', htv', hT⟩ := tos_own oT (h.lt.mono (Q' := fun _ => True) (fun b hb hlt => ⟨trivial, by omega, hV b hb.2 hlt⟩))
  rw [htv] at htv'
  cases htv'
  exact hT

set_option maxRecDepth 100000 in
set_option maxHeartbeats 4000000 in
theorem refDrop_any (Y : Nat → Prop) (c : Co) (a : CA) (n : Int) (ao : Option Addr) (len cap : Nat) (ls : List Lk) (w : World) (hst : Stb (fun b => Y b ∧ b < w.heap.size) w (fun U => CoAt U c a)) (hok : CoOk c) (hwn : a.wo = none → a.wc = 0) (hlen : ls.length = len) (hl : NetAt w ao ls) (hx : len ≤ 9223372036854775807) (hcap : len ≤ cap) :
    Calls Try.prog 15 #[cvl c a, .agg #[.int .i64 n, .slice ao len cap]] w fun e w' => RfOut Y w (dropS c n ls).1 (dropS c n ls).2 e w' := by
  have HA := hidp (Aw_ab w c a n (.slice ao len cap))
  have hE0 := Aw_ext w c a n (.slice ao len cap)
  unfold cvl
  go_enter Try.func15, Try.ntmps15
  go_wp2_with fail
  unfold Aw at HA hE0
  obtain ⟨W1, hW1⟩ : ∃ W1, W1 = ((w.alloc (.cells #[.int .i64 c.st, .int .i64 c.now.v, .slice a.n.fo c.now.fs.length a.n.fc, .slice a.n.qo c.now.ps.length a.n.qc, .int .i64 c.nxt.v, .slice a.x.fo c.nxt.fs.length a.x.fc, .slice a.x.qo c.nxt.ps.length a.x.qc, .int .i64 c.num, .slice a.wo c.wts.length a.wc] 28)).alloc (.cells #[.int .i64 n, .slice ao len cap] 31)).alloc (.cells #[.int .i64 0, .int .i64 0, .slice none 0 0, .slice none 0 0, .int .i64 0, .slice none 0 0, .slice none 0 0, .int .i64 0, .slice none 0 0] 28) := ⟨_, rfl⟩
  rw [← hW1] at HA hE0 ⊢
  clear hW1
  refine (refWrong_any n ao len cap ls W1 hlen (hl.ext hE0) hx hcap).mono ?_
  rintro e w1 ⟨rfl, E1⟩
  obtain ⟨w2, hw2⟩ : ∃ w2, w2 = w1.alloc (.cells #[.int .i64 (wrong n ls).1, .int .i64 (wrong n ls).2] 64) := ⟨_, rfl⟩
  have f0 : w2.cell? ⟨w1.heap.size, 0, none⟩ = some (.int .i64 (wrong n ls).1) := by rw [hw2]; simp
  have hf0 : w1.heap.size < w2.heap.size := by rw [hw2]; simp
  have E2 : Ext W1 w2 := by rw [hw2]; exact E1.alloc _
  have hl11 := (HA.out.ext E1).lt
  have hne1 : w1.heap.size ≠ w.heap.size + 1 + 1 := by omega
  go_upto_region 2 with fail
  rw [← hw2]
  clear hw2
  have HA2 := hidp (HA.out.ext E2)
  have hl2 := HA2.out.lt
  have hE2 := hE0.trans E2
  have hl20 : w.heap.size < w2.heap.size := by omega
  have hl21 : w.heap.size + 1 < w2.heap.size := by omega
  by_cases hr : (wrong n ls).1 = 0
  · have hright := right_of hr
    have hbd := hright.bounds
    obtain ⟨nn, rfl⟩ := Int.eq_ofNat_of_zero_le (show 0 ≤ n by omega)
    have hn8 : nn ≤ 8 := by omega
    have HW := hidp hr
    rw [hr] at f0
    clear hr hright hbd
    have c0 : w2.cell? ⟨w.heap.size, 0, none⟩ = some (.int .i64 c.st) := World.rowIs.cell HA2.out.box (i := 0) (by omega)
    have z0 : w2.frozen? ⟨w.heap.size, 0, none⟩ = false := World.rowIs.frozen HA2.out.box 0
    by_cases h3 : c.st = 3
    · have HD : Hid (dropS c nn ls = (goS nn (told nn (drpO c.now) ⟨⟨4, c.now, c.nxt, c.num, c.wts⟩, []⟩), 0)) := by
        show _ = _
        unfold dropS
        rw [if_neg (by simpa using HW.out), if_neg (by simpa using h3)]
        rfl
      rw [h3] at c0
      obtain ⟨W3, hW3⟩ : ∃ W3, W3 = (w2.setCell ⟨w.heap.size, 0, none⟩ (.int .i64 4)).alloc (.cells #[.slice none 0 0] 36) := ⟨_, rfl⟩
      have E3' : Ext w (w2.setCell ⟨w.heap.size, 0, none⟩ (.int .i64 4)) := hE2.setCell (Nat.le_refl _) _
      have hs3 : (w2.setCell ⟨w.heap.size, 0, none⟩ (.int .i64 4)).heap.size = w2.heap.size := by simp
      have HR3 : Hid (RSt (ZR Y w) w.heap.size w2.heap.size w W3 ⟨⟨4, c.now, c.nxt, c.num, c.wts⟩, []⟩ a (.slice none 0 0) []) := by
        rw [hW3]
        have E3 := E3'.alloc (.cells #[.slice none 0 0] 36)
        have hbx : BX (w2.setCell ⟨w.heap.size, 0, none⟩ (.int .i64 4)) w.heap.size (coL ⟨4, c.now, c.nxt, c.num, c.wts⟩ a) := by
          have e : (coL c a).set 0 (.int .i64 4) = coL ⟨4, c.now, c.nxt, c.num, c.wts⟩ a := rfl
          rw [← e]
          exact BX.set HA2.out.box (i := 0) (by simp [coL]) _
        refine RSt.start (World.rowIs.alloc hbx _) (one_row hs3 _) ?_ E3 (by omega) hwn
        exact ((hst.ext E3).more (fun b hb _ => Or.inl hb)).imp (fun U k => ⟨k.hn, k.hx, k.hw⟩)
      have HA3 : Hid (W3.cell? ⟨w.heap.size + 1, 0, none⟩ = some (.int .i64 nn) ∧ W3.cell? ⟨w.heap.size + 1, 1, none⟩ = some (.slice ao len cap) ∧ W3.heap[w.heap.size + 1 + 1]? = some (.cells #[.int .i64 0, .int .i64 0, .slice none 0 0, .slice none 0 0, .int .i64 0, .slice none 0 0, .slice none 0 0, .int .i64 0, .slice none 0 0] 28 (0, 0)) ∧ w.heap.size + 1 + 1 < W3.heap.size) := by
        have hb : ∀ b, b ≠ w.heap.size → b < w2.heap.size → W3.heap[b]? = w2.heap[b]? := fun b h1 h2 => by
          rw [hW3, blk_alloc_lt _ _ _ (by simpa using h2), blk_setCell_other _ _ _ _ (by simpa using h1)]
        exact ⟨(World.cell?_of_block (a := ⟨w.heap.size + 1, 0, none⟩) (hb (w.heap.size + 1) (by omega) hl21)).trans HA2.out.n0, (World.cell?_of_block (a := ⟨w.heap.size + 1, 1, none⟩) (hb (w.heap.size + 1) (by omega) hl21)).trans HA2.out.n1, (hb _ (by omega) hl2).trans HA2.out.ans, by rw [hW3]; simp; omega⟩
      have HH3 := hidp h3
      clear h3
      go_upto_region 8 with fail
      rw [← hW3]
      clear hW3 c0 z0 E3' hs3
      have HQ1 : Hid (Qr w.heap.size w2.heap.size (.slice none 0 0) (w.heap.size + 1)) := ⟨by omega, by omega, by simp [Value.ownBlock]⟩
      have HQ2 : Hid (Qr w.heap.size w2.heap.size (.slice none 0 0) (w.heap.size + 1 + 1)) := ⟨by omega, by omega, by simp [Value.ownBlock]⟩
      go_wp2
      go_loopw [9] (fun sv wx => ∃ s : Nat, s ≤ nn ∧ sv = .int .i64 s ∧ Hid (∃ a2 tv2 TV2, RSt (ZR Y w) w.heap.size w2.heap.size w wx (told s (drpO c.now) ⟨⟨4, c.now, c.nxt, c.num, c.wts⟩, []⟩) a2 tv2 TV2 ∧ RKp w.heap.size w2.heap.size W3 (.slice none 0 0) wx tv2)) (fun sv _ => nn - (intOf sv).toNat)
      case atStart => exact ⟨0, Nat.zero_le _, rfl, _, _, _, HR3.out, RKp.ext (Ext.refl _)⟩
      case round =>
        obtain ⟨s, hs, rfl, HX⟩ := hrel
        obtain ⟨a2, tv2, TV2, hR4, hK4⟩ := HX.out
        have HR4 := hidp hR4
        have HK4 := hidp hK4
        have HL := hidp (told_len (ord := drpO c.now) (g := ⟨⟨4, c.now, c.nxt, c.num, c.wts⟩, []⟩) s)
        clear HX hR4 hK4
        have n0 : wr.cell? ⟨w.heap.size + 1, 0, none⟩ = some (.int .i64 nn) := (World.cell?_of_block (a := ⟨w.heap.size + 1, 0, none⟩) (HK4.out.block _ HQ1.out (by have := HA3.out.2.2.2; omega)).2).trans HA3.out.1
        have hl4 : w.heap.size + 1 + 1 < wr.heap.size := Nat.lt_of_lt_of_le HA3.out.2.2.2 HK4.out.size
        have hl41 : w.heap.size + 1 < wr.heap.size := by omega
        have hl40 : w.heap.size < wr.heap.size := by omega
        by_cases hlt : s < nn
        · have i1 : (s : Int) < (nn : Int) := by omega
          have HCX : Hid (∀ V, Ext wr V → V.cell? ⟨w.heap.size, 1, none⟩ = some (.int .i64 c.now.v) ∧ V.cell? ⟨w.heap.size, 2, none⟩ = some (.slice a2.n.fo c.now.fs.length a2.n.fc) ∧ V.cell? ⟨w.heap.size, 3, none⟩ = some (.slice a2.n.qo c.now.ps.length a2.n.qc)) := fun V hV => by
            have q := (HR4.out.ext hV).box
            exact ⟨World.rowIs.cell q (i := 1) (by omega), World.rowIs.cell q (i := 2) (by omega), World.rowIs.cell q (i := 3) (by omega)⟩
          have HPS : Hid (PsAt wr a2.n.qo c.now.ps) := PthsAt.ps HR4.out.at_.at.hn.hq
          have hT : tot c.now.ps c.now.ps.length * 24 ≤ 140737488351232 := by rw [tot_sum]; have := hok.n.tt; omega
          have hql := hok.n.ql
          obtain ⟨c1, c2, c3⟩ := HCX.out wr (Ext.refl wr)
          go_wp2_with fail
          refine Calls.mono (refRules_any c.now.v s a2.n.fo a2.n.qo c.now.fs.length a2.n.fc c.now.ps.length a2.n.qc c.now.ps _ rfl HPS.out hT (by omega)) ?_
          rintro e w5 ⟨v5, rfl, ho5, E5⟩
          obtain ⟨mo, mc, rfl, _, _, _, _⟩ := RO.form ho5
          clear ho5 c1 c2 c3 hT
          have HRL : Hid (rls c.now s = rof c.now.v s c.now.ps c.now.ps.length) := rfl
          obtain ⟨L, hL⟩ : ∃ L, rof c.now.v s c.now.ps c.now.ps.length = L := ⟨_, rfl⟩
          rw [hL] at HRL ⊢
          clear hL
          have HR5 := hidp (HR4.out.ext E5)
          have HK5 := hidp (HK4.out.trans (RKp.ext E5))
          obtain ⟨c1, _, _⟩ := HCX.out w5 E5
          have hl50 := Nat.lt_of_lt_of_le hl40 E5.size
          by_cases hL0 : L = []
          · have HN : Hid (told (s + 1) (drpO c.now) ⟨⟨4, c.now, c.nxt, c.num, c.wts⟩, []⟩ = told s (drpO c.now) ⟨⟨4, c.now, c.nxt, c.num, c.wts⟩, []⟩) := told_none (by unfold drpO; rw [HRL.out, if_pos hL0])
            subst hL0
            simp only [List.length_nil]
            go_wp2
            exact ⟨⟨s + 1, by omega, by go_num, _, _, _, by rw [HN.out]; exact HR5.out, HK5.out⟩, by simp [intOf]; omega⟩
          · have HN := hidp (told_some (g := ⟨⟨4, c.now, c.nxt, c.num, c.wts⟩, []⟩) (show drpO c.now s = some ⟨3, 0, c.now.v, [], []⟩ by unfold drpO; rw [HRL.out, if_neg hL0]))
            have iL : (0 : Int) < (L.length : Int) := by have := List.length_pos_iff.2 hL0; omega
            have HTL := hidp (refTell_any _ w.heap.size w2.heap.size s 3 0 c.now.v [] [] none none 0 0 0 0 w w5 _ a2 tv2 TV2 HR5.out (RQ.nil _ _) (LQ.nil _ _) (by have h1 : _ ≤ c.wts.length + s := HL.out.1; have := hok.w; omega) (by have h1 : _ ≤ 0 + s := HL.out.2; omega))
            clear hL0
            go_wp2_with (go_at_call 29; refine Calls.mono HTL.out ?_; rintro e w6 ⟨rfl, a6, tv6, TV6, hR6, hK6⟩; have HR6 := hidp hR6; have HK6 := hidp hK6; clear hR6 hK6)
            exact ⟨⟨s + 1, by omega, by go_num, _, _, _, by rw [HN.out]; exact HR6.out, HK5.out.trans HK6.out⟩, by simp [intOf]; omega⟩
        · have i1 : ¬ (s : Int) < (nn : Int) := by omega
          have hsn : s = nn := by omega
          rw [hsn] at HR4 HL
          clear hsn
          have n1 : wr.cell? ⟨w.heap.size + 1, 1, none⟩ = some (.slice ao len cap) := (World.cell?_of_block (a := ⟨w.heap.size + 1, 1, none⟩) (HK4.out.block _ HQ1.out (by have := HA3.out.2.2.2; omega)).2).trans HA3.out.2.1
          have HBG := hidp (refBegin_any _ w.heap.size w2.heap.size nn ao len cap w wr _ a2 tv2 TV2 HR4.out hn8 hok.n.fl hok.x.fl (by have h1 : _ ≤ 0 + nn := HL.out.2; omega))
          go_wp2_with (go_at_call 30; refine Calls.mono HBG.out ?_; rintro e w6 ⟨rfl, a6, tv6, TV6, hR6, hK6⟩; have HR6 := hidp hR6; have HK6 := hidp (HK4.out.trans hK6); clear hR6 hK6)
          clear n0 n1 HBG
          have HAN : Hid (Qr w.heap.size w2.heap.size tv6 (w.heap.size + 1 + 1) ∧ w6.heap[w.heap.size + 1 + 1]? = some (.cells #[.int .i64 0, .int .i64 0, .slice none 0 0, .slice none 0 0, .int .i64 0, .slice none 0 0, .slice none 0 0, .int .i64 0, .slice none 0 0] 28 (0, 0))) := by
            have k := HK6.out.block _ HQ2.out HA3.out.2.2.2
            exact ⟨k.1, k.2.trans HA3.out.2.2.1⟩
          have hb6 := HAN.out.2
          have r0 := box_cell hb6 0
          have r1 := box_cell hb6 1
          have r2 := box_cell hb6 2
          have r3 := box_cell hb6 3
          have r4 := box_cell hb6 4
          have r5 := box_cell hb6 5
          have r6 := box_cell hb6 6
          have r7 := box_cell hb6 7
          have r8 := box_cell hb6 8
          have z0 := box_frozen hb6 0
          have z1 := box_frozen hb6 1
          have z2 := box_frozen hb6 2
          have z3 := box_frozen hb6 3
          have z4 := box_frozen hb6 4
          have z5 := box_frozen hb6 5
          have z6 := box_frozen hb6 6
          have z7 := box_frozen hb6 7
          have z8 := box_frozen hb6 8
          simp only [List.getElem?_toArray, List.getElem?_cons_zero, List.getElem?_cons_succ] at r0 r1 r2 r3 r4 r5 r6 r7 r8
          have hl62 : w.heap.size + 1 + 1 < w6.heap.size := (Array.getElem?_eq_some_iff.1 hb6).1
          have hl60 := World.rowIs.lt HR6.out.box
          have hl6O := HR6.out.obx.lt
          clear hb6
          obtain ⟨k0, k1, o2, l2, q2, o3, l3, q3, k4, o5, l5, q5, o6, l6, q6, k7, o8, l8, q8, tO, l9, tc, c0, c1, c2, c3, c4, c5, c6, c7, c8, cO, HF⟩ := HR6.out.letters
          go_region
          go_wp2
          refine bodyPost_ret (v := .tuple #[.agg #[.int .i64 k0, .int .i64 k1, .slice o2 l2 q2, .slice o3 l3 q3, .int .i64 k4, .slice o5 l5 q5, .slice o6 l6 q6, .int .i64 k7, .slice o8 l8 q8], .slice tO l9 tc, .int .i64 0]) (by simp [results, Try.results15, go_sem, r0, r1, r2, r3, r4, r5, r6, r7, r8]) rfl ?_
          rw [HD.out]
          obtain ⟨e1, e2, e3⟩ := HF.out
          exact ⟨a6, tO, tc, by rw [e1, e2], fun U hU kU => e3 (fun b hb => ⟨fun e => HAN.out.1.2.2 (by rw [hb, e]), Or.inr (HR6.out.ownT.lt b hb).1⟩) U (Nat.le_trans (Nat.le_of_eq W9_size.symm) hU) (fun b hb hlt => (kU b hb.2 (Nat.lt_of_lt_of_le hlt (Nat.le_of_eq W9_size.symm))).trans (W9_block b hb.1)), W9_ext HR6.out.bel (by omega)⟩
    · have HD : Hid (dropS c nn ls = (⟨co0, []⟩, 11)) := by
        show _ = _
        unfold dropS
        rw [if_neg (by simpa using HW.out), if_pos h3]
      have b3 : (c.st != 3) = true := by simpa using h3
      clear h3
      obtain ⟨r0, r1, r2, r3, r4, r5, r6, r7, r8⟩ := HA2.out.zeros
      have z := box_frozen HA2.out.ans
      have z0' := z 0
      have z1 := z 1
      have z2 := z 2
      have z3 := z 3
      have z4 := z 4
      have z5 := z 5
      have z6 := z 6
      have z7 := z 7
      have z8 := z 8
      clear z
      go_wp2
      refine bodyPost_ret (v := .tuple #[.agg #[.int .i64 0, .int .i64 0, .slice none 0 0, .slice none 0 0, .int .i64 0, .slice none 0 0, .slice none 0 0, .int .i64 0, .slice none 0 0], .slice none 0 0, .int .i64 11]) (by simp [results, Try.results15, go_sem, r0, r1, r2, r3, r4, r5, r6, r7, r8]) rfl ?_
      rw [HD.out]
      exact rf_none (by omega) hE2 _ _ _ _ _ _ _ _ _
  · have HD : Hid (dropS c n ls = (⟨co0, []⟩, (wrong n ls).1)) := by
      show _ = _
      unfold dropS
      rw [if_pos hr]
    have hr' : ((wrong n ls).1 != 0) = true := by simpa using hr
    clear hr
    obtain ⟨r0, r1, r2, r3, r4, r5, r6, r7, r8⟩ := HA2.out.zeros
    have z := box_frozen HA2.out.ans
    have z0' := z 0
    have z1 := z 1
    have z2 := z 2
    have z3 := z 3
    have z4 := z 4
    have z5 := z 5
    have z6 := z 6
    have z7 := z 7
    have z8 := z 8
    clear z
    go_wp2
    go_region
    go_wp2
    refine bodyPost_ret (v := .tuple #[.agg #[.int .i64 0, .int .i64 0, .slice none 0 0, .slice none 0 0, .int .i64 0, .slice none 0 0, .slice none 0 0, .int .i64 0, .slice none 0 0], .slice none 0 0, .int .i64 (wrong n ls).1]) (by simp [results, Try.results15, go_sem, r0, r1, r2, r3, r4, r5, r6, r7, r8]) rfl ?_
    rw [HD.out]
    exact rf_noneD (by omega) hE2 _ _ _ _ _ _ _ _ _

end Go.Proofs.Ytgffkjjddhlbpaa.Ct

namespace Go.Proofs.Ytgffkjjddhlbpaa.Ct
open Go.RowKit Go.Deep Stw Stp Tb Rul

theorem erase_had {l : List Int} {x num : Int} (h : num ∈ l) : (l ++ [x]).erase num = l.erase num ++ [x] := by rw [List.erase_append, if_pos h]
theorem erase_this {l : List Int} {num : Int} (h : num ∉ l) : (l ++ [num]).erase num = l.erase num := by
  rw [List.erase_append, if_neg h, List.erase_of_not_mem h]; simp
theorem erase_else {l : List Int} {x num : Int} (h : num ∉ l) (hx : x ≠ num) : (l ++ [x]).erase num = l.erase num ++ [x] := by
  rw [List.erase_append, if_neg h, List.erase_of_not_mem h, List.erase_of_not_mem (by simpa using fun e => hx e.symm)]
theorem take_next {l : List Int} {k : Nat} (h : k < l.length) : l.take (k + 1) = l.take k ++ [l.getD k 0] := by
  rw [List.take_succ_eq_append_getElem h]; simp [List.getD_eq_getElem?_getD, h]

set_option maxRecDepth 100000 in
set_option maxHeartbeats 4000000 in
theorem refBack_any (Y : Nat → Prop) (c : Co) (a : CA) (n num : Int) (ao : Option Addr) (len cap : Nat) (ls : List Lk) (w : World) (hst : Stb (fun b => Y b ∧ b < w.heap.size) w (fun U => CoAt U c a)) (hok : CoOk c) (hlen : ls.length = len) (hl : NetAt w ao ls) (hx : len ≤ 9223372036854775807) (hcap : len ≤ cap) :
    Calls Try.prog 13 #[cvl c a, .agg #[.int .i64 n, .slice ao len cap], .int .i64 num] w fun e w' => RfOut Y w (backS c n ls num).1 (backS c n ls num).2 e w' := by
  have HA := hidp (Aw_ab w c a n (.slice ao len cap))
  have hE0 := Aw_ext w c a n (.slice ao len cap)
  unfold cvl
  go_enter Try.func13, Try.ntmps13
  go_wp2_with fail
  unfold Aw at HA hE0
  obtain ⟨W1, hW1⟩ : ∃ W1, W1 = ((w.alloc (.cells #[.int .i64 c.st, .int .i64 c.now.v, .slice a.n.fo c.now.fs.length a.n.fc, .slice a.n.qo c.now.ps.length a.n.qc, .int .i64 c.nxt.v, .slice a.x.fo c.nxt.fs.length a.x.fc, .slice a.x.qo c.nxt.ps.length a.x.qc, .int .i64 c.num, .slice a.wo c.wts.length a.wc] 28)).alloc (.cells #[.int .i64 n, .slice ao len cap] 31)).alloc (.cells #[.int .i64 0, .int .i64 0, .slice none 0 0, .slice none 0 0, .int .i64 0, .slice none 0 0, .slice none 0 0, .int .i64 0, .slice none 0 0] 28) := ⟨_, rfl⟩
  rw [← hW1] at HA hE0 ⊢
  clear hW1
  refine (refWrong_any n ao len cap ls W1 hlen (hl.ext hE0) hx hcap).mono ?_
  rintro e w1 ⟨rfl, E1⟩
  obtain ⟨w2, hw2⟩ : ∃ w2, w2 = w1.alloc (.cells #[.int .i64 (wrong n ls).1, .int .i64 (wrong n ls).2] 64) := ⟨_, rfl⟩
  have f0 : w2.cell? ⟨w1.heap.size, 0, none⟩ = some (.int .i64 (wrong n ls).1) := by rw [hw2]; simp
  have hf0 : w1.heap.size < w2.heap.size := by rw [hw2]; simp
  have E2 : Ext W1 w2 := by rw [hw2]; exact E1.alloc _
  have hl11 := (HA.out.ext E1).lt
  have hne1 : w1.heap.size ≠ w.heap.size + 1 + 1 := by omega
  go_upto_region 2 with fail
  rw [← hw2]
  clear hw2
  have HA2 := hidp (HA.out.ext E2)
  have hl2 := HA2.out.lt
  have hE2 := hE0.trans E2
  have hl20 : w.heap.size < w2.heap.size := by omega
  have hl21 : w.heap.size + 1 < w2.heap.size := by omega
  by_cases hr : (wrong n ls).1 = 0
  · have hright := right_of hr
    have hbd := hright.bounds
    obtain ⟨nn, rfl⟩ := Int.eq_ofNat_of_zero_le (show 0 ≤ n by omega)
    have hn8 : nn ≤ 8 := by omega
    have HW := hidp hr
    rw [hr] at f0
    clear hr hright hbd
    have c8 : w2.cell? ⟨w.heap.size, 8, none⟩ = some (.slice a.wo c.wts.length a.wc) := World.rowIs.cell HA2.out.box (i := 8) (by omega)
    obtain ⟨i0, hi0, hz00, hz01, hz02⟩ := info_parts infoI
    have hwl := hok.w
    have HHW := hidp hst.at.hw
    go_wp2
    go_loopw [10, 11, 26] (fun rv bv iv wr => ∃ (k : Nat) (fv : Value), k ≤ c.wts.length ∧ iv = .int .i64 k ∧ rv = fv ∧ bv = .bool (decide (num ∈ c.wts.take k)) ∧ Hid (OwI wr w2.heap.size fv ((c.wts.take k).erase num)) ∧ Ext w2 wr) (fun _ _ iv _ => c.wts.length - (intOf iv).toNat)
    case atStart => exact ⟨0, .slice none 0 0, Nat.zero_le _, rfl, rfl, rfl, World.ownsRow_nil _ _ _ _, Ext.refl _⟩
    case round =>
      clear c8
      obtain ⟨k, fv, hk, rfl, hfv, rfl, HIO, hEr⟩ := hrel
      obtain rfl := hfv.symm
      have hsr := hEr.size
      by_cases hlt : k < c.wts.length
      · have HT := hidp (take_next hlt)
        have hLl : ((c.wts.take k).erase num).length ≤ k := Nat.le_trans (List.length_erase_le ..) (by simp; omega)
        rcases HHW.out.ext (hE2.trans hEr) with h0 | ⟨b, off, hwo, hb, hcs⟩
        · exfalso; rw [h0] at hlt; simp at hlt
        have cx := hcs k hlt
        rw [hwo]
        obtain ⟨x, hx⟩ : ∃ x, c.wts.getD k 0 = x := ⟨_, rfl⟩
        rw [hx] at cx HT
        clear hx hcs hwo
        have i1 : (k : Int) < (c.wts.length : Int) := by omega
        obtain ⟨T, hT⟩ : ∃ T, c.wts.take k = T := ⟨_, rfl⟩
        rw [hT] at HT HIO hLl ⊢
        clear hT
        obtain ⟨L, hL⟩ : ∃ L, T.erase num = L := ⟨_, rfl⟩
        rw [hL] at HIO hLl
        have HL := hidp hL
        clear hL
        by_cases hm : num ∈ T
        · rw [decide_eq_true hm]
          have HB1 : Hid (Value.bool true = .bool (decide (num ∈ c.wts.take (k + 1)))) := by show _ = _; rw [HT.out, decide_eq_true (List.mem_append_left _ hm)]
          have HT1 : Hid ((c.wts.take (k + 1)).erase num = L ++ [x]) := by show _ = _; rw [HT.out, erase_had hm, HL.out]
          clear hm
          by_cases hxn : x = num
          · have bx : (x == num) = true := by simpa using hxn
            clear hxn
            go_wp2_with (first | (at_builtin; refine wpList_append_lies _ rfl _ _ 26 rfl w2.heap.size 3 i0 (.int .i64 0) 1 8 Try.underlying26 hi0 hz00 hz01 hz02 rfl (by decide) _ _ _ rfl (HIO.out.alloc _) ⟨wr.heap.size, 0, none⟩ 1 1 [.int .i64 x] rfl rfl (news1' rfl _ _) (one1i _) (by decide) (by unfold maxLen; omega) (by omega) (by simp; omega) _ rfl ?_) | go_in)
            intro g7 gc7 w7 hown7 hgr7 hat7 hlt7
            have H7 : Hid (OwI w7 w2.heap.size (.slice (some ⟨g7, 0, none⟩) (L.length + 1) gc7) (L ++ [x])) := by
              show OwI _ _ _ _
              unfold OwI
              rw [List.map_append, List.length_append]
              exact hown7
            have hE7 : Ext w2 w7 := Below.grown (hEr.alloc _) hgr7 (by simp; omega) (fun j hj => (HIO.out.lt j hj).1)
            clear hown7 hgr7 hat7
            go_wp2
            exact ⟨⟨k + 1, _, by omega, by go_num, rfl, HB1.out, by rw [HT1.out]; exact H7.out, hE7⟩, by simp [intOf]; omega⟩
          · have bx : (x == num) = false := by simpa using hxn
            clear hxn
            go_wp2_with (first | (at_builtin; refine wpList_append_lies _ rfl _ _ 26 rfl w2.heap.size 3 i0 (.int .i64 0) 1 8 Try.underlying26 hi0 hz00 hz01 hz02 rfl (by decide) _ _ _ rfl (HIO.out.alloc _) ⟨wr.heap.size, 0, none⟩ 1 1 [.int .i64 x] rfl rfl (news1' rfl _ _) (one1i _) (by decide) (by unfold maxLen; omega) (by omega) (by simp; omega) _ rfl ?_) | go_in)
            intro g7 gc7 w7 hown7 hgr7 hat7 hlt7
            have H7 : Hid (OwI w7 w2.heap.size (.slice (some ⟨g7, 0, none⟩) (L.length + 1) gc7) (L ++ [x])) := by
              show OwI _ _ _ _
              unfold OwI
              rw [List.map_append, List.length_append]
              exact hown7
            have hE7 : Ext w2 w7 := Below.grown (hEr.alloc _) hgr7 (by simp; omega) (fun j hj => (HIO.out.lt j hj).1)
            clear hown7 hgr7 hat7
            go_wp2
            exact ⟨⟨k + 1, _, by omega, by go_num, rfl, HB1.out, by rw [HT1.out]; exact H7.out, hE7⟩, by simp [intOf]; omega⟩
        · rw [decide_eq_false hm]
          by_cases hxn : x = num
          · have HB1 : Hid (Value.bool true = .bool (decide (num ∈ c.wts.take (k + 1)))) := by show _ = _; rw [HT.out, decide_eq_true (by rw [hxn]; simp)]
            have HT1 : Hid ((c.wts.take (k + 1)).erase num = L) := by show _ = _; rw [HT.out, hxn, erase_this hm, HL.out]
            have bx : (x == num) = true := by simpa using hxn
            clear hxn hm
            go_wp2
            exact ⟨⟨k + 1, _, by omega, by go_num, rfl, HB1.out, by rw [HT1.out]; exact HIO.out, hEr⟩, by simp [intOf]; omega⟩
          · have HB1 : Hid (Value.bool false = .bool (decide (num ∈ c.wts.take (k + 1)))) := by show _ = _; rw [HT.out, decide_eq_false (by simp; exact ⟨hm, fun e => hxn e.symm⟩)]
            have HT1 : Hid ((c.wts.take (k + 1)).erase num = L ++ [x]) := by show _ = _; rw [HT.out, erase_else hm hxn, HL.out]
            have bx : (x == num) = false := by simpa using hxn
            clear hxn hm
            go_wp2_with (first | (at_builtin; refine wpList_append_lies _ rfl _ _ 26 rfl w2.heap.size 3 i0 (.int .i64 0) 1 8 Try.underlying26 hi0 hz00 hz01 hz02 rfl (by decide) _ _ _ rfl (HIO.out.alloc _) ⟨wr.heap.size, 0, none⟩ 1 1 [.int .i64 x] rfl rfl (news1' rfl _ _) (one1i _) (by decide) (by unfold maxLen; omega) (by omega) (by simp; omega) _ rfl ?_) | go_in)
            intro g7 gc7 w7 hown7 hgr7 hat7 hlt7
            have H7 : Hid (OwI w7 w2.heap.size (.slice (some ⟨g7, 0, none⟩) (L.length + 1) gc7) (L ++ [x])) := by
              show OwI _ _ _ _
              unfold OwI
              rw [List.map_append, List.length_append]
              exact hown7
            have hE7 : Ext w2 w7 := Below.grown (hEr.alloc _) hgr7 (by simp; omega) (fun j hj => (HIO.out.lt j hj).1)
            clear hown7 hgr7 hat7
            go_wp2
            exact ⟨⟨k + 1, _, by omega, by go_num, rfl, HB1.out, by rw [HT1.out]; exact H7.out, hE7⟩, by simp [intOf]; omega⟩
      · have i1 : ¬ (k : Int) < (c.wts.length : Int) := by omega
        have hkl : k = c.wts.length := by omega
        rw [hkl, List.take_length] at HIO ⊢
        clear hkl
        have HAr := hidp (HA2.out.ext hEr)
        have hlr := HAr.out.lt
        have hlr0 : w.heap.size < wr.heap.size := by omega
        have hlr1 : w.heap.size + 1 < wr.heap.size := by omega
        have hEw : Ext w wr := hE2.trans hEr
        by_cases hm : num ∈ c.wts
        · rw [decide_eq_true hm]
          have HD : Hid (backS c nn ls num = (goS nn ⟨⟨c.st, c.now, c.nxt, c.num, c.wts.erase num⟩, []⟩, 0)) := by
            show _ = _
            unfold backS
            rw [if_neg (by simpa using HW.out), if_neg (by simpa using hm)]
            rfl
          clear hm
          obtain ⟨ro, rc, hfv, _, hrn⟩ := OwI.form HIO.out
          subst hfv
          obtain ⟨L, hL⟩ : ∃ L, c.wts.erase num = L := ⟨_, rfl⟩
          rw [hL] at HIO HD ⊢
          clear hL
          obtain ⟨W3, hW3⟩ : ∃ W3, W3 = (wr.setCell ⟨w.heap.size, 8, none⟩ (.slice ro L.length rc)).alloc (.cells #[.slice none 0 0] 36) := ⟨_, rfl⟩
          have HR3 : Hid (RSt (ZR Y w) w.heap.size wr.heap.size w W3 ⟨⟨c.st, c.now, c.nxt, c.num, L⟩, []⟩ ⟨a.n, a.x, ro, rc⟩ (.slice none 0 0) []) := by
            rw [hW3]
            have E3 : Ext w ((wr.setCell ⟨w.heap.size, 8, none⟩ (.slice ro L.length rc)).alloc (.cells #[.slice none 0 0] 36)) := (hEw.setCell (Nat.le_refl _) _).alloc _
            have hbx : BX (wr.setCell ⟨w.heap.size, 8, none⟩ (.slice ro L.length rc)) w.heap.size (coL ⟨c.st, c.now, c.nxt, c.num, L⟩ ⟨a.n, a.x, ro, rc⟩) := by
              have e : (coL c a).set 8 (.slice ro L.length rc) = coL ⟨c.st, c.now, c.nxt, c.num, L⟩ ⟨a.n, a.x, ro, rc⟩ := rfl
              rw [← e]
              exact BX.set HAr.out.box (i := 8) (by simp [coL]) _
            refine RSt.start (World.rowIs.alloc hbx _) (one_row (by simp) _) ?_ E3 (by omega) hrn
            have q1 := (hst.ext hEw).more (Y' := fun b => Y b ∧ b < w.heap.size ∨ w.heap.size + 1 + 1 < b ∧ b < wr.heap.size) (fun b hb _ => Or.inl hb)
            have q2 := (OwI.stb HIO.out).more (Y' := fun b => Y b ∧ b < w.heap.size ∨ w.heap.size + 1 + 1 < b ∧ b < wr.heap.size) (fun b hb hlt => Or.inr ⟨by omega, hlt⟩)
            refine ((q1.and q2).imp (D' := fun U => CoAt U ⟨c.st, c.now, c.nxt, c.num, L⟩ ⟨a.n, a.x, ro, rc⟩) (fun U k => ⟨k.1.hn, k.1.hx, k.2⟩)).step (by simp) (fun b hb hlt => ?_)
            rw [blk_alloc_lt _ _ _ (by simpa using hlt), blk_setCell_other _ _ _ _ (by simp; omega)]
          have HA3 : Hid (W3.cell? ⟨w.heap.size + 1, 0, none⟩ = some (.int .i64 nn) ∧ W3.cell? ⟨w.heap.size + 1, 1, none⟩ = some (.slice ao len cap) ∧ W3.heap[w.heap.size + 1 + 1]? = some (.cells #[.int .i64 0, .int .i64 0, .slice none 0 0, .slice none 0 0, .int .i64 0, .slice none 0 0, .slice none 0 0, .int .i64 0, .slice none 0 0] 28 (0, 0)) ∧ w.heap.size + 1 + 1 < W3.heap.size) := by
            have hb : ∀ b, b ≠ w.heap.size → b < wr.heap.size → W3.heap[b]? = wr.heap[b]? := fun b h1 h2 => by
              rw [hW3, blk_alloc_lt _ _ _ (by simp; omega), blk_setCell_other _ _ _ _ (by simpa using h1)]
            exact ⟨(World.cell?_of_block (a := ⟨w.heap.size + 1, 0, none⟩) (hb (w.heap.size + 1) (by omega) hlr1)).trans HAr.out.n0, (World.cell?_of_block (a := ⟨w.heap.size + 1, 1, none⟩) (hb (w.heap.size + 1) (by omega) hlr1)).trans HAr.out.n1, (hb _ (by omega) hlr).trans HAr.out.ans, by rw [hW3]; simp; omega⟩
          have HQ1 : Hid (Qr w.heap.size wr.heap.size (.slice none 0 0) (w.heap.size + 1)) := ⟨by omega, by omega, by simp [Value.ownBlock]⟩
          have HQ2 : Hid (Qr w.heap.size wr.heap.size (.slice none 0 0) (w.heap.size + 1 + 1)) := ⟨by omega, by omega, by simp [Value.ownBlock]⟩
          have s8 : wr.cell? ⟨w.heap.size, 8, none⟩ = some (.slice a.wo c.wts.length a.wc) := World.rowIs.cell HAr.out.box (i := 8) (by omega)
          have z8 : wr.frozen? ⟨w.heap.size, 8, none⟩ = false := World.rowIs.frozen HAr.out.box 8
          have n0 := HA3.out.1
          have n1 := HA3.out.2.1
          go_upto_region 17 with fail
          rw [← hW3]
          have HBG := hidp (refBegin_any _ w.heap.size wr.heap.size nn ao len cap w W3 _ _ _ _ HR3.out hn8 hok.n.fl hok.x.fl (Nat.zero_le _))
          clear hW3 s8 z8
          go_wp2_with (go_at_call 30; refine Calls.mono HBG.out ?_; rintro e w6 ⟨rfl, a6, tv6, TV6, hR6, hK6⟩; have HR6 := hidp hR6; have HK6 := hidp hK6; clear hR6 hK6)
          clear n0 n1 HBG
          have HAN : Hid (Qr w.heap.size wr.heap.size tv6 (w.heap.size + 1 + 1) ∧ w6.heap[w.heap.size + 1 + 1]? = some (.cells #[.int .i64 0, .int .i64 0, .slice none 0 0, .slice none 0 0, .int .i64 0, .slice none 0 0, .slice none 0 0, .int .i64 0, .slice none 0 0] 28 (0, 0))) := by
            have k := HK6.out.block _ HQ2.out HA3.out.2.2.2
            exact ⟨k.1, k.2.trans HA3.out.2.2.1⟩
          have hb6 := HAN.out.2
          have r0 := box_cell hb6 0
          have r1 := box_cell hb6 1
          have r2 := box_cell hb6 2
          have r3 := box_cell hb6 3
          have r4 := box_cell hb6 4
          have r5 := box_cell hb6 5
          have r6 := box_cell hb6 6
          have r7 := box_cell hb6 7
          have r8 := box_cell hb6 8
          have z0 := box_frozen hb6 0
          have z1 := box_frozen hb6 1
          have z2 := box_frozen hb6 2
          have z3 := box_frozen hb6 3
          have z4 := box_frozen hb6 4
          have z5 := box_frozen hb6 5
          have z6 := box_frozen hb6 6
          have z7 := box_frozen hb6 7
          have z8 := box_frozen hb6 8
          simp only [List.getElem?_toArray, List.getElem?_cons_zero, List.getElem?_cons_succ] at r0 r1 r2 r3 r4 r5 r6 r7 r8
          have hl62 : w.heap.size + 1 + 1 < w6.heap.size := (Array.getElem?_eq_some_iff.1 hb6).1
          have hl60 := World.rowIs.lt HR6.out.box
          have hl6O := HR6.out.obx.lt
          clear hb6
          obtain ⟨k0, k1, o2, l2, q2, o3, l3, q3, k4, o5, l5, q5, o6, l6, q6, k7, o8, l8, q8, tO, l9, tc, c0, c1, c2, c3, c4, c5, c6, c7, c8, cO, HF⟩ := HR6.out.letters
          go_region
          go_wp2
          refine bodyPost_ret (v := .tuple #[.agg #[.int .i64 k0, .int .i64 k1, .slice o2 l2 q2, .slice o3 l3 q3, .int .i64 k4, .slice o5 l5 q5, .slice o6 l6 q6, .int .i64 k7, .slice o8 l8 q8], .slice tO l9 tc, .int .i64 0]) (by simp [results, Try.results13, go_sem, r0, r1, r2, r3, r4, r5, r6, r7, r8]) rfl ?_
          rw [HD.out]
          obtain ⟨e1, e2, e3⟩ := HF.out
          exact ⟨a6, tO, tc, by rw [e1, e2], fun U hU kU => e3 (fun b hb => ⟨fun e => HAN.out.1.2.2 (by rw [hb, e]), Or.inr (HR6.out.ownT.lt b hb).1⟩) U (Nat.le_trans (Nat.le_of_eq W9_size.symm) hU) (fun b hb hlt => (kU b hb.2 (Nat.lt_of_lt_of_le hlt (Nat.le_of_eq W9_size.symm))).trans (W9_block b hb.1)), W9_ext HR6.out.bel (by omega)⟩
        · rw [decide_eq_false hm]
          have HD : Hid (backS c nn ls num = (⟨co0, []⟩, 6)) := by
            show _ = _
            unfold backS
            rw [if_neg (by simpa using HW.out), if_pos hm]
          clear hm
          obtain ⟨r0, r1, r2, r3, r4, r5, r6, r7, r8⟩ := HAr.out.zeros
          have z := box_frozen HAr.out.ans
          have z0' := z 0
          have z1 := z 1
          have z2 := z 2
          have z3 := z 3
          have z4 := z 4
          have z5 := z 5
          have z6 := z 6
          have z7 := z 7
          have z8 := z 8
          clear z
          go_wp2
          refine bodyPost_ret (v := .tuple #[.agg #[.int .i64 0, .int .i64 0, .slice none 0 0, .slice none 0 0, .int .i64 0, .slice none 0 0, .slice none 0 0, .int .i64 0, .slice none 0 0], .slice none 0 0, .int .i64 6]) (by simp [results, Try.results13, go_sem, r0, r1, r2, r3, r4, r5, r6, r7, r8]) rfl ?_
          rw [HD.out]
          exact rf_none (by omega) hEw _ _ _ _ _ _ _ _ _
  · have HD : Hid (backS c n ls num = (⟨co0, []⟩, (wrong n ls).1)) := by
      show _ = _
      unfold backS
      rw [if_pos hr]
    have hr' : ((wrong n ls).1 != 0) = true := by simpa using hr
    clear hr
    obtain ⟨r0, r1, r2, r3, r4, r5, r6, r7, r8⟩ := HA2.out.zeros
    have z := box_frozen HA2.out.ans
    have z0' := z 0
    have z1 := z 1
    have z2 := z 2
    have z3 := z 3
    have z4 := z 4
    have z5 := z 5
    have z6 := z 6
    have z7 := z 7
    have z8 := z 8
    clear z
    go_wp2
    go_region
    go_wp2
    refine bodyPost_ret (v := .tuple #[.agg #[.int .i64 0, .int .i64 0, .slice none 0 0, .slice none 0 0, .int .i64 0, .slice none 0 0, .slice none 0 0, .int .i64 0, .slice none 0 0], .slice none 0 0, .int .i64 (wrong n ls).1]) (by simp [results, Try.results13, go_sem, r0, r1, r2, r3, r4, r5, r6, r7, r8]) rfl ?_
    rw [HD.out]
    exact rf_noneD (by omega) hE2 _ _ _ _ _ _ _ _ _

end Go.Proofs.Ytgffkjjddhlbpaa.Ct
