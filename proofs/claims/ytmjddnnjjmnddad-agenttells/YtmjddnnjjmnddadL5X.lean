/- The law AgentTells answers true for every switch, order and flow that can be read, and leaves them as they were: Wrong, Do and Version tell what is wrong with any switch, what comes of any order, and of which version packets are. -/
import Derived.Test.YtmjddnnjjmnddadY1
import Derived.Test.YtmjddnnjjmnddadY5
import Derived.Test.YtmjddnnjjmnddadZ6
import Derived.Test.YtmjddnnjjmnddadZ7
import Derived.Test.YtmjddnnjjmnddadOpC
/- What the document's Stamped answers. -/
namespace Go.Proofs.Ytmjddnnjjmnddad.Ag
open Go.RowKit Go.Deep Tb Rul

set_option maxRecDepth 100000 in
set_option maxHeartbeats 800000 in
theorem refStamped_any (s : Agt.Sw) (ro so : Option Addr) (rc sc : Nat) (f : Int) (w : World) (h : SwAt w s ro so rc) :
    Calls Try.prog 21 #[svl s ro so rc sc, .int .i64 f] w fun e w' => e = .returned (.int .i64 (Agt.ver s.st f)) ∧ Ext w w' := by
  obtain ⟨rs, st⟩ := s
  unfold svl
  have hsl : st.length * 16 ≤ 140737488351232 := h.sl
  have HS : Hid (StAt w so st) := h.hs
  have hw0 : Agt.ver st f = Agt.ver (st.drop 0) f := by rw [List.drop_zero]
  show Calls _ _ _ _ fun e w' => e = .returned (.int .i64 (Agt.ver st f)) ∧ Ext w w'
  rw [hw0]
  clear h hw0
  go_enter Try.func21, Try.ntmps21
  go_wp2
  go_loopw [10] (fun iv wd => ∃ k : Nat, k ≤ st.length ∧ iv = .int .i64 k ∧ Hid (Agt.ver (st.drop 0) f = Agt.ver (st.drop k) f) ∧ Ext w wd) (fun iv _ => st.length - (intOf iv).toNat)
  case atStart => exact ⟨0, Nat.zero_le _, rfl, rfl, (Ext.refl w).alloc _⟩
  case round =>
    obtain ⟨k, hk, rfl, HW, hE⟩ := hrel
    by_cases hlt : k < st.length
    · obtain ⟨g, off, rfl, hg, hcs⟩ := (StAt.ext HS.out hE).get hlt
      have i1 : (k : Int) < (st.length : Int) := by omega
      have HST : Hid _ := ver_step (st := st) (f := f) (k := k) hlt
      obtain ⟨c0, c1⟩ := hcs k hlt
      obtain ⟨x, hx⟩ : ∃ x, st.getD k s0 = x := ⟨_, rfl⟩
      rw [hx] at c0 c1 HST
      clear hx hcs
      by_cases h1 : x.1 = f
      · have HF : Hid (Agt.ver (st.drop 0) f = x.2) := by show _ = _; rw [HW.out, HST.out, if_pos h1]
        have b1 : (x.1 == f) = true := by simpa using h1
        clear h1
        go_wp2
        go_ret
        exact ⟨by rw [HF.out]; first | done | rfl, hE.alloc _⟩
      · have HW2 : Hid (Agt.ver (st.drop 0) f = Agt.ver (st.drop (k + 1)) f) := by show _ = _; rw [HW.out, HST.out, if_neg h1]
        have b1 : (x.1 == f) = false := by simpa using h1
        clear h1
        go_wp2
        exact ⟨⟨k + 1, by omega, by go_num, HW2, hE.alloc _⟩, by simp [intOf]; omega⟩
    · have HF : Hid (Agt.ver (st.drop 0) f = 0) := by show _ = _; rw [HW.out, List.drop_eq_nil_of_le (by omega)]; rfl
      go_wp2
      go_ret
      exact ⟨by rw [HF.out]; first | done | rfl, hE⟩

end Go.Proofs.Ytmjddnnjjmnddad.Ag

/- What the document's Does answers where it stamps; and for every switch and order. -/
namespace Go.Proofs.Ytmjddnnjjmnddad.Ag
open Go.RowKit Go.Deep Tb Rul Wi

theorem SO_put {w : World} {base : Nat} {v : Value} {st : List (Int × Int)} (h : SO w base v st) {a : Addr} (ha : a.block < base) (u : Value) : SO (w.setCell a u) base v st :=
  ownsRow_setCell_other h (fun e => by have := (h.lt _ e).1; omega) u

theorem stamps_grown {w5 : World} {base : Nat} {v' : Value} {v f : Int} {fs : List Int} {k : Nat} (h : Agt.stamps v (fs.take (k + 1)) = Agt.stamps v (fs.take k) ++ [(f, v)]) (ho : w5.ownsRow base 70 2 v' ((Agt.stamps v (fs.take k)).length + 1) (scs (Agt.stamps v (fs.take k)) ++ [.int .i64 f, .int .i64 v])) : SO w5 base v' (Agt.stamps v (fs.take (k + 1))) := by
  unfold SO
  rw [h, scs_append, List.length_append]
  exact ho

/-- The three blocks while stamps are made: the switch has them so far. -/
structure MAt (W : World) (b : Nat) (rv ov : Value) (v : Int) : Prop where
  s0 : W.cell? ⟨b, 0, none⟩ = some rv
  s1 : W.cell? ⟨b, 1, none⟩ = some ov
  o2 : W.cell? ⟨b + 1, 2, none⟩ = some (.int .i64 v)
  r0 : W.cell? ⟨b + 1 + 1, 0, none⟩ = some (.slice none 0 0)
  r1 : W.cell? ⟨b + 1 + 1, 1, none⟩ = some (.slice none 0 0)
  f1 : W.frozen? ⟨b, 1, none⟩ = false
  g0 : W.frozen? ⟨b + 1 + 1, 0, none⟩ = false
  g1 : W.frozen? ⟨b + 1 + 1, 1, none⟩ = false
  sz : b + 1 + 1 < W.heap.size
theorem MAt.below {W W' : World} {b : Nat} {rv ov : Value} {v : Int} (h : MAt W b rv ov v) (E : Below (b + 1 + 1 + 1) W W') : MAt W' b rv ov v := by
  have c : ∀ g i, g < b + 1 + 1 + 1 → W'.cell? ⟨g, i, none⟩ = W.cell? ⟨g, i, none⟩ := fun g i hg => Below.cell E (p := ⟨g, i, none⟩) hg
  have f : ∀ g i, g < b + 1 + 1 + 1 → W'.frozen? ⟨g, i, none⟩ = W.frozen? ⟨g, i, none⟩ := fun g i hg => Below.frozen E (p := ⟨g, i, none⟩) hg
  exact ⟨(c _ _ (by omega)).trans h.s0, (c _ _ (by omega)).trans h.s1, (c _ _ (by omega)).trans h.o2, (c _ _ (by omega)).trans h.r0, (c _ _ (by omega)).trans h.r1, (f _ _ (by omega)).trans h.f1, (f _ _ (by omega)).trans h.g0, (f _ _ (by omega)).trans h.g1, Nat.lt_of_lt_of_le h.sz (Below.size E)⟩
theorem MAt.write {W : World} {b : Nat} {rv ov : Value} {v : Int} (h : MAt W b rv ov v) (u : Value) : MAt (W.setCell ⟨b, 1, none⟩ u) b rv u v := by
  have ne : ∀ g i, (g ≠ b ∨ i ≠ 1) → (W.setCell ⟨b, 1, none⟩ u).cell? ⟨g, i, none⟩ = W.cell? ⟨g, i, none⟩ := fun g i hg => World.cell?_setCell_other _ _ _ _ (fun e => by cases e; omega)
  exact ⟨(ne _ _ (by omega)).trans h.s0, World.cell?_setCell_same _ _ _ h.s1, (ne _ _ (by omega)).trans h.o2, (ne _ _ (by omega)).trans h.r0, (ne _ _ (by omega)).trans h.r1, by simpa using h.f1, by simpa using h.g0, by simpa using h.g1, by simpa using h.sz⟩
theorem DAt.mat {W : World} {b : Nat} {rv sv : Value} {k n v : Int} {pv fv : Value} (h : DAt W b rv sv k n v pv fv) (sz : b + 1 + 1 < W.heap.size) : MAt W b rv sv v := ⟨h.s0, h.s1, h.o2, h.r0, h.r1, h.f1, h.g0, h.g1, sz⟩

set_option maxRecDepth 100000 in
set_option maxHeartbeats 1600000 in
theorem refDoes_stamp (s : Agt.Sw) (o : Wir.Od) (ro so po fo : Option Addr) (rc sc pc fc : Nat) (w : World) (h : SwAt w s ro so rc) (ho : OAt w o po fo) (hz : Agt.wrongS s = 0) (hy : Wir.wrong o = 0) (hk : o.k = 2) (hfl : o.fs.length ≤ 12) :
    Calls Try.prog 23 #[svl s ro so rc sc, ovl o po fo pc fc] w fun e w' => SwOut w (⟨s.rs, Agt.stamps o.v o.fs⟩, 0) e w' := by
  obtain ⟨i3, hi3, hz0, hz1, hz2⟩ := infoS'
  have HC : Hid (∀ W, Ext w W → Calls Try.prog 19 #[svl s ro so rc sc] W fun e w' => e = .returned (.int .i64 0) ∧ Ext W w') := fun W hW => by have := refWrongSwitch_any s ro so rc sc W (h.ext hW); rwa [hz] at this
  have HO : Hid (∀ W, Ext w W → Calls Try.prog 10 #[ovl o po fo pc fc] W fun e w' => e = .returned (.int .i64 0) ∧ Ext W w') := fun W hW => by have := refWrong_any o po fo pc fc W (ho.ext hW); rwa [hy] at this
  have HS : Hid _ := h
  have HF : Hid (ListAt w fo o.fs) := ho.hf
  clear h ho hz hy
  obtain ⟨rs, st⟩ := s
  obtain ⟨k, n, v, ps, fs⟩ := o
  have hk' : k = 2 := hk
  subst hk'
  unfold svl ovl at *
  simp only at HF hfl
  clear hk
  go_enter Try.func23, Try.ntmps23
  go_wp2_with fail
  refine (HC.out _ (Dw_ext w _ _ 2 n v (.slice po ps.length pc) (.slice fo fs.length fc))).mono ?_
  rintro e w1 ⟨rfl, E1⟩
  obtain ⟨s0, s1, o0, o1, o2, o3, o4, r0, r1, f0, f1, g0, g1⟩ := DAt.of E1
  go_wp2_with fail
  have hE1 := (Dw_ext w _ _ 2 n v (.slice po ps.length pc) (.slice fo fs.length fc)).trans E1
  refine (HO.out _ hE1).mono ?_
  rintro e w2 ⟨rfl, E2⟩
  clear s0 s1 o0 o1 o2 o3 o4 r0 r1 f0 f1 g0 g1
  have hE2 := hE1.trans E2
  have sz2 : w.heap.size + 1 + 1 < w2.heap.size := by
    have h1 : w.heap.size + 1 + 1 < (Dw w (.slice ro rs.length rc) (.slice so st.length sc) 2 n v (.slice po ps.length pc) (.slice fo fs.length fc)).heap.size := by unfold Dw; simp
    exact Nat.lt_of_lt_of_le h1 (E1.trans E2).size
  have HM0 : Hid (MAt (w2.setCell ⟨w.heap.size, 1, none⟩ (.slice none 0 0)) w.heap.size (.slice ro rs.length rc) (.slice none 0 0) v) := (DAt.mat (DAt.of (E1.trans E2)) sz2).write _
  obtain ⟨s0, s1, o0, o1, o2, o3, o4, r0, r1, f0, f1, g0, g1⟩ := DAt.of (E1.trans E2)
  clear HC HO E1 E2 hE1
  go_wp2
  clear s0 s1 o0 o1 o2 o3 o4 r0 r1 f0 f1 g0 g1
  go_loopw [30] (fun iv wd => ∃ (k : Nat) (ov : Value), k ≤ fs.length ∧ iv = .int .i64 k ∧ Hid (MAt wd w.heap.size (.slice ro rs.length rc) ov v) ∧ Hid (SO wd (w.heap.size + 1 + 1 + 1) ov (Agt.stamps v (fs.take k))) ∧ Ext w wd) (fun iv _ => fs.length - (intOf iv).toNat)
  case atStart => exact ⟨0, _, Nat.zero_le _, rfl, HM0, SO.nil _ _, hE2.setCell (Nat.le_refl _) _⟩
  case round =>
    obtain ⟨k, ov, hk, rfl, HM, HO, hE⟩ := hrel
    clear HM0
    obtain ⟨s0, s1, o2, r0, r1, f1, g0, g1, sz⟩ := HM.out
    by_cases hlt : k < fs.length
    · obtain ⟨g, off, rfl, hg, hcs⟩ := (ListAt.ext HF.out hE).get (k := k) (by omega)
      have i1 : (k : Int) < (fs.length : Int) := by omega
      have HST : Hid _ := stamps_snoc (v := v) (fs := fs) (k := k) (by omega)
      have c0 := hcs k hlt
      obtain ⟨f, hf0⟩ : ∃ f, fs.getD k 0 = f := ⟨_, rfl⟩
      rw [hf0] at c0 HST
      clear hf0 hcs
      have hE0 := HO.out.ext ((Ext.refl wr).alloc (.cells #[.int .i64 f, .int .i64 v] 70))
      have HDL : Hid ((Agt.stamps v (fs.take k)).length = k) := by show _ = _; rw [stamps_len]; simp; omega
      have HSZ : Hid _ := sz
      obtain ⟨ao, ac, hov, _⟩ := SO.form HO.out
      subst hov
      clear sz
      go_wp2_with (first | (at_builtin; refine wpList_append_own _ rfl _ _ 39 rfl (w.heap.size + 1 + 1 + 1) 70 i3 (.agg #[.int .i64 0, .int .i64 0]) 2 16 Try.underlying39 hi3 hz0 hz1 hz2 rfl (by decide) _ _ _ rfl hE0 ⟨wr.heap.size, 0, none⟩ 1 1 [.int .i64 f, .int .i64 v] rfl rfl (cells2n rfl _ _ _) (by intro u hu; simp only [List.mem_cons, List.not_mem_nil, or_false] at hu; rcases hu with rfl | rfl <;> rfl) (by have := HDL.out; unfold maxLen; omega) (by have := HDL.out; omega) (by have := HSZ.out; simp; omega) ?_; intro v' w5 hown5 hg5 _; have hB5 : Below (w.heap.size + 1 + 1 + 1) wr w5 := Below.grown (Below.alloc (Below.refl _ _) (by have := HSZ.out; omega) _) hg5 (by have := HSZ.out; simp; omega) (fun j hj => (HO.out.block j hj).1); have HM5 : Hid _ := MAt.below HM.out hB5; have t0 := HM5.out.s0; have t1 := HM5.out.s1; have t2 := HM5.out.f1; have HO5 : Hid (SO w5 (w.heap.size + 1 + 1 + 1) v' (Agt.stamps v (fs.take (k + 1)))) := stamps_grown HST.out hown5; obtain ⟨bo, bc, hv', _⟩ := SO.form HO5.out; subst hv') | go_in)
      have hE5 : Ext w w5 := Below.trans hE (Below.mono hB5 (by omega))
      exact ⟨⟨k + 1, _, by omega, by go_num, MAt.write HM5.out _, SO_put HO5.out (by simp; omega) _, hE5.setCell (Nat.le_refl _) _⟩, by simp [intOf]; omega⟩
    · have i1 : ¬ (k : Int) < (fs.length : Int) := by omega
      have HA : Hid _ := stamps_all (v := v) (fs := fs) (k := k) (by omega)
      have HO2 : Hid (SO wr (w.heap.size + 1 + 1 + 1) ov (Agt.stamps v fs)) := by have := HO.out; rw [HA.out] at this; exact this
      obtain ⟨ao, ac, hov, hat⟩ := SO.form HO2.out
      subst hov
      have HAT : Hid _ := hat
      clear HO HA HO2 hat
      go_wp2
      refine bodyPost_ret (v := .tuple #[.agg #[.slice ro rs.length rc, .slice ao (Agt.stamps v fs).length ac], .int .i64 0]) (by simp [results, Try.results23, go_sem, r0, r1]) rfl ?_
      refine ⟨ro, ao, rc, ac, rfl, SwAt_put (s := ⟨rs, Agt.stamps v fs⟩) ⟨HS.out.hr.ext hE, HAT.out, HS.out.rl, ?_, HS.out.rq⟩ r0 r1 _ _, (hE.setCell (by simp; omega) _).setCell (by simp; omega) _⟩
      show (Agt.stamps v fs).length * 16 ≤ _
      rw [stamps_len]; omega

/-- What the document's Does answers, for every switch and every order. -/
theorem refDoes_any (s : Agt.Sw) (o : Wir.Od) (ro so po fo : Option Addr) (rc sc pc fc : Nat) (w : World) (h : SwAt w s ro so rc) (ho : OAt w o po fo) (hpn : po = none → o.rs.length = 0 ∧ pc = 0) :
    Calls Try.prog 23 #[svl s ro so rc sc, ovl o po fo pc fc] w fun e w' => SwOut w (Agt.doS s o) e w' := by
  by_cases hz : Agt.wrongS s = 0
  · by_cases hy : Wir.wrong o = 0
    · obtain ⟨_, hk⟩ := Wir.right_cases hy
      rcases hk with ⟨hk, hl, _⟩ | ⟨hk, hl, _⟩ | hk
      · exact refDoes_add s o ro so po fo rc sc pc fc w h ho hz hy hk hpn hl
      · rw [Agt.do_stamp hz hy hk]
        exact refDoes_stamp s o ro so po fo rc sc pc fc w h ho hz hy hk hl
      · rw [Agt.do_drop hz hy hk]
        refine (refDoes_drop s o ro so po fo rc sc pc fc w h ho hz hy hk).mono ?_
        rintro e w' ⟨do_, dc, rfl, h1, h2⟩
        exact ⟨do_, so, dc, sc, rfl, h1, h2⟩
    · have e : Agt.doS s o = (Agt.sw0, Wir.wrong o) := by unfold Agt.doS; rw [if_neg (by simpa using hz), if_pos hy]
      rw [e]
      refine (refDoes_order s o ro so po fo rc sc pc fc w h ho hz hy).mono ?_
      rintro e w' ⟨rfl, hE⟩
      exact ⟨none, none, 0, 0, rfl, SwAt_none _, hE⟩
  · have e : Agt.doS s o = (Agt.sw0, Agt.wrongS s) := by unfold Agt.doS; rw [if_pos hz]
    rw [e]
    refine (refDoes_wrong s o ro so po fo rc sc pc fc w h hz).mono ?_
    rintro e w' ⟨rfl, hE⟩
    exact ⟨none, none, 0, 0, rfl, SwAt_none _, hE⟩

end Go.Proofs.Ytmjddnnjjmnddad.Ag

/- What the law AgentTells answers, for every switch, order and flow: true; nothing that was there is changed. -/
namespace Go.Proofs.Ytmjddnnjjmnddad.Ag
open Go.RowKit Go.Maps Go.Deep Go.Sort Tb Rul Wi

set_option maxRecDepth 100000 in
set_option maxHeartbeats 3200000 in
theorem agentTells_any (s : Agt.Sw) (o : Wir.Od) (ro so po fo : Option Addr) (rc sc pc fc : Nat) (f : Int) (w : World) (h : SwAt w s ro so rc) (ho : OAt w o po fo) (hpn : po = none → o.rs.length = 0 ∧ pc = 0) :
    Calls Try.prog 7 #[svl s ro so rc sc, ovl o po fo pc fc, .int .i64 f] w fun e w' => e = .returned (.bool true) ∧ Ext w w' := by
  have HD : Hid (∀ W, Ext w W → Calls Try.prog 22 #[svl s ro so rc sc, ovl o po fo pc fc] W fun e w' => SwOut W (Agt.doS s o) e w') := fun W hW => Do_any s o ro so po fo rc sc pc fc W (h.ext hW) (ho.ext hW) hpn
  have HR : Hid (∀ W, Ext w W → Calls Try.prog 23 #[svl s ro so rc sc, ovl o po fo pc fc] W fun e w' => SwOut W (Agt.doS s o) e w') := fun W hW => refDoes_any s o ro so po fo rc sc pc fc W (h.ext hW) (ho.ext hW) hpn
  have HA : Hid (∀ W, Ext w W → ∀ d os, Calls Try.prog 18 #[svl s ro so rc sc] (grow (redrawn W d) os) fun e w'' => e = .returned (.int .i64 (Agt.wrongS s)) ∧ ∃ p : Regrown, w'' = grow (redrawn W p.d) p.os) := fun W hW d os =>
    Calls.regrown_of ((Wrong_any s ro so rc sc _ (h.ext (hW.trans (below_regrown W d os)))).mono (fun e w' h => ⟨h.1, h.2⟩))
  have HB : Hid (∀ W, Ext w W → ∀ d os, Calls Try.prog 19 #[svl s ro so rc sc] (grow (redrawn W d) os) fun e w'' => e = .returned (.int .i64 (Agt.wrongS s)) ∧ ∃ p : Regrown, w'' = grow (redrawn W p.d) p.os) := fun W hW d os =>
    Calls.regrown_of ((refWrongSwitch_any s ro so rc sc _ (h.ext (hW.trans (below_regrown W d os)))).mono (fun e w' h => ⟨h.1, h.2⟩))
  have HV : Hid (∀ W, Ext w W → ∀ d os, Calls Try.prog 20 #[svl s ro so rc sc, .int .i64 f] (grow (redrawn W d) os) fun e w'' => e = .returned (.int .i64 (Agt.ver s.st f)) ∧ ∃ p : Regrown, w'' = grow (redrawn W p.d) p.os) := fun W hW d os =>
    Calls.regrown_of ((Version_any s ro so rc sc f _ (h.ext (hW.trans (below_regrown W d os)))).mono (fun e w' h => ⟨h.1, h.2⟩))
  have HU : Hid (∀ W, Ext w W → ∀ d os, Calls Try.prog 21 #[svl s ro so rc sc, .int .i64 f] (grow (redrawn W d) os) fun e w'' => e = .returned (.int .i64 (Agt.ver s.st f)) ∧ ∃ p : Regrown, w'' = grow (redrawn W p.d) p.os) := fun W hW d os =>
    Calls.regrown_of ((refStamped_any s ro so rc sc f _ (h.ext (hW.trans (below_regrown W d os)))).mono (fun e w' h => ⟨h.1, h.2⟩))
  obtain ⟨x, hx⟩ : ∃ x, Agt.doS s o = x := ⟨_, rfl⟩
  obtain ⟨⟨tr, tt⟩, te⟩ := x
  rw [hx] at HD HR
  obtain ⟨y, hy⟩ : ∃ y, Agt.wrongS s = y := ⟨_, rfl⟩
  rw [hy] at HA HB
  obtain ⟨z, hz⟩ : ∃ z, Agt.ver s.st f = z := ⟨_, rfl⟩
  rw [hz] at HV HU
  clear h ho hpn hx hy hz
  obtain ⟨rs, st⟩ := s
  obtain ⟨k, n, v, ps, fs⟩ := o
  unfold svl ovl at *
  go_enter Try.func7, Try.ntmps7
  go_wp2_with fail
  obtain ⟨B, hB⟩ : ∃ B, B = Dv w (.slice ro rs.length rc) (.slice so st.length sc) k n v (.slice po ps.length pc) (.slice fo fs.length fc) := ⟨_, rfl⟩
  have hE0 : Ext w B := by rw [hB]; exact ((Ext.refl w).alloc _).alloc _
  have HK : Hid (∀ W, Ext B W → SOAt W w.heap.size (.slice ro rs.length rc) (.slice so st.length sc) k n v (.slice po ps.length pc) (.slice fo fs.length fc)) := fun W hW => SOAt.of (by rw [← hB]; exact hW)
  have hBu := hB
  unfold Dv at hBu
  rw [← hBu]
  clear hB hBu
  have QA : Hid _ := HA.out B hE0
  have QB : Hid _ := HB.out B hE0
  have QV : Hid _ := HV.out B hE0
  have QU : Hid _ := HU.out B hE0
  obtain ⟨b0, b1, _, _, _, _, _⟩ := (HK.out B (Ext.refl B)).all
  have x0 := cell_regrown b0
  have x1 := cell_regrown b1
  have e1 : (y != y) = false := by simp
  have e2 : (z != z) = false := by simp
  clear HA HB HV HU b0 b1
  refine wp_region_quiet_below (by kernel_rfl) (by kernel_rfl) ?_
  repeat (go_big_quiet_step (first | (with_reducible exact QA.out _ _) | (with_reducible exact QB.out _ _) | (with_reducible exact QV.out _ _) | (with_reducible exact QU.out _ _)))
  refine wpQuiet_nil ?_
  intro _ hw'
  obtain ⟨⟨dq, oq⟩, hw''⟩ := hw'
  subst hw''
  have hEX : Ext B (grow (redrawn B dq) oq) := below_regrown B dq oq
  clear QA QB QV QU x0 x1 e1 e2
  generalize grow (redrawn B dq) oq = X at hEX ⊢
  obtain ⟨b0, b1, b2, b3, b4, b5, b6⟩ := (HK.out _ hEX).all
  go_wp2_with fail
  refine Calls.mono (HD.out _ (hE0.trans hEX)) ?_
  rintro e w2 ⟨ao, bo, ac, bc, he, hX, E2⟩
  have he' : e = .returned (.tuple #[.agg #[.slice ao tr.length ac, .slice bo tt.length bc], .int .i64 te]) := he
  subst he'
  have HX : Hid _ := hX
  clear he hX HD b0 b1 b2 b3 b4 b5 b6
  obtain ⟨C, hC⟩ : ∃ C, C = w2.alloc (.cells #[.slice ao tr.length ac, .slice bo tt.length bc] 41) := ⟨_, rfl⟩
  have hE2 : Ext B C := by rw [hC]; exact (hEX.trans E2).alloc _
  have HXC : Hid (SwAt C ⟨tr, tt⟩ ao bo ac) := HX.out.ext (by rw [hC]; exact (Ext.refl _).alloc _)
  have HT : Hid (∀ W, Ext C W → W.cell? ⟨w2.heap.size, 0, none⟩ = some (.slice ao tr.length ac) ∧ W.cell? ⟨w2.heap.size, 1, none⟩ = some (.slice bo tt.length bc) ∧ _) := fun W hW => blk2 (by rw [← hC]; exact hW)
  obtain ⟨b0, b1, b2, b3, b4, b5, b6⟩ := (HK.out _ hE2).all
  rw [hC] at b0 b1 b2 b3 b4 b5 b6
  go_wp2_with fail
  rw [← hC]
  clear b0 b1 b2 b3 b4 b5 b6 hC
  refine Calls.mono (HR.out _ (hE0.trans hE2)) ?_
  rintro e w3 ⟨ao', bo', ac', bc', he, hX, E3⟩
  have he' : e = .returned (.tuple #[.agg #[.slice ao' tr.length ac', .slice bo' tt.length bc'], .int .i64 te]) := he
  subst he'
  have HX3 : Hid _ := hX
  clear he hX HR
  have hE4 : Ext C (w3.alloc (.cells #[.slice ao' tr.length ac', .slice bo' tt.length bc'] 41)) := E3.alloc _
  obtain ⟨t0, t1, _, _, _⟩ := HT.out _ hE4
  have e3 : (te == te) = true := by simp
  go_wp2_with fail
  refine Calls.mono (SameSwitch_same ⟨tr, tt⟩ ao bo ao' bo' ac bc ac' bc' _ (HXC.out.ext hE4) (HX3.out.ext ((Ext.refl _).alloc _))) ?_
  rintro e w4 ⟨rfl, E4⟩
  go_wp2
  go_ret
  exact ⟨rfl, (hE0.trans (hE2.trans hE4)).trans E4⟩

end Go.Proofs.Ytmjddnnjjmnddad.Ag

/- How a switch that came in is read; an order, with what an empty list of rules is. -/
namespace Go.Proofs.Ytmjddnnjjmnddad
open Go.ChangeShapes Go.WideShapes Go.ChangeAt Go.RowKit Go.Deep Go.Joins

theorem Try.cellsSt : Try.prog.cellsOf 70 = 2 := by kernel_rfl
theorem Try.bytesSt : Try.prog.bytesOf 70 = 16 := by kernel_rfl
theorem Try.cellsSw : Try.prog.cellsOf 41 = 2 := by kernel_rfl
theorem cells2_inv' {w : World} {a : Addr} {cs : List Value} {x y : Value} (h : w.cells? 0 a 2 = some cs) (e : cs = [x, y]) : w.cell? a = some x ∧ w.cell? (a.add 1) = some y := by
  obtain ⟨_, _, hc⟩ := World.cells?_some h
  subst e
  exact ⟨by simpa [Addr.add] using hc 0 (by omega), hc 1 (by omega)⟩

section
variable {H : Type} {enc : TypeId × Value → H} {W : World}

set_option maxRecDepth 100000 in
theorem open_stamps {fuel : Nat} {cs : List Value} {x : DataW H × List MemPlace} (h : DataW.trod enc Try.prog W 0 (fun _ => true) true fuel 39 cs = some x) (hw : ∀ m ∈ x.1.weights Try.prog 39, m ≤ reachBytes) :
    ∃ (ao : Option Addr) (len cap : Nat) (st : List (Int × Int)), cs = [.slice ao len cap] ∧ st.length = len ∧ Ag.StAt W ao st ∧ len * 16 ≤ 140737488351232 := by
  rcases open_slice Try.underlying39 h with ⟨hcs, _⟩ | ⟨a, len, cap, m, n, D, Pl, hcs, _, hl, hm, hmm, hx, hel⟩
  · exact ⟨none, 0, 0, [], hcs, rfl, Or.inl rfl, by omega⟩
  · have hmc : m = cap := by simpa using hmm
    have hfam : ∀ i, i < len → ∃ l : Int × Int, W.cell? (a.add (i * 2)) = some (.int .i64 l.1) ∧ W.cell? ((a.add (i * 2)).add 1) = some (.int .i64 l.2) := by
      intro i hi
      obtain ⟨cs', hcell, htr⟩ := hel i (by omega)
      rw [Try.cellsSt] at hcell
      obtain ⟨y0, y1, n', _, hlen, t0, t1⟩ := trod_struct2 Try.underlying70 htr
      rw [Try.cellsSt] at hlen
      match cs', hlen with
      | [c0, c1], _ =>
        obtain ⟨a0, e0, _, w0⟩ := DataW.trod_int Try.underlying3 t0
        obtain ⟨a1, e1, _, w1⟩ := DataW.trod_int Try.underlying3 t1
        simp [Try.cells3] at e0 e1
        subst e0 e1
        exact ⟨(a0, a1), cells2_inv' hcell rfl⟩
    obtain ⟨F, hF⟩ := choose_lt hfam
    refine ⟨some a, len, cap, (List.range len).map F, hcs, by simp, ?_, ?_⟩
    · by_cases h0 : len = 0
      · exact Or.inl (by simp [h0])
      · obtain ⟨b, off, spot⟩ := a
        have hc := (hF 0 (by omega)).1
        have hspot : spot = none := by simpa [Addr.add] using World.cell?_spot hc
        subst hspot
        refine Or.inr ⟨b, off, rfl, by have := cell_lt hc; simpa [Addr.add] using this, fun k hk => ?_⟩
        simp only [List.length_map, List.length_range] at hk
        obtain ⟨g0, g1⟩ := hF k hk
        have e0 : (⟨b, off, none⟩ : Addr).add (k * 2) = ⟨b, off + k * 2, none⟩ := by
          unfold Addr.add
          split
          · simp_all
          · rfl
        rw [e0] at g0 g1
        have e1 : ((List.range len).map F).getD k (0, 0) = F k := by simp [List.getD_eq_getElem?_getD, hk]
        rw [e1]
        exact ⟨g0, by simpa [Addr.add] using g1⟩
    · subst hx
      have := hw ((len + (m - len)) * 16) (by simp [DataW.weights, Try.underlying39, Try.bytesSt])
      simp [reachBytes] at this
      omega

theorem open_rulesC {fuel : Nat} {cs : List Value} {x : DataW H × List MemPlace} (h : DataW.trod enc Try.prog W 0 (fun _ => true) true fuel 22 cs = some x) (hw : ∀ m ∈ x.1.weights Try.prog 22, m ≤ reachBytes) :
    ∃ (ao : Option Addr) (len cap : Nat) (rs : List Rul.Ru), cs = [.slice ao len cap] ∧ Tb.SlOk W ao len cap rs ∧ len * 24 ≤ 140737488351232 ∧ len ≤ cap ∧ cap ≤ 9223372036854775807 := by
  obtain ⟨ao, len, cap, rs, h1, h2, _, h4⟩ := open_rules0 h
  refine ⟨ao, len, cap, rs, h1, h2, ?_⟩
  rcases h4 with h4 | ⟨m, h5, h4⟩
  · have := h2.hnil h4; omega
  · have := hw _ h4
    simp [reachBytes] at this
    omega

set_option maxRecDepth 100000 in
/-- A switch that came in. -/
theorem open_switch {b0 : Nat} {v : Value} {d : DataW H} {p : List MemPlace} (hv : Value.okWide Try.prog W .any b0 41 v) (h : DataW.Trod enc Try.prog W 0 (fun _ => true) true 41 v d p)
    (hw : ∀ m ∈ d.weights Try.prog 41, m ≤ reachBytes) : ∃ (s : Agt.Sw) (ro so : Option Addr) (rc sc : Nat), v = Ag.svl s ro so rc sc ∧ Ag.SwAt W s ro so rc := by
  obtain ⟨c0, c1, y0, y1, m, rfl, rfl, rfl, hy0, hy1⟩ := open_agg2 Try.underlying41 (by kernel_rfl) Try.cellsSw hv h
  obtain ⟨ro, rl, rc, X, e0, hX, hxb, hxc, hxm⟩ := open_rulesC hy0 (fun m hm => hw m (by simp [DataW.weights, DataW.weightsEach, Try.underlying41]; exact Or.inl hm))
  obtain ⟨so, sl, sc, Y, e1, hyl, hY, hyb⟩ := open_stamps hy1 (fun m hm => hw m (by simp [DataW.weights, DataW.weightsEach, Try.underlying41]; exact Or.inr hm))
  have hxl := hX.hlen
  simp at e0 e1
  subst e0 e1
  subst hxl hyl
  exact ⟨⟨X, Y⟩, ro, so, rc, sc, rfl, ⟨hX, hY, hxb, hyb, hxc, hxm⟩⟩

set_option maxRecDepth 100000 in
/-- An order that came in; of no rules' list it is known that it is empty. -/
theorem open_orderN {b0 : Nat} {v : Value} {d : DataW H} {p : List MemPlace} (hv : Value.okWide Try.prog W .any b0 25 v) (h : DataW.Trod enc Try.prog W 0 (fun _ => true) true 25 v d p)
    (hw : ∀ m ∈ d.weights Try.prog 25, m ≤ reachBytes) : ∃ (o : Wir.Od) (ro fo : Option Addr) (rc fc : Nat), v = Wi.ovl o ro fo rc fc ∧ Wi.OAt W o ro fo ∧ (ro = none → o.rs.length = 0 ∧ rc = 0) := by
  obtain ⟨c0, c1, c2, c3, c4, y0, y1, y2, y3, y4, m, rfl, rfl, h0, h1, h2, h3, h4⟩ := open_agg5 Try.underlying25 (by kernel_rfl) Try.cellsOr hv h
  obtain ⟨a0, e0, _, w0⟩ := DataW.trod_int Try.underlying3 h0
  obtain ⟨a1, e1, _, w1⟩ := DataW.trod_int Try.underlying3 h1
  obtain ⟨a2, e2, _, w2⟩ := DataW.trod_int Try.underlying3 h2
  obtain ⟨ro, rl, rc, X, e3, hX, hxb⟩ := open_rules h3 (fun m hm => hw m (by simp [DataW.weights, DataW.weightsEach, Try.underlying25]; exact Or.inr (Or.inr (Or.inr (Or.inl hm)))))
  obtain ⟨fo, fl, fc, Y, e4, hY, hfl, hfi, hfb, hfc, _⟩ := open_list Try.underlying23 h4 (fun m hm => hw m (by simp [DataW.weights, DataW.weightsEach, Try.underlying25]; exact Or.inr (Or.inr (Or.inr (Or.inr hm)))))
  have hxl := hX.hlen
  simp at e0 e1 e2 e3 e4
  subst e0 e1 e2 e3 e4
  subst hxl hY
  exact ⟨⟨a0, a1, a2, X, Y⟩, ro, fo, rc, fc, rfl, ⟨hX.hat, hfl, w0, by show X.length ≤ _; omega, by show Y.length ≤ _; omega⟩, hX.hnil⟩

end

end Go.Proofs.Ytmjddnnjjmnddad

namespace Go.Proofs.Ytmjddnnjjmnddad
open Go.ChangeShapes Go.WideShapes Go.ChangeAt Go.RowKit Go.Deep Go.Joins

set_option maxRecDepth 100000 in
theorem agentTells_lifted (os : Os) (started : os.Started) (H : Type) (enc : TypeId × Value → H) :
    ReturnsInHanded {} Try.checked os 7 .any (Rows.agentTellsSpec.pre6 enc Try.prog Try.f7 Rows.agentTellsRow.domain false) (Rows.agentTellsSpec.post enc Try.prog Try.f7 false true false false) := by
  refine returnsInHanded_of_change_sized (C := Try.checked) Try.own started (by kernel_rfl) Try.func7
    (ChangeSpec.witness6 (enc := enc) (C := Try.checked) false ⟨#[], #[.agg #[.slice none 0 0, .slice none 0 0], .agg #[.int .i64 0, .int .i64 0, .int .i64 0, .slice none 0 0, .slice none 0 0], .int .i64 0], []⟩ 8 (by kernel_rfl) (by kernel_rfl) (by kernel_rfl) (by kernel_rfl)) ?_
  intro W base args ds gs before hval0 hW hcnd hsz0 _
  have hval : ∀ (j : Nat) t v, Try.f7.params[j]? = some t → args[j]? = some v → Value.okWide Try.prog W .any base t v := hval0
  have hsz : (DataW.weightsEach Try.prog (Try.f7.params.toList ++ Rows.agentTellsSpec.plain.varTypes Try.prog) (ds ++ gs)).all (· ≤ reachBytes) = true := hsz0
  have hW' := hW
  obtain ⟨p, q, hA0, hV, rfl, hfz, hnd⟩ := hW
  have hA : DataW.TrodAll enc Try.prog W 0 (fun _ => true) true Try.f7.params.toList args.toList ds p := hA0
  rw [Try.params7] at hA hval hsz
  obtain ⟨v0, vs0, d0, ds0, p0, q0, hargs, rfl, rfl, h0, r0⟩ := trodAll_cons hA
  obtain ⟨v1, vs1, d1, ds1, p1, q1, rfl, rfl, rfl, h1, r1⟩ := trodAll_cons r0
  obtain ⟨v2, vs2, d2, ds2, p2, q2, rfl, rfl, rfl, h2, r2⟩ := trodAll_cons r1
  obtain ⟨rfl, rfl, rfl⟩ := trodAll_nil r2
  obtain rfl : args = #[v0, v1, v2] := by cases args; simp_all
  obtain ⟨rfl, rfl⟩ := trodVars_none hV
  have k0 := h0
  have lt0 : ∀ x ∈ p0, x.block < W.heap.size := by obtain ⟨m, hm⟩ := k0; exact DataW.trod_lt m _ _ _ hm
  have k1 := h1
  have lt1 : ∀ x ∈ p1, x.block < W.heap.size := by obtain ⟨m, hm⟩ := k1; exact DataW.trod_lt m _ _ _ hm
  obtain ⟨s0, ro0, so0, rc0, sc0, rfl, hS0⟩ := open_switch (hval 0 41 v0 rfl rfl) h0 (weights_arg hsz (j := 0) rfl rfl)
  obtain ⟨o1, ro1, fo1, rc1, fc1, rfl, hO1, hN1⟩ := open_orderN (hval 1 25 v1 rfl rfl) h1 (weights_arg hsz (j := 1) rfl rfl)
  obtain ⟨a2, rfl, rfl, rfl, w2⟩ := open_int Try.underlying3 (hval 2 3 v2 rfl rfl) h2
  clear hA0 hval0 hsz0
  refine (Ag.agentTells_any s0 o1 ro0 so0 ro1 fo1 rc0 sc0 rc1 fc1 a2 W hS0 hO1 hN1).mono fun e W' ⟨he, bel0⟩ => ?_
  subst he
  have bel : Below W.heap.size W W' := bel0
  exact ⟨_, rfl, _, _, _, [], _, [], hW', trodAll_mk1 (shut_bool Try.underlying4 _), (trodAll_cons_mk (Below.trod Try.laidOut (by kernel_rfl) (of_decide_eq_true (by kernel_rfl)) k0 bel lt0) (trodAll_cons_mk (Below.trod Try.laidOut (by kernel_rfl) (of_decide_eq_true (by kernel_rfl)) k1 bel lt1) (trodAll_cons_mk (shut_int Try.underlying3 w2) trodAll_mk0))), rfl, bel.frame _, fun h => by cases h⟩

theorem agentTells_holds : Rows.AgentTellsSaid :=
  OpenClaim.holds_of_wide 7 Try.f7 rfl rfl rfl rfl rfl rfl rfl ⟨rfl, rfl, rfl, rfl, rfl⟩ rfl rfl rfl rfl rfl (by kernel_rfl) Try.func7 (by kernel_rfl)
    (of_decide_eq_true (by kernel_rfl)) (by unfold Func.isWrapper; first | (rw [if_pos (by decide +kernel)]; kernel_rfl) | (rw [if_neg (by decide +kernel)]; exact ⟨rfl, rfl⟩))
    (fun os started H enc _ => agentTells_lifted os started H enc)

#print axioms agentTells_holds
end Go.Proofs.Ytmjddnnjjmnddad
