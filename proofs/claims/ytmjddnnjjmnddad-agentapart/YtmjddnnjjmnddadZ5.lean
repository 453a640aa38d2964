/- What a change of stamps does; what changeBy tells. -/
import Derived.Test.YtmjddnnjjmnddadZ4
namespace Go.Proofs.Ytmjddnnjjmnddad.Ag
open Go.RowKit Go.Deep Tb Rul Wi

set_option maxRecDepth 100000 in
set_option maxHeartbeats 1600000 in
theorem cloStamp_any (s : Agt.Sw) (ro so fo : Option Addr) (rc sc fc q : Nat) (v : Int) (fs : List Int) (w : World) (h : SwAt w s ro so rc) (hf : ListAt w fo fs) (hfl : fs.length ≤ 12)
    (q2 : w.cell? ⟨q, 2, none⟩ = some (.int .i64 v)) (q4 : w.cell? ⟨q, 4, none⟩ = some (.slice fo fs.length fc)) (ql : q < w.heap.size) :
    Calls Try.prog 53 #[svl s ro so rc sc, .pointer (some ⟨q, 0, none⟩)] w fun e w' => ∃ ao bo ac bc, e = .returned (.tuple #[svl ⟨s.rs, Agt.stamps v fs⟩ ao bo ac bc, .int .i64 0]) ∧ SwAt w' ⟨s.rs, Agt.stamps v fs⟩ ao bo ac ∧ Ext w w' := by
  have HS : Hid _ := h
  have HF : Hid _ := hf
  have hrl : s.rs.length * 24 ≤ 140737488351232 := h.rl
  have HQ : Hid (∀ W, Ext w W → W.cell? ⟨q, 2, none⟩ = some (.int .i64 v) ∧ W.cell? ⟨q, 4, none⟩ = some (.slice fo fs.length fc)) := fun W hW => ⟨(hW.cells.1 _ _ ql).trans q2, (hW.cells.1 _ _ ql).trans q4⟩
  obtain ⟨rs, st⟩ := s
  unfold svl at *
  simp only at hrl HS ⊢
  clear h hf q2 q4 ql
  go_enter Try.func53, Try.ntmps53
  go_wp2_with fail
  obtain ⟨B, hB⟩ : ∃ B, B = w.alloc (.cells #[.slice ro rs.length rc, .slice so st.length sc] 41) := ⟨_, rfl⟩
  obtain ⟨X, hX⟩ : ∃ X, X = B.alloc (.cells #[.slice none 0 0, .slice none 0 0] 41) := ⟨_, rfl⟩
  have hXT : X = Tw w (.slice ro rs.length rc) (.slice so st.length sc) := by rw [hX, hB]; rfl
  have hBw : Ext w B := by rw [hB]; exact (Ext.refl w).alloc _
  have hBX : Ext B X := by rw [hX]; exact (Ext.refl B).alloc _
  have hBs : B.heap.size = w.heap.size + 1 := by rw [hB]; simp
  have HBS : Hid _ := hBs
  have HK : Hid (∀ W, Ext B W → W.cell? ⟨w.heap.size, 0, none⟩ = some (.slice ro rs.length rc) ∧ W.cell? ⟨q, 2, none⟩ = some (.int .i64 v) ∧ W.cell? ⟨q, 4, none⟩ = some (.slice fo fs.length fc)) := fun W hW => ⟨(hW.cells.1 _ _ (by rw [hB]; simp)).trans (by rw [hB]; simp), HQ.out W (hBw.trans hW)⟩
  have HT : Hid (∀ W, Ext X W → TAt W w.heap.size (.slice ro rs.length rc) (.slice so st.length sc)) := fun W hW => TAt.of (by rw [← hXT]; exact hW)
  rw [← hB, ← hX]
  clear hB hX hXT hBs HQ
  have hXd : Ext X X.drew := (Ext.refl X).drew
  have HCL : Hid (∀ W, Ext X W → Calls Try.prog 54 #[.slice ro rs.length rc] W fun e w' => ∃ vo vc, e = .returned (.slice vo rs.length vc) ∧ Hid (SlOk w' vo rs.length vc rs ∧ rs.length ≤ vc ∧ vc ≤ 9223372036854775807) ∧ Ext W w') := fun W hW => by
    refine (cloneR_any ro rc rs W hrl (RsAt.ext HS.out.hr.hat ((hBw.trans hBX).trans hW))).mono ?_
    rintro e w1 ⟨v', rfl, hO, E1⟩
    obtain ⟨vo, vc, rfl, hat, hnil, hle, hmx⟩ := RO.form hO
    exact ⟨vo, vc, rfl, ⟨⟨rfl, hat, fun hn => ⟨by rw [(hnil hn).1]; rfl, (hnil hn).2⟩⟩, hle, by unfold maxLen at hmx; omega⟩, E1⟩
  have HST : Hid (∀ W, Ext X W → Calls Try.prog 55 #[.slice fo fs.length fc, .int .i64 v] W fun e w' => ∃ bo bc, e = .returned (.slice bo (Agt.stamps v fs).length bc) ∧ Hid (StAt w' bo (Agt.stamps v fs)) ∧ Ext W w') := fun W hW => by
    refine (stampsOf_any fo fc fs v W (ListAt.ext HF.out ((hBw.trans hBX).trans hW)) (by omega)).mono ?_
    rintro e w1 ⟨v', rfl, hO, E1⟩
    obtain ⟨bo, bc, rfl, hat⟩ := SO.form hO
    exact ⟨bo, bc, rfl, hat, E1⟩
  have HSL : Hid ((Agt.stamps v fs).length * 16 ≤ 140737488351232) := by show _ ≤ _; rw [stamps_len]; omega
  have HRL : Hid (rs.length * 24 ≤ 140737488351232) := hrl
  clear hrl HF HS
  go_region_held3 (fun W => W.cell? ⟨w.heap.size, 0, none⟩ = some (.slice ro rs.length rc) ∧ W.cell? ⟨q, 2, none⟩ = some (.int .i64 v) ∧ W.cell? ⟨q, 4, none⟩ = some (.slice fo fs.length fc))
    (first | exact HK.out _ (hBX.trans hXd) | exact HK.out _ (hBX.trans mk1c) | exact HK.out _ (hBX.trans mk1s) | exact HK.out _ (hBX.trans mk2) | exact HK.out _ (((hBX.trans mk2).setCell (Nat.le_of_eq HBS.out) _).setCell (Nat.le_of_eq HBS.out) _))
    (first
    | (have _t := mk1c
       go_at_call 55
       refine (HST.out _ mk1c).mono ?_
       rintro e w2 ⟨bo, bc, rfl, H2, E2⟩
       have H1' : Hid _ := And.intro (SlOk.ext H1.out.1 E2) H1.out.2
       have H2' : Hid _ := H2.out
       have mk2 := mk1c.trans E2
       obtain ⟨_, _, r0, r1, g0, g1⟩ := HT.out _ mk2)
    | (have _t := mk1s
       go_at_call 54
       refine (HCL.out _ mk1s).mono ?_
       rintro e w2 ⟨vo, vc, rfl, H1, E2⟩
       have H1' : Hid _ := And.intro H1.out.1 H1.out.2
       have H2' : Hid _ := StAt.ext H2.out E2
       have mk2 := mk1s.trans E2
       obtain ⟨_, _, r0, r1, g0, g1⟩ := HT.out _ mk2)
    | (go_at_call 54
       refine (HCL.out _ hXd).mono ?_
       rintro e w1 ⟨vo, vc, rfl, H1, E1⟩
       have mk1c := hXd.trans E1)
    | (go_at_call 55
       refine (HST.out _ hXd).mono ?_
       rintro e w1 ⟨bo, bc, rfl, H2, E1⟩
       have mk1s := hXd.trans E1))
  all_goals
    go_wp2
    refine bodyPost_ret (v := .tuple #[.agg #[.slice vo rs.length vc, .slice bo (Agt.stamps v fs).length bc], .int .i64 0]) (by simp [results, Try.results53, go_sem, r0, r1]) rfl ?_
    refine ⟨vo, bo, vc, bc, rfl, ?_, (((hBw.trans hBX).trans mk2).setCell (by simp) _).setCell (by simp) _⟩
    exact SwAt_put (s := ⟨rs, Agt.stamps v fs⟩) ⟨H1'.out.1, H2'.out, HRL.out, HSL.out, H1'.out.2⟩ r0 r1 _ _

set_option maxHeartbeats 400000 in
theorem toRules_any (g : Nat) (p : Value) (w : World) :
    Calls Try.prog 48 #[.func (.func g) #[] #[p]] w fun e w' => e = .returned (.func (.func 58) #[] #[.pointer (some ⟨w.heap.size, 0, none⟩)]) ∧ w' = w.alloc (.cells #[.func (.func g) #[] #[p]] 84) := by
  go_enter Try.func48, Try.ntmps48
  go_wp2
  go_ret
  exact ⟨rfl, rfl⟩

/-- An order in a block of its own. -/
def Ob (w : World) (o : Wir.Od) (po fo : Option Addr) (pc fc : Nat) : World := w.alloc (.cells #[.int .i64 o.k, .int .i64 o.n, .int .i64 o.v, .slice po o.rs.length pc, .slice fo o.fs.length fc] 25)
set_option maxHeartbeats 800000 in
theorem changeBy_add (o : Wir.Od) (po fo : Option Addr) (pc fc : Nat) (w : World) (hk : o.k = 1) :
    Calls Try.prog 41 #[ovl o po fo pc fc] w fun e w' => e = .returned (.func (.func 58) #[] #[.pointer (some ⟨w.heap.size + 1, 0, none⟩)]) ∧ w' = (Ob w o po fo pc fc).alloc (.cells #[.func (.func 49) #[] #[.pointer (some ⟨w.heap.size, 0, none⟩)]] 84) := by
  obtain ⟨k, n, v, ps, fs⟩ := o
  have hk' : k = 1 := hk
  subst hk'
  unfold ovl Ob
  clear hk
  go_enter Try.func41, Try.ntmps41
  go_wp2_with fail
  refine (toRules_any _ _ _).mono ?_
  rintro e w1 ⟨rfl, rfl⟩
  go_wp2
  go_ret
  exact ⟨by simp, rfl⟩
set_option maxHeartbeats 800000 in
theorem changeBy_drop (o : Wir.Od) (po fo : Option Addr) (pc fc : Nat) (w : World) (hk : o.k = 3) :
    Calls Try.prog 41 #[ovl o po fo pc fc] w fun e w' => e = .returned (.func (.func 58) #[] #[.pointer (some ⟨w.heap.size + 1, 0, none⟩)]) ∧ w' = (Ob w o po fo pc fc).alloc (.cells #[.func (.func 51) #[] #[.pointer (some ⟨w.heap.size, 0, none⟩)]] 84) := by
  obtain ⟨k, n, v, ps, fs⟩ := o
  have hk' : k = 3 := hk
  subst hk'
  unfold ovl Ob
  clear hk
  go_enter Try.func41, Try.ntmps41
  go_wp2_with fail
  refine (toRules_any _ _ _).mono ?_
  rintro e w1 ⟨rfl, rfl⟩
  go_wp2
  go_ret
  exact ⟨by simp, rfl⟩
set_option maxHeartbeats 800000 in
theorem changeBy_stamp (o : Wir.Od) (po fo : Option Addr) (pc fc : Nat) (w : World) (hk : o.k = 2) :
    Calls Try.prog 41 #[ovl o po fo pc fc] w fun e w' => e = .returned (.func (.func 53) #[] #[.pointer (some ⟨w.heap.size, 0, none⟩)]) ∧ w' = Ob w o po fo pc fc := by
  obtain ⟨k, n, v, ps, fs⟩ := o
  have hk' : k = 2 := hk
  subst hk'
  unfold ovl Ob
  clear hk
  go_enter Try.func41, Try.ntmps41
  go_wp2
  go_ret
  exact ⟨rfl, rfl⟩

end Go.Proofs.Ytmjddnnjjmnddad.Ag
