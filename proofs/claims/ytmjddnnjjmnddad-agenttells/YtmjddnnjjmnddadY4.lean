/- What the document's Does answers where it drops, and where it adds. -/
import Derived.Test.YtmjddnnjjmnddadY3r
import Derived.Test.YtmjddnnjjmnddadV14r
import Derived.Test.YtmjddnnjjmnddadV28
namespace Go.Proofs.Ytmjddnnjjmnddad.Ag
open Go.RowKit Go.Deep Tb Rul Wi

/-- Rules lie where they lay when a cell that holds a slice is written. -/
theorem RsAt_set {w : World} {ao : Option Addr} {rs : List Ru} (h : RsAt w ao rs) {p : Addr} {x : Option Addr} {n c : Nat} (hp : w.cell? p = some (.slice x n c)) (u : Value) : RsAt (w.setCell p u) ao rs := by
  have key : ∀ q i, w.cell? q = some (.int .i64 i) → (w.setCell p u).cell? q = some (.int .i64 i) := fun q i hq => by
    exact (World.cell?_setCell_other (w := w) (a := p) (b := q) (v := u) (h := fun e => by rw [e, hq] at hp; cases hp)).trans hq
  rcases h with h | ⟨g, off, h1, h2, h3⟩
  · exact Or.inl h
  · exact Or.inr ⟨g, off, h1, by simpa using h2, fun k hk => ⟨key _ _ (h3 k hk).1, key _ _ (h3 k hk).2.1, key _ _ (h3 k hk).2.2⟩⟩
theorem drp_len (rs : List Ru) (v : Int) : (drp rs v).length ≤ rs.length := List.length_filter_le _ _

set_option maxRecDepth 100000 in
set_option maxHeartbeats 1600000 in
theorem refDoes_drop (s : Agt.Sw) (o : Wir.Od) (ro so po fo : Option Addr) (rc sc pc fc : Nat) (w : World) (h : SwAt w s ro so rc) (ho : OAt w o po fo) (hz : Agt.wrongS s = 0) (hy : Wir.wrong o = 0) (hk : o.k = 3) :
    Calls Try.prog 23 #[svl s ro so rc sc, ovl o po fo pc fc] w fun e w' => ∃ do_ dc, e = .returned (.tuple #[svl ⟨drp s.rs o.v, s.st⟩ do_ so dc sc, .int .i64 0]) ∧ SwAt w' ⟨drp s.rs o.v, s.st⟩ do_ so dc ∧ Ext w w' := by
  have HC : Hid (∀ W, Ext w W → Calls Try.prog 19 #[svl s ro so rc sc] W fun e w' => e = .returned (.int .i64 0) ∧ Ext W w') := fun W hW => by have := refWrongSwitch_any s ro so rc sc W (h.ext hW); rwa [hz] at this
  have HO : Hid (∀ W, Ext w W → Calls Try.prog 10 #[ovl o po fo pc fc] W fun e w' => e = .returned (.int .i64 0) ∧ Ext W w') := fun W hW => by have := refWrong_any o po fo pc fc W (ho.ext hW); rwa [hy] at this
  have HS : Hid _ := h
  clear h ho hz hy
  obtain ⟨rs, st⟩ := s
  obtain ⟨k, n, v, ps, fs⟩ := o
  have hk' : k = 3 := hk
  subst hk'
  unfold svl ovl at *
  clear hk
  go_enter Try.func23, Try.ntmps23
  go_wp2_with fail
  refine (HC.out _ (Dw_ext w _ _ 3 n v (.slice po ps.length pc) (.slice fo fs.length fc))).mono ?_
  rintro e w1 ⟨rfl, E1⟩
  obtain ⟨s0, s1, o0, o1, o2, o3, o4, r0, r1, f0, f1, g0, g1⟩ := DAt.of E1
  go_wp2_with fail
  have hE1 := (Dw_ext w _ _ 3 n v (.slice po ps.length pc) (.slice fo fs.length fc)).trans E1
  refine (HO.out _ hE1).mono ?_
  rintro e w2 ⟨rfl, E2⟩
  clear s0 s1 o0 o1 o2 o3 o4 r0 r1 f0 f1 g0 g1
  obtain ⟨s0, s1, o0, o1, o2, o3, o4, r0, r1, f0, f1, g0, g1⟩ := DAt.of (E1.trans E2)
  have hE2 := hE1.trans E2
  go_wp2_with fail
  have hrl : rs.length * 24 ≤ 140737488351232 := HS.out.rl
  refine (refDrop_any ro rs.length rc rs v _ rfl (RsAt.ext HS.out.hr.hat hE2) hrl).mono ?_
  rintro e w3 ⟨v', rfl, hO, E3⟩
  obtain ⟨vo, vc, rfl, hat, hnil, hle, hmx⟩ := RO.form hO
  have hdl := drp_len rs v
  have HD : Hid _ := hdl
  clear hO hdl
  clear s0 s1 o0 o1 o2 o3 o4 r0 r1 f0 f1 g0 g1
  obtain ⟨s0, s1, o0, o1, o2, o3, o4, r0, r1, f0, f1, g0, g1⟩ := DAt.of ((E1.trans E2).trans E3)
  have hE3 := hE2.trans E3
  go_wp2
  refine bodyPost_ret (v := .tuple #[.agg #[.slice vo (drp rs v).length vc, .slice so st.length sc], .int .i64 0]) (by simp [results, Try.results23, go_sem, r0, r1]) rfl ?_
  have hEF := ((hE3.setCell (p := ⟨w.heap.size, 0, none⟩) (Nat.le_refl _) (.slice vo (drp rs v).length vc)).setCell (p := ⟨w.heap.size + 1 + 1, 0, none⟩) (by simp; omega) (.slice vo (drp rs v).length vc)).setCell (p := ⟨w.heap.size + 1 + 1, 1, none⟩) (by simp; omega) (.slice so st.length sc)
  have hat2 := RsAt_set (RsAt_set (RsAt_set hat s0 (.slice vo (drp rs v).length vc)) (p := ⟨w.heap.size + 1 + 1, 0, none⟩) (x := none) (n := 0) (c := 0) (by simp [go_sem, r0]) (.slice vo (drp rs v).length vc)) (p := ⟨w.heap.size + 1 + 1, 1, none⟩) (x := none) (n := 0) (c := 0) (by simp [go_sem, r1]) (.slice so st.length sc)
  refine ⟨vo, vc, ?_, ?_, hEF⟩
  · show _ = Ending.returned (.tuple #[.agg #[.slice vo (drp rs v).length vc, .slice so st.length sc], .int .i64 0])
    rfl
  · show SwAt _ ⟨drp rs v, st⟩ vo so vc
    have hdl : (drp rs v).length ≤ rs.length := HD.out
    exact ⟨⟨rfl, hat2, fun hn => ⟨by rw [(hnil hn).1]; rfl, (hnil hn).2⟩⟩, HS.out.hs.ext hEF, by simp only; omega, HS.out.sl, hle, by unfold maxLen at hmx; omega⟩

end Go.Proofs.Ytmjddnnjjmnddad.Ag
