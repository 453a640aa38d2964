/- What the changes do that changeBy tells: rules that are added, rules that are dropped, stamps that are told. -/
import Derived.Test.YtmjddnnjjmnddadZ1
import Derived.Test.YtmjddnnjjmnddadV19
import Derived.Test.YtmjddnnjjmnddadV14
import Derived.Test.YtmjddnnjjmnddadN3
namespace Go.Proofs.Ytmjddnnjjmnddad.Ag
open Go.RowKit Go.Deep Tb Rul Wi

/-- Rules and stamps lie where they lay when a cell that holds a slice is written. -/
theorem RsAt_put {w : World} {ao : Option Addr} {rs : List Ru} (h : RsAt w ao rs) {p : Addr} {x : Option Addr} {n c : Nat} (hp : w.cell? p = some (.slice x n c)) (u : Value) : RsAt (w.setCell p u) ao rs := by
  have key : ∀ q i, w.cell? q = some (.int .i64 i) → (w.setCell p u).cell? q = some (.int .i64 i) := fun q i hq => by
    exact (World.cell?_setCell_other (w := w) (a := p) (b := q) (v := u) (h := fun e => by rw [e, hq] at hp; cases hp)).trans hq
  rcases h with h | ⟨g, off, h1, h2, h3⟩
  · exact Or.inl h
  · exact Or.inr ⟨g, off, h1, by simpa using h2, fun k hk => ⟨key _ _ (h3 k hk).1, key _ _ (h3 k hk).2.1, key _ _ (h3 k hk).2.2⟩⟩
theorem StAt_put {w : World} {ao : Option Addr} {st : List (Int × Int)} (h : StAt w ao st) {p : Addr} {x : Option Addr} {n c : Nat} (hp : w.cell? p = some (.slice x n c)) (u : Value) : StAt (w.setCell p u) ao st := by
  have key : ∀ q i, w.cell? q = some (.int .i64 i) → (w.setCell p u).cell? q = some (.int .i64 i) := fun q i hq => by
    exact (World.cell?_setCell_other (w := w) (a := p) (b := q) (v := u) (h := fun e => by rw [e, hq] at hp; cases hp)).trans hq
  rcases h with h | ⟨g, off, h1, h2, h3⟩
  · exact Or.inl h
  · exact Or.inr ⟨g, off, h1, by simpa using h2, fun k hk => ⟨key _ _ (h3 k hk).1, key _ _ (h3 k hk).2⟩⟩
/-- A switch is written into two cells that held nothing: it stays where it is. -/
theorem SwAt_put {w : World} {s : Agt.Sw} {ro so : Option Addr} {rc : Nat} {b : Nat} (h : SwAt w s ro so rc) (r0 : w.cell? ⟨b, 0, none⟩ = some (.slice none 0 0)) (r1 : w.cell? ⟨b, 1, none⟩ = some (.slice none 0 0)) (u v : Value) :
    SwAt ((w.setCell ⟨b, 0, none⟩ u).setCell ⟨b, 1, none⟩ v) s ro so rc := by
  have r1' : (w.setCell ⟨b, 0, none⟩ u).cell? ⟨b, 1, none⟩ = some (.slice none 0 0) := by simp [go_sem, r1]
  exact ⟨⟨h.hr.hlen, RsAt_put (RsAt_put h.hr.hat r0 u) r1' v, h.hr.hnil⟩, StAt_put (StAt_put h.hs r0 u) r1' v, h.rl, h.sl, h.rq⟩
theorem SwAt_none (w : World) : SwAt w Agt.sw0 none none 0 := ⟨⟨rfl, Or.inl rfl, fun _ => ⟨rfl, rfl⟩⟩, Or.inl rfl, by simp [Agt.sw0], by simp [Agt.sw0], by simp [Agt.sw0], by omega⟩

/-- The world in which a change begins: the switch, and the answer. -/
def Tw (w : World) (rv sv : Value) : World := (w.alloc (.cells #[rv, sv] 41)).alloc (.cells #[.slice none 0 0, .slice none 0 0] 41)
theorem Tw_ext (w : World) (rv sv : Value) : Ext w (Tw w rv sv) := ((Ext.refl w).alloc _).alloc _
structure TAt (W : World) (b : Nat) (rv sv : Value) : Prop where
  s0 : W.cell? ⟨b, 0, none⟩ = some rv
  s1 : W.cell? ⟨b, 1, none⟩ = some sv
  r0 : W.cell? ⟨b + 1, 0, none⟩ = some (.slice none 0 0)
  r1 : W.cell? ⟨b + 1, 1, none⟩ = some (.slice none 0 0)
  g0 : W.frozen? ⟨b + 1, 0, none⟩ = false
  g1 : W.frozen? ⟨b + 1, 1, none⟩ = false
theorem TAt.of {w W : World} {rv sv : Value} (E : Ext (Tw w rv sv) W) : TAt W w.heap.size rv sv := by
  have l0 : w.heap.size < (Tw w rv sv).heap.size := by unfold Tw; simp; omega
  have l1 : w.heap.size + 1 < (Tw w rv sv).heap.size := by unfold Tw; simp
  obtain ⟨hc, hf⟩ := E.cells
  constructor
  · rw [hc _ _ l0]; unfold Tw; first | (simp; done) | (simp [go_sem]; done)
  · rw [hc _ _ l0]; unfold Tw; first | (simp; done) | (simp [go_sem]; done)
  · rw [hc _ _ l1]; unfold Tw; first | (simp; done) | (simp [go_sem]; done)
  · rw [hc _ _ l1]; unfold Tw; first | (simp; done) | (simp [go_sem]; done)
  · rw [hf _ _ l1]; unfold Tw; first | (simp; done) | (simp [go_sem]; done)
  · rw [hf _ _ l1]; unfold Tw; first | (simp; done) | (simp [go_sem]; done)

set_option maxHeartbeats 800000 in
theorem cloAdd_any (ro po : Option Addr) (rc pc q : Nat) (rs ps : List Ru) (w : World) (ha : SlOk w ro rs.length rc rs) (hb : SlOk w po ps.length pc ps) (hla : rs.length ≤ 9223372036854775807) (hlb : ps.length * 24 ≤ 140737488351232) (q3 : w.cell? ⟨q, 3, none⟩ = some (.slice po ps.length pc)) :
    Calls Try.prog 49 #[.slice ro rs.length rc, .pointer (some ⟨q, 0, none⟩)] w fun e w' => ∃ vo vc, e = .returned (.tuple #[.slice vo (add rs ps).1.length vc, .int .i64 (add rs ps).2]) ∧ SlOk w' vo (add rs ps).1.length vc (add rs ps).1 ∧ ((add rs ps).1.length ≤ vc ∧ vc ≤ 9223372036854775807) ∧ Ext w w' := by
  have HA : Hid _ := Add_cap ro po rs.length rc ps.length pc rs ps w ha hb hla hlb
  clear ha hb hla hlb
  go_enter Try.func49, Try.ntmps49
  go_wp2_with fail
  refine Calls.mono HA.out ?_
  rintro e w1 ⟨vo, vc, rfl, h2, h3, h4⟩
  have H : Hid _ := And.intro h2 (And.intro h3 h4)
  clear h2 h3 h4 HA
  go_wp2
  go_ret2
  exact ⟨vo, vc, rfl, H.out.1, H.out.2.1, H.out.2.2⟩

set_option maxHeartbeats 800000 in
theorem cloDrop_any (ro : Option Addr) (rc q : Nat) (rs : List Ru) (v : Int) (w : World) (ha : RsAt w ro rs) (hla : rs.length * 24 ≤ 140737488351232) (q2 : w.cell? ⟨q, 2, none⟩ = some (.int .i64 v)) :
    Calls Try.prog 51 #[.slice ro rs.length rc, .pointer (some ⟨q, 0, none⟩)] w fun e w' => ∃ vo vc, e = .returned (.tuple #[.slice vo (drp rs v).length vc, .int .i64 0]) ∧ SlOk w' vo (drp rs v).length vc (drp rs v) ∧ ((drp rs v).length ≤ vc ∧ vc ≤ 9223372036854775807) ∧ Ext w w' := by
  have HA : Hid _ := Drop_any ro rs.length rc rs v w rfl ha hla
  clear ha hla
  go_enter Try.func51, Try.ntmps51
  go_wp2_with fail
  refine Calls.mono HA.out ?_
  rintro e w1 ⟨v', rfl, hO, E1⟩
  obtain ⟨vo, vc, rfl, hat, hnil, hle, hmx⟩ := RO.form hO
  have H : Hid (SlOk w1 vo (drp rs v).length vc (drp rs v) ∧ ((drp rs v).length ≤ vc ∧ vc ≤ 9223372036854775807) ∧ Ext w w1) := ⟨⟨rfl, hat, fun hn => ⟨by rw [(hnil hn).1]; rfl, (hnil hn).2⟩⟩, ⟨hle, by unfold maxLen at hmx; omega⟩, E1⟩
  clear hO hat hnil hle hmx E1 HA
  go_wp2
  go_ret2
  exact ⟨vo, vc, rfl, H.out.1, H.out.2.1, H.out.2.2⟩

/-- What a change of rules answers: none where there was a fault, else the rules, beside the stamps that were there. -/
def chg (al : List Ru) (ae : Int) (st : List (Int × Int)) : Agt.Sw × Int := if ae ≠ 0 then (Agt.sw0, ae) else (⟨al, st⟩, 0)

set_option maxRecDepth 100000 in
set_option maxHeartbeats 1600000 in
/-- A change of rules, whatever turns them: the function value that it holds is asked once. -/
theorem turn_any (f : Nat) (s : Agt.Sw) (ro so : Option Addr) (rc sc p q : Nat) (al : List Ru) (ae : Int) (w : World) (h : SwAt w s ro so rc) (hf : f = 49 ∨ f = 51) (hal : ae = 0 → al.length * 24 ≤ 140737488351232)
    (p0 : w.cell? ⟨p, 0, none⟩ = some (.func (.func f) #[] #[.pointer (some ⟨q, 0, none⟩)])) (pl : p < w.heap.size)
    (hc : ∀ W, Ext w W → Calls Try.prog f #[.slice ro s.rs.length rc, .pointer (some ⟨q, 0, none⟩)] W fun e w' => ∃ vo vc, e = .returned (.tuple #[.slice vo al.length vc, .int .i64 ae]) ∧ SlOk w' vo al.length vc al ∧ (al.length ≤ vc ∧ vc ≤ 9223372036854775807) ∧ Ext W w') :
    Calls Try.prog 58 #[svl s ro so rc sc, .pointer (some ⟨p, 0, none⟩)] w fun e w' => ∃ ao bo ac bc, e = .returned (.tuple #[svl (chg al ae s.st).1 ao bo ac bc, .int .i64 (chg al ae s.st).2]) ∧ SwAt w' (chg al ae s.st).1 ao bo ac ∧ Ext w w' := by
  have HC : Hid _ := hc
  have HS : Hid _ := h
  have HAL : Hid _ := hal
  have hsl : s.st.length * 16 ≤ 140737488351232 := h.sl
  obtain ⟨rs, st⟩ := s
  unfold svl at *
  simp only at hsl HC HS HAL ⊢
  have hp2 : ((w.alloc (.cells #[.slice ro rs.length rc, .slice so st.length sc] 41)).alloc (.cells #[.slice none 0 0, .slice none 0 0] 41)).cell? ⟨p, 0, none⟩ = some (.func (.func f) #[] #[.pointer (some ⟨q, 0, none⟩)]) := ((Tw_ext w (.slice ro rs.length rc) (.slice so st.length sc)).cells.1 _ _ pl).trans p0
  clear h hc hal
  rcases hf with rfl | rfl
  all_goals
    go_enter Try.func58, Try.ntmps58
    go_wp2_with fail
    refine Calls.mono (HC.out _ (Tw_ext w _ _)) ?_
    rintro e w1 ⟨vo, vc, rfl, h2, h3, E1⟩
    have E1' : Ext (Tw w (.slice ro rs.length rc) (.slice so st.length sc)) w1 := E1
    have H2 : Hid _ := h2
    have H3 : Hid _ := h3
    clear h2 h3 E1 hp2 p0 pl
    have hEw := (Tw_ext w (.slice ro rs.length rc) (.slice so st.length sc)).trans E1'
    obtain ⟨s0, s1, r0, r1, g0, g1⟩ := TAt.of E1'
    by_cases hz : ae = 0
    · subst hz
      have HL24 : Hid (al.length * 24 ≤ 140737488351232) := HAL.out rfl
      have HG : Hid (chg al 0 st = (⟨al, st⟩, 0)) := if_neg (by simp)
      go_wp2_with fail
      refine (cloneS_any so sc st _ hsl (StAt.ext HS.out.hs hEw)).mono ?_
      rintro e w2 ⟨v', rfl, hO, E2⟩
      obtain ⟨bo, bc, rfl, hat⟩ := SO.form hO
      have HO : Hid _ := hat
      clear hO hat s0 s1 r0 r1 g0 g1
      obtain ⟨s0, s1, r0, r1, g0, g1⟩ := TAt.of (E1'.trans E2)
      go_wp2
      refine bodyPost_ret (v := .tuple #[.agg #[.slice vo al.length vc, .slice bo st.length bc], .int .i64 0]) (by simp [results, Try.results58, go_sem, r0, r1]) rfl ?_
      refine ⟨vo, bo, vc, bc, ?_, ?_, ((hEw.trans E2).setCell (by simp) _).setCell (by simp) _⟩
      · rw [HG.out]
      · rw [HG.out]
        refine SwAt_put (s := ⟨al, st⟩) ⟨H2.out.ext E2, HO.out, HL24.out, hsl, H3.out⟩ r0 r1 _ _
    · have HG : Hid (chg al ae st = (Agt.sw0, ae)) := if_pos hz
      have b0 : (ae != 0) = true := by simpa using hz
      clear hz
      go_wp2
      refine bodyPost_ret (v := .tuple #[.agg #[.slice none 0 0, .slice none 0 0], .int .i64 ae]) (by simp [results, Try.results58, go_sem, r0, r1]) rfl ?_
      refine ⟨none, none, 0, 0, ?_, ?_, (hEw.setCell (by simp) _).setCell (by simp) _⟩
      · rw [HG.out]; rfl
      · rw [HG.out]; exact SwAt_none _

end Go.Proofs.Ytmjddnnjjmnddad.Ag
