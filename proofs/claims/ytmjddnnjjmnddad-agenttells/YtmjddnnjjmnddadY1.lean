/- Switches in memory: their stamps; what SameSwitch answers of two that are the same. -/
import Derived.Test.YtmjddnnjjmnddadX2
import Derived.Test.YtmjddnnjjmnddadSr0
namespace Go.Proofs.Ytmjddnnjjmnddad.Ag
open Go.RowKit Go.Deep Tb Rul

abbrev s0 : Int × Int := (0, 0)
/-- Stamps lie where a slice says. -/
def StAt (w : World) (ao : Option Addr) (st : List (Int × Int)) : Prop :=
  st = [] ∨ ∃ g off, ao = some ⟨g, off, none⟩ ∧ g < w.heap.size ∧ ∀ k, k < st.length → w.cell? ⟨g, off + k * 2, none⟩ = some (.int .i64 (st.getD k s0).1) ∧ w.cell? ⟨g, off + k * 2 + 1, none⟩ = some (.int .i64 (st.getD k s0).2)
theorem StAt.ext {w w' : World} {ao : Option Addr} {st : List (Int × Int)} (h : StAt w ao st) (E : Ext w w') : StAt w' ao st := by
  rcases h with h | ⟨g, off, h1, h2, h3⟩
  · exact Or.inl h
  · exact Or.inr ⟨g, off, h1, Nat.lt_of_lt_of_le h2 E.size, fun k hk => ⟨(E.cells.1 _ _ h2).trans (h3 k hk).1, (E.cells.1 _ _ h2).trans (h3 k hk).2⟩⟩
theorem StAt.get {w : World} {ao : Option Addr} {st : List (Int × Int)} (h : StAt w ao st) {k : Nat} (hk : k < st.length) : ∃ g off, ao = some ⟨g, off, none⟩ ∧ g < w.heap.size ∧ ∀ k, k < st.length → w.cell? ⟨g, off + k * 2, none⟩ = some (.int .i64 (st.getD k s0).1) ∧ w.cell? ⟨g, off + k * 2 + 1, none⟩ = some (.int .i64 (st.getD k s0).2) := by
  rcases h with h | h
  · rw [h] at hk; simp at hk
  · exact h
/-- A switch, as a value: where its rules and its stamps lie. -/
def svl (s : Agt.Sw) (ro so : Option Addr) (rc sc : Nat) : Value := .agg #[.slice ro s.rs.length rc, .slice so s.st.length sc]
structure SwAt (w : World) (s : Agt.Sw) (ro so : Option Addr) (rc : Nat) : Prop where
  hr : SlOk w ro s.rs.length rc s.rs
  hs : StAt w so s.st
  rl : s.rs.length * 24 ≤ 140737488351232
  sl : s.st.length * 16 ≤ 140737488351232
  rq : s.rs.length ≤ rc ∧ rc ≤ 9223372036854775807
theorem SwAt.ext {w w' : World} {s : Agt.Sw} {ro so : Option Addr} {rc : Nat} (h : SwAt w s ro so rc) (E : Ext w w') : SwAt w' s ro so rc := ⟨h.hr.ext E, h.hs.ext E, h.rl, h.sl, h.rq⟩

theorem ver_step {st : List (Int × Int)} {f : Int} {k : Nat} (hk : k < st.length) : Agt.ver (st.drop k) f = if (st.getD k s0).1 = f then (st.getD k s0).2 else Agt.ver (st.drop (k + 1)) f := by
  have e : st.getD k s0 = st[k] := by simp [List.getD_eq_getElem?_getD, hk]
  rw [List.drop_eq_getElem_cons hk, Agt.ver, e]

set_option maxRecDepth 100000 in
set_option maxHeartbeats 800000 in
theorem SameSwitch_same (s : Agt.Sw) (ro so ro' so' : Option Addr) (rc sc rc' sc' : Nat) (w : World) (h : SwAt w s ro so rc) (h' : SwAt w s ro' so' rc') :
    Calls Try.prog 24 #[svl s ro so rc sc, svl s ro' so' rc' sc'] w fun e w' => e = .returned (.bool true) ∧ Ext w w' := by
  obtain ⟨rs, st⟩ := s
  unfold svl
  have hsl : st.length * 16 ≤ 140737488351232 := h.sl
  have hrl : rs.length * 24 ≤ 140737488351232 := h.rl
  have HS : Hid (StAt w so st) := h.hs
  have HS' : Hid (StAt w so' st) := h'.hs
  have HR : Hid (RsAt w ro rs) := h.hr.hat
  have HR' : Hid (RsAt w ro' rs) := h'.hr.hat
  clear h h'
  go_enter Try.func24, Try.ntmps24
  go_wp2_with fail
  obtain ⟨B, hB⟩ : ∃ B, B = (w.alloc (.cells #[.slice ro rs.length rc, .slice so st.length sc] 41)).alloc (.cells #[.slice ro' rs.length rc', .slice so' st.length sc'] 41) := ⟨_, rfl⟩
  have hE0 : Ext w B := by rw [hB]; exact ((Ext.refl w).alloc _).alloc _
  have HK : Hid (∀ W, Ext B W → W.cell? ⟨w.heap.size, 1, none⟩ = some (.slice so st.length sc) ∧ W.cell? ⟨w.heap.size + 1, 1, none⟩ = some (.slice so' st.length sc')) := fun W hW => by
    have l0 : w.heap.size < B.heap.size := by rw [hB]; simp; omega
    have l1 : w.heap.size + 1 < B.heap.size := by rw [hB]; simp
    exact ⟨(hW.cells.1 _ _ l0).trans (by rw [hB]; simp), (hW.cells.1 _ _ l1).trans (by rw [hB]; simp)⟩
  rw [← hB]
  clear hB
  refine (SameRules_same ro ro' rs.length rc rc' rs _ rfl (RsAt.ext HR.out hE0) (RsAt.ext HR'.out hE0) (by omega)).mono ?_
  rintro e w1 ⟨rfl, E1⟩
  obtain ⟨q0, q1⟩ := HK.out _ E1
  go_wp2
  go_loopw [24] (fun iv wd => ∃ k : Nat, k ≤ st.length ∧ iv = .int .i64 k ∧ Ext B wd) (fun iv _ => st.length - (intOf iv).toNat)
  case atStart => exact ⟨0, Nat.zero_le _, rfl, E1⟩
  case round =>
    obtain ⟨k, hk, rfl, hE⟩ := hrel
    clear q0 q1
    have hEw := hE0.trans hE
    by_cases hlt : k < st.length
    · obtain ⟨g, off, rfl, hg, hcs⟩ := (StAt.ext HS.out hEw).get hlt
      obtain ⟨g', off', rfl, hg', hcs'⟩ := (StAt.ext HS'.out hEw).get hlt
      obtain ⟨q0, q1⟩ := HK.out _ hE
      have i1 : (k : Int) < (st.length : Int) := by omega
      obtain ⟨c0, c1⟩ := hcs k hlt
      obtain ⟨d0, d1⟩ := hcs' k hlt
      obtain ⟨x, hx⟩ : ∃ x, st.getD k s0 = x := ⟨_, rfl⟩
      rw [hx] at c0 c1 d0 d1
      clear hx hcs hcs'
      go_wp2
      go_region
      go_wp2
      exact ⟨⟨k + 1, by omega, by go_num, hE.drew⟩, by simp [intOf]; omega⟩
    · have i1 : ¬ (k : Int) < (st.length : Int) := by omega
      go_wp2
      go_ret
      exact ⟨rfl, hEw⟩

end Go.Proofs.Ytmjddnnjjmnddad.Ag
