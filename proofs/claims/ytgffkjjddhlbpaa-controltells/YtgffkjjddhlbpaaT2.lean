/- What copyOf answers: the same flow, in lists of its own; nothing that was there is changed. -/
import Derived.Test.YtgffkjjddhlbpaaP2
import Derived.Test.YtgffkjjddhlbpaaH10
namespace Go.Proofs.Ytgffkjjddhlbpaa
open Go.RowKit Go.Maps Stw Go.Deep

set_option maxHeartbeats 1000000 in
theorem cloneInts_nil (n c : Nat) (w : World) :
    Calls Try.prog 50 #[.slice none n c] w fun e w' => e = .returned (.slice none 0 0) ∧ w' = w := by
  have hq : ∀ (w : World) (a : Option Addr) (n c : Nat), (binOp .eql 26 (.slice a n c) (.slice none 0 0)).run Try.prog w = .ok (.bool a.isNone) w := fun w a n c => Lib.run_eql_slice_nil w _ _ a n c 0 0 Try.underlying26
  go_enter Try.func50, Try.ntmps50
  go_wp2
  go_ret
  exact ⟨rfl, rfl⟩

set_option maxHeartbeats 1000000 in
theorem cloneInts_some (ad : Addr) (n c : Nat) (ps : List Int) (w : World) (hn : ps.length = n) (hb : n * 8 ≤ 140737488351232) (hp : ∀ j u, (ps.map (Value.int .i64))[j]? = some u → (w.alloc (.cells #[] 3)).cell? (ad.add j) = some u) :
    Calls Try.prog 50 #[.slice (some ad) n c] w fun e w' => ∃ v', e = .returned v' ∧ w'.ownsRow w.heap.size 3 1 v' n (ps.map (Value.int .i64)) ∧ Ext w w' := by
  obtain ⟨i0, hi, hz0, hz1, hz2⟩ := info_parts infoI
  have hq : ∀ (w : World) (a : Option Addr) (n c : Nat), (binOp .eql 26 (.slice a n c) (.slice none 0 0)).run Try.prog w = .ok (.bool a.isNone) w := fun w a n c => Lib.run_eql_slice_nil w _ _ a n c 0 0 Try.underlying26
  have A := hidp hp
  clear hp
  go_enter Try.func50, Try.ntmps50
  go_wp2_with (at_builtin; refine wpList_append_own _ rfl _ _ 26 rfl w.heap.size 3 i0 (.int .i64 0) 1 8 Try.underlying26 hi hz0 hz1 hz2 rfl (by decide) _ _ _ rfl (World.ownsRow_made w #[] 0 (Nat.le_refl _) (Nat.zero_le _) rfl) ad n c (ps.map (Value.int .i64)) rfl ?qc1 ?qc2 ?qc3 ?qc4 ?qc5 ?qc6 ?_)
  case qc1 => simp; omega
  case qc2 => exact A.out
  case qc3 => intro u hu; obtain ⟨x, _, rfl⟩ := List.mem_map.1 hu; rfl
  case qc4 => unfold maxLen; omega
  case qc5 => omega
  case qc6 => simp
  intro v' w1 hown hgrow hnil
  go_wp2
  go_ret
  refine ⟨v', rfl, by simpa using hown, ?_⟩
  exact ((Below.refl _ w).alloc (Nat.le_refl _) _).grown hgrow (by simp) (by intro k hk; simp [Value.ownBlock] at hk; omega)

/-- A list of numbers in a block from B on. -/
def FN (B : Nat) (w : World) (ps : List Int) (v : Value) : Prop := ∃ o c, v = .slice o ps.length c ∧ (ps = [] ∨ ∃ b off, o = some ⟨b, off, none⟩ ∧ B ≤ b ∧ b < w.heap.size ∧ IntsAt w b off ps) ∧ ps.length ≤ c
theorem FN.fv {B : Nat} {w : World} {ps : List Int} {v : Value} (h : FN B w ps v) : Fw.FV w ps v := by
  obtain ⟨o, c, h1, h2, h3⟩ := h
  exact ⟨o, c, h1, h2.imp id (fun ⟨b, off, k1, _, k3, k4⟩ => ⟨b, off, k1, k3, k4⟩), h3⟩
theorem FN.of_blocks {B B' : Nat} {w w' : World} {ps : List Int} {v : Value} (h : FN B w ps v) (hB : B' ≤ B) (hs : w.heap.size ≤ w'.heap.size) (hk : ∀ b, B ≤ b → b < w.heap.size → w'.heap[b]? = w.heap[b]?) : FN B' w' ps v := by
  obtain ⟨o, c, h1, h2, h3⟩ := h
  refine ⟨o, c, h1, h2.imp id (fun ⟨b, off, k1, k2, k3, k4⟩ => ⟨b, off, k1, by omega, by omega, fun i hi => (World.cell?_of_block (a := ⟨b, off + i, none⟩) (hk b k2 k3)).trans (k4 i hi)⟩), h3⟩
theorem FN.ext {B : Nat} {w w' : World} {ps : List Int} {v : Value} (h : FN B w ps v) (k : Ext w w') : FN B w' ps v := h.of_blocks (Nat.le_refl _) k.size (fun b _ hb => Below.block k b hb)
theorem FN.setCell {B : Nat} {w : World} {ps : List Int} {v : Value} (h : FN B w ps v) {a : Addr} (ha : a.block < B) (u : Value) : FN B (w.setCell a u) ps v := h.of_blocks (Nat.le_refl _) (by simp) (fun b hb _ => blk_setCell_other _ _ _ _ (by omega))
theorem fn_own {w : World} {base : Nat} {v : Value} {ps : List Int} (h : w.ownsRow base 3 1 v ps.length (ps.map (Value.int .i64))) : FN base w ps v := by
  rcases h.2 with ⟨h1, h2⟩ | ⟨g, c, cur, hv, _, _, h3, _⟩
  · exact ⟨none, 0, by rw [h1, h2], Or.inl (List.eq_nil_of_length_eq_zero h2), by omega⟩
  · subst hv
    refine ⟨some ⟨g, 0, none⟩, c, rfl, Or.inr ⟨g, 0, rfl, (h.lt g rfl).1, (h.lt g rfl).2, fun i hi => ?_⟩, h3⟩
    rw [Nat.zero_add, h.cellAt i (by omega), List.getElem?_map, List.getElem?_eq_getElem hi]
    simp [List.getD_eq_getElem?_getD, hi]

/-- A list's copy: the same numbers. -/
theorem cloneInts_any (o : Option Addr) (c : Nat) (ps : List Int) (w : World) (hb : ps.length * 8 ≤ 140737488351232) (hp : ListAt w o ps) :
    Calls Try.prog 50 #[.slice o ps.length c] w fun e w' => ∃ v', e = .returned v' ∧ FN w.heap.size w' ps v' ∧ Ext w w' := by
  cases o with
  | none =>
    have he : ps = [] := by
      rcases hp with h | ⟨b, off, h, _⟩
      · exact h
      · cases h
    refine (cloneInts_nil ps.length c w).mono ?_
    rintro e w' ⟨rfl, rfl⟩
    exact ⟨_, rfl, ⟨none, 0, by rw [he]; rfl, Or.inl he, by rw [he]; exact Nat.le_refl _⟩, Ext.refl _⟩
  | some ad =>
    refine (cloneInts_some ad ps.length c ps w rfl hb (fun j u hj => ?_)).mono ?_
    · have hjn : j < ps.length := by have := (List.getElem?_eq_some_iff.1 hj).1; simpa using this
      rcases hp with rfl | ⟨b, off, h, hlt, hat⟩
      · simp at hjn
      · cases h
        rw [Addr.add_mid, World.cell?_alloc_past _ _ _ hlt, hat j hjn]
        rw [List.getElem?_map, List.getElem?_eq_getElem hjn] at hj
        simp at hj
        rw [← hj]
        simp [List.getD_eq_getElem?_getD, hjn]
    · rintro e w' ⟨v', rfl, hown, hE⟩
      exact ⟨v', rfl, fn_own hown, hE⟩

set_option maxHeartbeats 1000000 in
theorem copyOf_any (f : Stf.Fl) (vo no : Option Addr) (vc nc : Nat) (w : World) (hv : ListAt w vo f.via) (hvl : f.via.length ≤ 16777216) (hn : ListAt w no f.nt) (hnl : f.nt.length ≤ 16777216) :
    Calls Try.prog 47 #[.agg #[.int .i64 f.fr, .int .i64 f.to, .slice vo f.via.length vc, .slice no f.nt.length nc]] w fun e w' => ∃ v' n', e = .returned (.agg #[.int .i64 f.fr, .int .i64 f.to, v', n']) ∧ FN w.heap.size w' f.via v' ∧ FN w.heap.size w' f.nt n' ∧ Ext w w' := by
  obtain ⟨fr, to, via, nt⟩ := f
  simp only at hv hvl hn hnl ⊢
  go_enter Try.func47, Try.ntmps47
  go_wp2_with fail
  refine (cloneInts_any vo vc via _ (by omega) (hv.ext (((Ext.refl w).alloc _).alloc _))).mono ?_
  rintro e w1 ⟨v', rfl, hv', E1⟩
  have hw1 : Ext w w1 := (((Ext.refl w).alloc _).alloc _).trans E1
  have hs1 : w.heap.size + 1 < w1.heap.size := by have := E1.size; simp at this; omega
  have hs0 : w.heap.size < w1.heap.size := by omega
  have q1 := E1.cells.1
  have g1 := E1.cells.2
  have b0 : w1.cell? ⟨w.heap.size, 0, none⟩ = some (.int .i64 fr) := (q1 _ _ (by simp; omega)).trans (by simp)
  have b1 : w1.cell? ⟨w.heap.size, 1, none⟩ = some (.int .i64 to) := (q1 _ _ (by simp; omega)).trans (by simp)
  have b2 : w1.cell? ⟨w.heap.size, 2, none⟩ = some (.slice vo via.length vc) := (q1 _ _ (by simp; omega)).trans (by simp)
  have b3 : w1.cell? ⟨w.heap.size, 3, none⟩ = some (.slice no nt.length nc) := (q1 _ _ (by simp; omega)).trans (by simp)
  have z0 : w1.cell? ⟨w.heap.size + 1, 0, none⟩ = some (.int .i64 0) := (q1 _ _ (by simp)).trans (by simp)
  have z1 : w1.cell? ⟨w.heap.size + 1, 1, none⟩ = some (.int .i64 0) := (q1 _ _ (by simp)).trans (by simp)
  have z2 : w1.cell? ⟨w.heap.size + 1, 2, none⟩ = some (.slice none 0 0) := (q1 _ _ (by simp)).trans (by simp)
  have z3 : w1.cell? ⟨w.heap.size + 1, 3, none⟩ = some (.slice none 0 0) := (q1 _ _ (by simp)).trans (by simp)
  have y0 : ∀ i, w1.frozen? ⟨w.heap.size, i, none⟩ = false := fun i => (g1 _ _ (by simp; omega)).trans (by simp)
  have y1 : ∀ i, w1.frozen? ⟨w.heap.size + 1, i, none⟩ = false := fun i => (g1 _ _ (by simp)).trans (by simp)
  have hB1 : w.heap.size + 1 + 1 ≤ ((w.alloc (.cells #[.int .i64 fr, .int .i64 to, .slice vo via.length vc, .slice no nt.length nc] 91)).alloc (.cells #[.int .i64 0, .int .i64 0, .slice none 0 0, .slice none 0 0] 91)).heap.size := by simp
  have hv2 : FN (w.heap.size + 1 + 1) w1 via v' := hv'.of_blocks hB1 (Nat.le_refl _) (fun _ _ _ => rfl)
  clear q1 g1 hB1 hv'
  obtain ⟨vo', vc', rfl, hv3⟩ := hv2
  have hv4 : FN (w.heap.size + 1 + 1) w1 via (.slice vo' via.length vc') := ⟨vo', vc', rfl, hv3⟩
  clear hv3
  go_wp2_with fail
  refine (cloneInts_any no nc nt _ (by omega) (hn.ext (hw1.setCell (Nat.le_refl _) _))).mono ?_
  rintro e w2 ⟨n', rfl, hn', E2⟩
  have hw2 : Ext w w2 := (hw1.setCell (Nat.le_refl _) _).trans E2
  have hs2 : w.heap.size + 1 < w2.heap.size := by have := E2.size; simp at this; omega
  have hs02 : w.heap.size < w2.heap.size := by omega
  have q2 := E2.cells.1
  have g2 := E2.cells.2
  have k0 : w.heap.size < (w1.setCell ⟨w.heap.size, 2, none⟩ (.slice vo' via.length vc')).heap.size := by simpa using hs0
  have k1 : w.heap.size + 1 < (w1.setCell ⟨w.heap.size, 2, none⟩ (.slice vo' via.length vc')).heap.size := by simpa using hs1
  have c0 : w2.cell? ⟨w.heap.size, 0, none⟩ = some (.int .i64 fr) := (q2 _ _ k0).trans ((World.cell?_setCell_other _ _ _ _ (by simp)).trans b0)
  have c1 : w2.cell? ⟨w.heap.size, 1, none⟩ = some (.int .i64 to) := (q2 _ _ k0).trans ((World.cell?_setCell_other _ _ _ _ (by simp)).trans b1)
  have c2 : w2.cell? ⟨w.heap.size, 2, none⟩ = some (.slice vo' via.length vc') := (q2 _ _ k0).trans (World.cell?_setCell_same _ _ _ b2)
  have c3 : w2.cell? ⟨w.heap.size, 3, none⟩ = some (.slice no nt.length nc) := (q2 _ _ k0).trans ((World.cell?_setCell_other _ _ _ _ (by simp)).trans b3)
  have x0 : w2.cell? ⟨w.heap.size + 1, 0, none⟩ = some (.int .i64 0) := (q2 _ _ k1).trans ((World.cell?_setCell_other _ _ _ _ (by simp)).trans z0)
  have x1 : w2.cell? ⟨w.heap.size + 1, 1, none⟩ = some (.int .i64 0) := (q2 _ _ k1).trans ((World.cell?_setCell_other _ _ _ _ (by simp)).trans z1)
  have x2 : w2.cell? ⟨w.heap.size + 1, 2, none⟩ = some (.slice none 0 0) := (q2 _ _ k1).trans ((World.cell?_setCell_other _ _ _ _ (by simp)).trans z2)
  have x3 : w2.cell? ⟨w.heap.size + 1, 3, none⟩ = some (.slice none 0 0) := (q2 _ _ k1).trans ((World.cell?_setCell_other _ _ _ _ (by simp)).trans z3)
  have t0 : ∀ i, w2.frozen? ⟨w.heap.size, i, none⟩ = false := fun i => (g2 _ _ k0).trans (by simpa using y0 i)
  have t1 : ∀ i, w2.frozen? ⟨w.heap.size + 1, i, none⟩ = false := fun i => (g2 _ _ k1).trans (by simpa using y1 i)
  have hv5 : FN (w.heap.size + 1 + 1) w2 via (.slice vo' via.length vc') := (hv4.setCell (a := ⟨w.heap.size, 2, none⟩) (by simp; omega) _).ext E2
  have hn2 : FN (w.heap.size + 1 + 1) w2 nt n' := hn'.of_blocks (by have := hs1; simp; omega) (Nat.le_refl _) (fun _ _ _ => rfl)
  clear q2 g2 b0 b1 b2 b3 z0 z1 z2 z3 y0 y1 hn' hv4 k0 k1
  obtain ⟨no', nc', rfl, hn3⟩ := hn2
  have hn4 : FN (w.heap.size + 1 + 1) w2 nt (.slice no' nt.length nc') := ⟨no', nc', rfl, hn3⟩
  clear hn3
  go_wp2
  refine bodyPost_ret (v := .agg #[.int .i64 fr, .int .i64 to, .slice vo' via.length vc', .slice no' nt.length nc']) (by simp [results, Try.results47, go_sem, x0, x1, x2, x3]) rfl ⟨_, _, rfl, ?_, ?_, ?_⟩
  · exact (((((hv5.setCell (by simp; omega) _).setCell (by simp) _).setCell (by simp) _).setCell (by simp) _).setCell (by simp) _).of_blocks (by omega) (Nat.le_refl _) (fun _ _ _ => rfl)
  · exact (((((hn4.setCell (by simp; omega) _).setCell (by simp) _).setCell (by simp) _).setCell (by simp) _).setCell (by simp) _).of_blocks (by omega) (Nat.le_refl _) (fun _ _ _ => rfl)
  · exact ((((hw2.setCell (by simp) _).setCell (by simp) _).setCell (by simp) _).setCell (by simp) _).setCell (by simp) _

end Go.Proofs.Ytgffkjjddhlbpaa
