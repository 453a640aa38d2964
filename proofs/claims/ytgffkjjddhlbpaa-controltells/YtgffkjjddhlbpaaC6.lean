/- The steps of a change: rules that are added, rules that are dropped. -/
import Derived.Test.YtgffkjjddhlbpaaC4
import Derived.Deep.RegionLaw
import Derived.Deep.RegionHeld3
import Derived.Deep.DeepCutAuto
import Derived.Test.YtgffkjjddhlbpaaV21
namespace Go.Proofs.Ytgffkjjddhlbpaa.Ct
open Go.RowKit Go.Deep Stw Stp Tb Rul

/-- A table in new blocks. -/
theorem TB.rq {w w' W : World} {H n : Nat} {vs : Nat → Value} {ts : Nat → List Ru} {Q : Nat → Prop} (h : TB w' H n vs ts) (hH : w.heap.size ≤ H) (hk : ∀ b, w.heap.size ≤ b → b < w'.heap.size → Q b ∧ b < W.heap.size ∧ W.heap[b]? = w'.heap[b]?) {s : Nat} (hs : s < n) :
    W.cell? ⟨H, s, none⟩ = some (vs s) ∧ RQ W Q (ts s) (vs s) := by
  have hlt := h.row.lt
  refine ⟨(World.cell?_of_block (a := ⟨H, s, none⟩) (hk H hH hlt).2.2).trans (h.row.cell hs), ?_⟩
  have ho := h.own s hs
  obtain ⟨ao, cap, hv, hat, _⟩ := RO.form ho
  refine RQ.mono (w := w') (Q := fun b => w.heap.size ≤ b) ⟨ao, cap, hv, ?_⟩ (fun b hb hlt => hk b hb hlt)
  rcases hat with h0 | ⟨g, off, rfl, hg, hcs⟩
  · exact Or.inl h0
  · by_cases h0 : ts s = []
    · exact Or.inl h0
    · rcases ho.2 with ⟨h1, h2⟩ | ⟨g', c', cur, h1, h2, _⟩
      · exact absurd (List.eq_nil_of_length_eq_zero h2) h0
      · rw [hv] at h1
        cases h1
        exact Or.inr ⟨g, 0, rfl, by omega, hg, hcs⟩

set_option maxRecDepth 100000 in
set_option maxHeartbeats 1600000 in
theorem adding1_any (v : Int) (p1 p2 H n s : Nat) (ro : Option Addr) (rl rc : Nat) (W : World) (h1 : W.cell? ⟨p1, 0, none⟩ = some (.int .i64 v)) (h2 : W.cell? ⟨p2, 0, none⟩ = some (.slice (some ⟨H, 0, none⟩) n n)) (h3 : W.cell? ⟨H, s, none⟩ = some (.slice ro rl rc)) (hs : s < n)
    (l1 : p1 < W.heap.size) (l2 : p2 < W.heap.size) (l3 : H < W.heap.size) :
    Calls Try.prog 51 #[.int .i64 s, .pointer (some ⟨p1, 0, none⟩), .pointer (some ⟨p2, 0, none⟩)] W fun e w' => e = .returned (.tuple #[.agg #[.int .i64 1, .int .i64 0, .int .i64 v, .slice ro rl rc, .slice none 0 0], .bool (decide (0 < rl))]) ∧ Ext W w' := by
  have i1 : (s : Int) < (n : Int) := by omega
  have i2 : (0 : Int) ≤ (s : Int) := by omega
  go_enter Try.func51, Try.ntmps51
  go_wp2
  go_region
  go_wp2
  refine bodyPost_ret (v := .tuple #[.agg #[.int .i64 1, .int .i64 0, .int .i64 v, .slice ro rl rc, .slice none 0 0], .bool (decide (0 < rl))]) (by simp [results, Try.results51, go_sem]) rfl ⟨rfl, ((Ext.refl W).alloc _).drew⟩

set_option maxRecDepth 100000 in
set_option maxHeartbeats 1600000 in
theorem dropping1_any (v : Int) (p1 p2 H n s : Nat) (ro : Option Addr) (rl rc : Nat) (W : World) (h1 : W.cell? ⟨p1, 0, none⟩ = some (.int .i64 v)) (h2 : W.cell? ⟨p2, 0, none⟩ = some (.slice (some ⟨H, 0, none⟩) n n)) (h3 : W.cell? ⟨H, s, none⟩ = some (.slice ro rl rc)) (hs : s < n)
    (l1 : p1 < W.heap.size) (l2 : p2 < W.heap.size) (l3 : H < W.heap.size) :
    Calls Try.prog 59 #[.int .i64 s, .pointer (some ⟨p1, 0, none⟩), .pointer (some ⟨p2, 0, none⟩)] W fun e w' => e = .returned (.tuple #[.agg #[.int .i64 3, .int .i64 0, .int .i64 v, .slice none 0 0, .slice none 0 0], .bool (decide (0 < rl))]) ∧ Ext W w' := by
  have i1 : (s : Int) < (n : Int) := by omega
  have i2 : (0 : Int) ≤ (s : Int) := by omega
  go_enter Try.func59, Try.ntmps59
  go_wp2
  go_region
  go_wp2
  refine bodyPost_ret (v := .tuple #[.agg #[.int .i64 3, .int .i64 0, .int .i64 v, .slice none 0 0, .slice none 0 0], .bool (decide (0 < rl))]) (by simp [results, Try.results59, go_sem]) rfl ⟨rfl, ((Ext.refl W).alloc _).drew⟩

theorem tot_take (ps : List (List Int)) : ∀ k, k ≤ ps.length → tot ps k = ((ps.take k).map List.length).sum
  | 0, _ => by simp [tot]
  | k + 1, h => by
    rw [tot, tot_take ps k (by omega), List.take_succ_eq_append_getElem (show k < ps.length by omega), List.map_append, List.sum_append, List.map_cons, List.map_nil, List.sum_cons, List.sum_nil, List.getD_eq_getElem?_getD, List.getElem?_eq_getElem (show k < ps.length by omega)]
    rfl
theorem tot_sum (ps : List (List Int)) : tot ps ps.length = (ps.map List.length).sum := by
  rw [tot_take ps _ (Nat.le_refl _), List.take_of_length_le (Nat.le_refl _)]
theorem pths_ps {w : World} {qo : Option Addr} {ps : List (List Int)} (h : PthsAt w qo ps) : PsAt w qo ps := by
  rcases h with h | ⟨g, off, h1, h2, h3⟩
  · exact Or.inl h
  · refine Or.inr ⟨g, off, h1, h2, fun k hk => ?_⟩
    obtain ⟨v, k1, o, c, rfl, k2, _⟩ := h3 k hk
    exact ⟨o, c, k1, k2⟩
theorem rls_len {p : Pl} (h : PlOk p) (s : Nat) : (rls p s).length ≤ 16777216 := Nat.le_trans (rof_len _) (by rw [tot_sum]; exact h.tt)

/-- A step of a change, as a function value; what it answers of a switch. -/
def StepOf (F n : Nat) (ord : Nat → Option Wir.Od) (w0 w w' : World) (e : Ending) : Prop := ∃ p1 p2, e = .returned (.func (.func F) #[] #[.pointer (some ⟨p1, 0, none⟩), .pointer (some ⟨p2, 0, none⟩)]) ∧ Ext w w' ∧ Hid (∀ (Q : Nat → Prop) (W : World), (∀ b, w.heap.size ≤ b → b < w'.heap.size → Q b ∧ b < W.heap.size ∧ W.heap[b]? = w'.heap[b]?) → Ext w0 W → (∀ b, W.heap.size ≤ b → Q b) → ∀ s : Nat, s < n → Calls Try.prog F #[.int .i64 s, .pointer (some ⟨p1, 0, none⟩), .pointer (some ⟨p2, 0, none⟩)] W fun e w'' => StOut Q (ord s) e w'' ∧ Ext W w'')

theorem table_at {w w1 W : World} {H n : Nat} {vs : Nat → Value} {ts : Nat → List Ru} {Q : Nat → Prop} {pv : Int} {T : TypeId} (h : TB w1 H n vs ts) (hH : w.heap.size ≤ H) (l0 : w.heap.size < w1.heap.size) (p1 : w1.cell? ⟨w.heap.size, 0, none⟩ = some (.int .i64 pv))
    (hk : ∀ b, w.heap.size ≤ b → b < (w1.alloc (.cells #[.slice (some ⟨H, 0, none⟩) n n] T)).heap.size → Q b ∧ b < W.heap.size ∧ W.heap[b]? = (w1.alloc (.cells #[.slice (some ⟨H, 0, none⟩) n n] T)).heap[b]?) {s : Nat} (hs : s < n) :
    W.cell? ⟨w.heap.size, 0, none⟩ = some (.int .i64 pv) ∧ W.cell? ⟨w1.heap.size, 0, none⟩ = some (.slice (some ⟨H, 0, none⟩) n n) ∧ ∃ ro rc, W.cell? ⟨H, s, none⟩ = some (.slice ro (ts s).length rc) ∧ RQ W Q (ts s) (.slice ro (ts s).length rc) ∧ w.heap.size < W.heap.size ∧ w1.heap.size < W.heap.size ∧ H < W.heap.size := by
  have hlt := h.row.lt
  have hs1 : (w1.alloc (.cells #[.slice (some ⟨H, 0, none⟩) n n] T)).heap.size = w1.heap.size + 1 := by simp
  have k0 := hk w.heap.size (Nat.le_refl _) (by omega)
  have k1 := hk w1.heap.size (by omega) (by omega)
  have kH := hk H hH (by omega)
  obtain ⟨q1, q2⟩ := TB.rq (w := w) (W := W) (Q := Q) (h.ext ((Ext.refl w1).alloc (.cells #[.slice (some ⟨H, 0, none⟩) n n] T))) hH hk hs
  obtain ⟨ro, rc, e, r3⟩ := q2
  refine ⟨(World.cell?_of_block (a := ⟨w.heap.size, 0, none⟩) k0.2.2).trans ((World.cell?_alloc_past _ _ _ l0).trans p1), (World.cell?_of_block (a := ⟨w1.heap.size, 0, none⟩) k1.2.2).trans (by simp), ro, rc, by rw [q1, e], ⟨ro, rc, rfl, r3⟩, k0.2.1, k1.2.1, kH.2.1⟩
theorem addO_some {p : Pl} {s : Nat} : (addO p s).isSome = decide (0 < (rls p s).length) := by
  unfold addO
  cases rls p s <;> simp
theorem drpO_some {p : Pl} {s : Nat} : (drpO p s).isSome = decide (0 < (rls p s).length) := by
  unfold drpO
  cases rls p s <;> simp

set_option maxRecDepth 100000 in
set_option maxHeartbeats 1600000 in
theorem adding_any (p : Pl) (a : PA) (n : Nat) (w0 w : World) (h : PlAt w p a) (hok : PlOk p) (hn : n ≤ 8) :
    Calls Try.prog 25 #[pvl p a, .int .i64 n] w fun e w' => StepOf 51 n (addO p) w0 w w' e := by
  obtain ⟨pv, fs, ps⟩ := p
  obtain ⟨fo, qo, fc, qc⟩ := a
  obtain ⟨_, hq⟩ := h
  simp only at hq
  have htt : tot ps ps.length * 24 ≤ 140737488351232 := by rw [tot_sum]; have := hok.tt; simp only at this; omega
  have hql : ps.length ≤ 16777216 := hok.ql
  clear hok
  unfold pvl
  show Calls _ _ #[.agg #[.int .i64 pv, .slice fo fs.length fc, .slice qo ps.length qc], _] _ _
  go_enter Try.func25, Try.ntmps25
  go_wp2_with fail
  refine (Of_any pv fo qo fs.length fc ps.length qc n ps _ rfl (pths_ps (hq.ext ((Ext.refl w).alloc _))) (by omega) htt (by omega)).mono ?_
  rintro e w1 ⟨vs, rfl, hT, E1⟩
  rw [World.size_alloc] at hT
  have HT := hidp hT
  have E0 : Ext w w1 := ((Ext.refl w).alloc _).trans E1
  have p1 : w1.cell? ⟨w.heap.size, 0, none⟩ = some (.int .i64 pv) := (E1.cells.1 _ _ (by simp)).trans (by simp)
  have l0 : w.heap.size < w1.heap.size := by have := E1.size; simp at this; omega
  clear hT
  go_wp2
  go_ret
  refine ⟨w.heap.size, w1.heap.size, rfl, E0.alloc _, fun Q W hk _ _ s hs => ?_⟩
  obtain ⟨t1, t2, ro, rc, t3, t4, m1, m2, m3⟩ := table_at (Q := Q) (W := W) HT.out (by omega) l0 p1 hk hs
  refine (adding1_any pv w.heap.size w1.heap.size _ n s ro _ rc W t1 t2 t3 hs m1 m2 m3).mono ?_
  rintro e w2 ⟨rfl, E2⟩
  refine ⟨⟨1, pv, ro, none, (rof pv s ps ps.length).length, rc, 0, 0, ?_, fun x hx => ?_⟩, E2⟩
  · show _ = Ending.returned (.tuple #[_, .bool (addO ⟨pv, fs, ps⟩ s).isSome])
    rw [addO_some]; rfl
  · unfold addO at hx
    split at hx
    · cases hx
    · cases hx
      exact ⟨rfl, rfl, t4.mono (fun b hb hlt => ⟨hb, Nat.lt_of_lt_of_le hlt E2.size, Below.block E2 b hlt⟩), LQ.nil _ _⟩

set_option maxRecDepth 100000 in
set_option maxHeartbeats 1600000 in
theorem dropping_any (p : Pl) (a : PA) (n : Nat) (w0 w : World) (h : PlAt w p a) (hok : PlOk p) (hn : n ≤ 8) :
    Calls Try.prog 38 #[pvl p a, .int .i64 n] w fun e w' => StepOf 59 n (drpO p) w0 w w' e := by
  obtain ⟨pv, fs, ps⟩ := p
  obtain ⟨fo, qo, fc, qc⟩ := a
  obtain ⟨_, hq⟩ := h
  simp only at hq
  have htt : tot ps ps.length * 24 ≤ 140737488351232 := by rw [tot_sum]; have := hok.tt; simp only at this; omega
  have hql : ps.length ≤ 16777216 := hok.ql
  clear hok
  unfold pvl
  show Calls _ _ #[.agg #[.int .i64 pv, .slice fo fs.length fc, .slice qo ps.length qc], _] _ _
  go_enter Try.func38, Try.ntmps38
  go_wp2_with fail
  refine (Of_any pv fo qo fs.length fc ps.length qc n ps _ rfl (pths_ps (hq.ext ((Ext.refl w).alloc _))) (by omega) htt (by omega)).mono ?_
  rintro e w1 ⟨vs, rfl, hT, E1⟩
  rw [World.size_alloc] at hT
  have HT := hidp hT
  have E0 : Ext w w1 := ((Ext.refl w).alloc _).trans E1
  have p1 : w1.cell? ⟨w.heap.size, 0, none⟩ = some (.int .i64 pv) := (E1.cells.1 _ _ (by simp)).trans (by simp)
  have l0 : w.heap.size < w1.heap.size := by have := E1.size; simp at this; omega
  clear hT
  go_wp2
  go_ret
  refine ⟨w.heap.size, w1.heap.size, rfl, E0.alloc _, fun Q W hk _ _ s hs => ?_⟩
  obtain ⟨t1, t2, ro, rc, t3, _, m1, m2, m3⟩ := table_at (Q := Q) (W := W) HT.out (by omega) l0 p1 hk hs
  refine (dropping1_any pv w.heap.size w1.heap.size _ n s ro _ rc W t1 t2 t3 hs m1 m2 m3).mono ?_
  rintro e w2 ⟨rfl, E2⟩
  refine ⟨⟨3, pv, none, none, 0, 0, 0, 0, ?_, fun x hx => ?_⟩, E2⟩
  · show _ = Ending.returned (.tuple #[_, .bool (drpO ⟨pv, fs, ps⟩ s).isSome])
    rw [drpO_some]; rfl
  · unfold drpO at hx
    split at hx
    · cases hx
    · cases hx
      exact ⟨rfl, rfl, RQ.nil _ _, LQ.nil _ _⟩

end Go.Proofs.Ytgffkjjddhlbpaa.Ct
