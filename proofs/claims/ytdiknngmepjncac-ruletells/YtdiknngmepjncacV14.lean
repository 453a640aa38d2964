/- Rules in memory as a row of one's own; what Next, Drop and SameRules answer. -/
import Derived.Test.YtdiknngmepjncacV13
import Derived.Deep.AppendLies
import Derived.Laws.AppendOwnNone
namespace Go.Proofs.Ytdiknngmepjncac.Tb
open Go.RowKit Go.Maps Stw Go.Deep Rul Go.Sort

def rcs (rs : List Ru) : List Value := rs.flatMap (fun r => [.int .i64 r.1, .int .i64 r.2.1, .int .i64 r.2.2])
theorem rcs_cons (r : Ru) (rs : List Ru) : rcs (r :: rs) = [.int .i64 r.1, .int .i64 r.2.1, .int .i64 r.2.2] ++ rcs rs := by simp [rcs]
theorem rcs_len : ∀ rs : List Ru, (rcs rs).length = rs.length * 3
  | [] => rfl
  | r :: rs => by rw [rcs_cons, List.length_append, rcs_len rs]; simp; omega
theorem rcs_append (x y : List Ru) : rcs (x ++ y) = rcs x ++ rcs y := by simp [rcs]
theorem rcs_one (rs : List Ru) : ∀ u ∈ rcs rs, u.oneCell' = true := by
  intro u hu
  simp only [rcs, List.mem_flatMap, List.mem_cons, List.not_mem_nil, or_false] at hu
  obtain ⟨l, _, rfl | rfl | rfl⟩ := hu <;> rfl
theorem rcs_at : ∀ (rs : List Ru) (k : Nat), k < rs.length → (rcs rs)[k * 3]? = some (.int .i64 (rs.getD k r0).1) ∧ (rcs rs)[k * 3 + 1]? = some (.int .i64 (rs.getD k r0).2.1) ∧ (rcs rs)[k * 3 + 2]? = some (.int .i64 (rs.getD k r0).2.2)
  | [], k, h => by simp at h
  | r :: rs, 0, _ => by simp [rcs]
  | r :: rs, k + 1, h => by
    have ih := rcs_at rs k (by simpa using h)
    rw [rcs_cons]
    simp only [List.getElem?_append, List.length_cons, List.length_nil, show ¬ (k + 1) * 3 < 0 + 1 + 1 + 1 by omega, show ¬ (k + 1) * 3 + 1 < 0 + 1 + 1 + 1 by omega, show ¬ (k + 1) * 3 + 2 < 0 + 1 + 1 + 1 by omega, if_false, show (k + 1) * 3 - (0 + 1 + 1 + 1) = k * 3 by omega, show (k + 1) * 3 + 1 - (0 + 1 + 1 + 1) = k * 3 + 1 by omega, show (k + 1) * 3 + 2 - (0 + 1 + 1 + 1) = k * 3 + 2 by omega]
    simpa using ih
theorem add_none (g off j : Nat) : (⟨g, off, none⟩ : Addr).add j = ⟨g, off + j, none⟩ := by
  unfold Addr.add
  split
  · simp_all
  · rfl
theorem rcs_cells {W : World} {g off : Nat} {rs : List Ru} (h : ∀ k, k < rs.length → W.cell? ⟨g, off + k * 3, none⟩ = some (.int .i64 (rs.getD k r0).1) ∧ W.cell? ⟨g, off + k * 3 + 1, none⟩ = some (.int .i64 (rs.getD k r0).2.1) ∧ W.cell? ⟨g, off + k * 3 + 2, none⟩ = some (.int .i64 (rs.getD k r0).2.2)) :
    ∀ j u, (rcs rs)[j]? = some u → W.cell? ((⟨g, off, none⟩ : Addr).add j) = some u := fun j u hu => by
  have hj : j < rs.length * 3 := by have := (List.getElem?_eq_some_iff.1 hu).1; rwa [rcs_len] at this
  obtain ⟨a0, a1, a2⟩ := rcs_at rs (j / 3) (by omega)
  obtain ⟨c0, c1, c2⟩ := h (j / 3) (by omega)
  rw [add_none]
  rcases (show j % 3 = 0 ∨ j % 3 = 1 ∨ j % 3 = 2 by omega) with e | e | e
  · rw [show j / 3 * 3 = j by omega] at a0 c0; rw [c0, ← a0, hu]
  · rw [show j / 3 * 3 + 1 = j by omega] at a1; rw [show off + j / 3 * 3 + 1 = off + j by omega] at c1; rw [c1, ← a1, hu]
  · rw [show j / 3 * 3 + 2 = j by omega] at a2; rw [show off + j / 3 * 3 + 2 = off + j by omega] at c2; rw [c2, ← a2, hu]
/-- Rules of one's own, in a row of one's own. -/
def RO (w : World) (base : Nat) (v : Value) (rs : List Ru) : Prop := w.ownsRow base 54 3 v rs.length (rcs rs)
theorem RO.form {w : World} {base : Nat} {v : Value} {rs : List Ru} (h : RO w base v rs) : ∃ ao cap, v = .slice ao rs.length cap ∧ RsAt w ao rs ∧ (ao = none → rs = [] ∧ cap = 0) ∧ rs.length ≤ cap ∧ cap ≤ maxLen := by
  rcases h.2 with ⟨hv, h0⟩ | ⟨g, cap, cur, hv, hb, hg, hn, hm, hc, ht⟩
  · exact ⟨none, 0, by rw [h0]; exact hv, Or.inl (List.eq_nil_of_length_eq_zero h0), fun _ => ⟨List.eq_nil_of_length_eq_zero h0, rfl⟩, by omega, Nat.zero_le _⟩
  · refine ⟨some ⟨g, 0, none⟩, cap, hv, Or.inr ⟨g, 0, rfl, (Array.getElem?_eq_some_iff.1 hg).1, fun k hk => ?_⟩, (fun h => by cases h), hn, hm⟩
    have hcell : ∀ j u, j < rs.length * 3 → (rcs rs)[j]? = some u → w.cell? ⟨g, 0 + j, none⟩ = some u := fun j u hj hu => by
      rw [← ht, List.getElem?_take_of_lt hj] at hu
      simp [World.cell?, hg]
      simpa using hu
    obtain ⟨a0, a1, a2⟩ := rcs_at rs k hk
    exact ⟨hcell _ _ (by omega) a0, hcell _ _ (by omega) a1, hcell _ _ (by omega) a2⟩
theorem RO.ext {w w' : World} {base : Nat} {v : Value} {rs : List Ru} (h : RO w base v rs) (k : Ext w w') : RO w' base v rs := by
  refine ⟨h.1, ?_⟩
  rcases h.2 with h2 | ⟨g, cap, cur, h1, h2, h3, h4⟩
  · exact Or.inl h2
  · exact Or.inr ⟨g, cap, cur, h1, h2, (Below.block k g (Array.getElem?_eq_some_iff.1 h3).1).trans h3, h4⟩
theorem RO.nil (w : World) (base : Nat) : RO w base (.slice none 0 0) [] := World.ownsRow_nil _ _ _ _
theorem infoR : (Try.prog.info? 54).map (fun i => (i.zero, i.size, i.bytes)) = some (some (.agg #[.int .i64 0, .int .i64 0, .int .i64 0]), 3, 24) := by kernel_rfl
theorem infoR' : ∃ i, Try.prog.info? 54 = some i ∧ i.zero = some (.agg #[.int .i64 0, .int .i64 0, .int .i64 0]) ∧ i.size = 3 ∧ i.bytes = 24 := by
  have h := infoR
  cases e : Try.prog.info? 54 with
  | none => rw [e] at h; simp at h
  | some i => rw [e] at h; simp at h; exact ⟨i, rfl, h.1, h.2.1, h.2.2⟩

theorem nxt_step {v f : Int} {rs : List Ru} {k : Nat} (hk : k < rs.length) : nxt v f (rs.drop k) = if (rs.getD k r0).1 = v ∧ (rs.getD k r0).2.1 = f then ((rs.getD k r0).2.2, true) else nxt v f (rs.drop (k + 1)) := by
  have e : rs.getD k r0 = rs[k] := by simp [List.getD_eq_getElem?_getD, hk]
  rw [List.drop_eq_getElem_cons hk, nxt, e]

set_option maxRecDepth 100000 in
set_option maxHeartbeats 400000 in
theorem Next_any (ao : Option Addr) (len cap : Nat) (rs : List Ru) (v f : Int) (w : World) (hlen : rs.length = len) (hf : RsAt w ao rs) (hl : len ≤ 4611686018427387904) :
    Calls Try.prog 19 #[.slice ao len cap, .int .i64 v, .int .i64 f] w fun e w' => e = .returned (.tuple #[.int .i64 (nxt v f rs).1, .bool (nxt v f rs).2]) ∧ Ext w w' := by
  have hw0 : nxt v f rs = nxt v f (rs.drop 0) := by rw [List.drop_zero]
  rw [hw0]
  go_enter Try.func19, Try.ntmps19
  go_wp2
  go_loopw [12] (fun iv wd => ∃ k : Nat, k ≤ len ∧ iv = .int .i64 k ∧ Hid (nxt v f (rs.drop 0) = nxt v f (rs.drop k)) ∧ Ext w wd) (fun iv _ => len - (intOf iv).toNat)
  case atStart => exact ⟨0, Nat.zero_le _, rfl, rfl, Ext.refl w⟩
  case round =>
    obtain ⟨k, hk, rfl, HW, hE⟩ := hrel
    by_cases hlt : k < len
    · obtain ⟨g, off, rfl, hg, hcs⟩ := (hf.ext hE).get (k := k) (by omega)
      have i1 : (k : Int) < (len : Int) := by omega
      have HST : Hid _ := nxt_step (v := v) (f := f) (rs := rs) (k := k) (by omega)
      obtain ⟨c0, c1, c2⟩ := hcs k (by omega)
      obtain ⟨r, hr⟩ : ∃ r, rs.getD k r0 = r := ⟨_, rfl⟩
      rw [hr] at c0 c1 c2 HST
      clear hr hcs
      by_cases h1 : r.1 = v
      · by_cases h2 : r.2.1 = f
        · have hfin : nxt v f (rs.drop 0) = (r.2.2, true) := by rw [HW.out, HST.out, if_pos ⟨h1, h2⟩]
          have HF : Hid _ := hfin
          have b1 : (r.1 == v) = true := by simpa using h1
          have b2 : (r.2.1 == f) = true := by simpa using h2
          clear hfin h1 h2
          go_wp2
          go_ret2
          exact ⟨by rw [HF.out]; rfl, hE.alloc _⟩
        · have HW2 : Hid (nxt v f (rs.drop 0) = nxt v f (rs.drop (k + 1))) := HW.out.trans (HST.out.trans (if_neg (fun h => h2 h.2)))
          have b1 : (r.1 == v) = true := by simpa using h1
          have b2 : (r.2.1 == f) = false := by simpa using h2
          clear h1 h2
          go_wp2
          exact ⟨⟨k + 1, by omega, by go_num, HW2, hE.alloc _⟩, by simp [intOf]; omega⟩
      · have HW2 : Hid (nxt v f (rs.drop 0) = nxt v f (rs.drop (k + 1))) := HW.out.trans (HST.out.trans (if_neg (fun h => h1 h.1)))
        have b1 : (r.1 == v) = false := by simpa using h1
        clear h1
        go_wp2
        exact ⟨⟨k + 1, by omega, by go_num, HW2, hE.alloc _⟩, by simp [intOf]; omega⟩
    · have hfin : nxt v f (rs.drop 0) = (0, false) := by rw [HW.out, List.drop_eq_nil_of_le (by omega), nxt]
      have HF : Hid _ := hfin
      clear hfin
      go_wp2
      go_ret2
      exact ⟨by rw [HF.out]; rfl, hE⟩

set_option maxRecDepth 100000 in
set_option maxHeartbeats 400000 in
theorem refNext_any (ao : Option Addr) (len cap : Nat) (rs : List Ru) (v f : Int) (w : World) (hlen : rs.length = len) (hf : RsAt w ao rs) (hl : len ≤ 4611686018427387904) :
    Calls Try.prog 20 #[.slice ao len cap, .int .i64 v, .int .i64 f] w fun e w' => e = .returned (.tuple #[.int .i64 (nxt v f rs).1, .bool (nxt v f rs).2]) ∧ Ext w w' := by
  have hw0 : nxt v f rs = nxt v f (rs.drop 0) := by rw [List.drop_zero]
  rw [hw0]
  go_enter Try.func20, Try.ntmps20
  go_wp2
  go_loopw [12] (fun iv wd => ∃ k : Nat, k ≤ len ∧ iv = .int .i64 k ∧ Hid (nxt v f (rs.drop 0) = nxt v f (rs.drop k)) ∧ Ext w wd) (fun iv _ => len - (intOf iv).toNat)
  case atStart => exact ⟨0, Nat.zero_le _, rfl, rfl, Ext.refl w⟩
  case round =>
    obtain ⟨k, hk, rfl, HW, hE⟩ := hrel
    by_cases hlt : k < len
    · obtain ⟨g, off, rfl, hg, hcs⟩ := (hf.ext hE).get (k := k) (by omega)
      have i1 : (k : Int) < (len : Int) := by omega
      have HST : Hid _ := nxt_step (v := v) (f := f) (rs := rs) (k := k) (by omega)
      obtain ⟨c0, c1, c2⟩ := hcs k (by omega)
      obtain ⟨r, hr⟩ : ∃ r, rs.getD k r0 = r := ⟨_, rfl⟩
      rw [hr] at c0 c1 c2 HST
      clear hr hcs
      by_cases h2 : r.2.1 = f
      · by_cases h1 : r.1 = v
        · have hfin : nxt v f (rs.drop 0) = (r.2.2, true) := by rw [HW.out, HST.out, if_pos ⟨h1, h2⟩]
          have HF : Hid _ := hfin
          have b1 : (r.1 == v) = true := by simpa using h1
          have b2 : (r.2.1 == f) = true := by simpa using h2
          clear hfin h1 h2
          go_wp2
          go_ret2
          exact ⟨by rw [HF.out]; rfl, hE.alloc _⟩
        · have HW2 : Hid (nxt v f (rs.drop 0) = nxt v f (rs.drop (k + 1))) := HW.out.trans (HST.out.trans (if_neg (fun h => h1 h.1)))
          have b1 : (r.1 == v) = false := by simpa using h1
          have b2 : (r.2.1 == f) = true := by simpa using h2
          clear h1 h2
          go_wp2
          exact ⟨⟨k + 1, by omega, by go_num, HW2, hE.alloc _⟩, by simp [intOf]; omega⟩
      · have HW2 : Hid (nxt v f (rs.drop 0) = nxt v f (rs.drop (k + 1))) := HW.out.trans (HST.out.trans (if_neg (fun h => h2 h.2)))
        have b1 : (r.2.1 == f) = false := by simpa using h2
        clear h2
        go_wp2
        exact ⟨⟨k + 1, by omega, by go_num, HW2, hE.alloc _⟩, by simp [intOf]; omega⟩
    · have hfin : nxt v f (rs.drop 0) = (0, false) := by rw [HW.out, List.drop_eq_nil_of_le (by omega), nxt]
      have HF : Hid _ := hfin
      clear hfin
      go_wp2
      go_ret2
      exact ⟨by rw [HF.out]; rfl, hE⟩

theorem drp_step {v : Int} {rs : List Ru} {k : Nat} (hk : k < rs.length) : drp (rs.take (k + 1)) v = if (rs.getD k r0).1 = v then drp (rs.take k) v else drp (rs.take k) v ++ [rs.getD k r0] := by
  have e : rs.getD k r0 = rs[k] := by simp [List.getD_eq_getElem?_getD, hk]
  rw [List.take_succ_eq_append_getElem hk, e, drp, List.filter_append]
  by_cases h : (rs[k]).1 = v
  · rw [if_pos h]; simp [h, drp]
  · rw [if_neg h]; simp [h, drp]
theorem drp_le (rs : List Ru) (v : Int) : (drp rs v).length ≤ rs.length := List.length_filter_le _ _
theorem cells3n {W : World} {n : Nat} (h : W.heap.size = n) (v0 v1 v2 : Value) (T : TypeId) (i : Nat) (u : Value) (hu : [v0, v1, v2][i]? = some u) : (W.alloc (.cells #[v0, v1, v2] T)).cell? ((⟨n, 0, none⟩ : Addr).add i) = some u := by
  subst h
  rw [add_none]
  match i, hu with
  | 0, hu => simp at hu; subst hu; simp
  | 1, hu => simp at hu; subst hu; simp
  | 2, hu => simp at hu; subst hu; simp
  | i + 3, hu => simp at hu
theorem RO.block {w : World} {base : Nat} {v : Value} {rs : List Ru} (h : RO w base v rs) : ∀ k, v.ownBlock = some k → base ≤ k ∧ k < w.heap.size := h.lt

set_option maxRecDepth 100000 in
set_option maxHeartbeats 800000 in
theorem Drop_any (ao : Option Addr) (len cap : Nat) (rs : List Ru) (v : Int) (w : World) (hlen : rs.length = len) (hf : RsAt w ao rs) (hl : len * 24 ≤ 140737488351232) :
    Calls Try.prog 21 #[.slice ao len cap, .int .i64 v] w fun e w' => ∃ v', e = .returned v' ∧ RO w' w.heap.size v' (drp rs v) ∧ Ext w w' := by
  obtain ⟨i3, hi3, hz0, hz1, hz2⟩ := infoR'
  go_enter Try.func21, Try.ntmps21
  go_wp2
  go_loopw [5, 10] (fun ov iv wd => ∃ k : Nat, k ≤ len ∧ iv = .int .i64 k ∧ Hid (RO wd w.heap.size ov (drp (rs.take k) v)) ∧ Ext w wd) (fun _ iv _ => len - (intOf iv).toNat)
  case atStart => exact ⟨0, Nat.zero_le _, rfl, RO.nil _ _, Ext.refl w⟩
  case round =>
    obtain ⟨k, hk, rfl, HO, hE⟩ := hrel
    by_cases hlt : k < len
    · obtain ⟨g, off, rfl, hg, hcs⟩ := (hf.ext hE).get (k := k) (by omega)
      have i1 : (k : Int) < (len : Int) := by omega
      have HST : Hid _ := drp_step (v := v) (rs := rs) (k := k) (by omega)
      obtain ⟨c0, c1, c2⟩ := hcs k (by omega)
      obtain ⟨r, hr⟩ : ∃ r, rs.getD k r0 = r := ⟨_, rfl⟩
      rw [hr] at c0 c1 c2 HST
      clear hr hcs
      by_cases h1 : r.1 = v
      · have HO2 : Hid (RO (wr.alloc (.cells #[.int .i64 r.1, .int .i64 r.2.1, .int .i64 r.2.2] 54)) w.heap.size u5 (drp (rs.take (k + 1)) v)) := by
          show RO _ _ _ _
          rw [HST.out, if_pos h1]; exact HO.out.ext ((Ext.refl _).alloc _)
        have b1 : (r.1 != v) = false := by simpa using h1
        clear h1 HST
        go_wp2
        exact ⟨⟨k + 1, by omega, by go_num, HO2, hE.alloc _⟩, by simp [intOf]; omega⟩
      · have b1 : (r.1 != v) = true := by simpa using h1
        have hE0 := HO.out.ext (((Ext.refl wr).alloc (.cells #[.int .i64 r.1, .int .i64 r.2.1, .int .i64 r.2.2] 54)).alloc (.cells #[.int .i64 r.1, .int .i64 r.2.1, .int .i64 r.2.2] 54))
        have hdl : (drp (rs.take k) v).length ≤ k := Nat.le_trans (drp_le _ _) (by simp; omega)
        have hEs := hE.size
        go_wp2_with (first | (at_builtin; refine wpList_append_own _ rfl _ _ 40 rfl w.heap.size 54 i3 (.agg #[.int .i64 0, .int .i64 0, .int .i64 0]) 3 24 Try.underlying40 hi3 hz0 hz1 hz2 rfl (by decide) _ _ _ rfl hE0 ⟨wr.heap.size + 1, 0, none⟩ 1 1 [.int .i64 r.1, .int .i64 r.2.1, .int .i64 r.2.2] rfl rfl ?c1 ?c2 ?c3 ?c4 ?c5 ?_) | go_in)
        case c1 => exact cells3n (by simp) _ _ _ _
        case c2 => intro u hu; simp only [List.mem_cons, List.not_mem_nil, or_false] at hu; rcases hu with rfl | rfl | rfl <;> rfl
        case c3 => unfold maxLen; omega
        case c4 => omega
        case c5 => simp; omega
        · intro v' w5 hown5 hg5 _
          have hE5 : Ext w w5 := Below.grown ((hE.alloc _).alloc _) hg5 (by simp; omega) (fun j hj => (HO.out.block j hj).1)
          have HO2 : Hid (RO w5 w.heap.size v' (drp (rs.take (k + 1)) v)) := by
            show RO _ _ _ _
            rw [HST.out, if_neg h1]
            unfold RO
            rw [rcs_append]
            simpa [rcs] using hown5
          clear hown5 hg5 hE0 HST h1
          go_wp2
          exact ⟨⟨k + 1, by omega, by go_num, HO2, hE5⟩, by simp [intOf]; omega⟩
    · have i1 : ¬ (k : Int) < (len : Int) := by omega
      have hO := HO.out
      rw [List.take_of_length_le (by omega)] at hO
      go_wp2
      go_ret
      exact ⟨_, rfl, hO, hE⟩

set_option maxRecDepth 100000 in
set_option maxHeartbeats 800000 in
theorem refDrop_any (ao : Option Addr) (len cap : Nat) (rs : List Ru) (v : Int) (w : World) (hlen : rs.length = len) (hf : RsAt w ao rs) (hl : len * 24 ≤ 140737488351232) :
    Calls Try.prog 22 #[.slice ao len cap, .int .i64 v] w fun e w' => ∃ v', e = .returned v' ∧ RO w' w.heap.size v' (drp rs v) ∧ Ext w w' := by
  obtain ⟨i3, hi3, hz0, hz1, hz2⟩ := infoR'
  go_enter Try.func22, Try.ntmps22
  go_wp2
  go_loopw [5, 10] (fun ov iv wd => ∃ k : Nat, k ≤ len ∧ iv = .int .i64 k ∧ Hid (RO wd w.heap.size ov (drp (rs.take k) v)) ∧ Ext w wd) (fun _ iv _ => len - (intOf iv).toNat)
  case atStart => exact ⟨0, Nat.zero_le _, rfl, RO.nil _ _, Ext.refl w⟩
  case round =>
    obtain ⟨k, hk, rfl, HO, hE⟩ := hrel
    by_cases hlt : k < len
    · obtain ⟨g, off, rfl, hg, hcs⟩ := (hf.ext hE).get (k := k) (by omega)
      have i1 : (k : Int) < (len : Int) := by omega
      have HST : Hid _ := drp_step (v := v) (rs := rs) (k := k) (by omega)
      obtain ⟨c0, c1, c2⟩ := hcs k (by omega)
      obtain ⟨r, hr⟩ : ∃ r, rs.getD k r0 = r := ⟨_, rfl⟩
      rw [hr] at c0 c1 c2 HST
      clear hr hcs
      by_cases h1 : r.1 = v
      · have HO2 : Hid (RO (wr.alloc (.cells #[.int .i64 r.1, .int .i64 r.2.1, .int .i64 r.2.2] 54)) w.heap.size u5 (drp (rs.take (k + 1)) v)) := by
          show RO _ _ _ _
          rw [HST.out, if_pos h1]; exact HO.out.ext ((Ext.refl _).alloc _)
        have b1 : (r.1 != v) = false := by simpa using h1
        clear h1 HST
        go_wp2
        exact ⟨⟨k + 1, by omega, by go_num, HO2, hE.alloc _⟩, by simp [intOf]; omega⟩
      · have b1 : (r.1 != v) = true := by simpa using h1
        have hE0 := HO.out.ext (((Ext.refl wr).alloc (.cells #[.int .i64 r.1, .int .i64 r.2.1, .int .i64 r.2.2] 54)).alloc (.cells #[.int .i64 r.1, .int .i64 r.2.1, .int .i64 r.2.2] 54))
        have hdl : (drp (rs.take k) v).length ≤ k := Nat.le_trans (drp_le _ _) (by simp; omega)
        have hEs := hE.size
        go_wp2_with (first | (at_builtin; refine wpList_append_own _ rfl _ _ 40 rfl w.heap.size 54 i3 (.agg #[.int .i64 0, .int .i64 0, .int .i64 0]) 3 24 Try.underlying40 hi3 hz0 hz1 hz2 rfl (by decide) _ _ _ rfl hE0 ⟨wr.heap.size + 1, 0, none⟩ 1 1 [.int .i64 r.1, .int .i64 r.2.1, .int .i64 r.2.2] rfl rfl ?c1 ?c2 ?c3 ?c4 ?c5 ?_) | go_in)
        case c1 => exact cells3n (by simp) _ _ _ _
        case c2 => intro u hu; simp only [List.mem_cons, List.not_mem_nil, or_false] at hu; rcases hu with rfl | rfl | rfl <;> rfl
        case c3 => unfold maxLen; omega
        case c4 => omega
        case c5 => simp; omega
        · intro v' w5 hown5 hg5 _
          have hE5 : Ext w w5 := Below.grown ((hE.alloc _).alloc _) hg5 (by simp; omega) (fun j hj => (HO.out.block j hj).1)
          have HO2 : Hid (RO w5 w.heap.size v' (drp (rs.take (k + 1)) v)) := by
            show RO _ _ _ _
            rw [HST.out, if_neg h1]
            unfold RO
            rw [rcs_append]
            simpa [rcs] using hown5
          clear hown5 hg5 hE0 HST h1
          go_wp2
          exact ⟨⟨k + 1, by omega, by go_num, HO2, hE5⟩, by simp [intOf]; omega⟩
    · have i1 : ¬ (k : Int) < (len : Int) := by omega
      have hO := HO.out
      rw [List.take_of_length_le (by omega)] at hO
      go_wp2
      go_ret
      exact ⟨_, rfl, hO, hE⟩

set_option maxRecDepth 100000 in
set_option maxHeartbeats 800000 in
theorem SameRules_same (ao bo : Option Addr) (len ac bc : Nat) (rs : List Ru) (w : World) (hlen : rs.length = len) (ha : RsAt w ao rs) (hb : RsAt w bo rs) (hl : len ≤ 4611686018427387904) :
    Calls Try.prog 13 #[.slice ao len ac, .slice bo len bc] w fun e w' => e = .returned (.bool true) ∧ Ext w w' := by
  go_enter Try.func13, Try.ntmps13
  go_wp2
  go_loopw [13] (fun iv wd => ∃ k : Nat, k ≤ len ∧ iv = .int .i64 k ∧ Ext w wd) (fun iv _ => len - (intOf iv).toNat)
  case atStart => exact ⟨0, Nat.zero_le _, rfl, Ext.refl w⟩
  case round =>
    obtain ⟨k, hk, rfl, hE⟩ := hrel
    by_cases hlt : k < len
    · obtain ⟨g, off, rfl, hg, hcs⟩ := (ha.ext hE).get (k := k) (by omega)
      obtain ⟨g', off', rfl, hg', hcs'⟩ := (hb.ext hE).get (k := k) (by omega)
      have i1 : (k : Int) < (len : Int) := by omega
      obtain ⟨c0, c1, c2⟩ := hcs k (by omega)
      obtain ⟨e0, e1, e2⟩ := hcs' k (by omega)
      obtain ⟨r, hr⟩ : ∃ r, rs.getD k r0 = r := ⟨_, rfl⟩
      rw [hr] at c0 c1 c2 e0 e1 e2
      clear hr hcs hcs'
      go_wp2
      go_region
      go_wp2
      exact ⟨⟨k + 1, by omega, by go_num, hE.drew⟩, by simp [intOf]; omega⟩
    · have i1 : ¬ (k : Int) < (len : Int) := by omega
      go_wp2
      go_ret
      exact ⟨rfl, hE⟩

end Go.Proofs.Ytdiknngmepjncac.Tb
