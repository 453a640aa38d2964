/- Rows of stamps of one's own; what slices.Clone answers of rules and of stamps; what stampsOf answers. -/
import Derived.Test.YtmjddnnjjmnddadY1
namespace Go.Proofs.Ytmjddnnjjmnddad.Ag
open Go.RowKit Go.Deep Tb Rul

def scs (st : List (Int × Int)) : List Value := st.flatMap (fun r => [.int .i64 r.1, .int .i64 r.2])
theorem scs_cons (r : Int × Int) (st : List (Int × Int)) : scs (r :: st) = [.int .i64 r.1, .int .i64 r.2] ++ scs st := by simp [scs]
theorem scs_len : ∀ st : List (Int × Int), (scs st).length = st.length * 2
  | [] => rfl
  | r :: st => by rw [scs_cons, List.length_append, scs_len st]; simp; omega
theorem scs_append (x y : List (Int × Int)) : scs (x ++ y) = scs x ++ scs y := by simp [scs]
theorem scs_one (st : List (Int × Int)) : ∀ u ∈ scs st, u.oneCell' = true := by
  intro u hu
  simp only [scs, List.mem_flatMap, List.mem_cons, List.not_mem_nil, or_false] at hu
  obtain ⟨l, _, rfl | rfl⟩ := hu <;> rfl
theorem scs_at : ∀ (st : List (Int × Int)) (k : Nat), k < st.length → (scs st)[k * 2]? = some (.int .i64 (st.getD k s0).1) ∧ (scs st)[k * 2 + 1]? = some (.int .i64 (st.getD k s0).2)
  | [], k, h => by simp at h
  | r :: st, 0, _ => by simp [scs]
  | r :: st, k + 1, h => by
    have ih := scs_at st k (by simpa using h)
    rw [scs_cons]
    simp only [List.getElem?_append, List.length_cons, List.length_nil, show ¬ (k + 1) * 2 < 0 + 1 + 1 by omega, show ¬ (k + 1) * 2 + 1 < 0 + 1 + 1 by omega, if_false, show (k + 1) * 2 - (0 + 1 + 1) = k * 2 by omega, show (k + 1) * 2 + 1 - (0 + 1 + 1) = k * 2 + 1 by omega]
    simpa using ih
theorem scs_cells {W : World} {g off : Nat} {st : List (Int × Int)} (h : ∀ k, k < st.length → W.cell? ⟨g, off + k * 2, none⟩ = some (.int .i64 (st.getD k s0).1) ∧ W.cell? ⟨g, off + k * 2 + 1, none⟩ = some (.int .i64 (st.getD k s0).2)) :
    ∀ j u, (scs st)[j]? = some u → W.cell? ((⟨g, off, none⟩ : Addr).add j) = some u := fun j u hu => by
  have hj : j < st.length * 2 := by have := (List.getElem?_eq_some_iff.1 hu).1; rwa [scs_len] at this
  obtain ⟨a0, a1⟩ := scs_at st (j / 2) (by omega)
  obtain ⟨c0, c1⟩ := h (j / 2) (by omega)
  rw [add_none]
  rcases (show j % 2 = 0 ∨ j % 2 = 1 by omega) with e | e
  · rw [show j / 2 * 2 = j by omega] at a0 c0; rw [c0, ← a0, hu]
  · rw [show j / 2 * 2 + 1 = j by omega] at a1; rw [show off + j / 2 * 2 + 1 = off + j by omega] at c1; rw [c1, ← a1, hu]
theorem StAt.news {w : World} {a : Addr} {st : List (Int × Int)} (h : StAt w (some a) st) : ∀ j u, (scs st)[j]? = some u → w.cell? (a.add j) = some u := by
  rcases h with h0 | ⟨g, off, h1, h2, h3⟩
  · intro j u hu; rw [h0] at hu; simp [scs] at hu
  · cases h1
    exact scs_cells h3
theorem StAt.nil {w : World} {st : List (Int × Int)} (h : StAt w none st) : st = [] := by
  rcases h with h | ⟨g, off, h, _⟩
  · exact h
  · cases h
theorem RsAt.nil {w : World} {rs : List Ru} (h : RsAt w none rs) : rs = [] := by
  rcases h with h | ⟨g, off, h, _⟩
  · exact h
  · cases h
/-- Stamps of one's own, in a row of one's own. -/
def SO (w : World) (base : Nat) (v : Value) (st : List (Int × Int)) : Prop := w.ownsRow base 70 2 v st.length (scs st)
theorem SO.form {w : World} {base : Nat} {v : Value} {st : List (Int × Int)} (h : SO w base v st) : ∃ ao cap, v = .slice ao st.length cap ∧ StAt w ao st := by
  rcases h.2 with ⟨hv, h0⟩ | ⟨g, cap, cur, hv, hb, hg, hn, hm, hc, ht⟩
  · exact ⟨none, 0, by rw [h0]; exact hv, Or.inl (List.eq_nil_of_length_eq_zero h0)⟩
  · refine ⟨some ⟨g, 0, none⟩, cap, hv, Or.inr ⟨g, 0, rfl, (Array.getElem?_eq_some_iff.1 hg).1, fun k hk => ?_⟩⟩
    have hcell : ∀ j u, j < st.length * 2 → (scs st)[j]? = some u → w.cell? ⟨g, 0 + j, none⟩ = some u := fun j u hj hu => by
      rw [← ht, List.getElem?_take_of_lt hj] at hu
      simp [World.cell?, hg]
      simpa using hu
    obtain ⟨a0, a1⟩ := scs_at st k hk
    exact ⟨hcell _ _ (by omega) a0, hcell _ _ (by omega) a1⟩
theorem SO.ext {w w' : World} {base : Nat} {v : Value} {st : List (Int × Int)} (h : SO w base v st) (k : Ext w w') : SO w' base v st := by
  refine ⟨h.1, ?_⟩
  rcases h.2 with h2 | ⟨g, cap, cur, h1, h2, h3, h4⟩
  · exact Or.inl h2
  · exact Or.inr ⟨g, cap, cur, h1, h2, (Below.block k g (Array.getElem?_eq_some_iff.1 h3).1).trans h3, h4⟩
theorem SO.nil (w : World) (base : Nat) : SO w base (.slice none 0 0) [] := World.ownsRow_nil _ _ _ _
theorem SO.block {w : World} {base : Nat} {v : Value} {st : List (Int × Int)} (h : SO w base v st) : ∀ k, v.ownBlock = some k → base ≤ k ∧ k < w.heap.size := h.lt
theorem infoS : (Try.prog.info? 70).map (fun i => (i.zero, i.size, i.bytes)) = some (some (.agg #[.int .i64 0, .int .i64 0]), 2, 16) := by kernel_rfl
theorem infoS' : ∃ i, Try.prog.info? 70 = some i ∧ i.zero = some (.agg #[.int .i64 0, .int .i64 0]) ∧ i.size = 2 ∧ i.bytes = 16 := by
  have h := infoS
  cases e : Try.prog.info? 70 with
  | none => rw [e] at h; simp at h
  | some i => rw [e] at h; simp at h; exact ⟨i, rfl, h.1, h.2.1, h.2.2⟩
theorem cells2n {W : World} {n : Nat} (h : W.heap.size = n) (v0 v1 : Value) (T : TypeId) (i : Nat) (u : Value) (hu : [v0, v1][i]? = some u) : (W.alloc (.cells #[v0, v1] T)).cell? ((⟨n, 0, none⟩ : Addr).add i) = some u := by
  subst h
  rw [add_none]
  match i, hu with
  | 0, hu => simp at hu; subst hu; simp
  | 1, hu => simp at hu; subst hu; simp
  | i + 2, hu => simp at hu

set_option maxHeartbeats 1000000 in
theorem cloneR_nil (n c : Nat) (w : World) :
    Calls Try.prog 54 #[.slice none n c] w fun e w' => e = .returned (.slice none 0 0) ∧ w' = w := by
  have hq : ∀ (w : World) (a : Option Addr) (n c : Nat), (binOp .eql 22 (.slice a n c) (.slice none 0 0)).run Try.prog w = .ok (.bool a.isNone) w := fun w a n c => Lib.run_eql_slice_nil w _ _ a n c 0 0 Try.underlying22
  go_enter Try.func54, Try.ntmps54
  go_wp2
  go_ret
  exact ⟨rfl, rfl⟩
set_option maxHeartbeats 1000000 in
theorem cloneR_some (ad : Addr) (n c : Nat) (rs : List Ru) (w : World) (hn : rs.length = n) (hb : n * 24 ≤ 140737488351232) (hp : ∀ j u, (rcs rs)[j]? = some u → (w.alloc (.cells #[] 59)).cell? (ad.add j) = some u) :
    Calls Try.prog 54 #[.slice (some ad) n c] w fun e w' => ∃ v', e = .returned v' ∧ RO w' w.heap.size v' rs ∧ Ext w w' := by
  obtain ⟨i0, hi, hz0, hz1, hz2⟩ := infoR'
  have hq : ∀ (w : World) (a : Option Addr) (n c : Nat), (binOp .eql 22 (.slice a n c) (.slice none 0 0)).run Try.prog w = .ok (.bool a.isNone) w := fun w a n c => Lib.run_eql_slice_nil w _ _ a n c 0 0 Try.underlying22
  have A : Hid _ := hp
  clear hp
  go_enter Try.func54, Try.ntmps54
  go_wp2_with (at_builtin; refine wpList_append_own _ rfl _ _ 22 rfl w.heap.size 59 i0 (.agg #[.int .i64 0, .int .i64 0, .int .i64 0]) 3 24 Try.underlying22 hi hz0 hz1 hz2 rfl (by decide) _ _ _ rfl (World.ownsRow_made w #[] 0 (Nat.le_refl _) (Nat.zero_le _) rfl) ad n c (rcs rs) rfl ?qc1 ?qc2 ?qc3 ?qc4 ?qc5 ?qc6 ?_)
  case qc1 => rw [rcs_len, hn]
  case qc2 => exact A.out
  case qc3 => exact rcs_one rs
  case qc4 => unfold maxLen; omega
  case qc5 => omega
  case qc6 => simp
  intro v' w1 hown hgrow hnil
  go_wp2
  go_ret
  refine ⟨v', rfl, ?_, ?_⟩
  · unfold RO; rw [hn]; simpa using hown
  · exact ((Below.refl _ w).alloc (Nat.le_refl _) _).grown hgrow (by simp) (by intro k hk; simp [Value.ownBlock] at hk; omega)
/-- A copy of rules: the same rules. -/
theorem cloneR_any (o : Option Addr) (c : Nat) (rs : List Ru) (w : World) (hb : rs.length * 24 ≤ 140737488351232) (hp : RsAt w o rs) :
    Calls Try.prog 54 #[.slice o rs.length c] w fun e w' => ∃ v', e = .returned v' ∧ RO w' w.heap.size v' rs ∧ Ext w w' := by
  cases o with
  | none =>
    have he := RsAt.nil hp
    refine (cloneR_nil rs.length c w).mono ?_
    rintro e w' ⟨rfl, rfl⟩
    exact ⟨_, rfl, by rw [he]; exact RO.nil _ _, Ext.refl _⟩
  | some ad =>
    exact cloneR_some ad rs.length c rs w rfl hb (SlOk.news (len := rs.length) (cap := c) ⟨rfl, hp.ext ((Ext.refl w).alloc _), fun h => by cases h⟩)

set_option maxHeartbeats 1000000 in
theorem cloneS_nil (n c : Nat) (w : World) :
    Calls Try.prog 59 #[.slice none n c] w fun e w' => e = .returned (.slice none 0 0) ∧ w' = w := by
  have hq : ∀ (w : World) (a : Option Addr) (n c : Nat), (binOp .eql 39 (.slice a n c) (.slice none 0 0)).run Try.prog w = .ok (.bool a.isNone) w := fun w a n c => Lib.run_eql_slice_nil w _ _ a n c 0 0 Try.underlying39
  go_enter Try.func59, Try.ntmps59
  go_wp2
  go_ret
  exact ⟨rfl, rfl⟩
set_option maxHeartbeats 1000000 in
theorem cloneS_some (ad : Addr) (n c : Nat) (st : List (Int × Int)) (w : World) (hn : st.length = n) (hb : n * 16 ≤ 140737488351232) (hp : ∀ j u, (scs st)[j]? = some u → (w.alloc (.cells #[] 70)).cell? (ad.add j) = some u) :
    Calls Try.prog 59 #[.slice (some ad) n c] w fun e w' => ∃ v', e = .returned v' ∧ SO w' w.heap.size v' st ∧ Ext w w' := by
  obtain ⟨i0, hi, hz0, hz1, hz2⟩ := infoS'
  have hq : ∀ (w : World) (a : Option Addr) (n c : Nat), (binOp .eql 39 (.slice a n c) (.slice none 0 0)).run Try.prog w = .ok (.bool a.isNone) w := fun w a n c => Lib.run_eql_slice_nil w _ _ a n c 0 0 Try.underlying39
  have A : Hid _ := hp
  clear hp
  go_enter Try.func59, Try.ntmps59
  go_wp2_with (at_builtin; refine wpList_append_own _ rfl _ _ 39 rfl w.heap.size 70 i0 (.agg #[.int .i64 0, .int .i64 0]) 2 16 Try.underlying39 hi hz0 hz1 hz2 rfl (by decide) _ _ _ rfl (World.ownsRow_made w #[] 0 (Nat.le_refl _) (Nat.zero_le _) rfl) ad n c (scs st) rfl ?qc1 ?qc2 ?qc3 ?qc4 ?qc5 ?qc6 ?_)
  case qc1 => rw [scs_len, hn]
  case qc2 => exact A.out
  case qc3 => exact scs_one st
  case qc4 => unfold maxLen; omega
  case qc5 => omega
  case qc6 => simp
  intro v' w1 hown hgrow hnil
  go_wp2
  go_ret
  refine ⟨v', rfl, ?_, ?_⟩
  · unfold SO; rw [hn]; simpa using hown
  · exact ((Below.refl _ w).alloc (Nat.le_refl _) _).grown hgrow (by simp) (by intro k hk; simp [Value.ownBlock] at hk; omega)
/-- A copy of stamps: the same stamps. -/
theorem cloneS_any (o : Option Addr) (c : Nat) (st : List (Int × Int)) (w : World) (hb : st.length * 16 ≤ 140737488351232) (hp : StAt w o st) :
    Calls Try.prog 59 #[.slice o st.length c] w fun e w' => ∃ v', e = .returned v' ∧ SO w' w.heap.size v' st ∧ Ext w w' := by
  cases o with
  | none =>
    have he := StAt.nil hp
    refine (cloneS_nil st.length c w).mono ?_
    rintro e w' ⟨rfl, rfl⟩
    exact ⟨_, rfl, by rw [he]; exact SO.nil _ _, Ext.refl _⟩
  | some ad =>
    exact cloneS_some ad st.length c st w rfl hb (StAt.news (hp.ext ((Ext.refl w).alloc _)))

theorem stamps_snoc {v : Int} {fs : List Int} {k : Nat} (hk : k < fs.length) : Agt.stamps v (fs.take (k + 1)) = Agt.stamps v (fs.take k) ++ [(fs.getD k 0, v)] := by
  have e : fs.getD k 0 = fs[k] := by simp [List.getD_eq_getElem?_getD, hk]
  rw [List.take_succ_eq_append_getElem hk, e]; unfold Agt.stamps; rw [List.map_append]; rfl
theorem stamps_len (v : Int) (fs : List Int) : (Agt.stamps v fs).length = fs.length := by simp [Agt.stamps]
theorem stamps_all {v : Int} {fs : List Int} {k : Nat} (h : fs.length ≤ k) : Agt.stamps v (fs.take k) = Agt.stamps v fs := by rw [List.take_of_length_le h]

set_option maxRecDepth 100000 in
set_option maxHeartbeats 800000 in
theorem stampsOf_any (fo : Option Addr) (fc : Nat) (fs : List Int) (v : Int) (w : World) (hf : ListAt w fo fs) (hl : fs.length * 16 ≤ 140737488351232) :
    Calls Try.prog 55 #[.slice fo fs.length fc, .int .i64 v] w fun e w' => ∃ v', e = .returned v' ∧ SO w' w.heap.size v' (Agt.stamps v fs) ∧ Ext w w' := by
  obtain ⟨i3, hi3, hz0, hz1, hz2⟩ := infoS'
  go_enter Try.func55, Try.ntmps55
  go_wp2
  go_loopw [5, 10] (fun ov iv wd => ∃ k : Nat, k ≤ fs.length ∧ iv = .int .i64 k ∧ Hid (SO wd w.heap.size ov (Agt.stamps v (fs.take k))) ∧ Ext w wd) (fun _ iv _ => fs.length - (intOf iv).toNat)
  case atStart => exact ⟨0, Nat.zero_le _, rfl, SO.nil _ _, Ext.refl w⟩
  case round =>
    obtain ⟨k, hk, rfl, HO, hE⟩ := hrel
    by_cases hlt : k < fs.length
    · obtain ⟨g, off, rfl, hg, hcs⟩ := (hf.ext hE).get (k := k) (by omega)
      have i1 : (k : Int) < (fs.length : Int) := by omega
      have HST : Hid _ := stamps_snoc (v := v) (fs := fs) (k := k) (by omega)
      have c0 := hcs k hlt
      obtain ⟨f, hf0⟩ : ∃ f, fs.getD k 0 = f := ⟨_, rfl⟩
      rw [hf0] at c0 HST
      clear hf0 hcs
      have hE0 := HO.out.ext ((Ext.refl wr).alloc (.cells #[.int .i64 f, .int .i64 v] 70))
      have hdl : (Agt.stamps v (fs.take k)).length = k := by rw [stamps_len]; simp; omega
      have HDL : Hid _ := hdl
      clear hdl
      have hEs := hE.size
      go_wp2_with (first | (at_builtin; refine wpList_append_own _ rfl _ _ 39 rfl w.heap.size 70 i3 (.agg #[.int .i64 0, .int .i64 0]) 2 16 Try.underlying39 hi3 hz0 hz1 hz2 rfl (by decide) _ _ _ rfl hE0 ⟨wr.heap.size, 0, none⟩ 1 1 [.int .i64 f, .int .i64 v] rfl rfl ?c1 ?c2 ?c3 ?c4 ?c5 ?_) | go_in)
      case c1 => exact cells2n rfl _ _ _
      case c2 => intro u hu; simp only [List.mem_cons, List.not_mem_nil, or_false] at hu; rcases hu with rfl | rfl <;> rfl
      case c3 => have := HDL.out; unfold maxLen; omega
      case c4 => have := HDL.out; omega
      case c5 => simp; omega
      · intro v' w5 hown5 hg5 _
        have hE5 : Ext w w5 := Below.grown (hE.alloc _) hg5 (by simp; omega) (fun j hj => (HO.out.block j hj).1)
        have HO2 : Hid (SO w5 w.heap.size v' (Agt.stamps v (fs.take (k + 1)))) := by
          show SO _ _ _ _
          rw [HST.out]
          unfold SO
          rw [scs_append]
          simpa [scs] using hown5
        clear hown5 hg5 hE0 HST
        go_wp2
        exact ⟨⟨k + 1, by omega, by go_num, HO2, hE5⟩, by simp [intOf]; omega⟩
    · have i1 : ¬ (k : Int) < (fs.length : Int) := by omega
      have HA : Hid _ := stamps_all (v := v) (fs := fs) (k := k) (by omega)
      go_wp2
      go_ret
      refine ⟨_, rfl, ?_, hE⟩
      have := HO.out
      rwa [HA.out] at this

end Go.Proofs.Ytmjddnnjjmnddad.Ag
