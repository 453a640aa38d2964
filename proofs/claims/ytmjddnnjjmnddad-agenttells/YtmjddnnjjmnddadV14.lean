/- What Drop answers of rules in memory (Next: V14n). -/
import Derived.Test.YtmjddnnjjmnddadV13
import Derived.Test.YtmjddnnjjmnddadSr0
import Derived.Deep.AppendLies
import Derived.Laws.AppendOwnNone
namespace Go.Proofs.Ytmjddnnjjmnddad.Tb
open Go.RowKit Go.Deep Rul Go.Sort

theorem drp_step {v : Int} {rs : List Ru} {k : Nat} (hk : k < rs.length) : drp (rs.take (k + 1)) v = if (rs.getD k r0).1 = v then drp (rs.take k) v else drp (rs.take k) v ++ [rs.getD k r0] := by
  have e : rs.getD k r0 = rs[k] := by simp [List.getD_eq_getElem?_getD, hk]
  rw [List.take_succ_eq_append_getElem hk, e, drp, List.filter_append]
  by_cases h : (rs[k]).1 = v
  · rw [if_pos h]; simp [h, drp]
  · rw [if_neg h]; simp [h, drp]
theorem drp_le (rs : List Ru) (v : Int) : (drp rs v).length ≤ rs.length := List.length_filter_le _ _
set_option maxRecDepth 100000 in
set_option maxHeartbeats 800000 in
theorem Drop_any (ao : Option Addr) (len cap : Nat) (rs : List Ru) (v : Int) (w : World) (hlen : rs.length = len) (hf : RsAt w ao rs) (hl : len * 24 ≤ 140737488351232) :
    Calls Try.prog 52 #[.slice ao len cap, .int .i64 v] w fun e w' => ∃ v', e = .returned v' ∧ RO w' w.heap.size v' (drp rs v) ∧ Ext w w' := by
  obtain ⟨i3, hi3, hz0, hz1, hz2⟩ := infoR'
  go_enter Try.func52, Try.ntmps52
  go_wp2
  go_loopw [5, 10] (fun ov iv wd => ∃ k : Nat, k ≤ len ∧ iv = .int .i64 k ∧ Hid (RO wd w.heap.size ov (drp (rs.take k) v)) ∧ Ext w wd) (fun _ iv _ => len - (intOf iv).toNat)
  case atStart => exact ⟨0, Nat.zero_le _, rfl, RO.nil _ _, Ext.refl w⟩
  case round =>
    obtain ⟨k, hk, rfl, HO, hE⟩ := hrel
    by_cases hlt : k < len
    · obtain ⟨g, off, rfl, hg, hcs⟩ := (hf.ext hE).get (k := k) (by omega)
      have i1 : (k : Int) < (len : Int) := by omega
      have HST : Hid _ := drp_step (v := v) (rs := rs) (k := k) (by omega)
      obtain ⟨c0, c1, c2⟩ := hcs k (by omega)
      obtain ⟨r, hr⟩ : ∃ r, rs.getD k r0 = r := ⟨_, rfl⟩
      rw [hr] at c0 c1 c2 HST
      clear hr hcs
      by_cases h1 : r.1 = v
      · have HO2 : Hid (RO (wr.alloc (.cells #[.int .i64 r.1, .int .i64 r.2.1, .int .i64 r.2.2] 59)) w.heap.size u5 (drp (rs.take (k + 1)) v)) := by
          show RO _ _ _ _
          rw [HST.out, if_pos h1]; exact HO.out.ext ((Ext.refl _).alloc _)
        have b1 : (r.1 != v) = false := by simpa using h1
        clear h1 HST
        go_wp2
        exact ⟨⟨k + 1, by omega, by go_num, HO2, hE.alloc _⟩, by simp [intOf]; omega⟩
      · have b1 : (r.1 != v) = true := by simpa using h1
        have hE0 := HO.out.ext (((Ext.refl wr).alloc (.cells #[.int .i64 r.1, .int .i64 r.2.1, .int .i64 r.2.2] 59)).alloc (.cells #[.int .i64 r.1, .int .i64 r.2.1, .int .i64 r.2.2] 59))
        have hdl : (drp (rs.take k) v).length ≤ k := Nat.le_trans (drp_le _ _) (by simp; omega)
        have hEs := hE.size
        go_wp2_with (first | (at_builtin; refine wpList_append_own _ rfl _ _ 22 rfl w.heap.size 59 i3 (.agg #[.int .i64 0, .int .i64 0, .int .i64 0]) 3 24 Try.underlying22 hi3 hz0 hz1 hz2 rfl (by decide) _ _ _ rfl hE0 ⟨wr.heap.size + 1, 0, none⟩ 1 1 [.int .i64 r.1, .int .i64 r.2.1, .int .i64 r.2.2] rfl rfl ?c1 ?c2 ?c3 ?c4 ?c5 ?_) | go_in)
        case c1 => exact cells3n (by simp) _ _ _ _
        case c2 => intro u hu; simp only [List.mem_cons, List.not_mem_nil, or_false] at hu; rcases hu with rfl | rfl | rfl <;> rfl
        case c3 => unfold maxLen; omega
        case c4 => omega
        case c5 => simp; omega
        · intro v' w5 hown5 hg5 _
          have hE5 : Ext w w5 := Below.grown ((hE.alloc _).alloc _) hg5 (by simp; omega) (fun j hj => (HO.out.block j hj).1)
          have HO2 : Hid (RO w5 w.heap.size v' (drp (rs.take (k + 1)) v)) := by
            show RO _ _ _ _
            rw [HST.out, if_neg h1]
            unfold RO
            rw [rcs_append]
            simpa [rcs] using hown5
          clear hown5 hg5 hE0 HST h1
          go_wp2
          exact ⟨⟨k + 1, by omega, by go_num, HO2, hE5⟩, by simp [intOf]; omega⟩
    · have i1 : ¬ (k : Int) < (len : Int) := by omega
      have hO := HO.out
      rw [List.take_of_length_le (by omega)] at hO
      go_wp2
      go_ret
      exact ⟨_, rfl, hO, hE⟩

end Go.Proofs.Ytmjddnnjjmnddad.Tb
