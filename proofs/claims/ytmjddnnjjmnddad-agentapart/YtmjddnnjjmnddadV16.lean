/- What Concat of two rows of rules answers. -/
import Derived.Test.YtmjddnnjjmnddadV15
namespace Go.Proofs.Ytmjddnnjjmnddad.Tb
open Go.RowKit Go.Deep Rul Go.Sort

def cat2 (ra rb : List Ru) : Nat → List Ru
  | 0 => []
  | 1 => ra
  | _ => ra ++ rb

set_option maxRecDepth 100000 in
set_option maxHeartbeats 400000 in
theorem Concat_any (s la ca lb cb : Nat) (ao bo : Option Addr) (ra rb : List Ru) (w : World) (s0 : w.cell? ⟨s, 0, none⟩ = some (.slice ao la ca)) (s1 : w.cell? ⟨s, 1, none⟩ = some (.slice bo lb cb))
    (ha : SlOk w ao la ca ra) (hb : SlOk w bo lb cb rb) (hl : (la + lb) * 24 ≤ 140737488355328) :
    Calls Try.prog 60 #[.slice (some ⟨s, 0, none⟩) 2 2] w fun e w' => ∃ v', e = .returned v' ∧ RO w' w.heap.size v' (ra ++ rb) ∧ Ext w w' := by
  obtain ⟨i3, hi3, hz0, hz1, hz2⟩ := infoR'
  have hs : s < w.heap.size := World.block_lt_of_cell? w _ s0
  go_enter Try.func60, Try.ntmps60
  go_wp2
  go_loopw [3, 11] (fun sv iv wd => ∃ k : Nat, k ≤ 2 ∧ iv = .int .i64 k ∧ sv = .int .i64 (if k = 0 then 0 else if k = 1 then la else (la : Int) + lb) ∧ w = wd) (fun _ iv _ => 2 - (intOf iv).toNat)
  case atStart => exact ⟨0, by omega, rfl, rfl, rfl⟩
  case round =>
    obtain ⟨k, hk, rfl, rfl, rfl⟩ := hrel
    match k, hk with
    | 0, _ =>
      go_wp2
      exact ⟨⟨1, by omega, by go_num, by simp, trivial⟩, by simp [intOf]⟩
    | 1, _ =>
      go_wp2
      exact ⟨⟨2, by omega, by go_num, by simp, trivial⟩, by simp [intOf]⟩
    | 2, _ =>
      go_wp2_with fail
      have e0 : ((la + lb : Nat) : Int) = (la : Int) + lb := by omega
      refine (e0 ▸ Grow_any (la + lb) _ hl).mono ?_
      rintro e w1 ⟨v1, rfl, ho1, E1⟩
      have HO1 : Hid (RO w1 w.heap.size v1 (cat2 ra rb 0)) := ho1
      clear ho1
      go_wp2
      go_loopw [6, 27] (fun nv iv wd => ∃ k : Nat, k ≤ 2 ∧ iv = .int .i64 k ∧ Hid (RO wd w.heap.size nv (cat2 ra rb k)) ∧ Ext w wd) (fun _ iv _ => 2 - (intOf iv).toNat)
      case atStart => exact ⟨0, by omega, rfl, HO1, E1⟩
      case round =>
        clear HO1 E1
        obtain ⟨k, hk, rfl, HO, hE⟩ := hrel
        have s0' := (hE.cells.1 _ _ hs).trans s0
        have s1' := (hE.cells.1 _ _ hs).trans s1
        have hEs := hE.size
        match k, hk with
        | 0, _ =>
          have hO : RO wr w.heap.size u6 [] := HO.out
          cases ao with
          | none =>
            obtain ⟨n1, n2⟩ := ha.hnil rfl
            have hra : ra = [] := List.eq_nil_of_length_eq_zero (ha.hlen.trans n1)
            rw [n1, n2] at s0'
            clear n1 n2 s0
            have HO2 : Hid (RO wr w.heap.size u6 (cat2 ra rb 1)) := by show RO _ _ _ ra; rw [hra]; exact hO
            clear hra
            go_wp2_with (first | (at_builtin; refine wpList_append_own_none rfl _ _ 22 rfl w.heap.size 59 i3 3 Try.underlying22 hi3 _ _ _ rfl hO rfl ?_) | go_in)
            exact ⟨⟨1, by omega, by go_num, HO2, hE⟩, by simp [intOf]⟩
          | some ad =>
            have hnw := (ha.ext hE).news
            have hlen := ha.hlen
            go_wp2_with (first | (at_builtin; refine wpList_append_own _ rfl _ _ 22 rfl w.heap.size 59 i3 (.agg #[.int .i64 0, .int .i64 0, .int .i64 0]) 3 24 Try.underlying22 hi3 hz0 hz1 hz2 rfl (by decide) _ _ _ rfl hO ad la ca (rcs ra) rfl (by rw [rcs_len, hlen]) hnw (rcs_one ra) ?c3 ?c4 ?c5 ?_) | go_in)
            case c3 => unfold maxLen; simp; omega
            case c4 => simp; omega
            case c5 => exact hEs
            · intro v' w5 hown5 hg5 _
              have hE5 : Ext w w5 := Below.grown hE hg5 hEs (fun j hj => (hO.block j hj).1)
              have HO2 : Hid (RO w5 w.heap.size v' (cat2 ra rb 1)) := by
                show RO _ _ _ ra
                have := hO.more (ls := ra) (w5 := w5) (v' := v') (by rw [hlen]; simpa using hown5)
                simpa using this
              clear hown5 hg5
              go_wp2
              exact ⟨⟨1, by omega, by go_num, HO2, hE5⟩, by simp [intOf]⟩
        | 1, _ =>
          have hO : RO wr w.heap.size u6 ra := HO.out
          cases bo with
          | none =>
            obtain ⟨n1, n2⟩ := hb.hnil rfl
            have hrb : rb = [] := List.eq_nil_of_length_eq_zero (hb.hlen.trans n1)
            rw [n1, n2] at s1'
            clear n1 n2 s1
            have HO2 : Hid (RO wr w.heap.size u6 (cat2 ra rb 2)) := by show RO _ _ _ (ra ++ rb); rw [hrb, List.append_nil]; exact hO
            clear hrb
            go_wp2_with (first | (at_builtin; refine wpList_append_own_none rfl _ _ 22 rfl w.heap.size 59 i3 3 Try.underlying22 hi3 _ _ _ rfl hO rfl ?_) | go_in)
            exact ⟨⟨2, by omega, by go_num, HO2, hE⟩, by simp [intOf]⟩
          | some ad =>
            have hnw := (hb.ext hE).news
            have hlen := hb.hlen
            have hlen' := ha.hlen
            go_wp2_with (first | (at_builtin; refine wpList_append_own _ rfl _ _ 22 rfl w.heap.size 59 i3 (.agg #[.int .i64 0, .int .i64 0, .int .i64 0]) 3 24 Try.underlying22 hi3 hz0 hz1 hz2 rfl (by decide) _ _ _ rfl hO ad lb cb (rcs rb) rfl (by rw [rcs_len, hlen]) hnw (rcs_one rb) ?c3 ?c4 ?c5 ?_) | go_in)
            case c3 => unfold maxLen; omega
            case c4 => omega
            case c5 => exact hEs
            · intro v' w5 hown5 hg5 _
              have hE5 : Ext w w5 := Below.grown hE hg5 hEs (fun j hj => (hO.block j hj).1)
              have HO2 : Hid (RO w5 w.heap.size v' (cat2 ra rb 2)) := by
                show RO _ _ _ (ra ++ rb)
                exact hO.more (ls := rb) (w5 := w5) (v' := v') (by rw [hlen, hlen']; exact hown5)
              clear hown5 hg5
              go_wp2
              exact ⟨⟨2, by omega, by go_num, HO2, hE5⟩, by simp [intOf]⟩
        | 2, _ =>
          go_wp2
          go_ret
          exact ⟨_, rfl, HO.out, hE⟩

end Go.Proofs.Ytmjddnnjjmnddad.Tb
