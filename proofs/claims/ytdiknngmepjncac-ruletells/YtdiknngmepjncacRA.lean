/- What the law RuleAdd answers, for all rules: true; nothing that was there is changed. -/
import Derived.Test.YtdiknngmepjncacRD
namespace Go.Proofs.Ytdiknngmepjncac.Tb
open Go.RowKit Go.Maps Stw Go.Deep Rul Go.Sort

theorem own_emptyR {W : World} {base g : Nat} (hb : base ≤ g) (h : W.heap[g]? = some (.cells #[] 54 (0, 0))) : RO W base (.slice (some ⟨g, 0, none⟩) 0 0) [] :=
  ⟨by simp [rcs], Or.inr ⟨g, 0, #[], rfl, hb, h, Nat.le_refl _, Nat.zero_le _, rfl, rfl⟩⟩
/-- Rules appended to a row of one's own, whatever slice they come in. -/
theorem append_rules {W : World} {base : Nat} {v : Value} {rs rb : List Ru} {bo : Option Addr} {lb cb : Nat} (ho : RO W base v rs) (hb : SlOk W bo lb cb rb) (hbase : base ≤ W.heap.size) (hn : (rs.length + lb) * 24 ≤ 140737488355328) :
    ∃ v' W', (∀ ty, (Builtin.append_ #[40, 40] ty #[v, .slice bo lb cb]).run Try.prog W = .ok v' W') ∧ RO W' base v' (rs ++ rb) ∧ W.grownBy W' v.ownBlock := by
  obtain ⟨i3, hi3, hz0, hz1, hz2⟩ := infoR'
  cases bo with
  | none =>
    obtain ⟨n1, n2⟩ := hb.hnil rfl
    have hrb : rb = [] := List.eq_nil_of_length_eq_zero (hb.hlen.trans n1)
    rw [n1, n2]
    exact ⟨v, W, fun ty => run_append_owned_none (P := Try.prog) (w := W) base 40 ty 54 i3 3 Try.underlying40 hi3 v _ _ ho, by rw [hrb, List.append_nil]; exact ho, Gb.refl _ _⟩
  | some ad =>
    have hlen := hb.hlen
    obtain ⟨v', W', hr, h2, h3, _⟩ := run_append_own (P := Try.prog) W base 40 40 54 i3 (.agg #[.int .i64 0, .int .i64 0, .int .i64 0]) 3 24 Try.underlying40 hi3 hz0 hz1 hz2 rfl (by decide) v rs.length (rcs rs) ho ad lb cb (rcs rb) (by rw [rcs_len, hlen]) hb.news (rcs_one rb) (by unfold maxLen; omega) hn hbase
    refine ⟨v', W', fun ty => hr, ?_, h3⟩
    exact ho.more (ls := rb) (w5 := W') (v' := v') (by rw [hlen]; exact h2)
/-- what is found of those that were added -/
theorem add_found {l more : List Ru} (h : (add l more).2 = 0) {r : Ru} (hr : r ∈ l ++ more) : nxt r.1 r.2.1 (add l more).1 = (r.2.2, true) := by
  obtain ⟨_, t2, e⟩ := add_zero h
  have hr' : r ∈ (add l more).1 := by rw [e, add_mem]; exact List.mem_append.1 hr
  obtain ⟨a, b, c⟩ := r
  exact nxt_of (tab_iff.1 t2).2.2.uniq hr'

set_option maxRecDepth 100000 in
set_option maxHeartbeats 1600000 in
theorem ruleAdd_any (ao bo : Option Addr) (la ca lb cb : Nat) (ra rb : List Ru) (w : World) (ha : SlOk w ao la ca ra) (hb : SlOk w bo lb cb rb) (hla : la * 24 ≤ 140737488351232) (hlb : lb * 24 ≤ 140737488351232) :
    Calls Try.prog 5 #[.slice ao la ca, .slice bo lb cb] w fun e w' => e = .returned (.bool true) ∧ Ext w w' := by
  have hfd := fldF
  obtain ⟨i3, hi3, hz0, hz1, hz2⟩ := infoR'
  go_enter Try.func5, Try.ntmps5
  go_wp2_with fail
  refine (alive_any _).mono ?_
  rintro e w1 ⟨rfl, E1⟩
  go_wp2_with fail
  refine (Add_any ao bo la ca lb cb ra rb _ (ha.ext E1) (hb.ext E1) (by omega) hlb).mono ?_
  rintro e w2 ⟨vo, vc, he, ok2, E2⟩
  obtain ⟨m, x, hmx, rfl⟩ : ∃ m x, add ra rb = (m, x) ∧ e = .returned (.tuple #[.slice vo m.length vc, .int .i64 x]) := ⟨_, _, rfl, he⟩
  rw [hmx] at ok2
  clear he
  have hE2 := E1.trans E2
  have okm : SlOk w2 vo m.length vc m := ok2
  clear ok2
  by_cases h0 : x = 0
  · subst h0
    have hz : (add ra rb).2 = 0 := by rw [hmx]
    have hm1 : (add ra rb).1 = m := by rw [hmx]
    have hfound : ∀ k, k < (ra ++ rb).length → nxt ((ra ++ rb).getD k r0).1 ((ra ++ rb).getD k r0).2.1 m = (((ra ++ rb).getD k r0).2.2, true) := fun k hk => by
      rw [← hm1]
      exact add_found hz (by simp only [List.getD_eq_getElem?_getD, List.getElem?_eq_getElem hk, Option.getD_some]; exact List.getElem_mem hk)
    have htab : tab m := by rw [← hm1]; exact (add_zero hz).2.1
    have hagain : add m rb = (m, 0) := by rw [← hm1]; exact add_again hz
    have hml : m.length ≤ la + lb := by rw [← hm1, ← ha.hlen, ← hb.hlen]; exact add_len
    have hra16 : la ≤ 16 := by rw [← ha.hlen]; exact (tab_iff.1 (add_zero hz).1).1
    have hm16 := (tab_iff.1 htab).1
    have HF : Hid _ := hfound
    have HTB : Hid (tab m) := htab
    have HG : Hid _ := hagain
    have hlen := ha.hlen
    have hlenb := hb.hlen
    clear hfound htab hagain hz hm1 hmx
    have hO0 : RO (w2.alloc (.cells #[] 54)) w2.heap.size (.slice (some ⟨w2.heap.size, 0, none⟩) 0 0) [] := own_emptyR (Nat.le_refl _) (heap_alloc_new w2 _)
    obtain ⟨v3, w3, hrun3, hO3, hg3⟩ := append_rules hO0 (ha.ext (hE2.alloc _)) (by simp) (by simp; omega)
    have hE3 : Ext w2 w3 := Below.grown ((Ext.refl w2).alloc _) hg3 (by simp) (fun j hj => (hO0.block j hj).1)
    rw [List.nil_append] at hO3
    obtain ⟨v4, w4, hrun4, hO4, hg4⟩ := append_rules hO3 (hb.ext (hE2.trans hE3)) hE3.size (by omega)
    have hE4 : Ext w2 w4 := Below.grown hE3 hg4 hE3.size (fun j hj => (hO3.block j hj).1)
    obtain ⟨co, cc, rfl, hat4, _, _, _⟩ := hO4.form
    have hl4 : (ra ++ rb).length = la + lb := by rw [List.length_append, hlen, hlenb]
    rw [hl4] at hrun4
    clear hO0 hO3 hO4 hg3 hg4 hE3
    go_wp2_with (first | (at_builtin; refine Lib.wpList_append_run _ rfl (.tmp 25) (.tmp 26) _ _ rfl _ _ rfl rfl _ _ (hrun3 _) ?_) | (at_builtin; refine Lib.wpList_append_run _ rfl (.tmp 27) (.tmp 28) _ _ rfl _ _ rfl rfl _ _ (hrun4 _) ?_) | go_in)
    clear hrun3 hrun4
    obtain ⟨L, hL1, hL2⟩ : ∃ L, L ≤ la + lb ∧ la + lb ≤ L := ⟨la + lb, Nat.le_refl _, Nat.le_refl _⟩
    go_loopw [31] (fun iv wd => ∃ k : Nat, k ≤ la + lb ∧ iv = .int .i64 k ∧ Ext w4 wd) (fun iv _ => la + lb - (intOf iv).toNat)
    case atStart => exact ⟨0, Nat.zero_le _, rfl, Ext.refl w4⟩
    case round =>
      obtain ⟨k, hk, rfl, hE⟩ := hrel
      by_cases hlt : k < la + lb
      · have i1 : (k : Int) < (la : Int) + lb := by omega
        have i1' : (k : Int) < ((la + lb : Nat) : Int) := by omega
        obtain ⟨g, off, rfl, hg, hcs⟩ := (hat4.ext hE).get (k := k) (by omega)
        obtain ⟨c0, c1, c2⟩ := hcs k (by omega)
        have hnx := HF.out k (by omega)
        obtain ⟨r, hr⟩ : ∃ r, (ra ++ rb).getD k r0 = r := ⟨_, rfl⟩
        rw [hr] at c0 c1 c2 hnx
        have HNX : Hid _ := hnx
        clear hr hcs hnx
        go_wp2_with fail
        refine (Next_any vo m.length vc m r.1 r.2.1 _ rfl (okm.hat.ext ((hE4.trans hE).alloc _)) (by omega)).mono ?_
        rintro e w5 ⟨he, E5⟩
        rw [HNX.out] at he
        subst he
        have b2 : w5.cell? ⟨wr.heap.size, 2, none⟩ = some (.int .i64 r.2.2) := (E5.cells.1 _ _ (by simp)).trans (by simp)
        go_wp2
        exact ⟨⟨k + 1, by omega, by go_num, (hE.alloc _).trans E5⟩, by simp [intOf]; omega⟩
      · have i1 : ¬ (k : Int) < (la : Int) + lb := by omega
        have hE5 := hE4.trans hE
        have i2 : ¬ (m.length : Int) > (la : Int) + lb := by omega
        have i3' : ¬ (la : Int) + lb < (m.length : Int) := by omega
        go_wp2_with fail
        refine (Wrong_any vo m.length vc m _ rfl (okm.hat.ext hE5) (by omega)).mono ?_
        rintro e w6 ⟨he, E6⟩
        rw [tab_wrong HTB.out] at he
        subst he
        have hE6 := hE5.trans E6
        go_wp2_with fail
        refine (Add_any vo bo m.length vc lb cb m rb _ (okm.ext hE6) (hb.ext (hE2.trans hE6)) (by omega) hlb).mono ?_
        rintro e w7 ⟨no, nc, he, ok7, E7⟩
        rw [HG.out] at he ok7
        have he' : e = .returned (.tuple #[.slice no m.length nc, .int .i64 0]) := he
        subst he'
        have ok8 : SlOk w7 no m.length nc m := ok7
        clear he ok7
        have hE7 := hE6.trans E7
        go_wp2_with fail
        refine (SameRules_same vo no m.length vc nc m _ rfl (okm.hat.ext hE7) ok8.hat (by omega)).mono ?_
        rintro e w8 ⟨rfl, E8⟩
        go_wp2
        go_ret
        exact ⟨rfl, (hE2.trans hE7).trans E8⟩
  · have hmn : m = [] := by have := add_fail (l := ra) (more := rb) (by rw [hmx]; exact h0); rwa [hmx] at this
    have h0' : (x != 0) = true := by simpa using h0
    subst hmn
    clear hmx h0
    go_wp2
    go_ret
    exact ⟨rfl, hE2⟩

end Go.Proofs.Ytdiknngmepjncac.Tb
