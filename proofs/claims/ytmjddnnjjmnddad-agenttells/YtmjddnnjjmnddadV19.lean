/- What Add answers, for all rows of rules. -/
import Derived.Test.YtmjddnnjjmnddadV11
import Derived.Test.YtmjddnnjjmnddadV16
import Derived.Test.YtmjddnnjjmnddadV18
namespace Go.Proofs.Ytmjddnnjjmnddad.Tb
open Go.RowKit Go.Deep Rul Go.Sort

set_option maxHeartbeats 400000 in
theorem ins_zero (ao : Option Addr) (cap : Nat) (w : World) : Calls Try.prog 66 #[.slice ao 0 cap, .int .i64 0, .int .i64 0, CB] w fun e w' => e = .returned (.tuple #[]) ∧ w' = w := by
  go_enter Try.func66, Try.ntmps66
  go_wp2
  go_loopw [8] (fun iv wr => iv = .int .i64 1 ∧ w = wr) (fun _ _ => 0)
  case atStart => exact ⟨rfl, rfl⟩
  case round =>
    obtain ⟨rfl, rfl⟩ := hrel
    go_wp2
    go_end0
    exact ⟨rfl, rfl⟩
set_option maxHeartbeats 400000 in
theorem stable_zero (ao : Option Addr) (cap : Nat) (w : World) : Calls Try.prog 65 #[.slice ao 0 cap, .int .i64 0, CB] w fun e w' => e = .returned (.tuple #[]) ∧ w' = w := by
  go_enter Try.func65, Try.ntmps65
  go_wp2
  go_loopw [7, 8] (fun av bv wr => av = .int .i64 0 ∧ bv = .int .i64 20 ∧ w = wr) (fun _ _ _ => 0)
  case atStart => exact ⟨rfl, rfl, rfl⟩
  case round =>
    obtain ⟨rfl, rfl, rfl⟩ := hrel
    go_wp2_with fail
    refine (ins_zero ao cap w).mono ?_
    rintro e w' ⟨rfl, rfl⟩
    go_wp2
    go_loopw [6] (fun cv wr => cv = .int .i64 20 ∧ w' = wr) (fun _ _ => 0)
    case atStart => exact ⟨rfl, rfl⟩
    case round =>
      obtain ⟨rfl, rfl⟩ := hrel
      go_wp2
      go_end0
      exact ⟨rfl, rfl⟩
set_option maxHeartbeats 400000 in
theorem SortStable_zero (ao : Option Addr) (cap : Nat) (w : World) : Calls Try.prog 61 #[.slice ao 0 cap, CB] w fun e w' => e = .returned (.tuple #[]) ∧ w' = w := by
  go_enter Try.func61, Try.ntmps61
  go_wp2_with fail
  refine (stable_zero ao cap _).mono ?_
  rintro e w' ⟨rfl, rfl⟩
  go_wp2
  go_end0
  exact ⟨rfl, rfl⟩
set_option maxHeartbeats 400000 in
theorem Compact_short (ao : Option Addr) (n cap : Nat) (w : World) (hn : n < 2) : Calls Try.prog 62 #[.slice ao n cap] w fun e w' => e = .returned (.slice ao n cap) ∧ w' = w := by
  have i1 : (n : Int) < 2 := by omega
  go_enter Try.func62, Try.ntmps62
  go_wp2
  go_ret
  exact ⟨rfl, rfl⟩

/-- Sorted, and made shorter: one step for both, whatever the row is. -/
theorem sortCompact (v : Value) (rs : List Ru) (w W : World) (hE : Ext w W) (hbase : w.heap.size ≤ W.heap.size) (ho : RO W w.heap.size v rs) (hl : rs.length ≤ 1152921504606846976) :
    ∃ ao cap, v = .slice ao rs.length cap ∧ (Calls Try.prog 61 #[.slice ao rs.length cap, CB] W fun e w1 => e = .returned (.tuple #[]) ∧ Ext w w1 ∧
      Calls Try.prog 62 #[.slice ao rs.length cap] w1 fun e w2 => e = .returned (.slice ao (dd (sst rs)).length cap) ∧ SlOk w2 ao (dd (sst rs)).length cap (dd (sst rs)) ∧ Ext w w2) ∧ rs.length ≤ cap ∧ cap ≤ 9223372036854775807 := by
  by_cases h0 : rs.length = 0
  · have hrs : rs = [] := List.eq_nil_of_length_eq_zero h0
    subst hrs
    obtain ⟨ao, cap, hv, hat, hnil, _, hcm⟩ := ho.form
    refine ⟨ao, cap, hv, (SortStable_zero ao cap W).mono ?_, Nat.zero_le _, by unfold maxLen at hcm; omega⟩
    rintro e w' ⟨he, rfl⟩
    refine ⟨he, hE, (Compact_short ao 0 cap _ (by omega)).mono ?_⟩
    rintro e w' ⟨he, rfl⟩
    exact ⟨he, ⟨rfl, Or.inl rfl, fun h => ⟨rfl, (hnil h).2⟩⟩, hE⟩
  · obtain ⟨b, cap, hv, hb, hnc, hm, hrow⟩ := ho.rw (by omega)
    have hlen : rs.toArray.size = rs.length := by simp
    refine ⟨some ⟨b, 0, none⟩, cap, hv, (SortStable_any b (cap * 3) cap rs.length rs.toArray W hlen hrow hl).mono ?_, hnc, by unfold maxLen at hm; omega⟩
    rintro e w1 ⟨he, d1, hd1, r1, g1⟩
    have hd1' : d1.toList = sst rs := by simpa using hd1
    have hE1 : Ext w w1 := Below.grown hE g1 hbase (fun k hk => by cases hk; exact hb)
    have hs1 : d1.size = rs.length := by rw [← Array.length_toList, hd1', sst_len]
    refine ⟨he, hE1, ?_⟩
    by_cases h2 : rs.length < 2
    · refine (Compact_short _ rs.length cap w1 h2).mono ?_
      rintro e w' ⟨he, rfl⟩
      have hdd : dd (sst rs) = sst rs := dd_short (by rw [sst_len]; exact h2)
      rw [hdd]
      refine ⟨by rw [he, sst_len], ⟨rfl, ?_, fun h => by cases h⟩, hE1⟩
      rw [← hd1']; exact r1.rs
    · refine (Compact_row b (cap * 3) cap rs.length d1 w1 r1 hs1 (by omega) hnc (by unfold maxLen at hm; omega)).mono ?_
      rintro e w2 ⟨he, hat, g2⟩
      rw [hd1'] at he hat
      exact ⟨he, ⟨rfl, hat, fun h => by cases h⟩, Below.grown hE1 g2 (by have := g1.size; omega) (fun k hk => by cases hk; exact hb)⟩

set_option maxRecDepth 100000 in
set_option maxHeartbeats 800000 in
theorem Add_cap (ao bo : Option Addr) (la ca lb cb : Nat) (ra rb : List Ru) (w : World) (ha : SlOk w ao la ca ra) (hb : SlOk w bo lb cb rb) (hla : la ≤ 9223372036854775807) (hlb : lb * 24 ≤ 140737488351232) :
    Calls Try.prog 50 #[.slice ao la ca, .slice bo lb cb] w fun e w' => ∃ vo vc, e = .returned (.tuple #[.slice vo (add ra rb).1.length vc, .int .i64 (add ra rb).2]) ∧ SlOk w' vo (add ra rb).1.length vc (add ra rb).1 ∧ ((add ra rb).1.length ≤ vc ∧ vc ≤ 9223372036854775807) ∧ Ext w w' := by
  obtain ⟨x, hx⟩ : ∃ x, x = (Rul.wrong ra).1 := ⟨_, rfl⟩
  go_enter Try.func50, Try.ntmps50
  go_wp2_with fail
  refine (Wrong_any ao la ca ra _ ha.hlen ha.hat hla).mono ?_
  rintro e w1 ⟨he, E1⟩
  obtain ⟨xat, rfl⟩ : ∃ xat, e = .returned (.agg #[.int .i64 x, .int .i64 xat]) := ⟨_, by rw [hx]; exact he⟩
  clear he
  by_cases h0 : x = 0
  · have ht : tab ra := by unfold tab; rw [← hx, h0]
    have HT : Hid _ := ht
    have hl16 := (tab_iff.1 ht).1
    have hlen := ha.hlen
    clear ht hx
    subst h0
    go_wp2_with fail
    refine (Concat_any (w1.heap.size + 1) la ca lb cb ao bo ra rb _ (by simp) (by simp) (ha.ext ((E1.alloc _).alloc _)) (hb.ext ((E1.alloc _).alloc _)) (by omega)).mono ?_
    rintro e w2 ⟨v1, rfl, ho, E2⟩
    have hE2 : Ext w w2 := ((E1.alloc _).alloc _).trans E2
    have hlr : (ra ++ rb).length = la + lb := by rw [List.length_append, hlen, hb.hlen]
    have hs2 := hE2.size
    have ho' : RO w2 w.heap.size v1 (ra ++ rb) := by
      refine ⟨ho.1, ?_⟩
      rcases ho.2 with h | ⟨g, cap, cur, h1, h2, h3⟩
      · exact Or.inl h
      · exact Or.inr ⟨g, cap, cur, h1, Nat.le_trans ((E1.alloc _).alloc _).size h2, h3⟩
    obtain ⟨vo, vc, rfl, hc, hcl, hcm⟩ := sortCompact v1 (ra ++ rb) w w2 hE2 hs2 ho' (by omega)
    rw [hlr] at hc
    have HC : Hid _ := hc
    have HCL : Hid (la + lb ≤ vc ∧ vc ≤ 9223372036854775807) := ⟨by rw [← hlr]; exact hcl, hcm⟩
    clear hcl hcm hc ho ho' E2 E1
    go_wp2_with fail
    refine Calls.mono HC.out ?_
    rintro e w3 ⟨rfl, hE3, hc3⟩
    have HC3 : Hid _ := hc3
    clear hc3 HC
    go_wp2_with fail
    refine Calls.mono HC3.out ?_
    rintro e w4 ⟨rfl, hok, hE4⟩
    have hdl : (dd (sst (ra ++ rb))).length ≤ la + lb := by
      refine Nat.le_trans (dd_len _) ?_
      rw [sst_len, hlr]; exact Nat.le_refl _
    obtain ⟨z, hz⟩ : ∃ z, z = dd (sst (ra ++ rb)) := ⟨_, rfl⟩
    rw [← hz] at hok hdl ⊢
    have HZ : Hid _ := hz
    clear hz HC3 hE3 hE2
    go_wp2_with fail
    refine (Wrong_any vo z.length vc z _ rfl hok.hat (by omega)).mono ?_
    rintro e w5 ⟨he, E5⟩
    obtain ⟨y, hy⟩ : ∃ y, y = (Rul.wrong z).1 := ⟨_, rfl⟩
    obtain ⟨yat, rfl⟩ : ∃ yat, e = .returned (.agg #[.int .i64 y, .int .i64 yat]) := ⟨_, by rw [hy]; exact he⟩
    clear he
    have h1 : (Rul.wrong ra).1 = 0 := HT.out
    by_cases h3 : y = 0
    · have hadd : add ra rb = (z, 0) := by unfold add; rw [if_neg (by rw [h1]; simp), ← HZ.out, if_neg (by rw [← hy, h3]; simp)]
      have HA : Hid _ := hadd
      clear hadd hy h1
      subst h3
      go_wp2
      go_ret2
      rw [HA.out]
      exact ⟨vo, vc, rfl, hok.ext (E5.alloc _), ⟨Nat.le_trans hdl HCL.out.1, HCL.out.2⟩, (hE4.trans E5).alloc _⟩
    · have hadd : add ra rb = ([], y) := by unfold add; rw [if_neg (by rw [h1]; simp), ← HZ.out, if_pos (by rw [← hy]; exact h3), ← hy]
      have HA : Hid _ := hadd
      have h0' : (y != 0) = true := by simpa using h3
      clear hadd hy h3 h1
      go_wp2
      go_region
      go_wp2
      go_ret2
      rw [HA.out]
      exact ⟨none, 0, rfl, ⟨rfl, Or.inl rfl, fun _ => ⟨rfl, rfl⟩⟩, ⟨Nat.le_refl _, Nat.zero_le _⟩, ((hE4.trans E5).alloc _).drew⟩
  · have hadd : add ra rb = ([], x) := by unfold add; rw [if_pos (by rw [← hx]; exact h0), ← hx]
    have HA : Hid _ := hadd
    have h0' : (x != 0) = true := by simpa using h0
    clear hadd hx h0
    go_wp2
    go_region
    go_wp2
    go_ret2
    rw [HA.out]
    exact ⟨none, 0, rfl, ⟨rfl, Or.inl rfl, fun _ => ⟨rfl, rfl⟩⟩, ⟨Nat.le_refl _, Nat.zero_le _⟩, (E1.alloc _).drew⟩
theorem Add_any (ao bo : Option Addr) (la ca lb cb : Nat) (ra rb : List Ru) (w : World) (ha : SlOk w ao la ca ra) (hb : SlOk w bo lb cb rb) (hla : la ≤ 9223372036854775807) (hlb : lb * 24 ≤ 140737488351232) :
    Calls Try.prog 50 #[.slice ao la ca, .slice bo lb cb] w fun e w' => ∃ vo vc, e = .returned (.tuple #[.slice vo (add ra rb).1.length vc, .int .i64 (add ra rb).2]) ∧ SlOk w' vo (add ra rb).1.length vc (add ra rb).1 ∧ Ext w w' :=
  (Add_cap ao bo la ca lb cb ra rb w ha hb hla hlb).mono (fun _ _ ⟨vo, vc, h1, h2, _, h3⟩ => ⟨vo, vc, h1, h2, h3⟩)

end Go.Proofs.Ytmjddnnjjmnddad.Tb
