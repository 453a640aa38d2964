/- What the law RuleTells answers, for every plan, number of switches, two rows of rules and two numbers: true; nothing that was there is changed. -/
import Derived.Test.YtdiknngmepjncacV28
import Derived.Test.YtdiknngmepjncacV25
import Derived.Deep.RegionHeld3
import Derived.Laws.StructEq
namespace Go.Proofs.Ytdiknngmepjncac.Tb
open Go.RowKit Go.Maps Stw Go.Deep Rul Go.Sort

set_option maxRecDepth 100000 in
set_option maxHeartbeats 4000000 in
theorem ruleTells_any (v sw u f : Int) (fo qo ao bo : Option Addr) (fl fc ql qc la ca lb cb : Nat) (ps : List (List Int)) (ra rb : List Ru) (w : World)
    (hql : ps.length = ql) (hps : PsAt w qo ps) (hT : tot ps ps.length * 24 ≤ 140737488351232) (hqx : ql ≤ 4611686018427387904)
    (ha : SlOk w ao la ca ra) (hla : la * 24 ≤ 140737488351232) (hca : la ≤ ca) (hcx : ca ≤ 9223372036854775807) (hb : SlOk w bo lb cb rb) (hlb : lb * 24 ≤ 140737488351232) :
    Calls Try.prog 4 #[.agg #[.int .i64 v, .slice fo fl fc, .slice qo ql qc], .int .i64 sw, .slice ao la ca, .slice bo lb cb, .int .i64 u, .int .i64 f] w fun e w' => e = .returned (.bool true) ∧ Ext w w' := by
  have hfd := fldF
  obtain ⟨W0, hW0⟩ : ∃ W0, W0 = w.alloc (.cells #[.int .i64 v, .slice fo fl fc, .slice qo ql qc] 39) := ⟨_, rfl⟩
  have hE0 : Ext w W0 := by rw [hW0]; exact (Ext.refl w).alloc _
  have HP : Hid (∀ W : World, Ext W0 W → W.cell? ⟨w.heap.size, 0, none⟩ = some (.int .i64 v) ∧ W.cell? ⟨w.heap.size, 1, none⟩ = some (.slice fo fl fc) ∧ W.cell? ⟨w.heap.size, 2, none⟩ = some (.slice qo ql qc)) := fun W h => by
    subst hW0
    exact ⟨(h.cells.1 _ _ (by simp)).trans (by simp), (h.cells.1 _ _ (by simp)).trans (by simp), (h.cells.1 _ _ (by simp)).trans (by simp)⟩
  go_enter Try.func4, Try.ntmps4
  go_upto_region 1 with fail
  rw [← hW0]
  clear hW0
  go_cut [28] (fun c wc => c = .bool (decide (0 ≤ sw ∧ sw ≤ 50)) ∧ wc = W0)
  case first => as_aux_lemma =>
    by_cases h1 : 0 ≤ sw
    · by_cases h2 : sw ≤ 50
      · have hc : decide (0 ≤ sw ∧ sw ≤ 50) = true := decide_eq_true ⟨h1, h2⟩
        have HC : Hid _ := hc
        clear hc
        go_wp2
        go_meet
        case rel => exact ⟨by rw [HC.out], rfl⟩
      · have hc : decide (0 ≤ sw ∧ sw ≤ 50) = false := decide_eq_false (fun h => h2 h.2)
        have HC : Hid _ := hc
        clear hc
        go_wp2
        go_meet
        case rel => exact ⟨by rw [HC.out], rfl⟩
    · have hc : decide (0 ≤ sw ∧ sw ≤ 50) = false := decide_eq_false (fun h => h1 h.1)
      have HC : Hid _ := hc
      clear hc
      go_wp2
      go_meet
      case rel => exact ⟨by rw [HC.out], rfl⟩
  case rest => as_aux_lemma =>
    obtain ⟨rfl, rfl⟩ := hcut
    go_upto_if 28 with fail
    go_cut [13, 14] (fun _ _ wx => Ext wc wx)
    case first => as_aux_lemma =>
      by_cases hsw : 0 ≤ sw ∧ sw ≤ 50
      · rw [decide_eq_true hsw]
        obtain ⟨n, rfl⟩ : ∃ n : Nat, sw = (n : Int) := ⟨sw.toNat, by omega⟩
        have hn : n ≤ 50 := by omega
        obtain ⟨p0, p1, p2⟩ := HP.out wc (Ext.refl wc)
        clear hsw
        go_wp2_with fail
        refine (Of_any v fo qo fl fc ql qc n ps _ hql (hps.ext hE0) (by omega) hT hqx).mono ?_
        rintro e w1 ⟨vs, rfl, htb, E1⟩
        have HB : Hid _ := htb
        have hHl := htb.row.lt
        obtain ⟨H, hH⟩ : ∃ H, H = wc.heap.size + 1 := ⟨_, rfl⟩
        rw [← hH] at HB hHl ⊢
        clear htb p0 p1 p2 hH
        go_wp2
        go_loopw [38] (fun iv wd => ∃ k : Nat, k ≤ n ∧ iv = .int .i64 k ∧ Ext w1 wd) (fun iv _ => n - (intOf iv).toNat)
        case atStart => exact ⟨0, Nat.zero_le _, rfl, Ext.refl w1⟩
        case round => as_aux_lemma =>
          obtain ⟨k, hk, rfl, hE⟩ := hrel
          by_cases hkn : k < n
          · have i1 : (k : Int) < (n : Int) := by omega
            obtain ⟨tto, tc, ct0, okT0, _⟩ := (TB.ext HB.out hE).get hkn
            have hRl : (rof v k ps ql).length ≤ tot ps ql := rof_len ql
            obtain ⟨R, hR⟩ : ∃ R, R = rof v k ps ql := ⟨_, rfl⟩
            have ct : wr.cell? ⟨H, k, none⟩ = some (.slice tto R.length tc) := by rw [hR]; exact ct0
            have okT : SlOk wr tto R.length tc R := by rw [hR]; exact okT0
            rw [← hR] at hRl
            have hRl2 : R.length ≤ 4611686018427387904 := by rw [hql] at hT; omega
            have HR : Hid _ := hR
            have hEc : Ext wc wr := E1.trans hE
            have hlr : H < wr.heap.size := Nat.lt_of_lt_of_le hHl hE.size
            have HKP : Hid (∀ W : World, Ext wr W → W.cell? ⟨w.heap.size, 0, none⟩ = some (.int .i64 v) ∧ W.cell? ⟨w.heap.size, 1, none⟩ = some (.slice fo fl fc) ∧ W.cell? ⟨w.heap.size, 2, none⟩ = some (.slice qo ql qc) ∧ W.cell? ⟨H, k, none⟩ = some (.slice tto R.length tc)) := fun W h =>
              ⟨(HP.out W (hEc.trans h)).1, (HP.out W (hEc.trans h)).2.1, (HP.out W (hEc.trans h)).2.2, (h.cells.1 _ _ hlr).trans ct⟩
            have hR0 := Ext.refl wr
            have hpsr := hps.ext (hE0.trans hEc)
            clear hR ct0 okT0 ct hRl
            go_wp2
            go_region_held3 (fun W => W.cell? ⟨w.heap.size, 0, none⟩ = some (.int .i64 v) ∧ W.cell? ⟨w.heap.size, 1, none⟩ = some (.slice fo fl fc) ∧ W.cell? ⟨w.heap.size, 2, none⟩ = some (.slice qo ql qc) ∧ W.cell? ⟨H, k, none⟩ = some (.slice tto R.length tc))
              (first | exact HKP.out _ hR0.drew | exact HKP.out _ mk2 | exact HKP.out _ mk3)
              (first
                | (go_at_call 14; refine (refRules_any v k fo qo fl fc ql qc ps _ hql (hpsr.ext hR0.drew) hT hqx).mono ?_; rintro e w2 ⟨v2, rfl, ho2, E2⟩; rw [← HR.out] at ho2; obtain ⟨mo, mc, rfl, hat2, _, _, _⟩ := RO.form ho2; have mk2 : Ext wr w2 := hR0.drew.trans E2; clear ho2 E2)
                | (go_at_call 13; refine (SameRules_same tto mo R.length tc mc R _ rfl (okT.hat.ext mk2) hat2 hRl2).mono ?_; rintro e w3 ⟨rfl, E3⟩; have mk3 : Ext wr w3 := mk2.trans E3))
            go_wp2
            exact ⟨⟨k + 1, by omega, by go_num, hE.trans mk3⟩, by simp [intOf]; omega⟩
          · have i1 : ¬ (k : Int) < (n : Int) := by omega
            go_wp2
            go_meet
            case rel => exact E1.trans hE
      · rw [decide_eq_false hsw]
        go_wp2
        go_meet
        case rel => exact Ext.refl _
    case rest => as_aux_lemma =>
      have hE1 : Ext w wc := hE0.trans hcut
      clear hcut HP hps
      obtain ⟨x, hx⟩ : ∃ x, x = (Rul.wrong ra).1 := ⟨_, rfl⟩
      obtain ⟨y, hy⟩ : ∃ y, y = (Rul.wrong ra).2 := ⟨_, rfl⟩
      go_wp2_with fail
      refine (Wrong_any ao la ca ra _ ha.hlen (ha.hat.ext hE1) (by omega)).mono ?_
      rintro e w1 ⟨he, E1⟩
      rw [← hx, ← hy] at he
      subst he
      have hE2 := hE1.trans E1
      go_wp2_with fail
      refine (refWrong_any ao la ca ra _ ha.hlen (ha.hat.ext hE2) (by omega)).mono ?_
      rintro e w2 ⟨he, E2⟩
      rw [← hx, ← hy] at he
      subst he
      have hE3 := hE2.trans E2
      go_wp2_with fail
      refine (refWrong_any ao la ca ra _ ha.hlen (ha.hat.ext hE3) (by omega)).mono ?_
      rintro e w3 ⟨he, E3⟩
      rw [← hx, ← hy] at he
      subst he
      have hE4 := hE3.trans E3
      clear E1 E2 E3 hE1 hE2 hE3 hy
      by_cases h0 : x = 0
      · have ht : tab ra := by unfold tab; rw [← hx, h0]
        have hl16 := (tab_iff.1 ht).1
        have hlen := ha.hlen
        have hlenb := hb.hlen
        have hadd := add_len (l := ra) (more := rb)
        subst h0
        clear ht hx
        go_wp2_with fail
        refine (Add_any ao bo la ca lb cb ra rb _ (ha.ext hE4) (hb.ext hE4) (by omega) hlb).mono ?_
        rintro e w5 ⟨mo, mc, he, ok5, E5⟩
        obtain ⟨m, z, hmz, rfl⟩ : ∃ m z, add ra rb = (m, z) ∧ e = .returned (.tuple #[.slice mo m.length mc, .int .i64 z]) := ⟨_, _, rfl, he⟩
        rw [hmz] at ok5 hadd
        have okm : SlOk w5 mo m.length mc m := ok5
        have hml : m.length ≤ la + lb := by rw [← hlen, ← hlenb]; exact hadd
        have HMZ : Hid _ := hmz
        clear he ok5 hadd hmz
        have hE5 := hE4.trans E5
        go_wp2_with fail
        refine (refAdd_any ao bo la ca lb cb ra rb _ (ha.ext hE5) (hb.ext hE5) (by omega) hlb hca hcx).mono ?_
        rintro e w6 ⟨no, nc, he, ok6, E6⟩
        rw [HMZ.out] at he ok6
        have he' : e = .returned (.tuple #[.slice no m.length nc, .int .i64 z]) := he
        subst he'
        have okn : SlOk w6 no m.length nc m := ok6
        have hE6 := hE5.trans E6
        clear he ok6 HMZ
        go_wp2_with fail
        refine (Next_any ao la ca ra u f _ hlen (ha.hat.ext hE6) (by omega)).mono ?_
        rintro e w7 ⟨he, E7⟩
        obtain ⟨a, b, hab, rfl⟩ : ∃ a b, nxt u f ra = (a, b) ∧ e = .returned (.tuple #[.int .i64 a, .bool b]) := ⟨_, _, rfl, he⟩
        have HAB : Hid _ := hab
        have hE7 := hE6.trans E7
        clear he hab
        go_wp2_with fail
        refine (refNext_any ao la ca ra u f _ hlen (ha.hat.ext hE7) (by omega)).mono ?_
        rintro e w8 ⟨he, E8⟩
        rw [HAB.out] at he
        subst he
        have hE8 := hE7.trans E8
        go_wp2_with fail
        refine (SameRules_same mo no m.length mc nc m _ rfl (okm.hat.ext ((E6.trans E7).trans E8)) (okn.hat.ext (E7.trans E8)) (by omega)).mono ?_
        rintro e w9 ⟨rfl, E9⟩
        have hE9 := hE8.trans E9
        clear okm okn E5 E6 E7 E8 E9 hE4 hE5 hE6 hE7 hE8 HAB
        go_wp2_with fail
        refine (Drop_any ao la ca ra u _ hlen (ha.hat.ext hE9) hla).mono ?_
        rintro e w10 ⟨v10, rfl, ho10, E10⟩
        obtain ⟨do1, dc1, rfl, hat10, _, _, _⟩ := ho10.form
        have hE10 := hE9.trans E10
        have hdl := drp_le ra u
        obtain ⟨D, hD⟩ : ∃ D, D = drp ra u := ⟨_, rfl⟩
        rw [← hD] at hat10 hdl ⊢
        have HD : Hid _ := hD
        clear ho10 hD
        go_wp2_with fail
        refine (refDrop_any ao la ca ra u _ hlen (ha.hat.ext hE10) hla).mono ?_
        rintro e w11 ⟨v11, rfl, ho11, E11⟩
        rw [← HD.out] at ho11
        obtain ⟨do2, dc2, rfl, hat11, _, _, _⟩ := ho11.form
        have hE11 := hE10.trans E11
        clear ho11
        go_wp2_with fail
        refine (SameRules_same do1 do2 D.length dc1 dc2 D _ rfl (hat10.ext E11) hat11 (by omega)).mono ?_
        rintro e w12 ⟨rfl, E12⟩
        have hE12 := hE11.trans E12
        clear hat10 hat11 HD
        go_wp2
        go_ret
        exact ⟨by simp, hE12⟩
      · have h0' : (x != 0) = true := by simpa using h0
        clear hx h0
        go_wp2
        go_ret
        exact ⟨rfl, hE4⟩

end Go.Proofs.Ytdiknngmepjncac.Tb
