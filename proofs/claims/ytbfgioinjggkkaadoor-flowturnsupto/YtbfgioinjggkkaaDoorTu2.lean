/- FlowTurns answers true, for every text, all flows and every number; nothing that was there is changed. -/
import Derived.Test.YtbfgioinjggkkaaDoorTu
namespace Go.Proofs.YtbfgioinjggkkaaDoor
open Go.RowKit Go.Maps Stf Go.Sort

set_option maxRecDepth 100000 in
set_option maxHeartbeats 4000000 in
theorem turns_any (s : ByteArray) (ao : Option Addr) (len cap : Nat) (n : Int) (fs : List Fl) (w : World) (hs : s.size ≤ 9223372036854775807) (hlen : fs.length = len) (hf : FlowsAt w ao fs) (hI : I64 n) (hS : Sm2 fs) (hl : len ≤ 4611686018427387904) (hm : MaxAt w) (hT : Tab w) :
    Calls Tryd.prog 4 #[.string s, .slice ao len cap, .int .i64 n] w fun e w' => e = .returned (.bool true) ∧ Ext w w' := by
  subst hlen
  have hTB := Lib.tabBelow_of_tabIs hT
  go_enter Tryd.func4, Tryd.ntmps4
  go_wp2_with fail
  refine (alive_any w hm hT).mono ?_
  rintro e w1 ⟨rfl, E1⟩
  go_wp2_with fail
  refine (Print_any ao fs.length cap n fs _ rfl (hf.ext E1) hI hS (by omega) (hTB _ E1)).mono ?_
  rintro e w2 ⟨E2, ho⟩
  have hE2 := E1.trans E2
  rcases ho with ⟨h0, he⟩ | ⟨hw, s1, hs1, rfl⟩
  · obtain ⟨r, q, hr, rfl⟩ : ∃ r q, r ≠ 0 ∧ e = .returned (.tuple #[.string ⟨#[]⟩, .agg #[.int .i64 r, .int .i64 q]]) := ⟨_, _, h0, he⟩
    have hr' : (r == 0) = false := by simpa using hr
    clear h0 he hr
    have HE : Ext w _ := hE2.alloc (.cells #[.int .i64 r, .int .i64 q] 25)
    go_wp2_with fail
    refine (Parse_any s _ hs (hm.ext HE)).mono ?_
    rintro e v1 ⟨X1, ho⟩
    rcases ho with ⟨c, p, hq, hc, rfl⟩ | ⟨gs, bo, cap2, hq, rfl, hf2, hcap2, hn2, hsm2⟩
    · have hc' : (c != 0) = true := by simpa using hc
      clear hq hc
      go_wp2
      go_ret
      exact ⟨rfl, (HE.trans X1).alloc _⟩
    · have hst := hid (pres_text hq).1
      clear hq
      go_wp2_with fail
      refine (Print_any bo gs.length cap2 n gs _ rfl (hf2.ext ((Ext.refl _).alloc _)) hI hsm2 (by omega) (hTB _ ((HE.trans X1).alloc _))).mono ?_
      rintro e v2 ⟨X2, ho⟩
      rcases ho with ⟨h0, he⟩ | ⟨hw2, s2, hs2, rfl⟩
      · obtain ⟨r, q, hr, rfl⟩ : ∃ r q, r ≠ 0 ∧ e = .returned (.tuple #[.string ⟨#[]⟩, .agg #[.int .i64 r, .int .i64 q]]) := ⟨_, _, h0, he⟩
        have hr' : (r != 0) = true := by simpa using hr
        clear h0 he hr
        go_wp2
        go_ret
        exact ⟨rfl, (((HE.trans X1).alloc _).trans X2).alloc _⟩
      · obtain rfl : s2 = s := bytes_eq (hs2.trans hst.out.symm)
        clear hs2 hst hw2
        go_wp2
        go_ret
        exact ⟨by simp, (((HE.trans X1).alloc _).trans X2).alloc _⟩
  · by_cases h8 : n ≤ 8
    · obtain ⟨hsmF, hl2⟩ := small_flows h8 hw
      have hpr := text_pres hsmF hl2
      rw [← hs1] at hpr
      have HPR := hid hpr
      have hs1z : s1.size ≤ 2000 := by rw [Lib.size_eq, hs1]; exact hl2
      clear hpr hsmF hl2 hw
      go_wp2_with fail
      refine (Parse_any s1 _ (by omega) (hm.ext (hE2.alloc _))).mono ?_
      rintro e w3 ⟨E3, ho⟩
      rw [hs1] at ho
      rw [hs1] at HPR
      rcases ho with ⟨c, p, hq, _, _⟩ | ⟨ks, bo, cap1, hq, rfl, hf1, hcap1, hn1, hsm1⟩
      · rw [HPR.out] at hq; cases hq
      · obtain rfl : fs = ks := by rw [HPR.out] at hq; cases hq; rfl
        clear hq
        go_wp2_with fail
        refine (SameFlows_any bo ao fs.length fs.length cap1 cap fs fs _ rfl rfl (by omega) (hf1.ext ((Ext.refl _).alloc _)) (hf.ext (((hE2.alloc _).trans E3).alloc _)) hS.sm).mono ?_
        rintro e w4 ⟨he, E4⟩; rw [sameF_true rfl] at he; subst he
        have HE : Ext w _ := (((hE2.alloc (.cells #[.int .i64 0, .int .i64 0] 25)).trans E3).alloc (.cells #[.int .i64 0, .int .i64 0] 25)).trans E4
        go_wp2_with fail
        refine (Parse_any s _ hs (hm.ext HE)).mono ?_
        rintro e v1 ⟨X1, ho⟩
        rcases ho with ⟨c, p, hq, hc, rfl⟩ | ⟨gs, bo, cap2, hq, rfl, hf2, hcap2, hn2, hsm2⟩
        · have hc' : (c != 0) = true := by simpa using hc
          clear hq hc
          go_wp2
          go_ret
          exact ⟨rfl, (HE.trans X1).alloc _⟩
        · have hst := hid (pres_text hq).1
          clear hq
          go_wp2_with fail
          refine (Print_any bo gs.length cap2 n gs _ rfl (hf2.ext ((Ext.refl _).alloc _)) hI hsm2 (by omega) (hTB _ ((HE.trans X1).alloc _))).mono ?_
          rintro e v2 ⟨X2, ho⟩
          rcases ho with ⟨h0, he⟩ | ⟨hw2, s2, hs2, rfl⟩
          · obtain ⟨r, q, hr, rfl⟩ : ∃ r q, r ≠ 0 ∧ e = .returned (.tuple #[.string ⟨#[]⟩, .agg #[.int .i64 r, .int .i64 q]]) := ⟨_, _, h0, he⟩
            have hr' : (r != 0) = true := by simpa using hr
            clear h0 he hr
            go_wp2
            go_ret
            exact ⟨rfl, (((HE.trans X1).alloc _).trans X2).alloc _⟩
          · obtain rfl : s2 = s := bytes_eq (hs2.trans hst.out.symm)
            clear hs2 hst hw2
            go_wp2
            go_ret
            exact ⟨by simp, (((HE.trans X1).alloc _).trans X2).alloc _⟩
    · have HE : Ext w _ := hE2.alloc (.cells #[.int .i64 0, .int .i64 0] 25)
      go_wp2_with fail
      refine (Parse_any s _ hs (hm.ext HE)).mono ?_
      rintro e v1 ⟨X1, ho⟩
      rcases ho with ⟨c, p, hq, hc, rfl⟩ | ⟨gs, bo, cap2, hq, rfl, hf2, hcap2, hn2, hsm2⟩
      · have hc' : (c != 0) = true := by simpa using hc
        clear hq hc
        go_wp2
        go_ret
        exact ⟨rfl, (HE.trans X1).alloc _⟩
      · have hst := hid (pres_text hq).1
        clear hq
        go_wp2_with fail
        refine (Print_any bo gs.length cap2 n gs _ rfl (hf2.ext ((Ext.refl _).alloc _)) hI hsm2 (by omega) (hTB _ ((HE.trans X1).alloc _))).mono ?_
        rintro e v2 ⟨X2, ho⟩
        rcases ho with ⟨h0, he⟩ | ⟨hw2, s2, hs2, rfl⟩
        · obtain ⟨r, q, hr, rfl⟩ : ∃ r q, r ≠ 0 ∧ e = .returned (.tuple #[.string ⟨#[]⟩, .agg #[.int .i64 r, .int .i64 q]]) := ⟨_, _, h0, he⟩
          have hr' : (r != 0) = true := by simpa using hr
          clear h0 he hr
          go_wp2
          go_ret
          exact ⟨rfl, (((HE.trans X1).alloc _).trans X2).alloc _⟩
        · obtain rfl : s2 = s := bytes_eq (hs2.trans hst.out.symm)
          clear hs2 hst hw2
          go_wp2
          go_ret
          exact ⟨by simp, (((HE.trans X1).alloc _).trans X2).alloc _⟩

end Go.Proofs.YtbfgioinjggkkaaDoor
