/- What wrongRules and wrongFlows answer, for every row of rules and of numbers; nothing that was there is changed. -/
import Derived.Test.YtgffkjjddhlbpaaN1
namespace Go.Proofs.Ytgffkjjddhlbpaa.Wi
open Go.RowKit Go.Maps Go.Deep Tb Rul

def wrR (v most : Int) (rs : List Ru) : Int := if most < (rs.length : Int) then 5 else if rs.any (Wir.badR v) then 3 else 0
def wrF (most : Int) (fs : List Int) : Int := if most < (fs.length : Int) then 5 else if Wir.badF (-1) fs then 3 else 0
theorem any_step {f : Ru → Bool} {rs : List Ru} {k : Nat} (hk : k < rs.length) : (rs.drop k).any f = (f (rs.getD k r0) || (rs.drop (k + 1)).any f) := by
  have e : rs.getD k r0 = rs[k] := by simp [List.getD_eq_getElem?_getD, hk]
  rw [List.drop_eq_getElem_cons hk, List.any_cons, e]
theorem any_end {f : Ru → Bool} {rs : List Ru} {k : Nat} (hk : rs.length ≤ k) : (rs.drop k).any f = false := by rw [List.drop_eq_nil_of_le hk]; rfl
theorem badR_ver {v : Int} {r : Ru} (h : (r.1 != v) = true) : Wir.badR v r = true := by
  have : r.1 ≠ v := by simpa using h
  exact decide_eq_true (Or.inl this)
theorem badR_flow {v : Int} {r : Ru} (h : inB r.2.1 0 11 = false) : Wir.badR v r = true := by
  rw [inB_false] at h
  exact decide_eq_true (Or.inr (by omega))
theorem badR_next {v : Int} {r : Ru} (h : inB r.2.2 0 7 = false) : Wir.badR v r = true := by
  rw [inB_false] at h
  exact decide_eq_true (Or.inr (by omega))
theorem badR_ok {v : Int} {r : Ru} (h : (r.1 != v) = false) (h1 : inB r.2.1 0 11 = true) (h2 : inB r.2.2 0 7 = true) : Wir.badR v r = false := by
  rw [inB_true] at h1 h2
  have : r.1 = v := by simpa using h
  exact decide_eq_false (by omega)
theorem wrR_three {v most : Int} {rs : List Ru} {k : Nat} (hm : (rs.length : Int) ≤ most) (h : rs.any (Wir.badR v) = (rs.drop k).any (Wir.badR v)) (hk : k < rs.length) (hb : Wir.badR v (rs.getD k r0) = true) : wrR v most rs = 3 := by
  rw [wrR, if_neg (by omega), if_pos]; rw [h, any_step hk, hb]; rfl
theorem wrR_zero {v most : Int} {rs : List Ru} {k : Nat} (hm : (rs.length : Int) ≤ most) (h : rs.any (Wir.badR v) = (rs.drop k).any (Wir.badR v)) (hk : rs.length ≤ k) : wrR v most rs = 0 := by
  rw [wrR, if_neg (by omega), if_neg]; rw [h, any_end hk]; simp

set_option maxRecDepth 100000 in
set_option maxHeartbeats 1000000 in
theorem wrongRules_any (ao : Option Addr) (len cap : Nat) (rs : List Ru) (v most : Int) (w : World) (hlen : rs.length = len) (hf : RsAt w ao rs) (hl : len ≤ 4611686018427387904) :
    Calls Try.prog 42 #[.slice ao len cap, .int .i64 v, .int .i64 most] w fun e w' => e = .returned (.int .i64 (wrR v most rs)) ∧ Ext w w' := by
  by_cases hm : most < (len : Int)
  · rw [show wrR v most rs = 5 by rw [wrR, if_pos (by omega)]]
    go_enter Try.func42, Try.ntmps42
    go_wp2
    go_ret
    exact ⟨rfl, Ext.refl w⟩
  · have hm' : (rs.length : Int) ≤ most := by omega
    have HM : Hid ((rs.length : Int) ≤ most) := hm'
    clear hm'
    go_enter Try.func42, Try.ntmps42
    go_wp2
    go_loopw [15] (fun iv wd => ∃ k : Nat, k ≤ len ∧ iv = .int .i64 k ∧ Hid (rs.any (Wir.badR v) = (rs.drop k).any (Wir.badR v)) ∧ Ext w wd) (fun iv _ => len - (intOf iv).toNat)
    case atStart => exact ⟨0, Nat.zero_le _, rfl, by rw [List.drop_zero]; exact rfl, Ext.refl w⟩
    case round =>
      obtain ⟨k, hk, rfl, HW, hE⟩ := hrel
      by_cases hlt : k < len
      · obtain ⟨g, off, rfl, hg, hcs⟩ := (hf.ext hE).get (k := k) (by omega)
        have i1 : (k : Int) < (len : Int) := by omega
        have HST : Hid _ := any_step (f := Wir.badR v) (rs := rs) (k := k) (by omega)
        have HT : Hid (Wir.badR v (rs.getD k r0) = true → wrR v most rs = 3) := fun hb => wrR_three HM.out HW.out (by omega) hb
        obtain ⟨c0, c1, c2⟩ := hcs k (by omega)
        obtain ⟨r, hr⟩ : ∃ r, rs.getD k r0 = r := ⟨_, rfl⟩
        rw [hr] at c0 c1 c2 HST HT
        clear hr hcs
        cases b1 : (r.1 != v)
        · cases b2 : inB r.2.1 0 11
          · have HF : Hid _ := HT.out (badR_flow b2)
            clear HST HT HW
            go_wp2_with (go_at_call 40; refine (within_any _ _ _ _).mono ?_; rintro e w1 ⟨rfl, rfl⟩)
            go_ret
            exact ⟨by rw [HF.out]; first | done | rfl, hE.alloc _⟩
          · cases b3 : inB r.2.2 0 7
            · have HF : Hid _ := HT.out (badR_next b3)
              clear HST HT HW
              go_wp2_with (go_at_call 40; refine (within_any _ _ _ _).mono ?_; rintro e w1 ⟨rfl, rfl⟩)
              go_ret
              exact ⟨by rw [HF.out]; first | done | rfl, hE.alloc _⟩
            · have HW2 : Hid (rs.any (Wir.badR v) = (rs.drop (k + 1)).any (Wir.badR v)) := by
                show _ = _
                rw [HW.out, HST.out, badR_ok b1 b2 b3]; rfl
              clear HST HT HW
              go_wp2_with (go_at_call 40; refine (within_any _ _ _ _).mono ?_; rintro e w1 ⟨rfl, rfl⟩)
              exact ⟨⟨k + 1, by omega, by go_num, HW2, hE.alloc _⟩, by simp [intOf]; omega⟩
        · have HF : Hid _ := HT.out (badR_ver b1)
          clear HST HT HW
          go_wp2
          go_ret
          exact ⟨by rw [HF.out]; first | done | rfl, hE.alloc _⟩
      · have HF : Hid _ := wrR_zero HM.out HW.out (by omega : rs.length ≤ k)
        clear HW
        go_wp2
        go_ret
        exact ⟨by rw [HF.out]; first | done | rfl, hE⟩

def pvF (fs : List Int) : Nat → Int
  | 0 => -1
  | k + 1 => fs.getD k 0
theorem badF_step {fs : List Int} {k : Nat} (hk : k < fs.length) : Wir.badF (pvF fs k) (fs.drop k) = if fs.getD k 0 ≤ pvF fs k ∨ 11 < fs.getD k 0 then true else Wir.badF (pvF fs (k + 1)) (fs.drop (k + 1)) := by
  have e : fs.getD k 0 = fs[k] := by simp [List.getD_eq_getElem?_getD, hk]
  rw [List.drop_eq_getElem_cons hk, Wir.badF, pvF, e]
theorem badF_end {fs : List Int} {k : Nat} (hk : fs.length ≤ k) : Wir.badF (pvF fs k) (fs.drop k) = false := by rw [List.drop_eq_nil_of_le hk, Wir.badF]

set_option maxRecDepth 100000 in
set_option maxHeartbeats 1000000 in
theorem wrongFlows_any (ao : Option Addr) (len cap : Nat) (fs : List Int) (most : Int) (w : World) (hlen : fs.length = len) (hf : ListAt w ao fs) (hl : len ≤ 4611686018427387904) :
    Calls Try.prog 43 #[.slice ao len cap, .int .i64 most] w fun e w' => e = .returned (.int .i64 (wrF most fs)) ∧ Ext w w' := by
  by_cases hm : most < (len : Int)
  · rw [show wrF most fs = 5 by rw [wrF, if_pos (by omega)]]
    go_enter Try.func43, Try.ntmps43
    go_wp2
    go_ret
    exact ⟨rfl, Ext.refl w⟩
  · have hm' : (fs.length : Int) ≤ most := by omega
    have HM : Hid ((fs.length : Int) ≤ most) := hm'
    clear hm'
    go_enter Try.func43, Try.ntmps43
    go_wp2
    go_loopw [13] (fun iv wd => ∃ k : Nat, k ≤ len ∧ iv = .int .i64 k ∧ Hid (Wir.badF (-1) fs = Wir.badF (pvF fs k) (fs.drop k)) ∧ Hid (0 < k → 0 ≤ pvF fs k) ∧ Ext w wd) (fun iv _ => len - (intOf iv).toNat)
    case atStart => exact ⟨0, Nat.zero_le _, rfl, by rw [List.drop_zero]; exact rfl, (fun h => absurd h (by omega)), Ext.refl w⟩
    case round =>
      obtain ⟨k, hk, rfl, HW, HN, hE⟩ := hrel
      by_cases hlt : k < len
      · obtain ⟨g, off, rfl, hg, hcs⟩ := (hf.ext hE).get (k := k) (by omega)
        have i1 : (k : Int) < (len : Int) := by omega
        have HST : Hid _ := badF_step (fs := fs) (k := k) (by omega)
        have HT : Hid ((fs.getD k 0 ≤ pvF fs k ∨ 11 < fs.getD k 0) → wrF most fs = 3) := fun hb => by have := HM.out; rw [wrF, if_neg (by omega), if_pos]; rw [HW.out, HST.out, if_pos hb]
        have c0 := hcs k (by omega)
        have HNX : Hid (pvF fs (k + 1) = fs.getD k 0) := rfl
        obtain ⟨f, hfe⟩ : ∃ f, fs.getD k 0 = f := ⟨_, rfl⟩
        rw [hfe] at c0 HST HT HNX
        clear hfe
        cases b1 : inB f 0 11
        · have HF : Hid (wrF most fs = 3) := HT.out (by
            rw [inB_false] at b1
            cases k with
            | zero => show f ≤ -1 ∨ _; omega
            | succ k => have := HN.out (by omega); omega)
          clear HST HT HW hcs HNX HN
          go_wp2_with (go_at_call 40; refine (within_any _ _ _ _).mono ?_; rintro e w1 ⟨rfl, rfl⟩)
          go_ret
          exact ⟨by rw [HF.out]; first | done | rfl, hE⟩
        · have hb := inB_true.1 b1
          have HB : Hid (0 ≤ f ∧ f ≤ 11) := hb
          clear hb
          have HN2 : Hid (0 < k + 1 → 0 ≤ pvF fs (k + 1)) := fun _ => by rw [HNX.out]; exact HB.out.1
          by_cases hk0 : k = 0
          · subst hk0
            rw [Nat.add_zero] at c0
            have HW2 : Hid (Wir.badF (-1) fs = Wir.badF (pvF fs 1) (fs.drop 1)) := HW.out.trans (HST.out.trans (if_neg (by have := HB.out; show ¬ (f ≤ -1 ∨ _); omega)))
            clear HST HT HW hcs HNX HN
            go_wp2_with (go_at_call 40; refine (within_any _ _ _ _).mono ?_; rintro e w1 ⟨rfl, rfl⟩)
            exact ⟨⟨1, by omega, by go_num, HW2, HN2, hE⟩, by simp [intOf]; omega⟩
          · obtain ⟨j, rfl⟩ : ∃ j, k = j + 1 := ⟨k - 1, by omega⟩
            have c1 := hcs j (by omega)
            have HP : Hid (pvF fs (j + 1) = fs.getD j 0) := rfl
            obtain ⟨q, hq⟩ : ∃ q, fs.getD j 0 = q := ⟨_, rfl⟩
            rw [hq] at c1 HP
            have i2 : (j : Int) < (len : Int) := by omega
            have i0 : (0 : Int) < (j : Int) + 1 := by omega
            by_cases hqf : f ≤ q
            · have HF : Hid (wrF most fs = 3) := HT.out (Or.inl (by rw [HP.out]; exact hqf))
              clear HST HT HW hcs HNX HN HN2 HP hq
              go_wp2_with (go_at_call 40; refine (within_any _ _ _ _).mono ?_; rintro e w1 ⟨rfl, rfl⟩)
              go_ret
              exact ⟨by rw [HF.out]; first | done | rfl, hE⟩
            · have HW2 : Hid (Wir.badF (-1) fs = Wir.badF (pvF fs (j + 1 + 1)) (fs.drop (j + 1 + 1))) := HW.out.trans (HST.out.trans (if_neg (by have := HB.out; rw [HP.out]; omega)))
              clear HST HT HW hcs HNX HN HP hq
              go_wp2_with (go_at_call 40; refine (within_any _ _ _ _).mono ?_; rintro e w1 ⟨rfl, rfl⟩)
              exact ⟨⟨j + 1 + 1, by omega, by go_num, HW2, HN2, hE⟩, by simp [intOf]; omega⟩
      · have HF : Hid (wrF most fs = 0) := by show wrF most fs = 0; have := HM.out; rw [wrF, if_neg (by omega), HW.out, badF_end (by omega)]; rfl
        clear HW
        go_wp2
        go_ret
        exact ⟨by rw [HF.out]; first | done | rfl, hE⟩

end Go.Proofs.Ytgffkjjddhlbpaa.Wi
