/- What readNumber answers, for every text; nothing that was there is changed. -/
import Derived.Test.YtbfgioinjggkkaaDoorG0
namespace Go.Proofs.YtbfgioinjggkkaaDoor
open Go.RowKit Stf

theorem num_bad {l : Bs} (h : badNum l = true) : num l = none := by simp [num, h]
theorem num_nodig {l : Bs} (h : l.all dig = false) : num l = none := by simp [num, h]
theorem num_good {l : Bs} (h : badNum l = false) (hd : l.all dig = true) : num l = some (dval 0 l : Nat) := by simp [num, h, hd]
theorem byte_at {s : ByteArray} {k : Nat} (h : k < s.size) : s.data.toList[k]? = some s[k] := by
  have : s[k] = s.data[k] := rfl
  rw [this]
  simp [Array.getElem?_toList]
theorem take_snoc {l : Bs} {k : Nat} {c : UInt8} (h : l[k]? = some c) : l.take (k + 1) = l.take k ++ [c] := by rw [List.take_add_one, h]; rfl

set_option maxHeartbeats 1000000 in
theorem readNumber_any (s : ByteArray) (w : World) (hs : s.size ≤ 1000000) :
    Calls Tryd.prog 25 #[.string s] w fun e w' => e = .returned (.tuple #[.int .i64 (numV s.data.toList), .bool (num s.data.toList).isSome]) ∧ w' = w := by
  have hl : s.data.toList.length = s.size := (Lib.size_eq s).symm
  by_cases h0 : badNum s.data.toList = true
  · have hn := num_bad h0
    have e1 : numV s.data.toList = 0 := by simp [numV, hn]
    have e2 : (num s.data.toList).isSome = false := by simp [hn]
    rw [e1, e2]
    simp only [badNum, hl, decide_eq_true_eq] at h0
    generalize hq : s.data.toList.head? = q at h0
    clear hn e1 e2
    have h0' : s.size < 1 ∨ (¬ s.size < 1 ∧ 4 < s.size) ∨ (1 < s.size ∧ ¬ 4 < s.size ∧ q = some 48) := by
      by_cases k1 : s.size < 1
      · exact Or.inl k1
      · by_cases k2 : 4 < s.size
        · exact Or.inr (Or.inl ⟨k1, k2⟩)
        · rcases h0 with h | h | h
          · exact absurd h k1
          · exact absurd h k2
          · exact Or.inr (Or.inr ⟨h.1, k2, h.2⟩)
    rcases h0' with h | ⟨h, h'⟩ | ⟨h, h', h''⟩
    · clear h0 hq
      go_enter Tryd.func25, Tryd.ntmps25
      go_wp2
      all_goals go_ret2
      all_goals exact ⟨rfl, rfl⟩
    · clear h0 hq
      go_enter Tryd.func25, Tryd.ntmps25
      go_wp2
      all_goals go_ret2
      all_goals exact ⟨rfl, rfl⟩
    · have hb : s[0].toNat = 48 := by
        have := byte_at (s := s) (k := 0) (by omega)
        rw [← List.head?_eq_getElem?, hq, h''] at this
        injection this with this
        rw [← this]; rfl
      clear h0 h'' hq
      go_enter Tryd.func25, Tryd.ntmps25
      go_wp2
      all_goals go_ret2
      all_goals exact ⟨rfl, rfl⟩
  · have hgood : badNum s.data.toList = false := by simpa using h0
    simp only [badNum, hl, decide_eq_true_eq] at h0
    have h1 : ¬ s.size < 1 := by omega
    have h2 : ¬ 4 < s.size := by omega
    have h3 : ∀ h : 1 < s.size, ((s[0]'(Nat.lt_trans Nat.zero_lt_one h)).toNat : Int) ≠ 48 := by
      intro h e
      have := byte_at (s := s) (k := 0) (by omega)
      rw [← List.head?_eq_getElem?] at this
      refine h0 (Or.inr (Or.inr ⟨h, ?_⟩))
      rw [this]
      congr 1
      exact UInt8.toNat_inj.1 (by simpa using (by omega : s[0].toNat = 48))
    have HG := hid hgood
    clear h0 hgood
    rcases (show (∃ h4 : 1 < s.size, ((s[0].toNat : Int) == 48) = false) ∨ ¬ 1 < s.size by
      by_cases h4 : 1 < s.size
      · exact Or.inl ⟨h4, by simpa using h3 h4⟩
      · exact Or.inr h4) with ⟨h4, h5⟩ | h4
    all_goals
      clear h3
      go_enter Tryd.func25, Tryd.ntmps25
      go_wp2
      go_loopw [4, 26] (fun xv iv wr => ∃ k : Nat, k ≤ s.size ∧ iv = .int .i64 k ∧ xv = .int .i64 (dval 0 (s.data.toList.take k) : Nat) ∧ (s.data.toList.take k).all dig = true ∧ wr = w) (fun _ iv _ => s.size - (intOf iv).toNat)
      case atStart => exact ⟨0, Nat.zero_le _, rfl, rfl, rfl, rfl⟩
      case round =>
        obtain ⟨k, hk, rfl, rfl, hall, rfl⟩ := hrel
        by_cases hlt : k < s.size
        · have hb := byte_at hlt
          have hx := dval_lt _ 0 hall
          have hp : 10 ^ (s.data.toList.take k).length ≤ 10 ^ 3 := Nat.pow_le_pow_right (by omega) (by rw [List.length_take]; omega)
          have hc := (s[k]).toNat_lt
          generalize hcc : s[k] = c at hb hc
          generalize hxx : dval 0 (s.data.toList.take k) = x at hx
          have HA := hid hall
          have HB := hid hb
          have HX := hid hxx
          have hx2 : x < 1000 := by omega
          clear hall hb hxx hx hp
          have i1 : (k : Int) < (s.size : Int) := by omega
          by_cases hd : dig c = true
          · have hd' : 48 ≤ c.toNat ∧ c.toNat ≤ 57 := of_decide_eq_true hd
            have d1 : ¬ ((c.toNat : Int) < 48) := by omega
            have d2 : ¬ (57 < (c.toNat : Int)) := by omega
            go_wp2
            refine ⟨⟨k + 1, by omega, by go_num, ?_, ?_, trivial⟩, by simp [intOf]; omega⟩
            · rw [take_snoc HB.out, dval_snoc, HX.out]
              congr 1
              unfold dstep
              omega
            · rw [take_snoc HB.out, List.all_append, HA.out]
              simpa using hd
          · have hnd : s.data.toList.all dig = false := by
              rw [List.all_eq_false]
              exact ⟨c, List.mem_of_getElem? HB.out, hd⟩
            have hn := num_nodig hnd
            have e1 : numV s.data.toList = 0 := by simp [numV, hn]
            have e2 : (num s.data.toList).isSome = false := by simp [hn]
            have E1 := hid e1
            have E2 := hid e2
            have hd' : ¬ (48 ≤ c.toNat ∧ c.toNat ≤ 57) := fun h => hd (decide_eq_true h)
            clear hn e1 e2 hnd
            by_cases d1 : (c.toNat : Int) < 48
            · go_wp2
              go_ret2
              exact ⟨by rw [E1.out, E2.out]; rfl, rfl⟩
            · have d2 : 57 < (c.toNat : Int) := by omega
              go_wp2
              go_ret2
              exact ⟨by rw [E1.out, E2.out]; rfl, rfl⟩
        · have hks : s.data.toList.take k = s.data.toList := List.take_of_length_le (by omega)
          rw [hks] at hall ⊢
          have hn := num_good HG.out hall
          have e1 : numV s.data.toList = (dval 0 s.data.toList : Nat) := by simp [numV, hn]
          have e2 : (num s.data.toList).isSome = true := by simp [hn]
          have E1 := hid e1
          have E2 := hid e2
          clear hn e1 e2 hks hall
          go_wp2
          go_ret2
          exact ⟨by rw [E1.out, E2.out]; rfl, rfl⟩

end Go.Proofs.YtbfgioinjggkkaaDoor
