/- What the document's own number answers, for every text and place; nothing that was there is changed. -/
import Derived.Test.YtbfgioinjggkkaaDoorG14
import Derived.Test.YtbfgioinjggkkaaDoorF6
namespace Go.Proofs.YtbfgioinjggkkaaDoor
open Go.RowKit Go.Maps Stf Go.Sort

/-- the digits at the head -/
def tw (r : Bs) : Bs := r.takeWhile dig
def rEnd (r : Bs) (a : Nat) : Nat := if (num (tw r)).isSome then a + (tw r).length else a
theorem tw_take {r : Bs} {k : Nat} (h : (r.take k).all dig = true) (hn : ∀ c, r[k]? = some c → dig c = false) : tw r = r.take k := by
  unfold tw
  conv => lhs; rw [← List.take_append_drop k r]
  rw [List.takeWhile_append_of_pos (fun c hc => List.all_eq_true.1 h c hc)]
  cases hd : r.drop k with
  | nil => simp
  | cons c t =>
    have hc : r[k]? = some c := by
      have := List.getElem?_drop (xs := r) (i := k) (j := 0)
      rw [hd] at this
      simpa using this.symm
    rw [List.takeWhile_cons_of_neg (by simp [hn c hc])]
    simp
theorem tw_long {r : Bs} {k : Nat} (h : (r.take k).all dig = true) (hk : k ≤ r.length) : k ≤ (tw r).length := by
  unfold tw
  conv => rhs; rw [← List.take_append_drop k r]
  rw [List.takeWhile_append_of_pos (fun c hc => List.all_eq_true.1 h c hc), List.length_append, List.length_take]
  omega

theorem head_take {r : Bs} {k : Nat} (hk : 1 ≤ k) : (r.take k).head? = r.head? := by
  cases r with
  | nil => simp
  | cons c t =>
    obtain ⟨m, rfl⟩ : ∃ m, k = m + 1 := ⟨k - 1, by omega⟩
    rfl
theorem fin_bad {r : Bs} {k : Nat} (hw : tw r = r.take k) (h : k = 0 ∨ (4 < k ∧ k ≤ r.length) ∨ (1 < k ∧ k ≤ r.length ∧ r.head? = some 48)) : num (tw r) = none := by
  refine num_bad (decide_eq_true ?_)
  rw [hw]
  rcases h with rfl | ⟨h, h2⟩ | ⟨h, h2, h3⟩
  · exact Or.inl (by simp)
  · exact Or.inr (Or.inl (by rw [List.length_take]; omega))
  · exact Or.inr (Or.inr ⟨by rw [List.length_take]; omega, by rw [head_take (by omega)]; exact h3⟩)
theorem fin_good {r : Bs} {k : Nat} (hw : tw r = r.take k) (ha : (r.take k).all dig = true) (hl : k ≤ r.length) (h1 : 1 ≤ k) (h4 : k ≤ 4) (h : k = 1 ∨ r.head? ≠ some 48) : num (tw r) = some (dval 0 (r.take k) : Nat) ∧ (tw r).length = k := by
  have hk : (r.take k).length = k := by rw [List.length_take]; omega
  rw [hw]
  refine ⟨num_good (decide_eq_false ?_) ha, hk⟩
  rw [hk, head_take h1]
  rintro (e | e | ⟨e, e2⟩)
  · omega
  · omega
  · rcases h with h | h
    · omega
    · exact h e2

set_option maxHeartbeats 4000000 in
theorem number_any (s : ByteArray) (a : Nat) (w : World) (hs : s.size ≤ 1000000) (ha : a ≤ s.size) :
    Calls Tryd.prog 27 #[.string s, .int .i64 a] w fun e w' => e = .returned (.tuple #[.int .i64 (numV (tw (s.data.toList.drop a))), .int .i64 (rEnd (s.data.toList.drop a) a), .bool (num (tw (s.data.toList.drop a))).isSome]) ∧ w' = w := by
  have hl : s.data.toList.length = s.size := (Lib.size_eq s).symm
  have hrl : (s.data.toList.drop a).length = s.size - a := by rw [List.length_drop, hl]
  obtain ⟨r, hr⟩ : ∃ r, r = s.data.toList.drop a := ⟨_, rfl⟩
  rw [← hr] at hrl ⊢
  have hrk : ∀ k, a + k < s.size → ∀ h : a + k < s.size, r[k]? = some (s[a + k]'h) := fun k _ h => by
    rw [hr, List.getElem?_drop]; exact byte_at h
  have hh1 : ∀ h : a < s.size, (s[a]'h).toNat = 48 → r.head? = some 48 := fun h e => by
    have := hrk 0 h h
    rw [← List.head?_eq_getElem?] at this
    rw [this]
    exact congrArg some (UInt8.toNat_inj.1 e)
  have hh2 : ∀ h : a < s.size, (s[a]'h).toNat ≠ 48 → r.head? ≠ some 48 := fun h e e2 => by
    have := hrk 0 h h
    rw [← List.head?_eq_getElem?, e2] at this
    refine e ?_
    injection this with this
    have h3 := congrArg UInt8.toNat this
    exact h3.symm
  have HH0 := hid hh1
  have HH1 := hid hh2
  have HR := hid hrk
  clear hh1 hh2
  clear hrk hr
  go_enter Tryd.func27, Tryd.ntmps27
  go_wp2
  go_loopw [7, 8] (fun nv ev wr => ∃ k : Nat, k ≤ 5 ∧ a + k ≤ s.size ∧ ev = .int .i64 ((a : Int) + k) ∧ nv = .int .i64 (dval 0 (r.take k) : Nat) ∧ (r.take k).all dig = true ∧ wr = w) (fun _ ev _ => s.size - (intOf ev).toNat)
  case atStart => exact ⟨0, by omega, by omega, by simp, by simp [dval_nil], rfl, rfl⟩
  case round =>
    obtain ⟨k, hk5, hks, rfl, rfl, hall, rfl⟩ := hrel
    have hx := dval_lt _ 0 hall
    have hp : 10 ^ (r.take k).length ≤ 10 ^ 5 := Nat.pow_le_pow_right (by omega) (by rw [List.length_take]; omega)
    obtain ⟨x, hxx⟩ : ∃ x, x = dval 0 (r.take k) := ⟨_, rfl⟩
    rw [← hxx] at hx ⊢
    have hx2 : x < 100000 := by omega
    have HX := hid hxx
    have HA := hid hall
    clear hx hp hxx hall
    by_cases hlt : a + k < s.size
    · have hb := HR.out k hlt hlt
      have hc := (s[a + k]).toNat_lt
      generalize hcc : s[a + k] = c at hb hc
      have HB := hid hb
      clear hb
      have i1 : (a : Int) + (k : Int) < (s.size : Int) := by omega
      by_cases hd : dig c = true
      · have hd' : 48 ≤ c.toNat ∧ c.toNat ≤ 57 := of_decide_eq_true hd
        have hts := take_snoc HB.out
        have hall' : (r.take (k + 1)).all dig = true := by rw [hts, List.all_append, HA.out]; simpa using hd
        have HTS := hid hts
        have HA' := hid hall'
        clear hts hall'
        by_cases h4 : k ≤ 4
        · have i2 : ¬ (4 : Int) < (k : Int) := by omega
          go_wp2
          refine ⟨⟨k + 1, by omega, by omega, by congr 1, ?_, HA'.out, trivial⟩, by simp only [intOf]; omega⟩
          rw [HTS.out, dval_snoc, ← HX.out]
          congr 1
          unfold dstep
          omega
        · have i2 : (4 : Int) < (k : Int) := by omega
          have hbad : num (tw r) = none := num_bad (decide_eq_true (Or.inr (Or.inl (by
            have := tw_long HA'.out (by omega)
            omega))))
          have HN := hid hbad
          clear hbad
          go_wp2
          go_ret3
          exact ⟨by unfold numV rEnd; rw [HN.out]; rfl, rfl⟩
      · have hd0 : dig c = false := by simpa using hd
        have htw : tw r = r.take k := tw_take HA.out (fun c' hc' => by
          have := HB.out.symm.trans hc'
          cases this
          exact hd0)
        have HW := hid htw
        have hnd : ¬ (48 ≤ c.toNat ∧ c.toNat ≤ 57) := fun h => hd (decide_eq_true h)
        clear htw hd
        have hasz : a < s.size := by omega
        have q12 : (c.toNat : Int) < 48 ∨ (¬ (c.toNat : Int) < 48 ∧ 57 < (c.toNat : Int)) := by omega
        have hcase : k = 0 ∨ 4 < k ∨ (∃ (k1 : 1 < k) (k4 : k ≤ 4), (s[a]'hasz).toNat = 48) ∨ (∃ (k1 : 1 ≤ k) (k4 : k ≤ 4), (s[a]'hasz).toNat ≠ 48) ∨ (∃ k1 : k = 1, (s[a]'hasz).toNat = 48) := by
          by_cases c0 : k = 0
          · exact Or.inl c0
          · by_cases c4 : 4 < k
            · exact Or.inr (Or.inl c4)
            · by_cases c48 : (s[a]'hasz).toNat = 48
              · by_cases c1 : k = 1
                · exact Or.inr (Or.inr (Or.inr (Or.inr ⟨c1, c48⟩)))
                · exact Or.inr (Or.inr (Or.inl ⟨by omega, by omega, c48⟩))
              · exact Or.inr (Or.inr (Or.inr (Or.inl ⟨by omega, by omega, c48⟩)))
        have HH : Hid ((s[a]'hasz).toNat = 48 → r.head? = some 48) := HH0.out (by omega)
        have HH2 : Hid ((s[a]'hasz).toNat ≠ 48 → r.head? ≠ some 48) := HH1.out (by omega)
        rcases q12 with q1 | ⟨q1, q2⟩
        · clear hnd
          rcases hcase with h0 | h4 | ⟨k1, k4, b0⟩ | ⟨k1, k4, b0⟩ | ⟨k1, b0⟩
          · have HN := hid (fin_bad HW.out (Or.inl h0))
            have j2 : ((a : Int) + (k : Int) == (a : Int)) = true := by simp [h0]
            clear h0
            go_wp2
            go_ret3
            exact ⟨by unfold numV rEnd; rw [HN.out]; rfl, rfl⟩
          · have HN := hid (fin_bad HW.out (Or.inr (Or.inl ⟨h4, by omega⟩)))
            have j1 : (4 : Int) < (k : Int) := by omega
            have j2 : ((a : Int) + (k : Int) == (a : Int)) = false := by simp; omega
            go_wp2
            go_ret3
            exact ⟨by unfold numV rEnd; rw [HN.out]; rfl, rfl⟩
          · have HN := hid (fin_bad HW.out (Or.inr (Or.inr ⟨k1, by omega, HH.out b0⟩)))
            have j1 : ¬ (4 : Int) < (k : Int) := by omega
            have j2 : ((a : Int) + (k : Int) == (a : Int)) = false := by simp; omega
            have j3 : (1 : Int) < (k : Int) := by omega
            have j4 : ((s[a].toNat : Int) == 48) = true := by simp [b0]
            have j5 : (a : Int) < (s.size : Int) := by omega
            go_wp2
            go_ret3
            exact ⟨by unfold numV rEnd; rw [HN.out]; rfl, rfl⟩
          · have HN := hid (fin_good HW.out HA.out (by omega) k1 k4 (Or.inr (HH2.out b0)))
            have j1 : ¬ (4 : Int) < (k : Int) := by omega
            have j2 : ((a : Int) + (k : Int) == (a : Int)) = false := by simp; omega
            have j4 : ((s[a].toNat : Int) == 48) = false := by simp; omega
            have j5 : (a : Int) < (s.size : Int) := by omega
            go_wp2
            go_ret3
            exact ⟨by unfold numV rEnd; rw [HN.out.1, HN.out.2, HX.out]; rfl, rfl⟩
          · have HN := hid (fin_good HW.out HA.out (by omega) (by omega) (by omega) (Or.inl k1))
            have j1 : ¬ (4 : Int) < (k : Int) := by omega
            have j2 : ((a : Int) + (k : Int) == (a : Int)) = false := by simp; omega
            have j3 : ¬ (1 : Int) < (k : Int) := by omega
            clear k1
            have j4 : ((s[a].toNat : Int) == 48) = true := by simp [b0]
            have j5 : (a : Int) < (s.size : Int) := by omega
            go_wp2
            go_ret3
            exact ⟨by unfold numV rEnd; rw [HN.out.1, HN.out.2, HX.out]; rfl, rfl⟩
        · clear hnd
          rcases hcase with h0 | h4 | ⟨k1, k4, b0⟩ | ⟨k1, k4, b0⟩ | ⟨k1, b0⟩
          · have HN := hid (fin_bad HW.out (Or.inl h0))
            have j2 : ((a : Int) + (k : Int) == (a : Int)) = true := by simp [h0]
            clear h0
            go_wp2
            go_ret3
            exact ⟨by unfold numV rEnd; rw [HN.out]; rfl, rfl⟩
          · have HN := hid (fin_bad HW.out (Or.inr (Or.inl ⟨h4, by omega⟩)))
            have j1 : (4 : Int) < (k : Int) := by omega
            have j2 : ((a : Int) + (k : Int) == (a : Int)) = false := by simp; omega
            go_wp2
            go_ret3
            exact ⟨by unfold numV rEnd; rw [HN.out]; rfl, rfl⟩
          · have HN := hid (fin_bad HW.out (Or.inr (Or.inr ⟨k1, by omega, HH.out b0⟩)))
            have j1 : ¬ (4 : Int) < (k : Int) := by omega
            have j2 : ((a : Int) + (k : Int) == (a : Int)) = false := by simp; omega
            have j3 : (1 : Int) < (k : Int) := by omega
            have j4 : ((s[a].toNat : Int) == 48) = true := by simp [b0]
            have j5 : (a : Int) < (s.size : Int) := by omega
            go_wp2
            go_ret3
            exact ⟨by unfold numV rEnd; rw [HN.out]; rfl, rfl⟩
          · have HN := hid (fin_good HW.out HA.out (by omega) k1 k4 (Or.inr (HH2.out b0)))
            have j1 : ¬ (4 : Int) < (k : Int) := by omega
            have j2 : ((a : Int) + (k : Int) == (a : Int)) = false := by simp; omega
            have j4 : ((s[a].toNat : Int) == 48) = false := by simp; omega
            have j5 : (a : Int) < (s.size : Int) := by omega
            go_wp2
            go_ret3
            exact ⟨by unfold numV rEnd; rw [HN.out.1, HN.out.2, HX.out]; rfl, rfl⟩
          · have HN := hid (fin_good HW.out HA.out (by omega) (by omega) (by omega) (Or.inl k1))
            have j1 : ¬ (4 : Int) < (k : Int) := by omega
            have j2 : ((a : Int) + (k : Int) == (a : Int)) = false := by simp; omega
            have j3 : ¬ (1 : Int) < (k : Int) := by omega
            clear k1
            have j4 : ((s[a].toNat : Int) == 48) = true := by simp [b0]
            have j5 : (a : Int) < (s.size : Int) := by omega
            go_wp2
            go_ret3
            exact ⟨by unfold numV rEnd; rw [HN.out.1, HN.out.2, HX.out]; rfl, rfl⟩
    · have i1 : ¬ ((a : Int) + (k : Int) < (s.size : Int)) := by omega
      have htw : tw r = r.take k := tw_take HA.out (fun c' hc' => by
        have := (List.getElem?_eq_some_iff.1 hc').1
        omega)
      have HW := hid htw
      clear htw
      by_cases c0 : k = 0
      · have HN := hid (fin_bad HW.out (Or.inl c0))
        have j2 : ((a : Int) + (k : Int) == (a : Int)) = true := by simp [c0]
        clear c0
        go_wp2
        go_ret3
        exact ⟨by unfold numV rEnd; rw [HN.out]; rfl, rfl⟩
      · have hasz : a < s.size := by omega
        have hcase : k = 0 ∨ 4 < k ∨ (∃ (k1 : 1 < k) (k4 : k ≤ 4), (s[a]'hasz).toNat = 48) ∨ (∃ (k1 : 1 ≤ k) (k4 : k ≤ 4), (s[a]'hasz).toNat ≠ 48) ∨ (∃ k1 : k = 1, (s[a]'hasz).toNat = 48) := by
          by_cases c0 : k = 0
          · exact Or.inl c0
          · by_cases c4 : 4 < k
            · exact Or.inr (Or.inl c4)
            · by_cases c48 : (s[a]'hasz).toNat = 48
              · by_cases c1 : k = 1
                · exact Or.inr (Or.inr (Or.inr (Or.inr ⟨c1, c48⟩)))
                · exact Or.inr (Or.inr (Or.inl ⟨by omega, by omega, c48⟩))
              · exact Or.inr (Or.inr (Or.inr (Or.inl ⟨by omega, by omega, c48⟩)))
        have HH : Hid ((s[a]'hasz).toNat = 48 → r.head? = some 48) := HH0.out (by omega)
        have HH2 : Hid ((s[a]'hasz).toNat ≠ 48 → r.head? ≠ some 48) := HH1.out (by omega)
        rcases hcase with h0 | h4 | ⟨k1, k4, b0⟩ | ⟨k1, k4, b0⟩ | ⟨k1, b0⟩
        · have HN := hid (fin_bad HW.out (Or.inl h0))
          have j2 : ((a : Int) + (k : Int) == (a : Int)) = true := by simp [h0]
          clear h0
          go_wp2
          go_ret3
          exact ⟨by unfold numV rEnd; rw [HN.out]; rfl, rfl⟩
        · have HN := hid (fin_bad HW.out (Or.inr (Or.inl ⟨h4, by omega⟩)))
          have j1 : (4 : Int) < (k : Int) := by omega
          have j2 : ((a : Int) + (k : Int) == (a : Int)) = false := by simp; omega
          go_wp2
          go_ret3
          exact ⟨by unfold numV rEnd; rw [HN.out]; rfl, rfl⟩
        · have HN := hid (fin_bad HW.out (Or.inr (Or.inr ⟨k1, by omega, HH.out b0⟩)))
          have j1 : ¬ (4 : Int) < (k : Int) := by omega
          have j2 : ((a : Int) + (k : Int) == (a : Int)) = false := by simp; omega
          have j3 : (1 : Int) < (k : Int) := by omega
          have j4 : ((s[a].toNat : Int) == 48) = true := by simp [b0]
          have j5 : (a : Int) < (s.size : Int) := by omega
          go_wp2
          go_ret3
          exact ⟨by unfold numV rEnd; rw [HN.out]; rfl, rfl⟩
        · have HN := hid (fin_good HW.out HA.out (by omega) k1 k4 (Or.inr (HH2.out b0)))
          have j1 : ¬ (4 : Int) < (k : Int) := by omega
          have j2 : ((a : Int) + (k : Int) == (a : Int)) = false := by simp; omega
          have j4 : ((s[a].toNat : Int) == 48) = false := by simp; omega
          have j5 : (a : Int) < (s.size : Int) := by omega
          go_wp2
          go_ret3
          exact ⟨by unfold numV rEnd; rw [HN.out.1, HN.out.2, HX.out]; rfl, rfl⟩
        · have HN := hid (fin_good HW.out HA.out (by omega) (by omega) (by omega) (Or.inl k1))
          have j1 : ¬ (4 : Int) < (k : Int) := by omega
          have j2 : ((a : Int) + (k : Int) == (a : Int)) = false := by simp; omega
          have j3 : ¬ (1 : Int) < (k : Int) := by omega
          clear k1
          have j4 : ((s[a].toNat : Int) == 48) = true := by simp [b0]
          have j5 : (a : Int) < (s.size : Int) := by omega
          go_wp2
          go_ret3
          exact ⟨by unfold numV rEnd; rw [HN.out.1, HN.out.2, HX.out]; rfl, rfl⟩

end Go.Proofs.YtbfgioinjggkkaaDoor
