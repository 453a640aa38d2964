/- What wrongList answers, for every flow, list and number; nothing that was there is changed. -/
import Derived.Test.YtgffkjjddhlbpaaH7
import Derived.Lib.SmallJoins
namespace Go.Proofs.Ytgffkjjddhlbpaa.Fw
open Go.RowKit Go.Maps Stf

theorem i64_le {n : Int} (h : I64 n) : n ≤ 9223372036854775807 := (Joins.in64_of_wf h).2
theorem i64_sw {s n : Int} (hn : I64 n) (h : swB s n = true) : I64 s := by
  have h1 := i64_le hn
  simp only [swB, decide_eq_true_eq] at h
  exact WalkArith.wf_i64 (by omega)
theorem take_snocI {L : List Int} {k : Nat} (h : k < L.length) : L.take (k + 1) = L.take k ++ [L.getD k 0] := by
  rw [List.take_succ_eq_append_getElem h]
  simp [List.getD_eq_getElem?_getD, h]
theorem box_kept {w wr : World} {v0 v1 v2 v3 : Value} {T : TypeId} (h : Below (w.heap.size + 1) (w.alloc (.cells #[v0, v1, v2, v3] T)) wr) : wr.cell? ⟨w.heap.size, 0, none⟩ = some v0 ∧ wr.cell? ⟨w.heap.size, 1, none⟩ = some v1 ∧ wr.cell? ⟨w.heap.size, 2, none⟩ = some v2 ∧ wr.cell? ⟨w.heap.size, 3, none⟩ = some v3 ∧ w.heap.size < wr.heap.size ∧ Ext w wr := by
  have k : w.heap.size < w.heap.size + 1 := by omega
  refine ⟨(h.cell (p := ⟨w.heap.size, 0, none⟩) k).trans (by simp), (h.cell (p := ⟨w.heap.size, 1, none⟩) k).trans (by simp), (h.cell (p := ⟨w.heap.size, 2, none⟩) k).trans (by simp), (h.cell (p := ⟨w.heap.size, 3, none⟩) k).trans (by simp), ?_, Below.trans ((Ext.refl w).alloc _) (h.mono (by omega))⟩
  have := Below.size h
  simp at this
  omega

def WLOut (w' : World) (e : Ending) (r : Int) (L : List Int) : Prop := (r = 0 ∧ ∃ m, e = .returned (.tuple #[.map (some m), .int .i64 0]) ∧ IntSet w' m L) ∨ (r ≠ 0 ∧ e = .returned (.tuple #[.map none, .int .i64 r]))
theorem wlout_bad {w' : World} {r c : Int} {L : List Int} (h : r = c) (hc : c ≠ 0) : WLOut w' (.returned (.tuple #[.map none, .int .i64 c])) r L := Or.inr ⟨by rw [h]; exact hc, by rw [h]⟩
theorem wlout_good {w' : World} {r : Int} {m : Nat} {L : List Int} (h : r = 0) (hs : IntSet w' m L) : WLOut w' (.returned (.tuple #[.map (some m), .int .i64 0])) r L := Or.inl ⟨h, m, rfl, hs⟩

set_option maxHeartbeats 2000000 in
theorem wrongList_any (a b n : Int) (fv fn : Value) (lo : Option Addr) (lc len : Nat) (L : List Int) (w : World) (hlen : L.length = len) (hL : ListAt w lo L) (hn : I64 n) (hx : len ≤ 4611686018427387904) :
    Calls Try.prog 73 #[.agg #[.int .i64 a, .int .i64 b, fv, fn], .slice lo len lc, .int .i64 n] w fun e w' => Ext w w' ∧ WLOut w' e (wlist a b n L) L := by
  have hmm := @run_makeMap Try.prog
  go_enter Try.func73, Try.ntmps73
  go_wp2
  go_loopw [16] (fun iv wr => ∃ k : Nat, k ≤ len ∧ iv = .int .i64 k ∧ (∀ j, j < k → ewl a b n L j = 0) ∧ IntSet wr (w.heap.size + 1) (L.take k) ∧ Below (w.heap.size + 1) (w.alloc (.cells #[.int .i64 a, .int .i64 b, fv, fn] 91)) wr) (fun iv _ => len - (intOf iv).toNat)
  case atStart =>
    refine ⟨0, Nat.zero_le _, rfl, fun j hj => by omega, ?_, (Below.refl _ _).alloc (by simp) _⟩
    have := IntSet.made (w.alloc (.cells #[.int .i64 a, .int .i64 b, fv, fn] 91))
    simpa using this
  case round =>
    obtain ⟨k, hk, rfl, hpre, hset, hbel⟩ := hrel
    obtain ⟨c0, c1, c2, c3, hs0, hE⟩ := box_kept hbel
    have hs1 := hset.lt
    clear c2 c3
    by_cases hlt : k < len
    · obtain ⟨bk, off, rfl, hbk, hat⟩ : ∃ bk off, lo = some ⟨bk, off, none⟩ ∧ bk < w.heap.size ∧ IntsAt w bk off L := by
        rcases hL with rfl | h
        · simp at hlen; omega
        · exact h
      have ce := (hE.cells.1 _ _ hbk).trans (hat k (by omega))
      have hbr : bk < wr.heap.size := by omega
      have hts := hid (take_snocI (L := L) (k := k) (by omega))
      obtain ⟨x, hxx⟩ : ∃ x, x = L.getD k 0 := ⟨_, rfl⟩
      rw [← hxx] at ce hts
      have HX := hid hxx
      have HP := hid hpre
      have i1 : (k : Int) < (len : Int) := by omega
      clear hxx hpre hat
      have HE : Hid (ewl a b n L k = if swB x n = false then 6 else if x = a ∨ x = b then 8 else if x ∈ L.take k then 7 else 0) := by unfold ewl; rw [HX.out]; exact hid rfl
      cases hsw : swB x n
      · have hfin : wlist a b n L = 6 := by
          have e1 : ewl a b n L k = 6 := by rw [HE.out, if_pos hsw]
          rw [wlist_bad (by omega) HP.out (by rw [e1]; decide), e1]
        have HF := hid hfin
        clear hfin
        go_wp2_with (go_at_call 72; refine (isSwitch_any _ _ _).mono ?_; rintro e w1 ⟨rfl, rfl⟩; rw [hsw])
        go_ret2
        exact ⟨hE, wlout_bad HF.out (by decide)⟩
      · have hxi : I64 x := i64_sw hn hsw
        by_cases hab : x = a ∨ x = b
        · have hfin : wlist a b n L = 8 := by
            have e1 : ewl a b n L k = 8 := by rw [HE.out, if_neg (by simp [hsw]), if_pos hab]
            rw [wlist_bad (by omega) HP.out (by rw [e1]; decide), e1]
          have HF := hid hfin
          clear hfin
          cases hxa : (x == a)
          · have hxb : (x == b) = true := by
              rcases hab with h | h
              · simp [h] at hxa
              · simp [h]
            clear hab
            go_wp2_with (go_at_call 72; refine (isSwitch_any _ _ _).mono ?_; rintro e w1 ⟨rfl, rfl⟩; rw [hsw])
            go_ret2
            exact ⟨hE, wlout_bad HF.out (by decide)⟩
          · clear hab
            go_wp2_with (go_at_call 72; refine (isSwitch_any _ _ _).mono ?_; rintro e w1 ⟨rfl, rfl⟩; rw [hsw])
            go_ret2
            exact ⟨hE, wlout_bad HF.out (by decide)⟩
        · have hxa : (x == a) = false := by simpa using fun e => hab (Or.inl e)
          have hxb : (x == b) = false := by simpa using fun e => hab (Or.inr e)
          have HAB := hid hab
          clear hab
          have hrun := hset.look hxi
          by_cases hmem : x ∈ L.take k
          · have hfin : wlist a b n L = 7 := by
              have e1 : ewl a b n L k = 7 := by rw [HE.out, if_neg (by simp [hsw]), if_neg HAB.out, if_pos hmem]
              rw [wlist_bad (by omega) HP.out (by rw [e1]; decide), e1]
            have HF := hid hfin
            rw [decide_eq_true hmem] at hrun
            clear hfin hmem
            go_wp2_with (go_at_call 72; refine (isSwitch_any _ _ _).mono ?_; rintro e w1 ⟨rfl, rfl⟩; rw [hsw])
            go_ret2
            exact ⟨hE.alloc _, wlout_bad HF.out (by decide)⟩
          · have hz : ewl a b n L k = 0 := by rw [HE.out, if_neg (by simp [hsw]), if_neg HAB.out, if_neg hmem]
            have HZ := hid hz
            rw [decide_eq_false hmem] at hrun
            clear hz hmem
            obtain ⟨w4, hrun4, hset4, hg4⟩ := (hset.ext ((Ext.refl wr).alloc (.cells #[] 147))).put hxi (by unfold maxLen; simp; omega)
            go_wp2_with (go_at_call 72; refine (isSwitch_any _ _ _).mono ?_; rintro e w1 ⟨rfl, rfl⟩; rw [hsw])
            refine ⟨⟨k + 1, by omega, by go_num, fun j hj => ?_, by rw [hts.out]; exact hset4, Below.grown (hbel.alloc (by omega) _) hg4 (by simp; omega) (fun j hj => by cases hj; omega)⟩, by simp [intOf]; omega⟩
            by_cases e : j = k
            · subst e; exact HZ.out
            · exact HP.out j (by omega)
    · have hall : L.take k = L := List.take_of_length_le (by omega)
      rw [hall] at hset
      have hfin : wlist a b n L = 0 := wlist_good (fun j hj => hpre j (by omega))
      have HF := hid hfin
      clear hfin hall
      go_wp2
      go_ret2
      exact ⟨hE, wlout_good HF.out hset⟩

end Go.Proofs.Ytgffkjjddhlbpaa.Fw
