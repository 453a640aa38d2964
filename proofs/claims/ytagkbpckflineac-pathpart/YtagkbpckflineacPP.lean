/- PathPart answers true, for every net and numbers; nothing that was there is changed. -/
import Derived.Test.YtagkbpckflineacP8
import Derived.Test.YtagkbpckflineacPL0
namespace Go.Proofs.Ytagkbpckflineac
open Go.RowKit Go.Maps Stw Go.Deep Stp

theorem plain_right {n a b : Int} (ha : 0 ≤ a ∧ a < n) (hb : 0 ≤ b ∧ b < n) (hab : a ≠ b) : Stf.wflow ⟨a, b, [], []⟩ n = 0 := by
  have h1 : Stf.swB a n = true := by simp [Stf.swB, ha]
  have h2 : Stf.swB b n = true := by simp [Stf.swB, hb]
  have h3 : Stf.wlist a b n [] = 0 := Stf.wlist_good (fun j hj => by simp at hj)
  simp [Stf.wflow, h1, h2, hab, h3]

/-- A part of a cheapest path is one. -/
theorem fnd_part {n : Int} {ls : List Lk} {a b : Int} {k : Nat} (h1 : (fnd n ls ⟨a, b, [], []⟩).1 = 0) (hk : k + 1 < (fnd n ls ⟨a, b, [], []⟩).2.length) :
    (fnd n ls ⟨(fnd n ls ⟨a, b, [], []⟩).2.getD k 0, b, [], []⟩).1 = 0 ∧ Right n ls ∧ pathB n ls ((fnd n ls ⟨a, b, [], []⟩).2.drop k) = true ∧ pathB n ls (fnd n ls ⟨(fnd n ls ⟨a, b, [], []⟩).2.getD k 0, b, [], []⟩).2 = true ∧
      pc (cost ls) ((fnd n ls ⟨a, b, [], []⟩).2.drop k) = pc (cost ls) (fnd n ls ⟨(fnd n ls ⟨a, b, [], []⟩).2.getD k 0, b, [], []⟩).2 := by
  rcases fnd_cases (n := n) (ls := ls) (f := ⟨a, b, [], []⟩) with h | h | ⟨_, hr, hF, hb⟩
  · exact absurd h1 h.1
  · omega
  · obtain ⟨p, hp⟩ : ∃ p, p = (fnd n ls ⟨a, b, [], []⟩).2 := ⟨_, rfl⟩
    rw [← hp] at hk hb ⊢
    simp only at hb
    clear hp h1
    have hC : ∀ x y, 0 ≤ cost ls x y := fun x y => (hr.cost x y).1
    have hdrop : p.drop k = p.getD k 0 :: p.drop (k + 1) := by
      rw [getD_eq (by omega : k < p.length)]
      exact List.drop_eq_getElem_cons (by omega)
    have hsplit : p = p.take k ++ p.getD k 0 :: p.drop (k + 1) := by rw [← hdrop, List.take_append_drop]
    have hpp := hb.1.toPth
    have hall := ((pathB_iff hr).1 (hpp.path hr hF.fr)).2.1
    obtain ⟨x, hx⟩ : ∃ x, x = p.getD k 0 := ⟨_, rfl⟩
    have hxm : x ∈ p := by rw [hx, getD_eq (by omega : k < p.length)]; exact List.getElem_mem _
    have hxr := hall x hxm
    have hbest : IsBest (cost ls) a b [] [] (p.take k ++ x :: p.drop (k + 1)) (pc (cost ls) p) := by rw [hx, ← hsplit]; exact hb
    obtain ⟨hs, hmin⟩ := part_best hC hbest
    have hxb : x ≠ b := by
      intro e
      have hl := hs.last
      have hne : p.drop (k + 1) ≠ [] := by
        intro e2
        have := congrArg List.length e2
        simp at this
        omega
      have hm := lst_mem hne
      have hl2 : lst (x :: p.drop (k + 1)) = lst (p.drop (k + 1)) := by
        cases hd : p.drop (k + 1) with
        | nil => exact absurd hd hne
        | cons c r => rfl
      rw [hl2] at hl
      rw [hl, ← e] at hm
      exact (List.nodup_cons.1 hs.nd).1 hm
    have hw : (wrong n ls).1 = 0 := by rw [hr.wrong]
    have hwf := plain_right hxr hF.to hxb
    have hpx : pathB n ls (p.drop k) = true := by rw [hdrop, ← hx]; exact hs.toPth.path hr hxr
    rw [← hx]
    rcases fnd_cases (n := n) (ls := ls) (f := ⟨x, b, [], []⟩) with ⟨h, h9, _⟩ | ⟨h, _, _, _, h'⟩ | ⟨h, _, hF2, hb2⟩
    · exfalso
      unfold fnd at h h9
      rw [if_neg (by simp [hw]), if_neg (by simp [hwf])] at h h9
      cases hfi : find (cost ls) x b [] [] with
      | none => rw [hfi] at h9; exact h9 rfl
      | some y => rw [hfi] at h; exact h rfl
    · exact absurd hs (h' _)
    · refine ⟨h, hr, hpx, hb2.1.toPth.path hr hF2.fr, ?_⟩
      have m1 := hmin _ hb2.1.toPth
      rw [hdrop, ← hx]
      rcases hb2.2.2 _ hs with h3 | ⟨h3, _⟩
      · omega
      · exact h3.symm

theorem ints_drop {w : World} {b off k : Nat} {p : List Int} (h : IntsAt w b off p) : IntsAt w b (off + k) (p.drop k) := by
  intro i hi
  simp only [List.length_drop] at hi
  have := h (k + i) (by omega)
  rw [Nat.add_assoc, this]
  simp [List.getD_eq_getElem?_getD, List.getElem?_drop]

set_option maxRecDepth 100000 in
set_option maxHeartbeats 2000000 in
theorem pathPart_any (n : Int) (ao : Option Addr) (len cap : Nat) (ls : List Lk) (a b at' : Int) (w : World) (hlen : ls.length = len) (hl : NetAt w ao ls) (hx : len ≤ 9223372036854775807) (hI : I64 n) :
    Calls Try.prog 3 #[.agg #[.int .i64 n, .slice ao len cap], .int .i64 a, .int .i64 b, .int .i64 at'] w fun e w' => e = .returned (.bool true) ∧ Ext w w' := by
  go_enter Try.func3, Try.ntmps3
  go_wp2_with fail
  refine (alive_any _).mono ?_
  rintro e w1 ⟨rfl, E1⟩
  have hw1 : Ext w w1 := ((Ext.refl w).alloc _).trans E1
  have hs1 : w.heap.size < w1.heap.size := by have := E1.size; simp at this; omega
  have c0 : w1.cell? ⟨w.heap.size, 0, none⟩ = some (.int .i64 n) := (E1.cells.1 _ _ (by simp)).trans (by simp)
  have c1 : w1.cell? ⟨w.heap.size, 1, none⟩ = some (.slice ao len cap) := (E1.cells.1 _ _ (by simp)).trans (by simp)
  go_wp2_with fail
  refine (Find_any n ao len cap ls ⟨a, b, [], []⟩ none none 0 0 _ hlen (hl.ext hw1) hx hI (Or.inl rfl) (Nat.zero_le _) (Nat.le_refl _) (Or.inl rfl) (Nat.zero_le _) (Nat.le_refl _)).mono ?_
  rintro e w2 ⟨go, gc, rfl, hg, hgl, E2⟩
  have hw2 := hw1.trans E2
  have hs2 : w.heap.size < w2.heap.size := by have := E2.size; omega
  have d0 := (E2.cells.1 _ _ hs1).trans c0
  have d1 := (E2.cells.1 _ _ hs1).trans c1
  clear c0 c1
  by_cases h0 : (fnd n ls ⟨a, b, [], []⟩).1 = 0
  · have HFP : Hid (∀ k, k + 1 < (fnd n ls ⟨a, b, [], []⟩).2.length → _) := fun k hk => fnd_part h0 hk
    have hp8 : (fnd n ls ⟨a, b, [], []⟩).2.length ≤ 8 := by
      rcases fnd_cases (n := n) (ls := ls) (f := ⟨a, b, [], []⟩) with h | h | ⟨_, hr, hF, hb⟩
      · exact absurd h0 h.1
      · omega
      · exact pth_len hb.1.toPth
    rw [h0]
    clear h0
    obtain ⟨p, hp⟩ : ∃ p, p = (fnd n ls ⟨a, b, [], []⟩).2 := ⟨_, rfl⟩
    rw [← hp] at hg hgl HFP hp8 ⊢
    clear hp
    by_cases ha0 : at' < 0
    · go_wp2
      go_ret
      exact ⟨rfl, hw2⟩
    · obtain ⟨k, rfl⟩ := Int.eq_ofNat_of_zero_le (show 0 ≤ at' by omega)
      by_cases hk : k + 1 < p.length
      · obtain ⟨m1, m2, m3, m4, m5⟩ := HFP.out k hk
        obtain ⟨bp, op, rfl, hbp, hat⟩ : ∃ bp op, go = some ⟨bp, op, none⟩ ∧ bp < w2.heap.size ∧ IntsAt w2 bp op p := by
          rcases hg with rfl | h
          · simp at hk
          · exact h
        have ck := hat k (by omega)
        have hat2 := ints_drop (k := k) hat
        have HL1 : Hid (lengthOf n ls (p.drop k) = (pc (cost ls) (p.drop k), true)) := by rw [length_iff m2, if_pos m3]; exact hidp rfl
        obtain ⟨x, hx1⟩ : ∃ x, x = p.getD k 0 := ⟨_, rfl⟩
        rw [← hx1] at ck m1 m4 m5
        clear hx1
        have HL2 : Hid (lengthOf n ls (fnd n ls ⟨x, b, [], []⟩).2 = (pc (cost ls) (fnd n ls ⟨x, b, [], []⟩).2, true)) := by rw [length_iff m2, if_pos m4]; exact hidp rfl
        have hq8 := pth_len (pth_of m2 m4)
        have hpi : ∀ y ∈ p.drop k, I64 y := fun y hy => by have := (pth_of m2 m3).rng y hy; exact i64_small (by omega) (by omega)
        have hqi : ∀ y ∈ (fnd n ls ⟨x, b, [], []⟩).2, I64 y := fun y hy => by have := (pth_of m2 m4).rng y hy; exact i64_small (by omega) (by omega)
        have HM1 := hidp m1
        have HM5 := hidp m5
        clear m1 m2 m3 m4 m5 HFP hat hg
        have i1 : ¬ ((p.length : Int) - 1 ≤ (k : Int)) := by omega
        have i2 : (k : Int) < (p.length : Int) := by omega
        have i3 : k < p.length := by omega
        have HNet : Hid (NetAt w2.drew ao ls) := (hl.ext hw2).ext (Ext.refl w2).drew
        go_wp2
        go_region_with (go_at_call 5; refine (Find_any n ao len cap ls ⟨x, b, [], []⟩ none none 0 0 _ hlen HNet.out hx hI (Or.inl rfl) (Nat.zero_le _) (Nat.le_refl _) (Or.inl rfl) (Nat.zero_le _) (Nat.le_refl _)).mono ?_; rintro e w3 ⟨go3, gc3, rfl, hg3, hgl3, E3⟩)
        all_goals
          rw [HM1.out]
          have hw3 : Ext w w3 := hw2.drew.trans E3
          have hs3 : w.heap.size < w3.heap.size := Nat.lt_of_lt_of_le hs2 E3.size
          have e0 := (E3.cells.1 _ _ hs2).trans d0
          have e1 := (E3.cells.1 _ _ hs2).trans d1
          have HN3 : Hid (NetAt w3.drew ao ls) := (hl.ext hw3).ext (Ext.refl w3).drew
          have HD3 : Hid (ListAt w3.drew (some ⟨bp, op + k, none⟩) (p.drop k)) := Or.inr ⟨bp, op + k, rfl, Nat.lt_of_lt_of_le hbp E3.size, fun i hi => (E3.cells.1 _ _ hbp).trans (hat2 i hi)⟩
          go_wp2
          go_region_with (go_at_call 6; refine (Length_any n ao _ len cap (p.length - k) (gc - k) ls (p.drop k) _ hlen HN3.out hx (by simp) (by omega) HD3.out hpi).mono ?_; rintro e w4 ⟨he, E4⟩; rw [HL1.out] at he; subst he)
          all_goals
            have hw4 : Ext w w4 := hw3.drew.trans E4
            have f0 := (E4.cells.1 _ _ hs3).trans e0
            have f1 := (E4.cells.1 _ _ hs3).trans e1
            go_wp2_with fail
            refine (Length_any n ao go3 len cap _ gc3 ls (fnd n ls ⟨x, b, [], []⟩).2 _ hlen (hl.ext hw4) hx rfl (by omega) (hg3.ext ((Ext.refl w3).drew.trans E4)) hqi).mono ?_
            rintro e w5 ⟨he, E5⟩
            rw [HL2.out, ← HM5.out] at he
            subst he
            go_wp2
            go_ret
            exact ⟨rfl, hw4.trans E5⟩
      · have i1 : (p.length : Int) - 1 ≤ (k : Int) := by omega
        go_wp2
        go_ret
        exact ⟨rfl, hw2⟩
  · have h0' : ((fnd n ls ⟨a, b, [], []⟩).1 != 0) = true := by simpa using h0
    clear h0
    go_wp2
    go_ret
    exact ⟨rfl, hw2⟩

end Go.Proofs.Ytagkbpckflineac
