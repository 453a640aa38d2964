/- PathLeast answers true, for every net, flow and list; nothing that was there is changed. -/
import Derived.Test.YtagkbpckflineabPS
namespace Go.Proofs.Ytagkbpckflineab
open Go.RowKit Go.Maps Stw Go.Deep Stp

theorem scan_ne {f : Nat → Int} {c : Int} (hc : c ≠ 0) (h : ∀ i, f i ≠ c) : ∀ (m k : Nat), (scan f m k).1 ≠ c
  | 0, _ => by simp only [scan]; exact fun e => hc e.symm
  | m + 1, k => by
    unfold scan
    split
    · exact scan_ne hc h m (k + 1)
    · exact h k
theorem wlink_ne {n a b c : Int} : wlink n a b c ≠ 9 := by
  unfold wlink
  repeat' split
  all_goals omega
theorem ewl_ne {n : Int} {ls : List Lk} {k : Nat} : ewl n ls k ≠ 9 := by
  unfold ewl
  split
  · split <;> omega
  · exact wlink_ne
theorem wrong_ne {n : Int} {ls : List Lk} : (wrong n ls).1 ≠ 9 := by
  unfold wrong
  split
  · simp
  · exact scan_ne (by omega) (fun i => ewl_ne) _ _
theorem wlist_ne {a b n : Int} {L : List Int} : Stf.wlist a b n L ≠ 9 := by
  unfold Stf.wlist
  split
  · unfold Stf.ewl
    repeat' split
    all_goals omega
  · omega
theorem wflow_ne {f : Stf.Fl} {n : Int} : Stf.wflow f n ≠ 9 := by
  unfold Stf.wflow
  repeat' split
  all_goals first | omega | exact wlist_ne

/-- What Find tells. -/
theorem fnd_cases {n : Int} {ls : List Lk} {f : Stf.Fl} : ((fnd n ls f).1 ≠ 0 ∧ (fnd n ls f).1 ≠ 9 ∧ (fnd n ls f).2 = []) ∨ ((fnd n ls f).1 = 9 ∧ (fnd n ls f).2 = [] ∧ Right n ls ∧ RightF n f ∧ ∀ q, ¬ Srv (cost ls) f.fr f.to f.via f.nt q) ∨
    ((fnd n ls f).1 = 0 ∧ Right n ls ∧ RightF n f ∧ IsBest (cost ls) f.fr f.to f.via f.nt (fnd n ls f).2 (pc (cost ls) (fnd n ls f).2)) := by
  unfold fnd
  by_cases hw : (wrong n ls).1 = 0
  · have hr := right_of hw
    have hb := hr.bounds
    rw [if_neg (by simp [hw])]
    by_cases hf : Stf.wflow f n = 0
    · rw [if_neg (by simp [hf])]
      have hF := rightF_of hf
      have hC : ∀ x y, 0 ≤ cost ls x y := fun x y => (hr.cost x y).1
      have hfr : 0 ≤ f.fr ∧ f.fr < 8 := by have := hF.fr; omega
      have hnf : ¬ f.fr ∈ f.nt := fun h => (hF.nt _ h).2.2.1 rfl
      cases hfi : find (cost ls) f.fr f.to f.via f.nt with
      | none => exact Or.inr (Or.inl ⟨rfl, rfl, hr, hF, find_none hC hfr hnf hfi⟩)
      | some y =>
        obtain ⟨p, c⟩ := y
        have hbest := find_some hC hfr hnf hfi
        refine Or.inr (Or.inr ⟨rfl, hr, hF, ?_⟩)
        have := hbest.2.1
        rw [← this]
        exact hbest
    · rw [if_pos hf]
      exact Or.inl ⟨hf, wflow_ne, rfl⟩
  · rw [if_pos hw]
    exact Or.inl ⟨hw, wrong_ne, rfl⟩

theorem llt_at : ∀ {p q : List Int} {k : Nat}, (p = q ∨ llt p q) → (∀ j, j < k → p.getD j 0 = q.getD j 0) → k < p.length → k < q.length ∧ (p.getD k 0 = q.getD k 0 ∨ p.getD k 0 < q.getD k 0)
  | p, q, k, Or.inl h, _, hk => by subst h; exact ⟨hk, Or.inl rfl⟩
  | [], _, _, Or.inr h, _, _ => by cases h
  | _ :: _, [], _, Or.inr h, _, _ => by cases h
  | a :: p, b :: q, 0, Or.inr h, _, _ => by
    refine ⟨by simp, ?_⟩
    rcases h with h | ⟨h, _⟩
    · exact Or.inr (by simpa using h)
    · exact Or.inl (by simpa using h)
  | a :: p, b :: q, k + 1, Or.inr h, hj, hk => by
    have h0 := hj 0 (by omega)
    have h0' : a = b := by simpa using h0
    rcases h with h | ⟨_, h⟩
    · omega
    · have := llt_at (p := p) (q := q) (k := k) (Or.inr h) (fun j hjk => by simpa using hj (j + 1) (by omega)) (by simpa using hk)
      exact ⟨by simpa using this.1, by simpa using this.2⟩
theorem llt_end : ∀ {p q : List Int}, (p = q ∨ llt p q) → (∀ j, j < p.length → p.getD j 0 = q.getD j 0) → p.length = q.length
  | p, q, Or.inl h, _ => by rw [h]
  | [], _, Or.inr h, _ => by cases h
  | _ :: _, [], Or.inr h, _ => by cases h
  | a :: p, b :: q, Or.inr h, hj => by
    have h0 : a = b := by simpa using hj 0 (by simp)
    rcases h with h | ⟨_, h⟩
    · omega
    · have := llt_end (p := p) (q := q) (Or.inr h) (fun j hjk => by simpa using hj (j + 1) (by simpa using hjk))
      simp [this]

set_option maxRecDepth 100000 in
set_option maxHeartbeats 2000000 in
theorem pathLeast_any (n : Int) (ao : Option Addr) (len cap : Nat) (ls : List Lk) (f : Stf.Fl) (vo no : Option Addr) (vc nc : Nat) (qo : Option Addr) (ql qc : Nat) (q : List Int) (w : World) (hlen : ls.length = len) (hl : NetAt w ao ls) (hx : len ≤ 9223372036854775807) (hI : I64 n)
    (hv : ListAt w vo f.via) (hvl : f.via.length ≤ 4611686018427387904) (hvc : f.via.length ≤ vc) (hn : ListAt w no f.nt) (hnl : f.nt.length ≤ 4611686018427387904) (hnc : f.nt.length ≤ nc)
    (hql : q.length = ql) (hqx : ql * 8 ≤ 140737488351232) (hq : ListAt w qo q) (hqi : ∀ y ∈ q, I64 y) :
    Calls Try.prog 5 #[.agg #[.int .i64 n, .slice ao len cap], .agg #[.int .i64 f.fr, .int .i64 f.to, .slice vo f.via.length vc, .slice no f.nt.length nc], .slice qo ql qc] w fun e w' => e = .returned (.bool true) ∧ Ext w w' := by
  have HFS := hidp (fnd_cases (n := n) (ls := ls) (f := f))
  obtain ⟨fr, to, via, nt⟩ := f
  simp only at hv hvl hvc hn hnl hnc ⊢
  go_enter Try.func5, Try.ntmps5
  go_wp2_with fail
  refine (alive_any _).mono ?_
  rintro e w1 ⟨rfl, E1⟩
  have hw1 : Ext w w1 := (((Ext.refl w).alloc _).alloc _).trans E1
  have hs1 : w.heap.size + 1 < w1.heap.size := by have := E1.size; simp at this; omega
  have hs0 : w.heap.size < w1.heap.size := by omega
  have q1 := E1.cells.1
  have a0 : w1.cell? ⟨w.heap.size, 0, none⟩ = some (.int .i64 n) := (q1 _ _ (by simp; omega)).trans (by simp)
  have a1 : w1.cell? ⟨w.heap.size, 1, none⟩ = some (.slice ao len cap) := (q1 _ _ (by simp; omega)).trans (by simp)
  have b0 : w1.cell? ⟨w.heap.size + 1, 0, none⟩ = some (.int .i64 fr) := (q1 _ _ (by simp)).trans (by simp)
  have b1 : w1.cell? ⟨w.heap.size + 1, 1, none⟩ = some (.int .i64 to) := (q1 _ _ (by simp)).trans (by simp)
  have b2 : w1.cell? ⟨w.heap.size + 1, 2, none⟩ = some (.slice vo via.length vc) := (q1 _ _ (by simp)).trans (by simp)
  have b3 : w1.cell? ⟨w.heap.size + 1, 3, none⟩ = some (.slice no nt.length nc) := (q1 _ _ (by simp)).trans (by simp)
  clear q1
  go_wp2_with fail
  refine (Find_any n ao len cap ls ⟨fr, to, via, nt⟩ vo no vc nc _ hlen (hl.ext hw1) hx hI (hv.ext hw1) hvl hvc (hn.ext hw1) hnl hnc).mono ?_
  rintro e w2 ⟨go, gc, rfl, hg, hgl, E2⟩
  have hw2 := hw1.trans E2
  have q2 := E2.cells.1
  have a0' := (q2 _ _ hs0).trans a0
  have a1' := (q2 _ _ hs0).trans a1
  have b0' := (q2 _ _ hs1).trans b0
  have b1' := (q2 _ _ hs1).trans b1
  have b2' := (q2 _ _ hs1).trans b2
  have b3' := (q2 _ _ hs1).trans b3
  have hs02 : w.heap.size < w2.heap.size := by have := E2.size; omega
  have hs12 : w.heap.size + 1 < w2.heap.size := by have := E2.size; omega
  clear a0 a1 b0 b1 b2 b3 q2
  rcases HFS.out with ⟨h1, h2, h3⟩ | ⟨h1, h2, h3, h4, h5⟩ | ⟨h1, h3, h4, h5⟩
  · rw [h3]
    have h1' : ((fnd n ls ⟨fr, to, via, nt⟩).1 != 0) = true := by simpa using h1
    have h2' : ((fnd n ls ⟨fr, to, via, nt⟩).1 != 9) = true := by simpa using h2
    clear h1 h2 h3
    go_wp2
    go_ret
    exact ⟨rfl, hw2⟩
  · rw [h1, h2]
    have HW := hidp h3.wrong
    have HSV : Hid (svB n ls fr to via nt q = false) := by
      cases e : svB n ls fr to via nt q
      · exact hidp rfl
      · exact absurd ((svB_iff h3 h4.fr).1 e) (h5 q)
    clear h1 h2 h3 h4 h5
    go_wp2_with fail
    refine (Serves_any n ao len cap ls fr to via nt vo no vc nc q qo ql qc _ hlen (hl.ext hw2) hx HW.out (hv.ext hw2) hvl (hn.ext hw2) hnl hql hqx (hq.ext hw2)).mono ?_
    rintro e w3 ⟨he, E3⟩
    rw [HSV.out] at he
    subst he
    go_wp2
    go_ret
    exact ⟨rfl, hw2.trans E3⟩
  · rw [h1]
    obtain ⟨p, hpp⟩ : ∃ p, p = (fnd n ls ⟨fr, to, via, nt⟩).2 := ⟨_, rfl⟩
    rw [← hpp] at h5 hg hgl ⊢
    clear hpp h1
    have hright := h3
    have HW := hidp h3.wrong
    have hp8 := pth_len h5.1.toPth
    have hpB : pathB n ls p = true := h5.1.toPth.path h3 h4.fr
    have HLp : Hid (lengthOf n ls p = (pc (cost ls) p, true)) := by rw [length_iff h3, if_pos hpB]; exact hidp rfl
    have hpi : ∀ y ∈ p, I64 y := fun y hy => by have := h5.1.rng y hy; exact i64_small (by omega) (by omega)
    cases hsv : svB n ls fr to via nt q
    · have HSV := hidp hsv
      clear h3 h4 h5 hsv hpB
      go_wp2_with fail
      refine (Serves_any n ao len cap ls fr to via nt vo no vc nc q qo ql qc _ hlen (hl.ext hw2) hx HW.out (hv.ext hw2) hvl (hn.ext hw2) hnl hql hqx (hq.ext hw2)).mono ?_
      rintro e w3 ⟨he, E3⟩
      rw [HSV.out] at he
      subst he
      go_wp2
      go_ret
      exact ⟨rfl, hw2.trans E3⟩
    · have hsq := (svB_iff h3 h4.fr).1 hsv
      have hq8 := pth_len hsq.toPth
      have hqB : pathB n ls q = true := hsq.toPth.path h3 h4.fr
      have HLq : Hid (lengthOf n ls q = (pc (cost ls) q, true)) := by rw [length_iff h3, if_pos hqB]; exact hidp rfl
      have HB := hidp (h5.2.2 q hsq)
      have HSV := hidp hsv
      clear h3 h4 h5 hsv hpB hsq hqB
      go_wp2_with fail
      refine (Serves_any n ao len cap ls fr to via nt vo no vc nc q qo ql qc _ hlen (hl.ext hw2) hx HW.out (hv.ext hw2) hvl (hn.ext hw2) hnl hql hqx (hq.ext hw2)).mono ?_
      rintro e w3 ⟨he, E3⟩
      rw [HSV.out] at he
      subst he
      have hw3 := hw2.trans E3
      have a0 := (E3.cells.1 _ _ hs02).trans a0'
      have a1 := (E3.cells.1 _ _ hs02).trans a1'
      have hs03 : w.heap.size < w3.heap.size := by have := E3.size; omega
      clear a0' a1' b0' b1' b2' b3'
      go_wp2_with fail
      refine (Length_any n ao go len cap p.length gc ls p _ hlen (hl.ext hw3) hx rfl (by omega) (hg.ext E3) hpi).mono ?_
      rintro e w4 ⟨he, E4⟩
      rw [HLp.out] at he
      subst he
      have hw4 := hw3.trans E4
      have a0' := (E4.cells.1 _ _ hs03).trans a0
      have a1' := (E4.cells.1 _ _ hs03).trans a1
      clear a0 a1
      go_wp2_with fail
      refine (Length_any n ao qo len cap ql qc ls q _ hlen (hl.ext hw4) hx hql hqx (hq.ext hw4) hqi).mono ?_
      rintro e w5 ⟨he, E5⟩
      rw [HLq.out] at he
      subst he
      have hw5 := hw4.trans E5
      obtain ⟨cp, hcp⟩ : ∃ cp, cp = pc (cost ls) p := ⟨_, rfl⟩
      obtain ⟨cq, hcq⟩ : ∃ cq, cq = pc (cost ls) q := ⟨_, rfl⟩
      rw [← hcp, ← hcq] at HB
      rw [← hcp, ← hcq]
      clear hcp hcq a0' a1'
      rcases HB.out with hB | ⟨hB, hB2⟩
      · have hB' : (cp != cq) = true := by simp; omega
        go_wp2
        go_ret
        exact ⟨by simp, hw5⟩
      · subst hB
        have HB2 := hidp hB2
        clear hB2 HB
        have hg5 : ListAt w5 go p := ((hg.ext E3).ext E4).ext E5
        have hq5 : ListAt w5 qo q := hq.ext hw5
        clear hg hq
        go_wp2
        go_loopw [57] (fun iv wr => ∃ k : Nat, k ≤ p.length ∧ iv = .int .i64 k ∧ (∀ j, j < k → p.getD j 0 = q.getD j 0) ∧ Ext w5 wr) (fun iv _ => p.length - (intOf iv).toNat)
        case atStart => exact ⟨0, Nat.zero_le _, rfl, fun j hj => by omega, Ext.refl _⟩
        case round =>
          obtain ⟨k, hk, rfl, hpre, hext⟩ := hrel
          have HP := hidp hpre
          clear hpre
          by_cases hlt : k < p.length
          · obtain ⟨hkq, hxy⟩ := llt_at HB2.out HP.out hlt
            obtain ⟨b1, o1, rfl, hb1, hat1⟩ : ∃ b1 o1, go = some ⟨b1, o1, none⟩ ∧ b1 < w5.heap.size ∧ IntsAt w5 b1 o1 p := by
              rcases hg5 with rfl | h
              · simp at hlt
              · exact h
            obtain ⟨b2, o2, rfl, hb2, hat2⟩ : ∃ b2 o2, qo = some ⟨b2, o2, none⟩ ∧ b2 < w5.heap.size ∧ IntsAt w5 b2 o2 q := by
              rcases hq5 with rfl | h
              · simp at hkq
              · exact h
            have c1 := (hext.cells.1 _ _ hb1).trans (hat1 k hlt)
            have c2 := (hext.cells.1 _ _ hb2).trans (hat2 k hkq)
            obtain ⟨x, hx1⟩ : ∃ x, x = p.getD k 0 := ⟨_, rfl⟩
            obtain ⟨y, hy1⟩ : ∃ y, y = q.getD k 0 := ⟨_, rfl⟩
            rw [← hx1] at c1 hxy
            rw [← hy1] at c2 hxy
            have HX := hidp hx1
            have HY := hidp hy1
            clear hx1 hy1 hat1 hat2
            have i1 : (k : Int) < (p.length : Int) := by omega
            have i2 : (k : Int) < (ql : Int) := by omega
            have i3 : k < ql := by omega
            have i4 : decide (ql ≤ k) = false := by simp; omega
            have i5 : decide (k < ql) = true := by simp; omega
            have hb1' : b1 < wr.heap.size := by have := hext.size; omega
            have hb2' : b2 < wr.heap.size := by have := hext.size; omega
            rcases hxy with hxy | hxy
            · subst hxy
              go_wp2
              go_quiet (fail)
              go_wp2
              go_roundw
              case rel =>
                refine ⟨k + 1, by omega, by go_num, fun j hj => ?_, hext.drewN _⟩
                by_cases e : j = k
                · subst e; rw [← HX.out, ← HY.out]
                · exact HP.out j (by omega)
              case measure => simp [intOf]; omega
            · have hne : (x != y) = true := by simp; omega
              go_wp2
              go_quiet (fail)
              go_wp2
              go_quiet (fail)
              go_wp2
              go_ret
              exact ⟨rfl, hw5.trans ((hext.drewN _).drewN _)⟩
          · have hpq : p.length = ql := by rw [← hql]; exact llt_end HB2.out (fun j hj => HP.out j (by omega))
            have hpq' : ((p.length : Int) == (ql : Int)) = true := by simp; omega
            clear hpq
            go_wp2
            go_ret
            exact ⟨rfl, hw5.trans hext⟩

end Go.Proofs.Ytagkbpckflineab
