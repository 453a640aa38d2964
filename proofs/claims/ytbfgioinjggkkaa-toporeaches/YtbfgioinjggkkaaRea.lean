/- TopoReaches answers true, for every net; nothing that was there is changed. -/
import Derived.Test.YtbfgioinjggkkaaW8
import Derived.Test.YtbfgioinjggkkaaOpn
import Derived.Lib.QuietBelow
namespace Go.Proofs.Ytbfgioinjggkkaa
open Go.RowKit Go.Maps Stw Go.Sort

theorem rl_wrong {n : Int} {ls : List Lk} {fr : Int} {L : List Int} (h : RL n ls fr L) (hw : (wrong n ls).1 ≠ 0) : L = [] := by
  rw [List.eq_nil_iff_forall_not_mem]
  intro s hs
  exact hw ((h.2 s).1 hs).1

theorem rl_range {n : Int} {ls : List Lk} {fr : Int} {L : List Int} (h : RL n ls fr L) (hr : Right n ls) {x : Int} (hx : x ∈ L) : 0 ≤ x ∧ x < n := by
  obtain ⟨_, h2, h3⟩ := (h.2 x).1 hx
  refine h3 (fun y => 0 ≤ y ∧ y < n) (swB_true.1 h2) (fun a b _ hc => ?_)
  have := (hr.cost a b).2.2 (by omega)
  omega
theorem SetMap.ne {w : World} {m : Nat} {L : List Int} (h : SetMap w m L) {b o : Nat} {v : Value} (hc : w.cell? ⟨b, o, none⟩ = some v) : b ≠ m := by
  rintro rfl
  obtain ⟨n, _, D, ⟨es, cl, hb, _⟩, _⟩ := h
  simp [World.cell?, hb] at hc

theorem tri {ls : List Lk} {a b c : Int} {A B : List Int} {β : Bool} (h1 : b ∈ A ↔ Rch ls a b) (h2 : c ∈ B ↔ Rch ls b c) (h3 : c ∈ A ↔ Rch ls a c) (hβ : β = decide (b ∈ A)) : β = false ∨ decide (c ∈ B) = false ∨ decide (c ∈ A) = true := by
  cases hb : β
  · exact Or.inl rfl
  · right
    rw [hb] at hβ
    have hab := h1.1 (of_decide_eq_true hβ.symm)
    by_cases hc : c ∈ B
    · right; simp [h3.2 (hab.trans (h2.1 hc))]
    · left; simp [hc]

set_option maxHeartbeats 2000000 in
theorem reaches_wrong (n : Int) (ao : Option Addr) (len cap : Nat) (ls : List Lk) (w : World) (hlen : ls.length = len) (hl : NetAt w ao ls) (hx : len ≤ 9223372036854775807) (hw : (wrong n ls).1 ≠ 0) :
    Calls Try.prog 4 #[.agg #[.int .i64 n, .slice ao len cap]] w fun e w' => e = .returned (.bool true) ∧ Ext w w' := by
  have hfd := fldErr
  have hwr : ((wrong n ls).1 != 0) = true := by simpa using hw
  have HW : Hid ((wrong n ls).1 ≠ 0) := hw
  clear hw
  go_enter Try.func4, Try.ntmps4
  go_wp2_with fail
  refine (alive_any _).mono ?_; rintro e w1 ⟨rfl, hb1⟩
  have hs1 : w.heap.size < w1.heap.size := by have := hb1.size; simp at this; omega
  have hw1 : Ext w w1 := ((Ext.refl w).alloc _).trans hb1
  have c0 : w1.cell? ⟨w.heap.size, 0, none⟩ = some (.int .i64 n) := (hb1.cells.1 _ _ (by simp)).trans (by simp)
  have c1 : w1.cell? ⟨w.heap.size, 1, none⟩ = some (.slice ao len cap) := (hb1.cells.1 _ _ (by simp)).trans (by simp)
  go_wp2_with fail
  refine (Wrong_any n ao len cap ls _ hlen (hl.ext hw1) hx).mono ?_
  rintro e w2 ⟨rfl, hb2⟩
  have hw2 := hw1.trans hb2
  have d0 := (hb2.cells.1 _ _ hs1).trans c0
  have d1 := (hb2.cells.1 _ _ hs1).trans c1
  clear c0 c1
  go_wp2_with fail
  refine (Reaches_any n 0 ao len cap ls _ hlen (hl.ext hw2) hx).mono ?_
  rintro e w3 ⟨lo, lc, L, rfl, hL, hrl, hb3⟩
  obtain rfl := rl_wrong hrl HW.out
  go_wp2
  go_ret
  exact ⟨rfl, hw2.trans hb3⟩

set_option maxRecDepth 100000 in
set_option maxHeartbeats 4000000 in
theorem reaches_right (nn : Nat) (ao : Option Addr) (len cap : Nat) (ls : List Lk) (w : World) (hlen : ls.length = len) (hl : NetAt w ao ls) (hx : len ≤ 9223372036854775807) (hr : wrong (nn : Int) ls = (0, 0)) :
    Calls Try.prog 4 #[.agg #[.int .i64 nn, .slice ao len cap]] w fun e w' => e = .returned (.bool true) ∧ Ext w w' := by
  have hfd := fldErr
  have HR : Hid (wrong (nn : Int) ls = (0, 0)) := hr
  have hright := right_of (by rw [hr] : (wrong (nn : Int) ls).1 = 0)
  have hbd := hright.bounds
  have hmm := @run_makeMap Try.prog
  have hmk := run_make_row' (P := Try.prog) 38 39 (.map none) 8 Try.underlying38 (by kernel_rfl) rfl .i64 .i64 nn (by omega) (by omega)
  clear hr
  go_enter Try.func4, Try.ntmps4
  go_wp2_with fail
  refine (alive_any _).mono ?_; rintro e w1 ⟨rfl, hb1⟩
  have hs1 : w.heap.size < w1.heap.size := by have := hb1.size; simp at this; omega
  have hw1 : Ext w w1 := ((Ext.refl w).alloc _).trans hb1
  have c0 : w1.cell? ⟨w.heap.size, 0, none⟩ = some (.int .i64 nn) := (hb1.cells.1 _ _ (by simp)).trans (by simp)
  have c1 : w1.cell? ⟨w.heap.size, 1, none⟩ = some (.slice ao len cap) := (hb1.cells.1 _ _ (by simp)).trans (by simp)
  go_wp2_with fail
  refine (Wrong_any nn ao len cap ls _ hlen (hl.ext hw1) hx).mono ?_
  rintro e w2 ⟨he, hb2⟩
  rw [HR.out] at he
  subst he
  have hw2 := hw1.trans hb2
  have d0 := (hb2.cells.1 _ _ hs1).trans c0
  have d1 := (hb2.cells.1 _ _ hs1).trans c1
  have hs2 : w.heap.size < w2.heap.size := by have := hb2.size; omega
  clear c0 c1
  go_wp2
  obtain ⟨R, hR⟩ : ∃ R, R = w2.heap.size := ⟨_, rfl⟩
  go_loopw [25] (fun iv wr => ∃ k : Nat, k ≤ nn ∧ iv = .int .i64 k ∧ Sets nn ls wr w2.heap.size k ∧ Ext w2 wr) (fun iv _ => nn - (intOf iv).toNat)
  case atStart => exact ⟨0, Nat.zero_le _, rfl, ⟨fun _ => 0, fun _ => [], (World.rowIs_made w2 (.map none) nn 39).congr (fun i _ => by simp), fun j hj => by omega⟩, (Ext.refl w2).alloc _⟩
  case round =>
    obtain ⟨k, hk, rfl, hsets, hext⟩ := hrel
    obtain ⟨wo, rfl⟩ : ∃ wo : World, wo = wr := ⟨_, rfl⟩
    have hwr := hw2.trans hext
    have hRl := hsets.lt
    have e0 := (hext.cells.1 _ _ hs2).trans d0
    have e1 := (hext.cells.1 _ _ hs2).trans d1
    have hs3 : w.heap.size < wo.heap.size := by have := hext.size; omega
    have hne0 : ¬ w.heap.size = w2.heap.size := by omega
    by_cases hlt : k < nn
    · have r0 : ∃ v, wo.cell? ⟨w2.heap.size, k, none⟩ = some v ∧ v = .map none := by
        obtain ⟨M, Lf, hrow, hfam⟩ := hsets
        exact ⟨_, hrow.cell hlt, by simp⟩
      have r1 : wo.frozen? ⟨w2.heap.size, k, none⟩ = false := by
        obtain ⟨M, Lf, hrow, hfam⟩ := hsets
        exact hrow.frozen k
      obtain ⟨v0, r0, rfl⟩ := r0
      have r0' : (wo.alloc (.map #[] 0)).cell? ⟨w2.heap.size, k, none⟩ = some (.map none) := by rw [World.cell?_alloc_past _ _ _ hRl, r0]
      have r1' : (wo.alloc (.map #[] 0)).frozen? ⟨w2.heap.size, k, none⟩ = false := by rw [World.frozen?_alloc_old _ _ _ (by simp; omega), r1]
      go_wp2_with fail
      clear r0' r1'
      have hwm : Ext w2 ((wo.setCell ⟨w2.heap.size, k, none⟩ (.map (some wo.heap.size))).alloc (.map #[] 0)) := (hext.setCell (by simp) _).alloc _
      have hsm0 : SetMap ((wo.setCell ⟨w2.heap.size, k, none⟩ (.map (some wo.heap.size))).alloc (.map #[] 0)) wo.heap.size [] := by
        have := SetMap.made (wo.setCell ⟨w2.heap.size, k, none⟩ (.map (some wo.heap.size)))
        simpa using this
      have hrc : ((wo.setCell ⟨w2.heap.size, k, none⟩ (.map (some wo.heap.size))).alloc (.map #[] 0)).cell? ⟨w2.heap.size, k, none⟩ = some (.map (some wo.heap.size)) := by
        rw [World.cell?_alloc_past _ _ _ (by simpa using hRl), World.cell?_setCell_same _ _ _ r0]
      refine (Reaches_any nn k ao len cap ls _ hlen (hl.ext (hw2.trans hwm)) hx).mono ?_
      rintro e w3 ⟨lo, lc, L, rfl, hL, hrl, hb3⟩
      have hsk : swB nn k = true := swB_true.2 ⟨by omega, by omega⟩
      have hkL : (k : Int) ∈ L := (hrl.2 k).2 ⟨by rw [HR.out], hsk, Rch.refl _ _⟩
      have hL8 : L.length ≤ 8 := nodup_le 8 L (hrl.1.imp (fun h => by omega)) (fun x hx => by have := rl_range hrl hright hx; omega)
      rcases hL with rfl | ⟨b, off, rfl, hbl, hL⟩
      · cases hkL
      have hw3 := (hw2.trans hwm).trans hb3
      have hsm3 := hsm0.ext hb3
      have hrc3 := (hb3.cells.1 _ _ (by simp; omega)).trans hrc
      have hne1 : w2.heap.size ≠ wo.heap.size := by omega
      have hne2 : b ≠ wo.heap.size := hsm3.ne (hL 0 (by cases L with | nil => cases hkL | cons a r => simp))
      go_wp2
      go_loopw [36] (fun iv wr => ∃ i : Nat, i ≤ L.length ∧ iv = .int .i64 i ∧ SetMap wr wo.heap.size (L.take i) ∧ w3.grownBy wr (some wo.heap.size)) (fun iv _ => L.length - (intOf iv).toNat)
      case atStart => exact ⟨0, Nat.zero_le _, rfl, by simpa using hsm3, World.grownBy.refl _ _⟩
      case round =>
        obtain ⟨i, hi, rfl, hsm, hgr⟩ := hrel
        have hrc4 := hgr.cell hrc3 (by simpa using hne1)
        by_cases hilt : i < L.length
        · have ce := hgr.cell (hL i hilt) (by simpa using hne2)
          have hxr := rl_range hrl hright (getD_mem hilt)
          have htk : L.take (i + 1) = L.take i ++ [L.getD i 0] := by rw [List.take_succ_eq_append_getElem hilt, getD_at hilt]
          obtain ⟨x, hx0⟩ : ∃ x, x = L.getD i 0 := ⟨_, rfl⟩
          rw [← hx0] at ce hxr htk
          have HT : Hid (L.take (i + 1) = L.take i ++ [x]) := htk
          clear hx0 htk
          obtain ⟨w4, hrun4, hm4, hg4⟩ := hsm.put (x := x) (i64_small (by omega) (by omega)) (by unfold maxLen; simp; omega)
          go_wp2
          go_roundw
          case rel => exact ⟨i + 1, by omega, by go_num, by rw [HT.out]; exact hm4, hgr.trans hg4⟩
          case measure => simp [intOf]; omega
        · have hrun5 := hsm.look (x := (k : Int)) (i64_small (by omega) (by omega))
          have htl : L.take i = L := List.take_of_length_le (by omega)
          rw [htl] at hsm hrun5
          have hdec : decide ((k : Int) ∈ L) = true := by simpa using hkL
          rw [hdec] at hrun5
          go_wp2
          go_roundw
          case rel =>
            refine ⟨k + 1, by omega, by go_num, hsets.next (m := wo.heap.size) (L := L) (fun b hb hbR => ?_) (fun f hf => ?_) hsm hrl, ?_⟩
            · have hb2' : b < w3.heap.size := by have := hb3.size; simp at this; omega
              rw [hgr.block b hb2' (by simp; omega), Below.block hb3 b (by simp; omega), Below.heap_alloc _ _ _ (by simpa using hb), Below.heap_setCell _ _ _ _ (by simpa using hbR)]
            · have h1 := (hf.set k (.map (some wo.heap.size))).alloc (.map #[] 0)
              have h2 := h1.of_block (Below.block hb3 w2.heap.size (by simp; omega))
              exact h2.of_block (hgr.block w2.heap.size h2.lt (by simp; omega))
            · exact Below.grown (hwm.trans hb3) hgr (hwm.trans hb3).size (fun j hj => by cases hj; omega)
          case measure => simp [intOf]; omega
    · have hkn : k = nn := by omega
      subst hkn
      obtain ⟨M, Lf, hrow, hfam⟩ := hsets
      have HROW : Hid (wo.rowIs w2.heap.size 39 k (fun j => if j < k then .map (some (M j)) else .map none)) := hrow
      have HFAM : Hid (∀ j, j < k → SetMap wo (M j) (Lf j) ∧ RL k ls j (Lf j)) := hfam
      have HCELL : Hid (∀ (wr : World) (j : Nat), Ext wo wr → j < k → wr.cell? ⟨w2.heap.size, j, none⟩ = some (.map (some (M j)))) := fun wr j he hj => by
        rw [he.cells.1 _ _ hRl, hrow.cell hj]; simp [hj]
      have HLOOK : Hid (∀ (wr : World) (a b : Nat), Ext wo wr → a < k → b < k → (Instr.lookup 39 (.map (some (M a))) (.int .i64 b) false).run Try.prog wr = .ok (.bool (decide ((b : Int) ∈ Lf a))) wr) := fun wr a b he ha hb =>
        ((hfam a ha).1.ext he).look (i64_small (by omega) (by omega))
      have HMEM : Hid (∀ a b : Nat, a < k → ((b : Int) ∈ Lf a ↔ Rch ls a b)) := fun a b ha => by
        rw [(hfam a ha).2.2 b]
        have : swB k a = true := swB_true.2 ⟨by omega, by omega⟩
        simp [HR.out, this]
      clear hrow hfam
      go_wp2
      go_loopw [56] (fun iv wr => ∃ a : Nat, a ≤ k ∧ iv = .int .i64 a ∧ Ext wo wr) (fun iv _ => k - (intOf iv).toNat)
      case atStart => exact ⟨0, Nat.zero_le _, rfl, Ext.refl _⟩
      case round =>
        obtain ⟨a, ha, rfl, hxa⟩ := hrel
        by_cases halt : a < k
        · go_wp2
          go_loopw [61] (fun iv wr => ∃ b : Nat, b ≤ k ∧ iv = .int .i64 b ∧ Ext wo wr) (fun iv _ => k - (intOf iv).toNat)
          case atStart => exact ⟨0, Nat.zero_le _, rfl, hxa⟩
          case round =>
            clear hxa
            obtain ⟨b, hb, rfl, hxb⟩ := hrel
            by_cases hblt : b < k
            · have hsym : decide ((a : Int) ∈ Lf b) = decide ((b : Int) ∈ Lf a) := by
                rw [decide_eq_decide, HMEM.out b a hblt, HMEM.out a b halt]
                exact ⟨Rch.symm, Rch.symm⟩
              have hco : 0 < cost ls a b → decide ((b : Int) ∈ Lf a) = true := fun h => by
                rw [decide_eq_true_eq, HMEM.out a b halt]; exact (Rch.refl _ _).step h
              obtain ⟨β, hβ⟩ : ∃ β, β = decide ((b : Int) ∈ Lf a) := ⟨_, rfl⟩
              rw [← hβ] at hco
              have HS : Hid (∀ w' : World, Ext wo w' → w'.cell? ⟨w.heap.size, 0, none⟩ = some (.int .i64 k) ∧ w'.cell? ⟨w.heap.size, 1, none⟩ = some (.slice ao len cap) ∧ w'.cell? ⟨w2.heap.size, a, none⟩ = some (.map (some (M a))) ∧ w'.cell? ⟨w2.heap.size, b, none⟩ = some (.map (some (M b))) ∧
                  (Instr.lookup 39 (.map (some (M a))) (.int .i64 b) false).run Try.prog w' = .ok (.bool β) w' ∧ (Instr.lookup 39 (.map (some (M b))) (.int .i64 a) false).run Try.prog w' = .ok (.bool β) w') := fun w' he =>
                ⟨(he.cells.1 _ _ (by omega)).trans e0, (he.cells.1 _ _ (by omega)).trans e1, HCELL.out _ a he halt, HCELL.out _ b he hblt, by rw [hβ]; exact HLOOK.out _ a b he halt hblt, by rw [hβ, ← hsym]; exact HLOOK.out _ b a he hblt halt⟩
              have HB : Hid (β = decide ((b : Int) ∈ Lf a)) := hβ
              clear hsym hβ
              have i1 : (a : Int) < (k : Int) := by omega
              have i2 : (b : Int) < (k : Int) := by omega
              obtain ⟨cv, hcv⟩ : ∃ cv, cv = cost ls a b := ⟨_, rfl⟩
              have hcv0 := (hright.cost a b).1
              have HQ : Hid (∀ d os, Calls Try.prog 14 #[.agg #[.int .i64 k, .slice ao len cap], .int .i64 a, .int .i64 b] (grow (redrawn wr d) os) fun e w'' => e = .returned (.int .i64 cv) ∧ ∃ p : Regrown, w'' = grow (redrawn wr p.d) p.os) := fun d os =>
                Calls.regrown_of (by
                  rw [hcv]
                  exact Cost_any k a b ao len cap ls _ hlen (hl.ext ((hwr.trans hxb).trans (below_regrown wr d os))) hx (i64_small (by omega) (by omega)) (i64_small (by omega) (by omega)) HR.out)
              have hthree : (β = true ∧ 0 < cv) ∨ (cv = 0 ∧ β = true) ∨ (cv = 0 ∧ β = false) := by
                by_cases h : 0 < cv
                · exact Or.inl ⟨hco (by omega), h⟩
                · have : cv = 0 := by omega
                  cases β
                  · exact Or.inr (Or.inr ⟨this, rfl⟩)
                  · exact Or.inr (Or.inl ⟨this, rfl⟩)
              clear hco hcv hcv0
              rcases hthree with ⟨rfl, hc⟩ | ⟨rfl, rfl⟩ | ⟨rfl, rfl⟩
              all_goals
                have g0 : ∀ d os, (grow (redrawn wr d) os).cell? ⟨w.heap.size, 0, none⟩ = some (.int .i64 k) := fun d os => (HS.out _ (hxb.trans (below_regrown wr d os))).1
                have g1 : ∀ d os, (grow (redrawn wr d) os).cell? ⟨w.heap.size, 1, none⟩ = some (.slice ao len cap) := fun d os => (HS.out _ (hxb.trans (below_regrown wr d os))).2.1
                have g2 : ∀ d os, (grow (redrawn wr d) os).cell? ⟨w2.heap.size, a, none⟩ = some (.map (some (M a))) := fun d os => (HS.out _ (hxb.trans (below_regrown wr d os))).2.2.1
                have g3 : ∀ d os, (grow (redrawn wr d) os).cell? ⟨w2.heap.size, b, none⟩ = some (.map (some (M b))) := fun d os => (HS.out _ (hxb.trans (below_regrown wr d os))).2.2.2.1
                have g4 := fun d os => (HS.out (grow (redrawn wr d) os) (hxb.trans (below_regrown wr d os))).2.2.2.2.1
                have g5 := fun d os => (HS.out (grow (redrawn wr d) os) (hxb.trans (below_regrown wr d os))).2.2.2.2.2
                go_wp2
                refine wp_region_quiet_below (by kernel_rfl) (by kernel_rfl) ?_
                repeat (go_big_quiet_step (exact HQ.out _ _))
                refine wpQuiet_nil ?_
                intro _ hw'
                obtain ⟨⟨dq, osq⟩, hw''⟩ := hw'
                subst hw''
                clear g0 g1 g2 g3 g4 g5 HQ
                have hx5 : Ext wo (grow (redrawn wr dq) osq) := hxb.trans (below_regrown wr dq osq)
                go_wp2
                go_loopw [95] (fun iv wr => ∃ c : Nat, c ≤ k ∧ iv = .int .i64 c ∧ Ext wo wr) (fun iv _ => k - (intOf iv).toNat)
                case atStart => exact ⟨0, Nat.zero_le _, rfl, hx5⟩
                case round =>
                  clear hx5
                  obtain ⟨c, hc1, rfl, hxc⟩ := hrel
                  by_cases hclt : c < k
                  · obtain ⟨_, _, q1, q2, q3, _⟩ := HS.out _ hxc
                    have l2 := HLOOK.out _ b c hxc hblt hclt
                    have l3 := HLOOK.out _ a c hxc halt hclt
                    have htr := tri (HMEM.out a b halt) (HMEM.out b c hblt) (HMEM.out a c halt) HB.out
                    have i3 : (c : Int) < (k : Int) := by omega
                    obtain ⟨γ, hγ⟩ : ∃ γ, γ = decide ((c : Int) ∈ Lf b) := ⟨_, rfl⟩
                    obtain ⟨δ, hδ⟩ : ∃ δ, δ = decide ((c : Int) ∈ Lf a) := ⟨_, rfl⟩
                    rw [← hγ] at l2 htr
                    rw [← hδ] at l3 htr
                    clear hγ hδ
                    rcases htr with h | h | h
                    · first
                      | (cases h; done)
                      | (clear h; cases γ <;> (go_wp2; go_roundw; (case rel => exact ⟨c + 1, by omega, by go_num, hxc⟩); (case measure => simp [intOf]; omega)))
                    · subst h
                      go_wp2
                      go_roundw
                      case rel => exact ⟨c + 1, by omega, by go_num, hxc⟩
                      case measure => simp [intOf]; omega
                    · subst h
                      cases γ
                      all_goals
                        go_wp2
                        go_roundw
                        case rel => exact ⟨c + 1, by omega, by go_num, hxc⟩
                        case measure => simp [intOf]; omega
                  · go_wp2
                    go_roundw
                    case rel => exact ⟨b + 1, by omega, by go_num, hxc⟩
                    case measure => simp [intOf]; omega
            · go_wp2
              go_roundw
              case rel => exact ⟨a + 1, by omega, by go_num, hxb⟩
              case measure => simp [intOf]; omega
        · go_wp2
          go_ret
          exact ⟨rfl, hwr.trans hxa⟩

end Go.Proofs.Ytbfgioinjggkkaa
