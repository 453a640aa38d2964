/- What Of answers, for every plan and number of switches. -/
import Derived.Test.YtgffkjjddhlbpaaV20
import Derived.Deep.RegionLaw
import Derived.Deep.RegionHeld3
namespace Go.Proofs.Ytgffkjjddhlbpaa.Tb
open Go.RowKit Go.Maps Stw Go.Deep Rul Go.Sort

def tot (ps : List (List Int)) : Nat → Nat
  | 0 => 0
  | k + 1 => tot ps k + (ps.getD k []).length
theorem tot_mono {ps : List (List Int)} {j : Nat} : ∀ {k : Nat}, j ≤ k → tot ps j ≤ tot ps k
  | 0, h => by rw [show j = 0 by omega]; exact Nat.le_refl _
  | k + 1, h => by
    rcases Nat.lt_or_ge j (k + 1) with h1 | h1
    · exact Nat.le_trans (tot_mono (k := k) (by omega)) (by rw [tot]; omega)
    · rw [show j = k + 1 by omega]; exact Nat.le_refl _
theorem rof_len {v s : Int} {ps : List (List Int)} : ∀ k, (rof v s ps k).length ≤ tot ps k
  | 0 => Nat.le_refl _
  | k + 1 => by
    have := rof_len (v := v) (s := s) (ps := ps) k
    have := stk_len (v := v) (f := k) (s := s) (path := ps.getD k []) (ps.getD k []).length
    rw [rof, tot, List.length_append]; omega
theorem one3 (a b c : Int) : ∀ u ∈ [Value.int .i64 a, .int .i64 b, .int .i64 c], u.oneCell' = true := by
  intro u hu; simp only [List.mem_cons, List.not_mem_nil, or_false] at hu; rcases hu with rfl | rfl | rfl <;> rfl

theorem infoS : (Try.prog.info? 54).map (fun i => (i.zero, i.size, i.bytes)) = some (some (.slice none 0 0), 1, 24) := by kernel_rfl
theorem infoS' : ∃ i, Try.prog.info? 54 = some i ∧ i.zero = some (.slice none 0 0) ∧ i.size = 1 ∧ i.bytes = 24 := by
  have h := infoS
  cases e : Try.prog.info? 54 with
  | none => rw [e] at h; simp at h
  | some i => rw [e] at h; simp at h; exact ⟨i, rfl, h.1, h.2.1, h.2.2⟩
theorem make_tables (n : Nat) (hn : n ≤ 1000) (W : World) : (Instr.makeSlice 109 (.int .i64 n) (.int .i64 n)).run Try.prog W = .ok (.slice (some ⟨W.heap.size, 0, none⟩) n n) (W.alloc (.cells (madeCells #[.slice none 0 0] n) 54)) := by
  obtain ⟨i, hi, h0, h1, h2⟩ := infoS'
  have := run_make (P := Try.prog) W 109 54 i (.slice none 0 0) Try.underlying109 hi h0 .i64 .i64 n n (by omega) (by omega) (by rw [h2]; omega) (by omega)
  rw [h1] at this
  simpa [Value.cells] using this

set_option maxRecDepth 100000 in
set_option maxHeartbeats 1600000 in
theorem Of_any (v : Int) (fo qo : Option Addr) (fl fc ql qc n : Nat) (ps : List (List Int)) (w : World) (hql : ps.length = ql) (hps : PsAt w qo ps) (hn : n ≤ 1000) (hT : tot ps ps.length * 24 ≤ 140737488351232) (hqx : ql ≤ 4611686018427387904) :
    Calls Try.prog 48 #[.agg #[.int .i64 v, .slice fo fl fc, .slice qo ql qc], .int .i64 n] w fun e w' => ∃ vs, e = .returned (.slice (some ⟨w.heap.size + 1, 0, none⟩) n n) ∧ TB w' (w.heap.size + 1) n vs (fun s => rof v s ps ql) ∧ Ext w w' := by
  obtain ⟨i3', hi3, hz0, hz1, hz2⟩ := infoR'
  have hE0 : Ext w (w.alloc (.cells #[.int .i64 v, .slice fo fl fc, .slice qo ql qc] 25)) := (Ext.refl w).alloc _
  have HB : Hid (∀ W : World, Ext (w.alloc (.cells #[.int .i64 v, .slice fo fl fc, .slice qo ql qc] 25)) W → W.cell? ⟨w.heap.size, 0, none⟩ = some (.int .i64 v) ∧ W.cell? ⟨w.heap.size, 2, none⟩ = some (.slice qo ql qc)) := fun W h =>
    ⟨(h.cells.1 _ _ (by simp)).trans (by simp), (h.cells.1 _ _ (by simp)).trans (by simp)⟩
  have hT0 : TB ((w.alloc (.cells #[.int .i64 v, .slice fo fl fc, .slice qo ql qc] 25)).alloc (.cells (madeCells #[.slice none 0 0] n) 54)) (w.heap.size + 1) n (fun _ => .slice none 0 0) (fun s => rof v s ps 0) := by
    refine ⟨?_, fun s _ => RO.nil _ _, fun s t _ _ _ g h => by cases h⟩
    have := World.rowIs_made (w.alloc (.cells #[.int .i64 v, .slice fo fl fc, .slice qo ql qc] 25)) (.slice none 0 0) n 54
    simpa using this
  have HT0 : Hid _ := hT0
  have HT : Hid _ := hT
  clear hT0 hT
  have hmk := make_tables n hn
  go_enter Try.func48, Try.ntmps48
  have i0 : ¬ (n : Int) < 0 := by omega
  have i1 : ¬ (2147483647 : Int) < (n : Int) := by omega
  go_wp2
  obtain ⟨W1, hW1⟩ : ∃ W1, W1 = w.alloc (.cells #[.int .i64 v, .slice fo fl fc, .slice qo ql qc] 25) := ⟨_, rfl⟩
  have hW1s : W1.heap.size = w.heap.size + 1 := by rw [hW1]; simp
  rw [← hW1] at HT0 HB hE0 ⊢
  clear hW1
  obtain ⟨H, hH⟩ : ∃ H, H = w.heap.size + 1 := ⟨_, rfl⟩
  rw [← hH] at HT0 hW1s ⊢
  have hH1 : H ≤ w.heap.size + 1 := by omega
  have hH2 : w.heap.size + 1 ≤ H := by omega
  have HH : Hid (H = w.heap.size + 1) := hH
  have HW : Hid (W1.heap.size = H) := hW1s
  clear hH hW1s hmk i0 i1
  go_loopw [21] (fun iv wd => ∃ (k : Nat) (vs : Nat → Value), k ≤ ql ∧ iv = .int .i64 k ∧ Hid (TB wd H n vs (fun s => rof v s ps k)) ∧ Ext W1 wd) (fun iv _ => ql - (intOf iv).toNat)
  case atStart => exact ⟨0, _, Nat.zero_le _, rfl, HT0, (Ext.refl W1).alloc _⟩
  case round =>
    clear HT0
    obtain ⟨k, vs, hk, rfl, HTB, hE⟩ := hrel
    by_cases hlt : k < ql
    · have i1 : (k : Int) < (ql : Int) := by omega
      obtain ⟨b0, b2⟩ := HB.out wr hE
      have htk : tot ps k + (ps.getD k []).length ≤ tot ps ps.length := by have := tot_mono (ps := ps) (j := k + 1) (k := ps.length) (by omega); rwa [tot] at this
      rcases hps.ext hE0 with h0 | ⟨g, off, rfl, hg, hcs⟩
      · exfalso; rw [h0] at hql; simp at hql; omega
      obtain ⟨xo, xc, cx0, lx⟩ := hcs k (by omega)
      have cx := (hE.cells.1 _ _ hg).trans cx0
      clear cx0
      obtain ⟨path, hpath⟩ : ∃ path, path = ps.getD k [] := ⟨_, rfl⟩
      rw [← hpath] at cx lx htk
      have HP : Hid _ := hpath
      have hr1 : Hid (∀ s : Nat, s < n → rof v s ps (k + 1) = rof v s ps k ++ stk v k s path path.length) := fun s _ => by show rof v s ps k ++ _ = _; rw [hpath]
      clear hpath hcs
      obtain ⟨L, hL⟩ : ∃ L, L = path.length := ⟨_, rfl⟩
      rw [← hL] at cx htk
      have hL1 : L ≤ path.length := by omega
      have hL2 : path.length ≤ L := by omega
      have HL : Hid (L = path.length) := hL
      clear hL
      have hLx : L ≤ 4611686018427387904 := by have := HT.out; omega
      have HTB1 : Hid (TB wr H n vs (fun s => rof v s ps k ++ stk v k s path (1 - 1))) := HTB.out.congr (fun s _ => by simp [stk])
      go_wp2
      clear cx b0 b2
      go_loopw [8] (fun iv wd => ∃ (i : Nat) (vs : Nat → Value), 1 ≤ i ∧ (i ≤ L ∨ i = 1) ∧ iv = .int .i64 i ∧ Hid (TB wd H n vs (fun s => rof v s ps k ++ stk v k s path (i - 1))) ∧ Ext W1 wd) (fun iv _ => L - (intOf iv).toNat)
      case atStart => exact ⟨1, vs, Nat.le_refl _, Or.inr rfl, rfl, HTB1, hE⟩
      case round =>
        clear HTB HTB1 hE
        obtain ⟨i, vs, hi1, hi2, rfl, HTB, hE⟩ := hrel
        obtain ⟨i', rfl⟩ : ∃ j, i = j + 1 := ⟨i - 1, by omega⟩
        have HTB' : Hid (TB wr H n vs (fun s => rof v s ps k ++ stk v k s path i')) := HTB.out
        clear HTB
        by_cases hil : i' + 1 < L
        · have i3 : ((i' : Int) + 1) < (L : Int) := by omega
          have i4 : (i' : Int) < (L : Int) := by omega
          rcases lx with h0 | ⟨b, o, rfl, hb, hin0⟩
          · exfalso; rw [h0] at hL2 hL1; simp at hL1 hL2; omega
          have hin : IntsAt wr b o path := fun j hj => (hE.cells.1 _ _ hb).trans (hin0 j hj)
          have c1 := hin i' (by omega)
          have c2 := hin (i' + 1) (by omega)
          obtain ⟨a, ha⟩ : ∃ a, path.getD i' 0 = a := ⟨_, rfl⟩
          obtain ⟨y, hy⟩ : ∃ a, path.getD (i' + 1) 0 = a := ⟨_, rfl⟩
          rw [ha] at c1
          rw [hy] at c2
          have hst : ∀ s : Nat, stk v k s path (i' + 1) = stk v k s path i' ++ (if a = (s : Int) then [(v, (k : Int), y)] else []) := fun s => by
            rw [stk, ha, hy]
            by_cases e : a = (s : Int)
            · rw [if_pos ⟨e, by omega⟩, if_pos e]
            · rw [if_neg (fun h => e h.1), if_neg e]
          have HST : Hid _ := hst
          have HKP : Hid (∀ W : World, Ext W1 W → W.cell? ⟨w.heap.size, 0, none⟩ = some (.int .i64 v) ∧ W.cell? ⟨b, o + (i' + 1), none⟩ = some (.int .i64 y)) := fun W hW => ⟨(HB.out W hW).1, by rw [← hy]; exact (hW.cells.1 _ _ hb).trans (hin0 (i' + 1) (by omega))⟩
          clear hst ha hy hin hin0
          obtain ⟨b0, b2⟩ := HB.out wr hE
          by_cases ha0 : a < 0
          · have HT2 : Hid (TB wr H n vs (fun s => rof v s ps k ++ stk v k s path (i' + 1 + 1 - 1))) := HTB'.out.congr (fun s _ => by show _ = rof v s ps k ++ stk v k s path (i' + 1); rw [HST.out, if_neg (by omega), List.append_nil])
            go_wp2
            exact ⟨⟨i' + 1 + 1, vs, by omega, by omega, by go_num, HT2, hE⟩, by simp [intOf]; omega⟩
          · by_cases han : (n : Int) ≤ a
            · have HT2 : Hid (TB wr H n vs (fun s => rof v s ps k ++ stk v k s path (i' + 1 + 1 - 1))) := HTB'.out.congr (fun s _ => by show _ = rof v s ps k ++ stk v k s path (i' + 1); rw [HST.out, if_neg (by omega), List.append_nil])
              go_wp2
              exact ⟨⟨i' + 1 + 1, vs, by omega, by omega, by go_num, HT2, hE⟩, by simp [intOf]; omega⟩
            · obtain ⟨t, rfl⟩ : ∃ t : Nat, a = (t : Int) := ⟨a.toNat, by omega⟩
              have htn : t < n := by omega
              have i5 : ¬ (t : Int) < 0 := by omega
              have i6 : ¬ (n : Int) ≤ (t : Int) := by omega
              have i7 : (t : Int) < (n : Int) := by omega
              obtain ⟨va, hva⟩ : ∃ va, vs t = va := ⟨_, rfl⟩
              obtain ⟨R, hR⟩ : ∃ R, rof v t ps k ++ stk v k t path i' = R := ⟨_, rfl⟩
              have hc := HTB'.out.row.cell (i := t) htn
              have hfz := HTB'.out.row.frozen t
              have hown : RO wr (H + 1) va R := by rw [← hva, ← hR]; exact HTB'.out.own t htn
              rw [hva] at hc
              have hRl : R.length ≤ tot ps k + L := by
                rw [← hR, List.length_append]
                have h1 := rof_len (v := v) (s := t) (ps := ps) k
                have h2 := stk_len (v := v) (f := k) (s := t) (path := path) i'
                omega
              have HVR : Hid _ := And.intro hva hR
              have HO : Hid (RO wr (H + 1) va R) := hown
              have HNE : Hid (some H ≠ va.ownBlock) := fun e => by have := (hown.block H e.symm).1; omega
              have hHlt := HTB'.out.row.lt
              have hTo := HT.out
              have HFIN : Hid (∀ (g5 gc5 : Nat) (w5 : World), w5.ownsRow (H + 1) 116 3 (.slice (some ⟨g5, 0, none⟩) (R.length + 1) gc5) (R.length + 1) (rcs R ++ [.int .i64 v, .int .i64 k, .int .i64 y]) →
                  (wr.alloc (.cells #[.int .i64 v, .int .i64 k, .int .i64 y] 116)).grownBy w5 va.ownBlock → (va.ownBlock = some g5 ∨ g5 = wr.heap.size + 1) →
                  w5.cell? ⟨H, t, none⟩ = some va ∧ w5.frozen? ⟨H, t, none⟩ = false ∧
                  (TB (w5.setCell ⟨H, t, none⟩ (.slice (some ⟨g5, 0, none⟩) (R.length + 1) gc5)) H n (fun s => if s = t then .slice (some ⟨g5, 0, none⟩) (R.length + 1) gc5 else vs s) (fun s => rof v s ps k ++ stk v k s path (i' + 1 + 1 - 1)) ∧
                  Ext W1 (w5.setCell ⟨H, t, none⟩ (.slice (some ⟨g5, 0, none⟩) (R.length + 1) gc5)))) := fun g5 gc5 w5 hown5 hgr6 hat5 => by
                have hb5 : w5.heap[H]? = wr.heap[H]? := (hgr6.block H (by simp; omega) HNE.out).trans (blk_alloc_lt _ _ _ hHlt)
                have hE5 : Ext W1 w5 := Below.grown (hE.alloc _) hgr6 (by have := HW.out; simp; omega) (fun j hj => by have := (RO.block HO.out j hj).1; have := HW.out; omega)
                have hpush := TB.push (r := (v, (k : Int), y)) HTB'.out htn (by rw [HVR.out.2]; exact hown5) (by rw [HVR.out.1]; exact hgr6) (by rw [HVR.out.1]; exact hat5)
                rw [HVR.out.2] at hpush
                refine ⟨(World.cell?_of_block (a := ⟨H, t, none⟩) hb5).trans hc, (World.frozen?_of_block (a := ⟨H, t, none⟩) hb5).trans hfz, hpush.congr (fun s _ => ?_), hE5.setCell (by have := HW.out; simp; omega) _⟩
                show _ = rof v s ps k ++ stk v k s path (i' + 1)
                rw [HST.out]
                by_cases e : s = t
                · subst e; simp
                · rw [if_neg e, if_neg (fun h => e (by omega)), List.append_nil]
              clear hva hR hown HKP
              have p0 : (0 : Int) ≤ (i' : Int) + 1 := by omega
              go_wp2
              go_region_law
                (refine step_append_lies _ ?_ (.tmp 49) (.tmp 58) 54 ?_ (H + 1) 116 i3' (.agg #[.int .i64 0, .int .i64 0, .int .i64 0]) 3 24 Try.underlying54 hi3 hz0 hz1 hz2 rfl (by decide) va R.length (rcs R) ?_ ?_ ⟨wr.heap.size, 0, none⟩ 1 1 [.int .i64 v, .int .i64 k, .int .i64 y] ?_ ?_ ?_ (one3 _ _ _) ?_ ?_ ?_ ?_ _ rfl ?_
                 · rfl
                 · rfl
                 · rfl
                 · exact RO.ext HO.out ((Ext.refl wr).alloc _).drew
                 · rfl
                 · rfl
                 · exact World.news_of_block (cs := #[.int .i64 v, .int .i64 k, .int .i64 y]) (blk_alloc_new wr _)
                 · omega
                 · unfold maxLen; omega
                 · omega
                 · simp; omega
                 intro g5 gc5 w5 hown5 hgr5 hat5 hlt5
                 have hfin := HFIN.out g5 gc5 w5 hown5 ⟨hgr5.os, hgr5.tape, hgr5.output, hgr5.size, hgr5.block⟩ (hat5.imp id (fun h => by simpa using h))
                 have q1 := hfin.1
                 have q2 := hfin.2.1
                 have HG5 : Hid _ := hfin.2.2
                 clear hown5 hgr5 hat5 hlt5 hfin)
              all_goals (
                clear b0 b2 c1 c2 hc hfz q1 q2
                go_wp2
                exact ⟨⟨i' + 1 + 1, _, by omega, by omega, by go_num, HG5.out.1, HG5.out.2⟩, by simp [intOf]; omega⟩)
        · have HT2 : Hid (TB wr H n vs (fun s => rof v s ps (k + 1))) := HTB'.out.congr (fun s hs => by
            show rof v s ps k ++ stk v k s path i' = rof v s ps (k + 1)
            rw [hr1.out s hs]
            congr 1
            by_cases e : path.length = i' + 1
            · rw [e, stk_last (by omega)]
            · have e2 : path.length = 0 := by omega
              have e3 : i' = 0 := by omega
              rw [e2, e3])
          have i3 : ¬ ((i' : Int) + 1) < (L : Int) := by omega
          go_wp2
          exact ⟨⟨k + 1, vs, by omega, by go_num, HT2, hE⟩, by simp [intOf]; omega⟩
    · have hkq : k = ql := by omega
      have HTB2 : Hid (TB wr H n vs (fun s => rof v s ps ql)) := by have := HTB.out; rwa [hkq] at this
      go_wp2
      go_ret
      refine ⟨vs, ?_, ?_, hE0.trans hE⟩
      · rw [← HH.out]; rfl
      · rw [← HH.out]; exact HTB2.out

end Go.Proofs.Ytgffkjjddhlbpaa.Tb
