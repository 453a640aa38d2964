/- What the document's own Rules of a plan at a switch answers; nothing that was there is changed. -/
import Derived.Test.YtdiknngmepjncacV21
namespace Go.Proofs.Ytdiknngmepjncac.Tb
open Go.RowKit Go.Maps Stw Go.Deep Rul Go.Sort

set_option maxRecDepth 100000 in
set_option maxHeartbeats 800000 in
theorem refRules_any (v s : Int) (fo qo : Option Addr) (fl fc ql qc : Nat) (ps : List (List Int)) (w : World) (hql : ps.length = ql) (hps : PsAt w qo ps) (hT : tot ps ps.length * 24 ≤ 140737488351232) (hqx : ql ≤ 4611686018427387904) :
    Calls Try.prog 14 #[.agg #[.int .i64 v, .slice fo fl fc, .slice qo ql qc], .int .i64 s] w fun e w' => ∃ v', e = .returned v' ∧ RO w' w.heap.size v' (rof v s ps ql) ∧ Ext w w' := by
  obtain ⟨i3', hi3, hz0, hz1, hz2⟩ := infoR'
  have hE0 : Ext w (w.alloc (.cells #[.int .i64 v, .slice fo fl fc, .slice qo ql qc] 39)) := (Ext.refl w).alloc _
  have HB : Hid (∀ W : World, Ext (w.alloc (.cells #[.int .i64 v, .slice fo fl fc, .slice qo ql qc] 39)) W → W.cell? ⟨w.heap.size, 0, none⟩ = some (.int .i64 v) ∧ W.cell? ⟨w.heap.size, 2, none⟩ = some (.slice qo ql qc)) := fun W h =>
    ⟨(h.cells.1 _ _ (by simp)).trans (by simp), (h.cells.1 _ _ (by simp)).trans (by simp)⟩
  have HT : Hid _ := hT
  clear hT
  go_enter Try.func14, Try.ntmps14
  go_wp2
  obtain ⟨W1, hW1⟩ : ∃ W1, W1 = w.alloc (.cells #[.int .i64 v, .slice fo fl fc, .slice qo ql qc] 39) := ⟨_, rfl⟩
  have hW1s : w.heap.size < W1.heap.size := by rw [hW1]; simp
  rw [← hW1] at HB hE0 ⊢
  clear hW1
  go_loopw [5, 13] (fun ov iv wd => ∃ k : Nat, k ≤ ql ∧ iv = .int .i64 k ∧ Hid (RO wd W1.heap.size ov (rof v s ps k)) ∧ Ext W1 wd) (fun _ iv _ => ql - (intOf iv).toNat)
  case atStart => exact ⟨0, Nat.zero_le _, rfl, RO.nil _ _, Ext.refl W1⟩
  case round =>
    obtain ⟨k, hk, rfl, HO, hE⟩ := hrel
    by_cases hlt : k < ql
    · have i1 : (k : Int) < (ql : Int) := by omega
      have htk : tot ps k + (ps.getD k []).length ≤ tot ps ps.length := by have := tot_mono (ps := ps) (j := k + 1) (k := ps.length) (by omega); rwa [tot] at this
      rcases hps.ext hE0 with h0 | ⟨g, off, rfl, hg, hcs⟩
      · exfalso; rw [h0] at hql; simp at hql; omega
      obtain ⟨xo, xc, cx0, lx⟩ := hcs k (by omega)
      have cx := (hE.cells.1 _ _ hg).trans cx0
      clear cx0
      obtain ⟨path, hpath⟩ : ∃ path, path = ps.getD k [] := ⟨_, rfl⟩
      rw [← hpath] at cx lx htk
      have hr1 : Hid (rof v s ps (k + 1) = rof v s ps k ++ stk v k s path path.length) := by show rof v s ps k ++ _ = _; rw [hpath]
      clear hpath hcs
      obtain ⟨L, hL⟩ : ∃ L, L = path.length := ⟨_, rfl⟩
      rw [← hL] at cx htk
      have hL1 : L ≤ path.length := by omega
      have hL2 : path.length ≤ L := by omega
      have HL : Hid (L = path.length) := hL
      clear hL
      have hLx : L ≤ 4611686018427387904 := by have := HT.out; omega
      have HO1 : Hid (RO wr W1.heap.size u5 (rof v s ps k ++ stk v k s path 0)) := by show RO _ _ _ (_ ++ []); rw [List.append_nil]; exact HO.out
      go_wp2
      clear cx
      go_loopw [5, 20] (fun ov jv wd => ∃ j : Nat, j ≤ L ∧ jv = .int .i64 j ∧ Hid (RO wd W1.heap.size ov (rof v s ps k ++ stk v k s path j)) ∧ Ext W1 wd) (fun _ jv _ => L - (intOf jv).toNat)
      case atStart => exact ⟨0, Nat.zero_le _, rfl, HO1, hE⟩
      case round =>
        clear HO1 HO hE
        obtain ⟨j, hj, rfl, HO, hE⟩ := hrel
        by_cases hjl : j < L
        · have i2 : (j : Int) < (L : Int) := by omega
          rcases lx with h0 | ⟨b, o, rfl, hb, hin0⟩
          · exfalso; rw [h0] at hL2 hL1; simp at hL1 hL2; omega
          have c1 := (hE.cells.1 _ _ hb).trans (hin0 j (by omega))
          obtain ⟨a, ha⟩ : ∃ a, path.getD j 0 = a := ⟨_, rfl⟩
          rw [ha] at c1
          obtain ⟨b0, b2⟩ := HB.out wr hE
          by_cases hc : a = s ∧ j + 1 < L
          · have c2 := (hE.cells.1 _ _ hb).trans (hin0 (j + 1) (by omega))
            obtain ⟨y, hy⟩ : ∃ a, path.getD (j + 1) 0 = a := ⟨_, rfl⟩
            rw [hy] at c2
            have hst : stk v k s path (j + 1) = stk v k s path j ++ [(v, (k : Int), y)] := by rw [stk, ha, hy, if_pos ⟨hc.1, by omega⟩]
            have HST : Hid _ := hst
            have e1 : (a == s) = true := by simpa using hc.1
            have i3 : (j : Int) < (L : Int) - 1 := by omega
            have i4 : (j : Int) + 1 < (L : Int) := by omega
            have p0 : (0 : Int) ≤ (j : Int) + 1 := by omega
            obtain ⟨R, hR⟩ : ∃ R, rof v s ps k ++ stk v k s path j = R := ⟨_, rfl⟩
            have hRl : R.length ≤ tot ps k + L := by
              rw [← hR, List.length_append]
              have h1 := rof_len (v := v) (s := s) (ps := ps) k
              have h2 := stk_len (v := v) (f := k) (s := s) (path := path) j
              omega
            have hown : RO wr W1.heap.size u5 R := by rw [← hR]; exact HO.out
            have HOw : Hid (RO wr W1.heap.size u5 R) := hown
            have HRR : Hid _ := hR
            have hTo := HT.out
            have hsz := hE.size
            have ww : IntKind.i64.wrap ((j : Int) + 1) = (j : Int) + 1 := by rw [IntKind.wrap_i64]; omega
            have HFIN : Hid (∀ (g5 gc5 : Nat) (w5 : World), w5.ownsRow W1.heap.size 54 3 (.slice (some ⟨g5, 0, none⟩) (R.length + 1) gc5) (R.length + 1) (rcs R ++ [.int .i64 v, .int .i64 k, .int .i64 y]) → (wr.alloc (.cells #[.int .i64 v, .int .i64 k, .int .i64 y] 54)).grownBy w5 u5.ownBlock →
                RO w5 W1.heap.size (.slice (some ⟨g5, 0, none⟩) (R.length + 1) gc5) (rof v s ps k ++ stk v k s path (j + 1)) ∧ Ext W1 w5) := fun g5 gc5 w5 ho hg => by
              refine ⟨?_, Below.grown (hE.alloc _) hg (by simp; omega) (fun q hq => (hown.block q hq).1)⟩
              rw [hst, ← List.append_assoc, hR]
              unfold RO
              rw [rcs_append, List.length_append]
              simpa [rcs] using ho
            clear hst ha hy hc hin0 hR hown HO
            go_wp2
            go_region_law
              (refine step_append_lies _ ?_ (.tmp 35) (.tmp 45) 40 ?_ W1.heap.size 54 i3' (.agg #[.int .i64 0, .int .i64 0, .int .i64 0]) 3 24 Try.underlying40 hi3 hz0 hz1 hz2 rfl (by decide) u5 R.length (rcs R) ?_ ?_ ⟨wr.heap.size, 0, none⟩ 1 1 [.int .i64 v, .int .i64 k, .int .i64 y] ?_ ?_ ?_ (one3 _ _ _) ?_ ?_ ?_ ?_ _ rfl ?_
               · rfl
               · rfl
               · rfl
               · exact RO.ext HOw.out ((Ext.refl wr).alloc _).drew
               · rfl
               · rfl
               · exact World.news_of_block (cs := #[.int .i64 v, .int .i64 k, .int .i64 y]) (blk_alloc_new wr _)
               · omega
               · unfold maxLen; omega
               · omega
               · simp; omega
               intro g5 gc5 w5 hown5 hgr5 hat5 hlt5
               have HG5 : Hid _ := HFIN.out g5 gc5 w5 hown5 ⟨hgr5.os, hgr5.tape, hgr5.output, hgr5.size, hgr5.block⟩
               clear hown5 hgr5 hat5 hlt5)
            all_goals (
              go_wp2
              exact ⟨⟨j + 1, by omega, by go_num, HG5.out.1, HG5.out.2⟩, by simp [intOf]; omega⟩)
          · have HO2 : Hid (RO wr W1.heap.size u5 (rof v s ps k ++ stk v k s path (j + 1))) := by
              show RO _ _ _ _
              rw [stk, ha, if_neg (fun h => hc ⟨h.1, by omega⟩), List.append_nil]
              exact HO.out
            by_cases hs : a = s
            · have hjn : ¬ j + 1 < L := fun h => hc ⟨hs, h⟩
              have e1 : (a == s) = true := by simpa using hs
              have i3 : ¬ (j : Int) < (L : Int) - 1 := by omega
              clear hc hs ha HO hin0
              go_wp2
              exact ⟨⟨j + 1, by omega, by go_num, HO2, hE⟩, by simp [intOf]; omega⟩
            · have e1 : (a == s) = false := by simpa using hs
              clear hc hs ha HO hin0
              go_wp2
              exact ⟨⟨j + 1, by omega, by go_num, HO2, hE⟩, by simp [intOf]; omega⟩
        · have i2 : ¬ (j : Int) < (L : Int) := by omega
          have HO2 : Hid (RO wr W1.heap.size u5 (rof v s ps (k + 1))) := by
            show RO _ _ _ _
            rw [hr1.out, show path.length = j by omega]
            exact HO.out
          go_wp2
          exact ⟨⟨k + 1, by omega, by go_num, HO2, hE⟩, by simp [intOf]; omega⟩
    · have hkq : k = ql := by omega
      have HO2 : Hid (RO wr W1.heap.size u5 (rof v s ps ql)) := by have := HO.out; rwa [hkq] at this
      go_wp2
      go_ret
      refine ⟨_, rfl, ?_, hE0.trans hE⟩
      have h := HO2.out
      refine ⟨h.1, ?_⟩
      rcases h.2 with h2 | ⟨g, cap, cur, h1, h2, h3⟩
      · exact Or.inl h2
      · exact Or.inr ⟨g, cap, cur, h1, by omega, h3⟩

end Go.Proofs.Ytdiknngmepjncac.Tb
