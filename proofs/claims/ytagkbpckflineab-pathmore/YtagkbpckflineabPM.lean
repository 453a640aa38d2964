/- PathMore answers true, for every net, flow and link; nothing that was there is changed. -/
import Derived.Test.YtagkbpckflineabPMa
import Derived.Test.YtagkbpckflineabPL0
namespace Go.Proofs.Ytagkbpckflineab
open Go.RowKit Go.Maps Stw Go.Sort Go.Deep Stp

theorem fldErr (a b : Int) (w : World) : (Instr.field 38 (.agg #[.int .i64 a, .int .i64 b]) 0).run Try.prog w = .ok (.int .i64 a) w := by kernel_rfl

/-- One link more: a path is no dearer. -/
theorem fnd_more {n : Int} {ls : List Lk} {x : Lk} {f : Stf.Fl} (h1 : (fnd n ls f).1 = 0) (hr2 : Right n (ls ++ [x])) : (fnd n (ls ++ [x]) f).1 = 0 ∧ pathB n ls (fnd n ls f).2 = true ∧ pathB n (ls ++ [x]) (fnd n (ls ++ [x]) f).2 = true ∧ Right n ls ∧ pc (cost (ls ++ [x])) (fnd n (ls ++ [x]) f).2 ≤ pc (cost ls) (fnd n ls f).2 := by
  rcases fnd_cases (n := n) (ls := ls) (f := f) with h | h | ⟨_, hr, hF, hb⟩
  · exact absurd h1 h.1
  · omega
  · have hs := srv_more (l := x) hb.1
    have hc := (chain_more (l := x) hb.1.ch).2
    have hp := hb.1.toPth.path hr hF.fr
    have hw2 : (wrong n (ls ++ [x])).1 = 0 := by rw [hr2.wrong]
    rcases fnd_cases (n := n) (ls := ls ++ [x]) (f := f) with ⟨h, h9, _⟩ | ⟨h, _, _, _, h'⟩ | ⟨h, _, hF2, hb2⟩
    · exfalso
      unfold fnd at h h9
      rw [if_neg (by simp [hw2])] at h h9
      have hwf : Stf.wflow f n = 0 := by
        by_cases e : Stf.wflow f n = 0
        · exact e
        · unfold fnd at h1
          have hw1 : (wrong n ls).1 = 0 := by rw [hr.wrong]
          rw [if_neg (by simp [hw1]), if_pos e] at h1
          exact absurd h1 e
      rw [if_neg (by simp [hwf])] at h h9
      cases hfi : find (cost (ls ++ [x])) f.fr f.to f.via f.nt with
      | none => rw [hfi] at h9; exact h9 rfl
      | some y => rw [hfi] at h; exact h rfl
    · exact absurd hs (h' _)
    · refine ⟨h, hp, hb2.1.toPth.path hr2 hF2.fr, hr, ?_⟩
      rcases hb2.2.2 _ hs with h3 | ⟨h3, _⟩
      · rw [hc] at h3; omega
      · rw [hc] at h3; omega

theorem box_new (w : World) (A : Array Value) (t : TypeId) (i : Nat) : (w.alloc (.cells A t)).cell? ⟨w.heap.size, i, none⟩ = A[i]? := cell_of_row _ _ _ A t (0, 0) (blk_alloc_new _ _)
theorem three_boxes (w : World) (A B C : Array Value) (ta tb tc : TypeId) : (∀ i, (((w.alloc (.cells A ta)).alloc (.cells B tb)).alloc (.cells C tc)).cell? ⟨w.heap.size, i, none⟩ = A[i]?) ∧ (∀ i, (((w.alloc (.cells A ta)).alloc (.cells B tb)).alloc (.cells C tc)).cell? ⟨w.heap.size + 1, i, none⟩ = B[i]?) ∧ (∀ i, (((w.alloc (.cells A ta)).alloc (.cells B tb)).alloc (.cells C tc)).cell? ⟨w.heap.size + 1 + 1, i, none⟩ = C[i]?) := by
  refine ⟨fun i => ?_, fun i => ?_, fun i => ?_⟩
  · rw [World.cell?_alloc_past _ _ _ (by simp; omega), World.cell?_alloc_past _ _ _ (by simp), box_new]
  · rw [World.cell?_alloc_past _ _ _ (by simp)]
    have := box_new (w.alloc (.cells A ta)) B tb i
    rwa [World.size_alloc] at this
  · have := box_new ((w.alloc (.cells A ta)).alloc (.cells B tb)) C tc i
    rwa [World.size_alloc, World.size_alloc] at this

set_option maxRecDepth 100000 in
set_option maxHeartbeats 4000000 in
theorem pathMore_any (n : Int) (x : Lk) (ao : Option Addr) (len cap : Nat) (ls : List Lk) (f : Stf.Fl) (vo no : Option Addr) (vc nc : Nat) (w : World) (hlen : ls.length = len) (hl : NetAt w ao ls) (hx : len * 24 ≤ 140737488351232) (hI : I64 n)
    (hv : ListAt w vo f.via) (hvl : f.via.length ≤ 4611686018427387904) (hvc : f.via.length ≤ vc) (hn : ListAt w no f.nt) (hnl : f.nt.length ≤ 4611686018427387904) (hnc : f.nt.length ≤ nc) :
    Calls Try.prog 6 #[.agg #[.int .i64 n, .slice ao len cap], .agg #[.int .i64 f.fr, .int .i64 f.to, .slice vo f.via.length vc, .slice no f.nt.length nc], .agg #[.int .i64 x.a, .int .i64 x.b, .int .i64 x.c]] w fun e w' => e = .returned (.bool true) ∧ Ext w w' := by
  have hfd := fldErr
  obtain ⟨i0, hi0, hz0, hz1, hz2⟩ := info_parts Try.info43
  have HFM := hidp (fnd_more (n := n) (ls := ls) (x := x) (f := f))
  obtain ⟨fr, tt, via, nt⟩ := f
  simp only at hv hvl hvc hn hnl hnc ⊢
  go_enter Try.func6, Try.ntmps6
  go_wp2_with fail
  refine (alive_any _).mono ?_; rintro e w1 ⟨rfl, hb1⟩
  have hE1 : Ext w w1 := ((((Ext.refl w).alloc _).alloc _).alloc _).trans hb1
  have hs2 : w.heap.size + 1 + 1 < w1.heap.size := by have := hb1.size; simp at this; omega
  have hs1 : w.heap.size + 1 < w1.heap.size := by omega
  have hs0 : w.heap.size < w1.heap.size := by omega
  have HB : Hid (∀ W : World, Ext w1 W → W.cell? ⟨w.heap.size, 0, none⟩ = some (.int .i64 n) ∧ W.cell? ⟨w.heap.size, 1, none⟩ = some (.slice ao len cap) ∧ W.cell? ⟨w.heap.size + 1 + 1, 0, none⟩ = some (.int .i64 x.a) ∧ W.cell? ⟨w.heap.size + 1 + 1, 1, none⟩ = some (.int .i64 x.b) ∧ W.cell? ⟨w.heap.size + 1 + 1, 2, none⟩ = some (.int .i64 x.c)) := fun W h => by
    have h2 := hb1.cells.1
    obtain ⟨k0, k1, k2⟩ := three_boxes w #[.int .i64 n, .slice ao len cap] #[.int .i64 fr, .int .i64 tt, .slice vo via.length vc, .slice no nt.length nc] #[.int .i64 x.a, .int .i64 x.b, .int .i64 x.c] 24 28 49
    have z0 : w.heap.size < w.heap.size + 1 + 1 + 1 := by omega
    have z2 : w.heap.size + 1 + 1 < w.heap.size + 1 + 1 + 1 := by omega
    simp only [World.size_alloc] at h2
    exact ⟨(h.cells.1 _ _ hs0).trans ((h2 _ _ z0).trans (k0 0)), (h.cells.1 _ _ hs0).trans ((h2 _ _ z0).trans (k0 1)), (h.cells.1 _ _ hs2).trans ((h2 _ _ z2).trans (k2 0)), (h.cells.1 _ _ hs2).trans ((h2 _ _ z2).trans (k2 1)), (h.cells.1 _ _ hs2).trans ((h2 _ _ z2).trans (k2 2))⟩
  have HF : Hid (∀ W : World, Ext w1 W → W.cell? ⟨w.heap.size + 1, 0, none⟩ = some (.int .i64 fr) ∧ W.cell? ⟨w.heap.size + 1, 1, none⟩ = some (.int .i64 tt) ∧ W.cell? ⟨w.heap.size + 1, 2, none⟩ = some (.slice vo via.length vc) ∧ W.cell? ⟨w.heap.size + 1, 3, none⟩ = some (.slice no nt.length nc)) := fun W h => by
    have h2 := hb1.cells.1
    obtain ⟨k0, k1, k2⟩ := three_boxes w #[.int .i64 n, .slice ao len cap] #[.int .i64 fr, .int .i64 tt, .slice vo via.length vc, .slice no nt.length nc] #[.int .i64 x.a, .int .i64 x.b, .int .i64 x.c] 24 28 49
    have z1 : w.heap.size + 1 < w.heap.size + 1 + 1 + 1 := by omega
    simp only [World.size_alloc] at h2
    exact ⟨(h.cells.1 _ _ hs1).trans ((h2 _ _ z1).trans (k1 0)), (h.cells.1 _ _ hs1).trans ((h2 _ _ z1).trans (k1 1)), (h.cells.1 _ _ hs1).trans ((h2 _ _ z1).trans (k1 2)), (h.cells.1 _ _ hs1).trans ((h2 _ _ z1).trans (k1 3))⟩
  obtain ⟨c0, c1, c2, c3, c4⟩ := HB.out w1 (Ext.refl _)
  go_wp2
  obtain ⟨W0, hW0⟩ : ∃ W0, W0 = w1.alloc (.cells #[.int .i64 n, .slice ao len cap] 24) := ⟨_, rfl⟩
  have hE2 : Ext w1 W0 := by rw [hW0]; exact (Ext.refl w1).alloc _
  have hSz : W0.heap.size = w1.heap.size + 1 := by rw [hW0]; simp
  have u0 : W0.cell? ⟨w1.heap.size, 0, none⟩ = some (.int .i64 n) := by rw [hW0]; simp
  have u1 : W0.cell? ⟨w1.heap.size, 1, none⟩ = some (.slice ao len cap) := by rw [hW0]; simp
  have uf : W0.frozen? ⟨w1.heap.size, 1, none⟩ = false := by rw [hW0]; simp
  rw [← hW0]
  clear hW0
  have HSZ : Hid (W0.heap.size = w1.heap.size + 1) := hSz
  clear hSz
  go_cut [26] (fun _ wc => ∃ (g gc : Nat), wc.cell? ⟨w1.heap.size, 0, none⟩ = some (.int .i64 n) ∧ wc.cell? ⟨w1.heap.size, 1, none⟩ = some (.slice (some ⟨g, 0, none⟩) (len + 1) gc) ∧ g < wc.heap.size ∧ LinksAt wc g 0 (ls ++ [x]) ∧ Ext w1 wc ∧ w1.heap.size < wc.heap.size)
  case first =>
    have hnews : ∀ W, Ext W0 W → (len = 0 ∨ ∃ ad, ao = some ad ∧ ∀ j u, (linkCells ls)[j]? = some u → W.cell? (ad.add j) = some u) := fun W hW => by
      rcases hl with rfl | ⟨b, off, rfl, hb, hl⟩
      · exact Or.inl (by simpa using hlen.symm)
      · refine Or.inr ⟨_, rfl, ?_⟩
        have hlW : LinksAt W0 b off ls := (hl.ext hb (hE1.trans hE2))
        have hbW : b < W0.heap.size := Nat.lt_of_lt_of_le hb (hE1.trans hE2).size
        exact links_cells (hlW.ext hbW hW)
    have hSz := HSZ.out
    have hownA : ((W0.alloc (Obj.cells #[] 49)).drew).ownsRow (w1.heap.size + 1) 49 3 (.slice (some ⟨W0.heap.size, 0, none⟩) 0 0) 0 [] := own_empty (by omega) (heap_alloc_new W0 _)
    have hownB : (((W0.alloc (Obj.cells #[] 49)).alloc (Obj.cells #[.int .i64 x.a, .int .i64 x.b, .int .i64 x.c] 49)).drew).ownsRow (w1.heap.size + 1) 49 3 (.slice (some ⟨W0.heap.size, 0, none⟩) 0 0) 0 [] := own_empty (by omega) ((Below.heap_alloc _ _ _ (by simp)).trans (heap_alloc_new W0 _))
    have hownC : (((W0.alloc (Obj.cells #[.int .i64 x.a, .int .i64 x.b, .int .i64 x.c] 49)).alloc (Obj.cells #[] 49)).drew).ownsRow (w1.heap.size + 1) 49 3 (.slice (some ⟨W0.heap.size + 1, 0, none⟩) 0 0) 0 [] := own_empty (by omega) (by
      have := heap_alloc_new (W0.alloc (Obj.cells #[.int .i64 x.a, .int .i64 x.b, .int .i64 x.c] 49)) (Obj.cells #[] 49)
      rwa [World.size_alloc] at this)
    have HA := hidp (And.intro hownA (And.intro (hnews ((W0.alloc (Obj.cells #[] 49)).drew) ((Ext.refl W0).alloc _).drew) (And.intro (show w1.heap.size + 1 ≤ ((W0.alloc (Obj.cells #[] 49)).drew).heap.size by simp; omega) (fun w2 (h : ((W0.alloc (Obj.cells #[] 49)).drew).grownBy w2 (some W0.heap.size)) => (show Below (w1.heap.size + 1) W0 w2 from Below.grown ((Below.refl _ _).alloc (by omega) _).drew h (by simp; omega) (fun k hk => by cases hk; omega))))))
    have HBB := hidp (And.intro hownB (And.intro (hnews (((W0.alloc (Obj.cells #[] 49)).alloc (Obj.cells #[.int .i64 x.a, .int .i64 x.b, .int .i64 x.c] 49)).drew) (((Ext.refl W0).alloc _).alloc _).drew) (And.intro (show w1.heap.size + 1 ≤ (((W0.alloc (Obj.cells #[] 49)).alloc (Obj.cells #[.int .i64 x.a, .int .i64 x.b, .int .i64 x.c] 49)).drew).heap.size by simp; omega) (fun w2 (h : (((W0.alloc (Obj.cells #[] 49)).alloc (Obj.cells #[.int .i64 x.a, .int .i64 x.b, .int .i64 x.c] 49)).drew).grownBy w2 (some W0.heap.size)) => (show Below (w1.heap.size + 1) W0 w2 from Below.grown (((Below.refl _ _).alloc (by omega) _).alloc (by simp; omega) _).drew h (by simp; omega) (fun k hk => by cases hk; omega))))))
    have HC := hidp (And.intro hownC (And.intro (hnews (((W0.alloc (Obj.cells #[.int .i64 x.a, .int .i64 x.b, .int .i64 x.c] 49)).alloc (Obj.cells #[] 49)).drew) (((Ext.refl W0).alloc _).alloc _).drew) (And.intro (show w1.heap.size + 1 ≤ (((W0.alloc (Obj.cells #[.int .i64 x.a, .int .i64 x.b, .int .i64 x.c] 49)).alloc (Obj.cells #[] 49)).drew).heap.size by simp; omega) (fun w2 (h : (((W0.alloc (Obj.cells #[.int .i64 x.a, .int .i64 x.b, .int .i64 x.c] 49)).alloc (Obj.cells #[] 49)).drew).grownBy w2 (some (W0.heap.size + 1))) => (show Below (w1.heap.size + 1) W0 w2 from Below.grown (((Below.refl _ _).alloc (by omega) _).alloc (by simp; omega) _).drew h (by simp; omega) (fun k hk => by cases hk; omega))))))
    have HNB : Hid (∀ w2, (((W0.alloc (Obj.cells #[] 49)).alloc (Obj.cells #[.int .i64 x.a, .int .i64 x.b, .int .i64 x.c] 49)).drew).grownBy w2 (some W0.heap.size) → w2.heap[W0.heap.size + 1]? = some (.cells #[.int .i64 x.a, .int .i64 x.b, .int .i64 x.c] 49 (0, 0))) := fun w2 h => by
      rw [h.block (W0.heap.size + 1) (by simp) (by simp)]
      have := heap_alloc_new (W0.alloc (Obj.cells #[] 49)) (Obj.cells #[.int .i64 x.a, .int .i64 x.b, .int .i64 x.c] 49)
      rw [World.size_alloc] at this
      exact this
    have HNC : Hid (∀ w2, (((W0.alloc (Obj.cells #[.int .i64 x.a, .int .i64 x.b, .int .i64 x.c] 49)).alloc (Obj.cells #[] 49)).drew).grownBy w2 (some (W0.heap.size + 1)) → w2.heap[W0.heap.size]? = some (.cells #[.int .i64 x.a, .int .i64 x.b, .int .i64 x.c] 49 (0, 0))) := fun w2 h => by
      rw [h.block W0.heap.size (by simp; omega) (by simp)]
      exact (Below.heap_alloc _ _ _ (by simp)).trans (heap_alloc_new W0 _)
    clear hownA hownB hownC hSz
    go_region_held3 (fun W => W.cell? ⟨w.heap.size, 1, none⟩ = some (.slice ao len cap) ∧ W.cell? ⟨w.heap.size + 1 + 1, 0, none⟩ = some (.int .i64 x.a) ∧ W.cell? ⟨w.heap.size + 1 + 1, 1, none⟩ = some (.int .i64 x.b) ∧ W.cell? ⟨w.heap.size + 1 + 1, 2, none⟩ = some (.int .i64 x.c))
      (first | exact (HB.out _ hE2.drew).2 | exact (HB.out _ (hE2.alloc _).drew).2 | exact (HB.out _ ((hE2.alloc _).alloc _).drew).2 | exact (HB.out _ (ext_of_below hE2 hB2)).2 | exact (HB.out _ ((ext_of_below hE2 hB2).alloc _)).2 | exact (HB.out _ (ext_of_below hE2 hB3)).2 | exact (HB.out _ ((ext_of_below hE2 hB3).setCell (by simp) _)).2)
      (first
        | (have _t := hB2
           refine step_append_lies _ ?_ (.tmp 22) (.tmp 24) 22 ?_ (w1.heap.size + 1) 49 i0 (.agg #[.int .i64 0, .int .i64 0, .int .i64 0]) 3 24 Try.underlying22 hi0 hz0 hz1 hz2 rfl (by decide) (.slice (some ⟨g1, 0, none⟩) len gc1) len (linkCells ls) ?_ ?_ ⟨w2.heap.size, 0, none⟩ 1 1 [.int .i64 x.a, .int .i64 x.b, .int .i64 x.c] ?_ rfl ?_ ?_ ?_ ?_ ?_ ?_ _ rfl ?_
           · rfl
           · rfl
           · first | rfl | (show Value.slice (some ⟨g1, 0, none⟩) (0 + len) gc1 = _; rw [Nat.zero_add])
           · exact hown2.alloc _
           · rfl
           · exact World.news_of_block (cs := #[.int .i64 x.a, .int .i64 x.b, .int .i64 x.c]) (heap_alloc_new w2 _)
           · exact one3 _ _ _
           · omega
           · unfold maxLen; omega
           · omega
           · have := hB2.size; have := HSZ.out; simp; omega
           intro g gc w3 hown3 hgr3 hat3 hlt3
           have hB3 : Below (w1.heap.size + 1) W0 w3 := Below.grown (hB2.alloc (by have := hB2.size; have := HSZ.out; omega) _) hgr3 (by have := hB2.size; have := HSZ.out; simp; omega) (fun k hk => (hown2.lt k hk).1)
           obtain ⟨z1, z2⟩ := u_kept hB3 u1 uf)
        | (have _t := hB2
           refine step_append_lies _ ?_ (.tmp 22) (.tmp 24) 22 ?_ (w1.heap.size + 1) 49 i0 (.agg #[.int .i64 0, .int .i64 0, .int .i64 0]) 3 24 Try.underlying22 hi0 hz0 hz1 hz2 rfl (by decide) (.slice (some ⟨g1, 0, none⟩) len gc1) len (linkCells ls) ?_ ?_ ⟨W0.heap.size + 1, 0, none⟩ 1 1 [.int .i64 x.a, .int .i64 x.b, .int .i64 x.c] ?_ rfl ?_ ?_ ?_ ?_ ?_ ?_ _ rfl ?_
           · rfl
           · rfl
           · first | rfl | (show Value.slice (some ⟨g1, 0, none⟩) (0 + len) gc1 = _; rw [Nat.zero_add])
           · exact hown2
           · rfl
           · exact World.news_of_block (cs := #[.int .i64 x.a, .int .i64 x.b, .int .i64 x.c]) (HNB.out w2 hgr2)
           · exact one3 _ _ _
           · omega
           · unfold maxLen; omega
           · omega
           · have := hB2.size; have := HSZ.out; omega
           intro g gc w3 hown3 hgr3 hat3 hlt3
           have hB3 : Below (w1.heap.size + 1) W0 w3 := Below.grown hB2 hgr3 (by have := hB2.size; have := HSZ.out; omega) (fun k hk => (hown2.lt k hk).1)
           obtain ⟨z1, z2⟩ := u_kept hB3 u1 uf)
        | (have _t := hB2
           refine step_append_lies _ ?_ (.tmp 22) (.tmp 24) 22 ?_ (w1.heap.size + 1) 49 i0 (.agg #[.int .i64 0, .int .i64 0, .int .i64 0]) 3 24 Try.underlying22 hi0 hz0 hz1 hz2 rfl (by decide) (.slice (some ⟨g1, 0, none⟩) len gc1) len (linkCells ls) ?_ ?_ ⟨W0.heap.size, 0, none⟩ 1 1 [.int .i64 x.a, .int .i64 x.b, .int .i64 x.c] ?_ rfl ?_ ?_ ?_ ?_ ?_ ?_ _ rfl ?_
           · rfl
           · rfl
           · first | rfl | (show Value.slice (some ⟨g1, 0, none⟩) (0 + len) gc1 = _; rw [Nat.zero_add])
           · exact hown2
           · rfl
           · exact World.news_of_block (cs := #[.int .i64 x.a, .int .i64 x.b, .int .i64 x.c]) (HNC.out w2 hgr2)
           · exact one3 _ _ _
           · omega
           · unfold maxLen; omega
           · omega
           · have := hB2.size; have := HSZ.out; omega
           intro g gc w3 hown3 hgr3 hat3 hlt3
           have hB3 : Below (w1.heap.size + 1) W0 w3 := Below.grown hB2 hgr3 (by have := hB2.size; have := HSZ.out; omega) (fun k hk => (hown2.lt k hk).1)
           obtain ⟨z1, z2⟩ := u_kept hB3 u1 uf)
        | (refine step_append_net _ ?_ (.tmp 19) (.tmp 21) 22 ?_ (w1.heap.size + 1) 49 i0 (.agg #[.int .i64 0, .int .i64 0, .int .i64 0]) 3 24 Try.underlying22 hi0 hz0 hz1 hz2 rfl (by decide) (W0.heap.size) ?_ ?_ ao len cap (linkCells ls) ?_ ?_ ?_ (linkCells_one ls) ?_ ?_ ?_ ?_
           · rfl
           · rfl
           · rfl
           · exact HA.out.1
           · rfl
           · rw [linkCells_len, hlen]
           · exact HA.out.2.1
           · unfold maxLen; omega
           · omega
           · exact HA.out.2.2.1
           intro g1 gc1 w2 hown2 hgr2
           have hB2 := HA.out.2.2.2 w2 hgr2)
        | (refine step_append_net _ ?_ (.tmp 19) (.tmp 21) 22 ?_ (w1.heap.size + 1) 49 i0 (.agg #[.int .i64 0, .int .i64 0, .int .i64 0]) 3 24 Try.underlying22 hi0 hz0 hz1 hz2 rfl (by decide) (W0.heap.size) ?_ ?_ ao len cap (linkCells ls) ?_ ?_ ?_ (linkCells_one ls) ?_ ?_ ?_ ?_
           · rfl
           · rfl
           · rfl
           · exact HBB.out.1
           · rfl
           · rw [linkCells_len, hlen]
           · exact HBB.out.2.1
           · unfold maxLen; omega
           · omega
           · exact HBB.out.2.2.1
           intro g1 gc1 w2 hown2 hgr2
           have hB2 := HBB.out.2.2.2 w2 hgr2)
        | (refine step_append_net _ ?_ (.tmp 19) (.tmp 21) 22 ?_ (w1.heap.size + 1) 49 i0 (.agg #[.int .i64 0, .int .i64 0, .int .i64 0]) 3 24 Try.underlying22 hi0 hz0 hz1 hz2 rfl (by decide) (W0.heap.size + 1) ?_ ?_ ao len cap (linkCells ls) ?_ ?_ ?_ (linkCells_one ls) ?_ ?_ ?_ ?_
           · rfl
           · rfl
           · rfl
           · exact HC.out.1
           · rfl
           · rw [linkCells_len, hlen]
           · exact HC.out.2.1
           · unfold maxLen; omega
           · omega
           · exact HC.out.2.2.1
           intro g1 gc1 w2 hown2 hgr2
           have hB2 := HC.out.2.2.2 w2 hgr2)
        | fail)
    all_goals
      go_wp2_with fail
      go_meet
      case rel => exact more_rel hE2 HSZ.out hB3 hlen hown3 u0 z1
  case rest =>
    obtain ⟨g, gc, d0, d1, hg, hlg, hE3, hs3⟩ := hcut
    obtain ⟨e0, e1, e2, e3, e4⟩ := HB.out _ hE3
    obtain ⟨f0, f1, f2, f3⟩ := HF.out _ hE3
    have hlt' : (ls ++ [x]).length = len + 1 := by simp [hlen]
    have hnu : NetAt wc (some ⟨g, 0, none⟩) (ls ++ [x]) := Or.inr ⟨g, 0, rfl, hg, hlg⟩
    have hnt : NetAt wc ao ls := hl.ext (hE1.trans hE3)
    clear c0 c1 c2 c3 c4 uf e2 e3 e4
    have hEc := hE1.trans hE3
    go_wp2_with fail
    refine (Find_any n ao len cap ls ⟨fr, tt, via, nt⟩ vo no vc nc _ hlen hnt (by omega) hI (hv.ext hEc) hvl hvc (hn.ext hEc) hnl hnc).mono ?_
    rintro e w4 ⟨go4, gc4, rfl, hg4, hgl4, E4⟩
    have d0' := (E4.cells.1 _ _ hs3).trans d0
    have d1' := (E4.cells.1 _ _ hs3).trans d1
    have hs4 : w1.heap.size < w4.heap.size := Nat.lt_of_lt_of_le hs3 E4.size
    obtain ⟨f0', f1', f2', f3'⟩ := HF.out _ (hE3.trans E4)
    have hE4 := hEc.trans E4
    clear d0 d1 f0 f1 f2 f3 e0 e1
    go_wp2_with fail
    refine (Find_any n (some ⟨g, 0, none⟩) (len + 1) gc (ls ++ [x]) ⟨fr, tt, via, nt⟩ vo no vc nc _ hlt' (hnu.ext E4) (by omega) hI (hv.ext hE4) hvl hvc (hn.ext hE4) hnl hnc).mono ?_
    rintro e w5 ⟨go5, gc5, rfl, hg5, hgl5, E5⟩
    have d0 := (E5.cells.1 _ _ hs4).trans d0'
    have d1 := (E5.cells.1 _ _ hs4).trans d1'
    have hs5 : w1.heap.size < w5.heap.size := Nat.lt_of_lt_of_le hs4 E5.size
    have hE5 := hE4.trans E5
    obtain ⟨e0, e1, _, _, _⟩ := HB.out _ ((hE3.trans E4).trans E5)
    clear d0' d1' f0' f1' f2' f3'
    by_cases h0 : (fnd n ls ⟨fr, tt, via, nt⟩).1 = 0
    · rw [h0]
      by_cases hw2 : (wrong n (ls ++ [x])).1 = 0
      · have hr2 := right_of hw2
        obtain ⟨m1, m2, m3, m4, m5⟩ := HFM.out h0 hr2
        have hwr := hr2.wrong
        have HWR := hidp hwr
        have HL1 : Hid (lengthOf n ls (fnd n ls ⟨fr, tt, via, nt⟩).2 = (pc (cost ls) (fnd n ls ⟨fr, tt, via, nt⟩).2, true)) := by rw [length_iff m4, if_pos m2]; exact hidp rfl
        have HL2 : Hid (lengthOf n (ls ++ [x]) (fnd n (ls ++ [x]) ⟨fr, tt, via, nt⟩).2 = (pc (cost (ls ++ [x])) (fnd n (ls ++ [x]) ⟨fr, tt, via, nt⟩).2, true)) := by rw [length_iff hr2, if_pos m3]; exact hidp rfl
        have hp8 := pth_len (pth_of m4 m2)
        have hq8 := pth_len (pth_of hr2 m3)
        have hpi : ∀ y ∈ (fnd n ls ⟨fr, tt, via, nt⟩).2, I64 y := fun y hy => by have := (pth_of m4 m2).rng y hy; exact i64_small (by omega) (by omega)
        have hqi : ∀ y ∈ (fnd n (ls ++ [x]) ⟨fr, tt, via, nt⟩).2, I64 y := fun y hy => by have := (pth_of hr2 m3).rng y hy; exact i64_small (by omega) (by omega)
        rw [m1]
        clear h0 hw2 hwr m1 m2 m3 HFM
        go_wp2_with fail
        refine (Wrong_any n (some ⟨g, 0, none⟩) (len + 1) gc (ls ++ [x]) _ hlt' ((hnu.ext E4).ext E5) (by omega)).mono ?_
        rintro e w6 ⟨he, E6⟩
        rw [HWR.out] at he
        subst he
        have d0' := (E6.cells.1 _ _ hs5).trans d0
        have d1' := (E6.cells.1 _ _ hs5).trans d1
        obtain ⟨e0', e1', _, _, _⟩ := HB.out _ (((hE3.trans E4).trans E5).trans E6)
        have hs6 : w1.heap.size < w6.heap.size := Nat.lt_of_lt_of_le hs5 E6.size
        have hE6 := hE5.trans E6
        clear d0 d1 e0 e1
        go_wp2_with fail
        refine (Length_any n ao go4 len cap _ gc4 ls (fnd n ls ⟨fr, tt, via, nt⟩).2 _ hlen (hl.ext hE6) (by omega) rfl (by omega) ((hg4.ext E5).ext E6) hpi).mono ?_
        rintro e w7 ⟨he, E7⟩
        rw [HL1.out] at he
        subst he
        have d0 := (E7.cells.1 _ _ hs6).trans d0'
        have d1 := (E7.cells.1 _ _ hs6).trans d1'
        clear d0' d1' e0' e1'
        go_wp2_with fail
        refine (Length_any n (some ⟨g, 0, none⟩) go5 (len + 1) gc _ gc5 (ls ++ [x]) (fnd n (ls ++ [x]) ⟨fr, tt, via, nt⟩).2 _ hlt' ((((hnu.ext E4).ext E5).ext E6).ext E7) (by omega) rfl (by omega) ((hg5.ext E6).ext E7) hqi).mono ?_
        rintro e w8 ⟨he, E8⟩
        rw [HL2.out] at he
        subst he
        go_wp2
        go_ret
        exact ⟨by simp, (hE6.trans E7).trans E8⟩
      · have hw2' : ((wrong n (ls ++ [x])).1 != 0) = true := by simpa using hw2
        clear h0 hw2
        go_wp2_with fail
        refine (Wrong_any n (some ⟨g, 0, none⟩) (len + 1) gc (ls ++ [x]) _ hlt' ((hnu.ext E4).ext E5) (by omega)).mono ?_
        rintro e w6 ⟨rfl, E6⟩
        go_wp2
        go_ret
        exact ⟨rfl, hE5.trans E6⟩
    · have h0' : ((fnd n ls ⟨fr, tt, via, nt⟩).1 != 0) = true := by simpa using h0
      clear h0
      go_wp2
      go_ret
      exact ⟨rfl, hE5⟩

end Go.Proofs.Ytagkbpckflineab
