/- What enter does, whatever was found before: it keeps the first of the cheapest ways; the way and what is closed are as they were. -/
import Derived.Test.YtgffkjjddhlbpaaP4
import Derived.Deep.RegionHeld3
namespace Go.Proofs.Ytgffkjjddhlbpaa
open Go.RowKit Go.Maps Stw Go.Deep Stp

theorem run_neq_nil (w : World) (a : Option Addr) (n c : Nat) : (binOp .neq 105 (.slice a n c) (.slice none 0 0)).run Try.prog w = .ok (.bool (!a.isNone)) w := by
  have h := run_equal_slice_nil w 105 _ a n c Try.underlying105
  simp [binOp, h]

theorem flow_cells {w : World} {S : Nat} {C : Int → Int → Int} {fr to l : Int} {vv nv wv bv : Value} {cl : List Int} (h : w.rowIs S 129 79 (sF C fr to vv nv cl wv bv l)) :
    w.cell? ⟨S, 65, none⟩ = some (.int .i64 to) ∧ w.cell? ⟨S, 66, none⟩ = some vv ∧ w.cell? ⟨S, 76, none⟩ = some wv ∧ w.cell? ⟨S, 77, none⟩ = some bv ∧ w.cell? ⟨S, 78, none⟩ = some (.int .i64 l) ∧ (∀ i, w.frozen? ⟨S, i, none⟩ = false) :=
  ⟨h.cell (i := 65) (by omega), h.cell (i := 66) (by omega), h.cell (i := 76) (by omega), h.cell (i := 77) (by omega), h.cell (i := 78) (by omega), fun i => h.frozen i⟩

/-- What is known of the best where the search goes on. -/
theorem goes_on {w : World} {S : Nat} {wv bv : Value} {l c : Int} {best : Option (List Int × Int)} (h : BestIs w S wv bv l best) (hp : ¬ best.any (fun y => decide (y.2 ≤ c)) = true) : ∃ bo bn bc, bv = .slice bo bn bc ∧ (bo = none ∨ ∃ a, bo = some a ∧ ¬ l ≤ c) := by
  cases best with
  | none => exact ⟨none, 0, 0, h, Or.inl rfl⟩
  | some y =>
    obtain ⟨p, d⟩ := y
    obtain ⟨g, cap, rfl, hb2, hb3, hb4, hb5, rfl, hb7⟩ := h
    exact ⟨_, _, _, rfl, Or.inr ⟨_, rfl, by simpa using hp⟩⟩

theorem news1 {W : World} {n : Nat} (h : W.heap.size = n) (v : Value) (T : TypeId) : ∀ (j : Nat) (u : Value), [v][j]? = some u → (W.alloc (.cells #[v] T)).cell? ((⟨n, 0, none⟩ : Addr).add j) = some u := by
  intro j u hj
  subst h
  match j, hj with
  | 0, hj => simp at hj; subst hj; simp [Addr.add]
theorem one1 (x : Int) : ∀ u ∈ [Value.int .i64 x], u.oneCell' = true := by intro u hu; simp at hu; subst hu; rfl
theorem len_snoc (l : List Int) (x : Int) : (l ++ [x]).length = l.length + 1 := by simp
theorem nd_snoc {l : List Int} {x : Int} (h : l.Nodup) (hx : ¬ x ∈ l) : (l ++ [x]).Nodup := by
  rw [List.nodup_append]
  refine ⟨h, by simp, fun a ha b hb => ?_⟩
  simp at hb
  subst hb
  intro e
  subst e
  exact hx ha
theorem rg_snoc {l : List Int} {x : Nat} (h : ∀ y ∈ l, 0 ≤ y ∧ y < 8) (hx : x < 8) : ∀ y ∈ l ++ [(x : Int)], 0 ≤ y ∧ y < 8 := by
  intro y hy
  rcases List.mem_append.1 hy with hy | hy
  · exact h y hy
  · simp at hy; subst hy; omega
theorem cl_snoc {l cl : List Int} {x : Int} (h : ∀ y ∈ l, y ∈ cl) : ∀ y ∈ l ++ [x], y ∈ x :: cl := by
  intro y hy
  rcases List.mem_append.1 hy with hy | hy
  · exact List.mem_cons_of_mem _ (h y hy)
  · simp at hy; subst hy; simp
theorem SA.drew {w : World} {S : Nat} {C : Int → Int → Int} {fr to l : Int} {vv nv wv bv : Value} {cl way : List Int} {best : Option (List Int × Int)} (h : SA w S C fr to vv nv cl way wv bv l best) : SA w.drew S C fr to vv nv cl way wv bv l best :=
  ⟨h.row.drew, h.own.drew, h.best.kept (Nat.le_refl _) (fun _ _ _ _ => rfl) (fun _ _ _ h => h)⟩
theorem own_ints {w : World} {base g n cap : Nat} {L : List Int} (h : w.ownsRow base 3 1 (.slice (some ⟨g, 0, none⟩) n cap) L.length (L.map (Value.int .i64))) : IntsAt w g 0 L := by
  intro i hi
  have hn : n = L.length := by
    rcases h.2 with ⟨h0, _⟩ | ⟨g', cap', cur, hv, _⟩
    · cases h0
    · cases hv; rfl
  subst hn
  rw [Nat.zero_add, h.cellAt i (by omega), List.getElem?_map, List.getElem?_eq_getElem hi]
  simp [List.getD_eq_getElem?_getD, hi]
/-- What is met next. -/
theorem met_next {w : World} {S m : Nat} {vo : Option Addr} {via : List Int} (x : Int) (h : VA w S vo via) (hm : m ≤ via.length) : (m = via.length ∧ mtv via m x = m) ∨ ∃ b off y, m < via.length ∧ vo = some ⟨b, off, none⟩ ∧ b < S ∧ w.cell? ⟨b, off + m, none⟩ = some (.int .i64 y) ∧ ((y == x) = true ∧ mtv via m x = m + 1 ∨ (y == x) = false ∧ mtv via m x = m) := by
  by_cases hlt : m < via.length
  · right
    rcases h with rfl | ⟨b, off, h1, h2, h3⟩
    · simp at hlt
    · refine ⟨b, off, via.getD m 0, hlt, h1, h2, h3 m hlt, ?_⟩
      have e : via[m]? = some (via.getD m 0) := by simp [List.getD_eq_getElem?_getD, List.getElem?_eq_getElem hlt]
      cases hxy : (via.getD m 0 == x)
      · right
        refine ⟨rfl, ?_⟩
        have : via.getD m 0 ≠ x := by simpa using hxy
        rw [mtv, e, if_neg (by intro h; injection h with h; exact this h)]
      · left
        have : via.getD m 0 = x := by simpa using hxy
        exact ⟨rfl, by rw [mtv, e, if_pos (by rw [this])]⟩
  · left
    have : m = via.length := by omega
    refine ⟨this, ?_⟩
    rw [mtv, if_neg]
    subst this
    simp

set_option maxRecDepth 100000 in
set_option maxHeartbeats 2000000 in
theorem enter_step {S : Nat} {C : Int → Int → Int} {fr : Int} {to : Int} {vo : Option Addr} {vc : Nat} {nv : Value} {via : List Int} (hC : ∀ a b, 0 ≤ C a b ∧ C a b ≤ 1000) (hvl : via.length ≤ 4611686018427387904) {k : Nat} (IH : EnterOk S C fr to vo vc nv via k) : EnterOk S C fr to vo vc nv via (k + 1) := by
  intro cl way x c m best w hwk hnd hrg hcl hx hxc hc0 hc1 hm hv hs
  have hwl : way.length ≤ 8 := by omega
  have hs' := hs
  obtain ⟨wv, bv, l, hsa⟩ := hs
  obtain ⟨c65, c66, c76, c77, c78, hfz⟩ := flow_cells hsa.row
  have hneq := run_neq_nil
  by_cases hpr : best.any (fun y => decide (y.2 ≤ c)) = true
  · -- turned back
    have hent : ent C to via (k + 1) cl way x c m best = best := by unfold ent; rw [if_pos hpr]
    rw [hent]
    cases best with
    | none => simp at hpr
    | some y =>
      obtain ⟨p, d⟩ := y
      simp only [Option.any_some, decide_eq_true_eq] at hpr
      obtain ⟨g, cap, rfl, hb2, hb3, hb4, hb5, rfl, hb7⟩ := hsa.best
      go_enter Try.func62, Try.ntmps62
      go_wp2
      refine bodyPost_ret_by (v := .tuple #[]) ?_ rfl ⟨rfl, Below.refl _ _, hs'⟩
      simp [results, Try.results62]
  · have HE : Hid (ent C to via (k + 1) cl way x c m best = if (x : Int) = to then (if mtv via m x = via.length then some (way ++ [(x : Int)], c) else best) else (List.range 8).foldl (goF C to via k ((x : Int) :: cl) (way ++ [(x : Int)]) x c (mtv via m x)) best) := by
      unfold ent; rw [if_neg hpr]; exact hidp rfl
    obtain ⟨bo, bn, bc, rfl, hbo⟩ := goes_on hsa.best hpr
    obtain ⟨i0, hi, hz0, hz1, hz2⟩ := info_parts infoI
    have hsa1 := hsa.close hx
    have hbl1 : Below S w (w.setCell ⟨S, 68 + x, none⟩ (.bool true)) := (Below.refl _ _).setCell (by simp) _
    have hcc := closed_at hx hsa.row
    have hSw := hsa.row.lt
    clear hpr
    rcases hbo with rfl | ⟨a0, rfl, hcl0⟩
    all_goals
      go_enter Try.func62, Try.ntmps62
      go_wp2_with (first | (at_builtin; refine wpList_append_lies _ rfl _ _ 105 rfl (S + 1) 3 i0 (.int .i64 0) 1 8 Try.underlying105 hi hz0 hz1 hz2 rfl (by decide) _ _ _ rfl (hsa1.own.alloc _) ⟨w.heap.size, 0, none⟩ 1 1 [.int .i64 x] rfl rfl (news1 (by simp) _ _) (one1 _) (by decide) (by unfold maxLen; omega) (by omega) (by simp; omega) _ rfl ?_) | go_in)
      intro g cap w2 hown2 hg2 hat2 hlt2
      have hsa2 := hsa1.push hown2 hg2 (hat2.imp id (fun h => by simpa using h))
      have hbl2 : Below S w w2 := (hbl1.alloc (by have := hsa.row.lt; simp; omega) _).grown hg2 (by have := hsa.row.lt; simp; omega) (fun j hj => by have := (hsa.own.lt j hj).1; omega)
      have hb2S : w2.heap[S]? = (w.setCell ⟨S, 68 + x, none⟩ (.bool true)).heap[S]? := (hg2.block S (by have := hsa.row.lt; simp; omega) (fun e => by have := (hsa.own.lt S e.symm).1; omega)).trans (blk_alloc_lt _ _ _ (by simpa using hsa.row.lt))
      obtain ⟨d65, d66, d76, d77, d78, dfz⟩ := flow_cells (hsa1.row.of_block hb2S)
      have dcc := closed_at hx (hsa1.row.of_block hb2S)
      rcases met_next (x : Int) (hv.below hbl2) hm with ⟨hml, hmt⟩ | ⟨b, off, y, hml, rfl, hbS, hvc, hyx⟩
      · have hmlI : ¬ (m : Int) < (via.length : Int) := by omega
        cases hxt : ((x : Int) == to)
        · have hxt' : ¬ (x : Int) = to := by simpa using hxt
          have HE' := hidp (HE.out.trans (if_neg hxt'))
          clear HE hxt'
          go_wp2_with fail
          refine (goOn_any hC IH ((x : Int) :: cl) (way ++ [(x : Int)]) x c (via.length) best _ (by simp; omega) (nd_snoc hnd (fun h => hxc (hcl _ h))) (rg_snoc hrg hx) (cl_snoc hcl) hx hc0 (by simp; omega) (Nat.le_refl _) ((hv.below hbl2).below ((Below.refl _ _).setCell (by simp) _)) ⟨_, _, _, hsa2⟩).mono ?_
          rintro e w3 ⟨rfl, hbl3, wv3, bv3, l3, hsa3⟩
          obtain ⟨g3, cap3, hv3, hg3, hg3'⟩ := hsa3.own.form (by simp)
          rw [len_snoc] at hv3
          subst hv3
          obtain ⟨e65, e66, e76, e77, e78, efz⟩ := flow_cells hsa3.row
          have hcap3 := own_cap (by have := hsa3.own; rw [len_snoc] at this; exact this)
          have ecc := closed_at hx hsa3.row
          unfold maxLen at hcap3
          go_wp2
          go_region
          go_wp2
          go_end0
          refine ⟨rfl, ((((hbl2.setCell (by simp) _).trans hbl3).setCell (by simp) _).setCell (by simp) _).drew, ?_⟩
          rw [HE'.out, hmt, hml]
          exact ⟨_, _, _, ((hsa3.pop (by simp)).reopen hx hxc).drew⟩
        · have hxt' : (x : Int) = to := by simpa using hxt
          have HE' := hidp (HE.out.trans (if_pos hxt'))
          clear HE hxt'
          have hp2 : IntsAt (w2.setCell ⟨S, 76, none⟩ (.slice (some ⟨g, 0, none⟩) (way.length + 1) cap)) g 0 (way ++ [(x : Int)]) := own_ints hsa2.own
          go_wp2_with fail
          refine (clonePath_any g 0 (way.length + 1) cap (way ++ [(x : Int)]) _ (by simp) (by omega) hp2).mono ?_
          rintro e w4 ⟨v', rfl, hown4, hne4, hE4⟩
          obtain ⟨g4, cap4, rfl, hg4, hg4'⟩ := hown4.form (by omega)
          have hbS4 := hsa2.row.of_block (Below.block hE4 _ hsa2.row.lt)
          obtain ⟨e65, e66, e76, e77, e78, efz⟩ := flow_cells hbS4
          have hsa3 := hsa2.keep (c := c) hE4 (by rw [len_snoc]; exact hown4) (by simp) rfl
          have hbl3 := ((hbl2.setCell (p := ⟨S, 76, none⟩) (by simp) (.slice (some ⟨g, 0, none⟩) (way.length + 1) cap)).trans (Below.mono hE4 (by have := hsa2.row.lt; omega)))
          have hcap3 := own_cap hown2
          have ecc := closed_at hx hbS4
          unfold maxLen at hcap3
          go_wp2
          go_region
          go_wp2
          go_end0
          refine ⟨rfl, ((((hbl3.setCell (by simp) _).setCell (by simp) _).setCell (by simp) _).setCell (by simp) _).drew, ?_⟩
          rw [HE'.out, hmt, hml, if_pos rfl]
          exact ⟨_, _, _, ((hsa3.pop rfl).reopen hx hxc).drew⟩
      · have hmlI : (m : Int) < (via.length : Int) := by omega
        have hbS' : ¬ b = S := by omega
        have hbw : b < w2.heap.size := by have := hbl2.size; omega
        rcases hyx with ⟨hyx, hmt⟩ | ⟨hyx, hmt⟩
        · cases hxt : ((x : Int) == to)
          · have hxt' : ¬ (x : Int) = to := by simpa using hxt
            have HE' := hidp (HE.out.trans (if_neg hxt'))
            clear HE hxt'
            go_wp2_with fail
            refine (goOn_any hC IH ((x : Int) :: cl) (way ++ [(x : Int)]) x c (m + 1) best _ (by simp; omega) (nd_snoc hnd (fun h => hxc (hcl _ h))) (rg_snoc hrg hx) (cl_snoc hcl) hx hc0 (by simp; omega) (by omega) ((hv.below hbl2).below ((Below.refl _ _).setCell (by simp) _)) ⟨_, _, _, hsa2⟩).mono ?_
            rintro e w3 ⟨rfl, hbl3, wv3, bv3, l3, hsa3⟩
            obtain ⟨g3, cap3, hv3, hg3, hg3'⟩ := hsa3.own.form (by simp)
            rw [len_snoc] at hv3
            subst hv3
            obtain ⟨e65, e66, e76, e77, e78, efz⟩ := flow_cells hsa3.row
            have hcap3 := own_cap (by have := hsa3.own; rw [len_snoc] at this; exact this)
            have ecc := closed_at hx hsa3.row
            unfold maxLen at hcap3
            go_wp2
            go_region
            go_wp2
            go_end0
            refine ⟨rfl, ((((hbl2.setCell (by simp) _).trans hbl3).setCell (by simp) _).setCell (by simp) _).drew, ?_⟩
            rw [HE'.out, hmt]
            exact ⟨_, _, _, ((hsa3.pop (by simp)).reopen hx hxc).drew⟩
          · have hxt' : (x : Int) = to := by simpa using hxt
            have HE' := hidp (HE.out.trans (if_pos hxt'))
            clear HE hxt'
            by_cases hmm : m + 1 = via.length
            · have hmmI : ((m : Int) + 1 == (via.length : Int)) = true := by simp; omega
              have hp2 : IntsAt (w2.setCell ⟨S, 76, none⟩ (.slice (some ⟨g, 0, none⟩) (way.length + 1) cap)) g 0 (way ++ [(x : Int)]) := own_ints hsa2.own
              go_wp2_with fail
              refine (clonePath_any g 0 (way.length + 1) cap (way ++ [(x : Int)]) _ (by simp) (by omega) hp2).mono ?_
              rintro e w4 ⟨v', rfl, hown4, hne4, hE4⟩
              obtain ⟨g4, cap4, rfl, hg4, hg4'⟩ := hown4.form (by omega)
              have hbS4 := hsa2.row.of_block (Below.block hE4 _ hsa2.row.lt)
              obtain ⟨e65, e66, e76, e77, e78, efz⟩ := flow_cells hbS4
              have hsa3 := hsa2.keep (c := c) hE4 (by rw [len_snoc]; exact hown4) (by simp) rfl
              have hbl3 := ((hbl2.setCell (p := ⟨S, 76, none⟩) (by simp) (.slice (some ⟨g, 0, none⟩) (way.length + 1) cap)).trans (Below.mono hE4 (by have := hsa2.row.lt; omega)))
              have hcap3 := own_cap hown2
              have ecc := closed_at hx hbS4
              unfold maxLen at hcap3
              go_wp2
              go_region
              go_wp2
              go_end0
              refine ⟨rfl, ((((hbl3.setCell (by simp) _).setCell (by simp) _).setCell (by simp) _).setCell (by simp) _).drew, ?_⟩
              rw [HE'.out, hmt, if_pos hmm]
              exact ⟨_, _, _, ((hsa3.pop rfl).reopen hx hxc).drew⟩
            · have hmmI : ((m : Int) + 1 == (via.length : Int)) = false := by simp; omega
              obtain ⟨e65, e66, e76, e77, e78, efz⟩ := flow_cells hsa2.row
              have hcap3 := own_cap hown2
              have ecc := closed_at hx hsa2.row
              unfold maxLen at hcap3
              go_wp2
              go_region
              go_wp2
              go_end0
              refine ⟨rfl, (((hbl2.setCell (by simp) _).setCell (by simp) _).setCell (by simp) _).drew, ?_⟩
              rw [HE'.out, hmt, if_neg hmm]
              exact ⟨_, _, _, ((hsa2.pop rfl).reopen hx hxc).drew⟩
        · cases hxt : ((x : Int) == to)
          · have hxt' : ¬ (x : Int) = to := by simpa using hxt
            have HE' := hidp (HE.out.trans (if_neg hxt'))
            clear HE hxt'
            go_wp2_with fail
            refine (goOn_any hC IH ((x : Int) :: cl) (way ++ [(x : Int)]) x c (m) best _ (by simp; omega) (nd_snoc hnd (fun h => hxc (hcl _ h))) (rg_snoc hrg hx) (cl_snoc hcl) hx hc0 (by simp; omega) hm ((hv.below hbl2).below ((Below.refl _ _).setCell (by simp) _)) ⟨_, _, _, hsa2⟩).mono ?_
            rintro e w3 ⟨rfl, hbl3, wv3, bv3, l3, hsa3⟩
            obtain ⟨g3, cap3, hv3, hg3, hg3'⟩ := hsa3.own.form (by simp)
            rw [len_snoc] at hv3
            subst hv3
            obtain ⟨e65, e66, e76, e77, e78, efz⟩ := flow_cells hsa3.row
            have hcap3 := own_cap (by have := hsa3.own; rw [len_snoc] at this; exact this)
            have ecc := closed_at hx hsa3.row
            unfold maxLen at hcap3
            go_wp2
            go_region
            go_wp2
            go_end0
            refine ⟨rfl, ((((hbl2.setCell (by simp) _).trans hbl3).setCell (by simp) _).setCell (by simp) _).drew, ?_⟩
            rw [HE'.out, hmt]
            exact ⟨_, _, _, ((hsa3.pop (by simp)).reopen hx hxc).drew⟩
          · have hxt' : (x : Int) = to := by simpa using hxt
            have HE' := hidp (HE.out.trans (if_pos hxt'))
            clear HE hxt'
            obtain ⟨e65, e66, e76, e77, e78, efz⟩ := flow_cells hsa2.row
            have hcap3 := own_cap hown2
            have ecc := closed_at hx hsa2.row
            unfold maxLen at hcap3
            go_wp2
            go_region
            go_wp2
            go_end0
            refine ⟨rfl, (((hbl2.setCell (by simp) _).setCell (by simp) _).setCell (by simp) _).drew, ?_⟩
            rw [HE'.out, hmt, if_neg (by omega)]
            exact ⟨_, _, _, ((hsa2.pop rfl).reopen hx hxc).drew⟩

end Go.Proofs.Ytgffkjjddhlbpaa
