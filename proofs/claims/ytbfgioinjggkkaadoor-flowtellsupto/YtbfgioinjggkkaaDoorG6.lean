/- What Parse answers, for every text; nothing that was there is changed. -/
import Derived.Test.YtbfgioinjggkkaaDoorG5
namespace Go.Proofs.YtbfgioinjggkkaaDoor
open Go.RowKit Stf

theorem pstep_none_of {r : Bs} (h : (rl (Lib.cut r [10]).1).isSome = false ∨ (Lib.cut r [10]).2.2 = false) : pstep r = none := by
  unfold pstep
  rcases h with h | h
  · cases h2 : rl (Lib.cut r [10]).1 with
    | none => split <;> rfl
    | some f => rw [h2] at h; cases h
  · rw [h]; rfl
theorem pstep_some_of {r : Bs} {f : Fl} (h : rl (Lib.cut r [10]).1 = some f) (h2 : (Lib.cut r [10]).2.2 = true) : pstep r = some (f, (Lib.cut r [10]).2.1) ∧ (Lib.cut r [10]).2.1 = r.drop ((Lib.cut r [10]).1.length + 1) := by
  refine ⟨by unfold pstep; rw [h2, h]; rfl, ?_⟩
  have := cut_true h2
  generalize Lib.cut r [10] = c at this
  rw [this]
  simp

theorem own_ext {w w' : World} {base : Nat} {e : TypeId} {size : Nat} {v : Value} {n : Nat} {xs : List Value} (h : w.ownsRow base e size v n xs) (k : Ext w w') : w'.ownsRow base e size v n xs := by
  refine ⟨h.1, ?_⟩
  rcases h.2 with h2 | ⟨g, cap, cur, h1, h2, h3, h4⟩
  · exact Or.inl h2
  · exact Or.inr ⟨g, cap, cur, h1, h2, (Below.block k g (Array.getElem?_eq_some_iff.1 h3).1).trans h3, h4⟩
theorem own_no_ints {w : World} {base : Nat} {v : Value} {n : Nat} {xs : List Value} (h : w.ownsRow base 38 4 v n xs) : ∀ b, v.ownBlock = some b → ¬ IB w b := by
  rintro b hb ⟨c, z, hc⟩
  rcases h.2 with ⟨rfl, _⟩ | ⟨g, cap, cur, rfl, h2, h3, h4⟩
  · cases hb
  · simp only [Value.ownBlock, Option.some.injEq] at hb
    subst hb
    rw [h3] at hc
    simp at hc
theorem cells4 {W : World} {n : Nat} (h : W.heap.size = n) (v0 v1 v2 v3 : Value) (T : TypeId) (i : Nat) (u : Value) (hu : [v0, v1, v2, v3][i]? = some u) : (W.alloc (.cells #[v0, v1, v2, v3] T)).cell? ((⟨n, 0, none⟩ : Addr).add i) = some u := by
  subst h
  match i, hu with
  | 0, hu => simp at hu; subst hu; simp [Addr.add]
  | 1, hu => simp at hu; subst hu; simp [Addr.add]
  | 2, hu => simp at hu; subst hu; simp [Addr.add]
  | 3, hu => simp at hu; subst hu; simp [Addr.add]
  | (i + 4), hu => simp at hu

set_option maxHeartbeats 1000000 in
theorem Parse_much (s : ByteArray) (w : World) (hs : 2000 < s.size) (hx : s.size ≤ 9223372036854775807) :
    Calls Tryd.prog 5 #[.string s] w fun e w' => e = .returned (.tuple #[.slice none 0 0, .agg #[.int .i64 4, .int .i64 0]]) ∧ Ext w w' := by
  go_enter Tryd.func5, Tryd.ntmps5
  go_wp2
  exact bodyPost_ret (v := .tuple #[.slice none 0 0, .agg #[.int .i64 4, .int .i64 0]]) (by simp [results, Tryd.results5, go_sem]) rfl ⟨rfl, (Ext.refl w).alloc _⟩

/-- What Parse hands back, behind what was read. -/
def ParseOut (w' : World) (e : Ending) : Except Nat (List Fl) → Prop
  | .error p => e = .returned (.tuple #[.slice none 0 0, .agg #[.int .i64 2, .int .i64 p]])
  | .ok fs => ∃ ao cap, e = .returned (.tuple #[.slice ao fs.length cap, .agg #[.int .i64 0, .int .i64 0]]) ∧ FlowsAt w' ao fs ∧ fs.length ≤ cap ∧ fs.length ≤ 2000

theorem fault_kept {w wr : World} {a b : Value} {T : TypeId} (h : Below (w.heap.size + 1) (w.alloc (.cells #[a, b] T)) wr) : wr.cell? ⟨w.heap.size, 0, none⟩ = some a ∧ wr.cell? ⟨w.heap.size, 1, none⟩ = some b ∧ wr.frozen? ⟨w.heap.size, 0, none⟩ = false ∧ wr.frozen? ⟨w.heap.size, 1, none⟩ = false ∧ w.heap.size < wr.heap.size := by
  have k : w.heap.size < w.heap.size + 1 := by omega
  refine ⟨(h.cell (p := ⟨w.heap.size, 0, none⟩) k).trans (by simp), (h.cell (p := ⟨w.heap.size, 1, none⟩) k).trans (by simp), (h.frozen (p := ⟨w.heap.size, 0, none⟩) k).trans (by simp), (h.frozen (p := ⟨w.heap.size, 1, none⟩) k).trans (by simp), ?_⟩
  have := Below.size h
  simp at this
  omega
theorem drop_ne {s : ByteArray} {k : Nat} (h : k < s.size) : s.data.toList.drop k ≠ [] := by
  intro e
  have := congrArg List.length e
  rw [List.length_drop, ← Lib.size_eq] at this
  simp at this
  omega

set_option maxHeartbeats 2000000 in
set_option maxRecDepth 100000 in
theorem Parse_text (s : ByteArray) (w : World) (hs : s.size ≤ 2000) (hm : MaxAt w) :
    Calls Tryd.prog 5 #[.string s] w fun e w' => Ext w w' ∧ ParseOut w' e (parse s.data.toList) := by
  obtain ⟨i3, hi3, hz0, hz1, hz2⟩ := info_parts Tryd.info38
  have hl : s.data.toList.length = s.size := (Lib.size_eq s).symm
  go_enter Tryd.func5, Tryd.ntmps5
  go_wp2
  go_loopw [4, 5] (fun lv av wr => ∃ (k n : Nat) (acc : List Fl) (C : List Value), k ≤ s.size ∧ av = .int .i64 k ∧ acc.length ≤ k ∧ s.size - k ≤ n ∧ parse s.data.toList = pre acc (par n k (s.data.toList.drop k)) ∧
      wr.ownsRow (w.heap.size + 1) 38 4 lv acc.length C ∧ FC (w.heap.size + 1) wr acc C ∧ Below (w.heap.size + 1) (w.alloc (.cells #[.int .i64 0, .int .i64 0] 25)) wr) (fun _ av _ => s.size - (intOf av).toNat)
  case atStart =>
    refine ⟨0, s.size, [], [], Nat.zero_le _, rfl, Nat.le_refl _, by omega, ?_, World.ownsRow_nil _ _ _ _, rfl, Below.refl _ _⟩
    rw [List.drop_zero, parse, hl]
    cases par s.size 0 s.data.toList <;> simp [pre]
  case round =>
    obtain ⟨k, n, acc, C, hk, rfl, hacc, hn, hpar, hown, hfc, hbel⟩ := hrel
    obtain ⟨z0, z1, y0, y1, hsz⟩ := fault_kept hbel
    have hEw : Ext w wr := Below.trans ((Ext.refl w).alloc _) (hbel.mono (by omega))
    have HP := hid hpar
    clear hpar
    by_cases hlt : k < s.size
    · have i1 : (k : Int) < (s.size : Int) := by omega
      have hne := hid (drop_ne hlt)
      go_wp2_with fail
      have hxl : (s.extract k s.size).data.toList = s.data.toList.drop k := Lib.extract_to_end s k
      have hxs : (s.extract k s.size).size ≤ 2000 := by rw [Lib.size_eq, hxl, List.length_drop]; omega
      refine (cut_parts (s.extract k s.size) _ _ (by omega) (hm.ext hEw)).mono ?_
      rintro e w1 ⟨x, y, he, hx, hy, lx, ly, E1⟩
      rw [hxl] at he hx hy
      have hb : (Lib.cut (s.data.toList.drop k) (ByteArray.mk #[10]).data.toList) = Lib.cut (s.data.toList.drop k) [10] := rfl
      rw [hb] at he hx hy
      obtain ⟨t, ht, rfl⟩ : ∃ t, t = (Lib.cut (s.data.toList.drop k) [10]).2.2 ∧ e = .returned (.tuple #[.string x, .string y, .bool t]) := ⟨_, rfl, he⟩
      have HT := hid ht
      have HX := hid hx
      have hE1 := hEw.trans E1
      clear he hb ht hx hy
      go_wp2_with fail
      refine (readLine_any x _ (by omega) (hm.ext hE1)).mono ?_
      rintro e w2 ⟨E2, a, b, X, Y, v, n', he, hv, hn', hf⟩
      rw [HX.out] at he hf
      obtain ⟨β, hβ, rfl⟩ : ∃ β, β = (rl (Lib.cut (s.data.toList.drop k) [10]).1).isSome ∧ e = .returned (.tuple #[.agg #[.int .i64 a, .int .i64 b, v, n'], .bool β]) := ⟨_, rfl, he⟩
      have HB := hid hβ
      have HF := hid hf
      clear he hβ hf
      have hwr := wr.heap.size
      have hv2 := hv.mono (show w.heap.size + 1 ≤ w1.heap.size by have := E1.size; omega)
      have hn2 := hn'.mono (show w.heap.size + 1 ≤ w1.heap.size by have := E1.size; omega)
      obtain ⟨vo, vc, rfl⟩ : ∃ vo vc, v = .slice vo X.length vc := by obtain ⟨vo, vc, h, _⟩ := hv; exact ⟨vo, vc, h⟩
      obtain ⟨no, nc, rfl⟩ : ∃ no nc, n' = .slice no Y.length nc := by obtain ⟨vo, vc, h, _⟩ := hn'; exact ⟨vo, vc, h⟩
      have hbel2 : Below (w.heap.size + 1) (w.alloc (.cells #[.int .i64 0, .int .i64 0] 25)) w2 := (hbel.trans (Below.mono E1 (by omega))).trans (Below.mono E2 (by have := E1.size; omega))
      obtain ⟨z0', z1', y0', y1', hsz'⟩ := fault_kept hbel2
      have hE2 := hE1.trans E2
      clear z0 z1 y0 y1
      cases β
      · go_wp2
        have hp : pstep (s.data.toList.drop k) = none := pstep_none_of (Or.inl HB.out.symm)
        have hq : parse s.data.toList = .error k := by rw [HP.out, par_bad hne.out (by rw [List.length_drop]; omega) hp]; rfl
        refine bodyPost_ret (v := .tuple #[.slice none 0 0, .agg #[.int .i64 2, .int .i64 k]]) (by simp [results, Tryd.results5, go_sem, z0', z1', World.cell?_alloc_lt, hsz']) rfl ⟨?_, by rw [hq]; rfl⟩
        exact ((hE2.setCell (Nat.le_refl _) _).setCell (Nat.le_refl _) _).alloc _
      · cases t
        · go_wp2
          have hp : pstep (s.data.toList.drop k) = none := pstep_none_of (Or.inr HT.out.symm)
          have hq : parse s.data.toList = .error k := by rw [HP.out, par_bad hne.out (by rw [List.length_drop]; omega) hp]; rfl
          refine bodyPost_ret (v := .tuple #[.slice none 0 0, .agg #[.int .i64 2, .int .i64 k]]) (by simp [results, Tryd.results5, go_sem, z0', z1', World.cell?_alloc_lt, hsz']) rfl ⟨?_, by rw [hq]; rfl⟩
          exact ((hE2.setCell (Nat.le_refl _) _).setCell (Nat.le_refl _) _).alloc _
        · obtain ⟨f, hrl⟩ : ∃ f, rl (Lib.cut (s.data.toList.drop k) [10]).1 = some f := Option.isSome_iff_exists.1 HB.out.symm
          obtain rfl := HF.out f hrl
          obtain ⟨hp, hrest⟩ := pstep_some_of hrl HT.out.symm
          have HPP := hid hp
          have HRR := hid hrest
          clear hrl hp hrest
          have hxlen : x.size = (Lib.cut (s.data.toList.drop k) [10]).1.length := by rw [Lib.size_eq, HX.out]
          have hclen := hid (cut_true HT.out.symm)
          have hown2 := own_ext (own_ext hown E1) E2
          have hfc2 : FC (w.heap.size + 1) w2 acc C := hfc.map fun _ _ h => (h.ext E1).ext E2
          have hclx : x.size + 1 + k ≤ s.size := by
            have h1 := congrArg List.length hclen.out
            simp only [List.length_append, List.length_drop, List.length_cons, List.length_nil] at h1
            rw [← hxlen] at h1
            omega
          go_wp2_with (first | (at_builtin; refine wpList_append_own _ rfl _ _ 22 rfl (w.heap.size + 1) 38 i3 (.agg #[.int .i64 0, .int .i64 0, .slice none 0 0, .slice none 0 0]) 4 64 Tryd.underlying22 hi3 hz0 hz1 hz2 rfl (by decide) _ _ _ rfl ((hown2.alloc _).alloc _) ⟨w2.heap.size + 1, 0, none⟩ 1 1 [.int .i64 a, .int .i64 b, .slice vo X.length vc, .slice no Y.length nc] rfl rfl ?c1 ?c2 ?c3 ?c4 ?c5 ?_) | go_in)
          case c1 => exact cells4 (by simp) _ _ _ _ _
          case c2 => intro u hu; simp only [List.mem_cons, List.not_mem_nil, or_false] at hu; rcases hu with rfl | rfl | rfl | rfl <;> rfl
          case c3 => unfold maxLen; omega
          case c4 => omega
          case c5 => simp; omega
          · intro v' w5 hown5 hg5 _
            have hnb := own_no_ints ((hown2.alloc (.cells #[.int .i64 a, .int .i64 b, .slice vo X.length vc, .slice no Y.length nc] 38)).alloc (.cells #[.int .i64 a, .int .i64 b, .slice vo X.length vc, .slice no Y.length nc] 38))
            have hkeep : ∀ xs u, LB (w.heap.size + 1) w2 xs u → LB (w.heap.size + 1) w5 xs u := fun xs u h => ((h.ext ((Ext.refl _).alloc _)).ext ((Ext.refl _).alloc _)).grown hg5 hnb
            have hbel5 : Below (w.heap.size + 1) (w.alloc (.cells #[.int .i64 0, .int .i64 0] 25)) w5 := Below.grown ((hbel2.alloc (by omega) _).alloc (by simp; omega) _) hg5 (by simp; omega) (fun j hj => (hown2.lt j hj).1)
            have HN := hid hnb
            clear hnb
            go_wp2
            obtain ⟨n, rfl⟩ : ∃ m, n = m + 1 := ⟨n - 1, by omega⟩
            rw [← hxlen]
            refine ⟨⟨k + (x.size + 1), n, acc ++ [⟨a, b, X, Y⟩], C ++ [.int .i64 a, .int .i64 b, .slice vo X.length vc, .slice no Y.length nc], by omega, by congr 1, by simp; omega, by omega, ?_, ?_, FC.snoc (hkeep _ _ hv2) (hkeep _ _ hn2) (hfc2.map hkeep), hbel5⟩, ?_⟩
            · rw [HP.out, par_good hne.out HPP.out, pre_pre, HRR.out, List.drop_drop, ← hxlen]
              congr 2
            · simpa using hown5
            · simp only [intOf]; omega
    · have hd : s.data.toList.drop k = [] := List.drop_eq_nil_of_le (by omega)
      have hq : parse s.data.toList = .ok acc := by rw [HP.out, hd, par_nil]; simp [pre]
      have HQ := hid hq
      clear hq hd
      have hownW := ownsRow_setCell_below (ownsRow_setCell_below hown (a := ⟨w.heap.size, 0, none⟩) (Nat.lt_succ_self _) (.int .i64 0)) (a := ⟨w.heap.size, 1, none⟩) (Nat.lt_succ_self _) (.int .i64 0)
      have hfcW : FC (w.heap.size + 1) ((wr.setCell ⟨w.heap.size, 0, none⟩ (.int .i64 0)).setCell ⟨w.heap.size, 1, none⟩ (.int .i64 0)) acc C := hfc.map fun _ _ h => (h.setCell (p := ⟨w.heap.size, 0, none⟩) (Nat.lt_succ_self _) _).setCell (p := ⟨w.heap.size, 1, none⟩) (Nat.lt_succ_self _) _
      have hEW := (hEw.setCell (p := ⟨w.heap.size, 0, none⟩) (Nat.le_refl _) (.int .i64 0)).setCell (p := ⟨w.heap.size, 1, none⟩) (Nat.le_refl _) (.int .i64 0)
      rcases hown.2 with ⟨rfl, h0⟩ | ⟨g, gc, cur, rfl, _, _, hgc, _⟩
      · have h0' : acc = [] := List.eq_nil_of_length_eq_zero h0
        subst h0'
        go_wp2
        refine bodyPost_ret (v := .tuple #[.slice none 0 0, .agg #[.int .i64 0, .int .i64 0]]) (by simp [results, Tryd.results5, go_sem, z0, z1]) rfl ⟨hEW, ?_⟩
        rw [HQ.out]
        exact ⟨none, 0, rfl, Or.inl rfl, Nat.le_refl _, by simp⟩
      · go_wp2
        refine bodyPost_ret (v := .tuple #[.slice (some ⟨g, 0, none⟩) acc.length gc, .agg #[.int .i64 0, .int .i64 0]]) (by simp [results, Tryd.results5, go_sem, z0, z1]) rfl ⟨hEW, ?_⟩
        rw [HQ.out]
        exact ⟨some ⟨g, 0, none⟩, gc, rfl, flows_own hownW hfcW, hgc, by omega⟩

end Go.Proofs.YtbfgioinjggkkaaDoor
