/- What the document's own Parse answers, for every text; nothing that was there is changed. -/
import Derived.Test.YtbfgioinjggkkaaDoorF7
namespace Go.Proofs.YtbfgioinjggkkaaDoor
open Go.RowKit Go.Maps Stf Go.Sort

set_option maxHeartbeats 1000000 in
theorem refParse_much (s : ByteArray) (w : World) (hs : 2000 < s.size) (hx : s.size ≤ 9223372036854775807) :
    Calls Tryd.prog 6 #[.string s] w fun e w' => e = .returned (.tuple #[.slice none 0 0, .agg #[.int .i64 4, .int .i64 0]]) ∧ Ext w w' := by
  go_enter Tryd.func6, Tryd.ntmps6
  go_wp2
  exact bodyPost_ret (v := .tuple #[.slice none 0 0, .agg #[.int .i64 4, .int .i64 0]]) (by simp [results, Tryd.results6, go_sem]) rfl ⟨rfl, (Ext.refl w).alloc _⟩

theorem pos_of {l : Bs} {k q : Nat} {f : Fl} {rest : Bs} (hp : pstep (l.drop k) = some (f, rest)) (hk : k ≤ l.length) (hq : q ≤ l.length) (hr : l.drop q = rest) : q = k + (Lib.cut (l.drop k) [10]).1.length + 1 := by
  obtain ⟨line, h1, _, h3, _⟩ := pstep_inv hp
  have h4 := congrArg List.length h1
  have h5 := congrArg List.length hr
  simp only [List.length_append, List.length_drop, List.length_cons, List.length_nil] at h4 h5
  rw [h3]
  omega

set_option maxHeartbeats 4000000 in
set_option maxRecDepth 100000 in
theorem refParse_text (s : ByteArray) (w : World) (hs : s.size ≤ 2000) :
    Calls Tryd.prog 6 #[.string s] w fun e w' => Ext w w' ∧ ParseOut w' e (parse s.data.toList) := by
  obtain ⟨i3, hi3, hz0, hz1, hz2⟩ := info_parts Tryd.info38
  have hl : s.data.toList.length = s.size := (Lib.size_eq s).symm
  go_enter Tryd.func6, Tryd.ntmps6
  go_wp2
  go_loopw [4, 5] (fun lv av wr => ∃ (k n : Nat) (acc : List Fl) (C : List Value), k ≤ s.size ∧ av = .int .i64 k ∧ acc.length ≤ k ∧ s.size - k ≤ n ∧ parse s.data.toList = pre acc (par n k (s.data.toList.drop k)) ∧
      wr.ownsRow (w.heap.size + 1) 38 4 lv acc.length C ∧ FC (w.heap.size + 1) wr acc C ∧ Below (w.heap.size + 1) (w.alloc (.cells #[.int .i64 0, .int .i64 0] 25)) wr) (fun _ av _ => s.size - (intOf av).toNat)
  case atStart =>
    refine ⟨0, s.size, [], [], Nat.zero_le _, rfl, Nat.le_refl _, by omega, ?_, World.ownsRow_nil _ _ _ _, rfl, Below.refl _ _⟩
    rw [List.drop_zero, parse, hl]
    cases par s.size 0 s.data.toList <;> simp [pre]
  case round =>
    obtain ⟨k, n, acc, C, hk, rfl, hacc, hn, hpar, hown, hfc, hbel⟩ := hrel
    obtain ⟨z0, z1, y0, y1, hsz⟩ := fault_kept hbel
    have hEw : Ext w wr := Below.trans ((Ext.refl w).alloc _) (hbel.mono (by omega))
    have HP := hid hpar
    clear hpar
    by_cases hlt : k < s.size
    · have i1 : (k : Int) < (s.size : Int) := by omega
      have hne := hid (drop_ne hlt)
      go_wp2_with fail
      refine (Line_any s k _ (by omega) hk).mono ?_
      rintro e w2 ⟨E2, a, b, X, Y, v, n', q, he, hv, hn', hf⟩
      rw [rline_pstep _ _ (by rw [List.length_drop]; omega)] at he hf
      obtain ⟨β, hβ, rfl⟩ : ∃ β, β = (pstep (s.data.toList.drop k)).isSome ∧ e = .returned (.tuple #[.agg #[.int .i64 a, .int .i64 b, v, n'], .int .i64 q, .bool β]) := ⟨_, rfl, he⟩
      have HB := hid hβ
      have HF := hid hf
      clear he hβ hf
      have hv2 := hv.mono (show w.heap.size + 1 ≤ wr.heap.size by omega)
      have hn2 := hn'.mono (show w.heap.size + 1 ≤ wr.heap.size by omega)
      obtain ⟨vo, vc, rfl⟩ : ∃ vo vc, v = .slice vo X.length vc := by obtain ⟨vo, vc, h, _⟩ := hv; exact ⟨vo, vc, h⟩
      obtain ⟨no, nc, rfl⟩ : ∃ no nc, n' = .slice no Y.length nc := by obtain ⟨vo, vc, h, _⟩ := hn'; exact ⟨vo, vc, h⟩
      have hbel2 : Below (w.heap.size + 1) (w.alloc (.cells #[.int .i64 0, .int .i64 0] 25)) w2 := hbel.trans (Below.mono E2 (by omega))
      obtain ⟨z0', z1', y0', y1', hsz'⟩ := fault_kept hbel2
      have hE2 := hEw.trans E2
      clear z0 z1 y0 y1
      cases β
      · go_wp2
        have hp : pstep (s.data.toList.drop k) = none := by
          cases hq : pstep (s.data.toList.drop k) with
          | none => rfl
          | some o => have := HB.out; rw [hq] at this; cases this
        have hq : parse s.data.toList = .error k := by rw [HP.out, par_bad hne.out (by rw [List.length_drop]; omega) hp]; rfl
        refine bodyPost_ret (v := .tuple #[.slice none 0 0, .agg #[.int .i64 2, .int .i64 k]]) (by simp [results, Tryd.results6, go_sem, z0', z1', World.cell?_alloc_lt, hsz']) rfl ⟨?_, by rw [hq]; rfl⟩
        exact ((hE2.setCell (Nat.le_refl _) _).setCell (Nat.le_refl _) _).alloc _
      · obtain ⟨⟨f, rest⟩, hps⟩ : ∃ o, pstep (s.data.toList.drop k) = some o := Option.isSome_iff_exists.1 HB.out.symm
        obtain ⟨rfl, kk, rfl, hkk, hdr⟩ := HF.out f rest hps
        have hpos := pos_of hps (by omega) hkk hdr
        have HPP := hid hps
        have HDR := hid hdr
        have HPO := hid hpos
        have hkk2 : k + 1 ≤ kk := by omega
        clear hps hdr hpos
        have hown2 := own_ext hown E2
        have hfc2 : FC (w.heap.size + 1) w2 acc C := hfc.map fun _ _ h => h.ext E2
        go_wp2_with (first | (at_builtin; refine wpList_append_own _ rfl _ _ 22 rfl (w.heap.size + 1) 38 i3 (.agg #[.int .i64 0, .int .i64 0, .slice none 0 0, .slice none 0 0]) 4 64 Tryd.underlying22 hi3 hz0 hz1 hz2 rfl (by decide) _ _ _ rfl ((hown2.alloc _).alloc _) ⟨w2.heap.size + 1, 0, none⟩ 1 1 [.int .i64 a, .int .i64 b, .slice vo X.length vc, .slice no Y.length nc] rfl rfl ?c1 ?c2 ?c3 ?c4 ?c5 ?_) | go_in)
        case c1 => exact cells4 (by simp) _ _ _ _ _
        case c2 => intro u hu; simp only [List.mem_cons, List.not_mem_nil, or_false] at hu; rcases hu with rfl | rfl | rfl | rfl <;> rfl
        case c3 => unfold maxLen; omega
        case c4 => omega
        case c5 => simp; omega
        · intro v' w5 hown5 hg5 _
          have hnb := own_no_ints ((hown2.alloc (.cells #[.int .i64 a, .int .i64 b, .slice vo X.length vc, .slice no Y.length nc] 38)).alloc (.cells #[.int .i64 a, .int .i64 b, .slice vo X.length vc, .slice no Y.length nc] 38))
          have hkeep : ∀ xs u, LB (w.heap.size + 1) w2 xs u → LB (w.heap.size + 1) w5 xs u := fun xs u h => ((h.ext ((Ext.refl _).alloc _)).ext ((Ext.refl _).alloc _)).grown hg5 hnb
          have hbel5 : Below (w.heap.size + 1) (w.alloc (.cells #[.int .i64 0, .int .i64 0] 25)) w5 := Below.grown ((hbel2.alloc (by omega) _).alloc (by simp; omega) _) hg5 (by simp; omega) (fun j hj => (hown2.lt j hj).1)
          have HN := hid hnb
          clear hnb
          go_wp2
          obtain ⟨n, rfl⟩ : ∃ m, n = m + 1 := ⟨n - 1, by omega⟩
          refine ⟨⟨kk, n, acc ++ [⟨a, b, X, Y⟩], C ++ [.int .i64 a, .int .i64 b, .slice vo X.length vc, .slice no Y.length nc], by omega, rfl, by simp; omega, by omega, ?_, ?_, FC.snoc (hkeep _ _ hv2) (hkeep _ _ hn2) (hfc2.map hkeep), hbel5⟩, ?_⟩
          · rw [HP.out, par_good hne.out HPP.out, pre_pre, ← HPO.out, HDR.out]
          · simpa using hown5
          · simp only [intOf]; omega
    · have hd : s.data.toList.drop k = [] := List.drop_eq_nil_of_le (by omega)
      have hq : parse s.data.toList = .ok acc := by rw [HP.out, hd, par_nil]; simp [pre]
      have HQ := hid hq
      clear hq hd
      have hownW := ownsRow_setCell_below (ownsRow_setCell_below hown (a := ⟨w.heap.size, 0, none⟩) (Nat.lt_succ_self _) (.int .i64 0)) (a := ⟨w.heap.size, 1, none⟩) (Nat.lt_succ_self _) (.int .i64 0)
      have hfcW : FC (w.heap.size + 1) ((wr.setCell ⟨w.heap.size, 0, none⟩ (.int .i64 0)).setCell ⟨w.heap.size, 1, none⟩ (.int .i64 0)) acc C := hfc.map fun _ _ h => (h.setCell (p := ⟨w.heap.size, 0, none⟩) (Nat.lt_succ_self _) _).setCell (p := ⟨w.heap.size, 1, none⟩) (Nat.lt_succ_self _) _
      have hEW := (hEw.setCell (p := ⟨w.heap.size, 0, none⟩) (Nat.le_refl _) (.int .i64 0)).setCell (p := ⟨w.heap.size, 1, none⟩) (Nat.le_refl _) (.int .i64 0)
      rcases hown.2 with ⟨rfl, h0⟩ | ⟨g, gc, cur, rfl, _, _, hgc, _⟩
      · have h0' : acc = [] := List.eq_nil_of_length_eq_zero h0
        subst h0'
        go_wp2
        refine bodyPost_ret (v := .tuple #[.slice none 0 0, .agg #[.int .i64 0, .int .i64 0]]) (by simp [results, Tryd.results6, go_sem, z0, z1]) rfl ⟨hEW, ?_⟩
        rw [HQ.out]
        exact ⟨none, 0, rfl, Or.inl rfl, Nat.le_refl _, by simp⟩
      · go_wp2
        refine bodyPost_ret (v := .tuple #[.slice (some ⟨g, 0, none⟩) acc.length gc, .agg #[.int .i64 0, .int .i64 0]]) (by simp [results, Tryd.results6, go_sem, z0, z1]) rfl ⟨hEW, ?_⟩
        rw [HQ.out]
        exact ⟨some ⟨g, 0, none⟩, gc, rfl, flows_own hownW hfcW, hgc, by omega⟩

theorem refParse_any (s : ByteArray) (w : World) (hx : s.size ≤ 9223372036854775807) :
    Calls Tryd.prog 6 #[.string s] w fun e w' => Ext w w' ∧ PO w' e s.data.toList := by
  have hl := Lib.size_eq s
  by_cases h : 2000 < s.size
  · refine (refParse_much s w h hx).mono ?_
    rintro e w' ⟨rfl, hE⟩
    exact ⟨hE, Or.inl ⟨4, 0, by unfold pres; rw [if_pos (by omega)], by decide, rfl⟩⟩
  · refine (refParse_text s w (by omega)).mono ?_
    rintro e w' ⟨hE, ho⟩
    refine ⟨hE, ?_⟩
    cases hp : parse s.data.toList with
    | error p =>
      rw [hp] at ho
      exact Or.inl ⟨2, p, by unfold pres; rw [if_neg (by omega), hp], by decide, ho⟩
    | ok fs =>
      rw [hp] at ho
      obtain ⟨ao, cap, he, hf, hc, hn⟩ := ho
      refine Or.inr ⟨fs, ao, cap, pres_mk (by omega) hp, he, hf, hc, hn, fun k hk => ?_⟩
      have := par_lens _ hp (Nat.le_refl _) fs[k] (List.getElem_mem hk)
      omega

end Go.Proofs.YtbfgioinjggkkaaDoor
