/- What Compact answers for a row of rules of one's own. -/
import Derived.Test.YtmjddnnjjmnddadV17
namespace Go.Proofs.Ytmjddnnjjmnddad.Tb
open Go.RowKit Go.Deep Rul Go.Sort

set_option maxRecDepth 100000 in
set_option maxHeartbeats 800000 in
theorem Compact_row (b N cap n : Nat) (d : Array Ru) (w : World) (h : RW w b N d) (hn : d.size = n) (h2 : 2 ≤ n) (hcap : n ≤ cap) (hcx : cap ≤ 9223372036854775807) :
    Calls Try.prog 62 #[.slice (some ⟨b, 0, none⟩) n cap] w fun e w' => e = .returned (.slice (some ⟨b, 0, none⟩) (dd d.toList).length cap) ∧ RsAt w' (some ⟨b, 0, none⟩) (dd d.toList) ∧ w.grownBy w' (some b) := by
  have hn1 : d.size ≤ n := by omega
  have hn2 : n ≤ d.size := by omega
  have HN : Hid (d.size = n) := hn
  clear hn
  have HD : Hid (d.toList.length = d.size) := by show _ = _; simp
  have K1 : Hid (dd (d.toList.take 1) = d.toList.take 1) := dd_short (by simp; omega)
  go_enter Try.func62, Try.ntmps62
  go_wp2
  go_loopw [3] (fun kv wd => ∃ k : Nat, 1 ≤ k ∧ k ≤ n ∧ kv = .int .i64 k ∧ Hid (dd (d.toList.take k) = d.toList.take k) ∧ RW wd b N d ∧ w.grownBy wd (some b)) (fun kv _ => n - (intOf kv).toNat)
  case atStart => exact ⟨1, by omega, by omega, rfl, K1, h, Gb.refl _ _⟩
  case round =>
    clear K1
    obtain ⟨k, k1, k2, rfl, HK, hr, hg⟩ := hrel
    by_cases hlt : k < n
    · obtain ⟨k', rfl⟩ : ∃ j, k = j + 1 := ⟨k - 1, by omega⟩
      have i1 : ((k' : Int) + 1) < (n : Int) := by omega
      have i2 : (k' : Int) < (n : Int) := by omega
      obtain ⟨x, hx⟩ : ∃ x, d[k' + 1]! = x := ⟨_, rfl⟩
      obtain ⟨y, hy⟩ : ∃ x, d[k']! = x := ⟨_, rfl⟩
      obtain ⟨x0, x1, x2⟩ := hr.cells (j := k' + 1) (by omega) hx
      obtain ⟨y0, y1, y2⟩ := hr.cells (j := k') (by omega) hy
      have HXY : Hid _ := And.intro hx hy
      clear hx hy
      by_cases hxy : x = y
      · subst hxy
        go_wp2_with fail
        go_region
        go_wp2
        have HC : Hid (Cpt d d (k' + 1) (k' + 1 + 1)) := Cpt.first (by omega) (by omega) HK.out (by simp only [Nat.add_sub_cancel]; rw [HXY.out.1, HXY.out.2])
        have hr1 := hr.drew
        have hg1 := Gb.drew hg
        clear hr hg x0 x1 x2 y0 y1 y2 h HK HXY
        go_loopw [3, 5] (fun kv jv wd => ∃ (k j : Nat) (dk : Array Ru), 1 ≤ j ∧ k' + 1 + j ≤ n ∧ kv = .int .i64 k ∧ jv = .int .i64 j ∧ Hid (Cpt d dk k (k' + 1 + j)) ∧ RW wd b N dk ∧ w.grownBy wd (some b)) (fun _ jv _ => n - (intOf jv).toNat)
        case atStart => exact ⟨k' + 1, 1, d, Nat.le_refl _, by omega, rfl, rfl, HC, hr1, hg1⟩
        case round =>
          clear HC hr1 hg1
          obtain ⟨k, j, dk, j1, j2, rfl, rfl, HC, hr, hg⟩ := hrel
          have hsz := HC.out.size
          have hkj := HC.out.le
          obtain ⟨j', rfl⟩ : ∃ i, j = i + 1 := ⟨j - 1, by omega⟩
          by_cases hjl : k' + 1 + (j' + 1) < n
          · have i4 : ((j' : Int) + 1) < ((n - (k' + 1) : Nat) : Int) := by omega
            have i5 : (j' : Int) < ((n - (k' + 1) : Nat) : Int) := by omega
            have i6 : (k : Int) < (n : Int) := by omega
            obtain ⟨p, hp⟩ : ∃ x, dk[k' + 1 + (j' + 1)]! = x := ⟨_, rfl⟩
            obtain ⟨q, hq⟩ : ∃ x, dk[k' + 1 + j']! = x := ⟨_, rfl⟩
            obtain ⟨x0, x1, x2⟩ := hr.cells (j := k' + 1 + (j' + 1)) (by omega) hp
            obtain ⟨y0, y1, y2⟩ := hr.cells (j := k' + 1 + j') (by omega) hq
            rw [show (k' + 1 + (j' + 1)) * 3 = (k' + 1) * 3 + (j' + 1) * 3 by omega] at x0 x1 x2
            rw [show (k' + 1 + j') * 3 = (k' + 1) * 3 + j' * 3 by omega] at y0 y1 y2
            have hp' : d[k' + 1 + (j' + 1)]! = p := (HC.out.same _ (by omega)).symm.trans hp
            have hq' : d[k' + 1 + (j' + 1) - 1]! = q := (HC.out.same _ (by omega)).symm.trans (by rw [show k' + 1 + (j' + 1) - 1 = k' + 1 + j' by omega]; exact hq)
            have HPQ : Hid _ := And.intro hp' hq'
            clear hp hq hp' hq'
            by_cases hpq : p = q
            · have HC2 : Hid (Cpt d dk k (k' + 1 + (j' + 1 + 1))) := HC.out.skip (by omega) (by rw [HPQ.out.1, HPQ.out.2]; exact hpq)
              clear HC HPQ
              subst hpq
              go_wp2_with fail
              go_region
              go_wp2
              exact ⟨⟨k, j' + 1 + 1, dk, by omega, by omega, rfl, by go_num, HC2, hr.drew, Gb.drew hg⟩, by simp [intOf]; omega⟩
            · have HC2 : Hid (Cpt d (dk.setIfInBounds k p) (k + 1) (k' + 1 + (j' + 1 + 1))) := by
                have := HC.out.keep (by omega) (by rw [HPQ.out.1, HPQ.out.2]; exact hpq)
                rwa [HPQ.out.1] at this
              have hput := (hr.put (i := k) (by omega) p).drew
              have hgp := Gb.drew (Gb.set (Gb.set (Gb.set hg (k * 3) (.int .i64 p.1)) (k * 3 + 1) (.int .i64 p.2.1)) (k * 3 + 2) (.int .i64 p.2.2))
              obtain ⟨z0, z1, z2⟩ := hr.cells (j := k) (by omega) rfl
              have fz := hr.frozen
              have HP : Hid _ := And.intro hput hgp
              clear HC HPQ hput hgp hr hg
              rcases ne_cases hpq with e1 | ⟨e1, e2⟩ | ⟨e1, e2, e3⟩
              all_goals (
                clear hpq
                go_wp2_with fail
                go_region
                go_wp2
                exact ⟨⟨k + 1, j' + 1 + 1, dk.setIfInBounds k p, by omega, by omega, by go_num, by go_num, HC2, HP.out.1, HP.out.2⟩, by simp [intOf]; omega⟩)
          · have i4 : ¬ ((j' : Int) + 1) < ((n - (k' + 1) : Nat) : Int) := by omega
            have i6 : (k : Int) < (n : Int) := by omega
            have hdone := HC.out.done
            rw [show k' + 1 + (j' + 1) = n by omega, List.take_of_length_le (l := d.toList) (i := n) (by rw [HD.out, HN.out]; exact Nat.le_refl _)] at hdone
            have hlen : (dd d.toList).length = k := by rw [← hdone]; simp; omega
            obtain ⟨F, hF, hF2⟩ := hr.row
            have hfit := hr.fit
            have hcl : ∀ ty, (Builtin.clear_ #[22] ty #[.slice (some ⟨b, k * 3, none⟩) (n - k) (cap - k)]).run Try.prog wr = .ok (.tuple #[]) (wr.setCells b (k * 3) (Builtin.zeroCells #[.int .i64 0, .int .i64 0, .int .i64 0] (n - k)).toList) := fun ty =>
              run_clear_rules wr ty b (k * 3) (n - k) (cap - k) (by omega) (fun t ht => by rw [hF.cell (by omega)]; rfl) (fun t _ => hF.frozen _)
            have hfin : RsAt (wr.setCells b (k * 3) (Builtin.zeroCells #[.int .i64 0, .int .i64 0, .int .i64 0] (n - k)).toList) (some ⟨b, 0, none⟩) (dd d.toList) := by
              refine Or.inr ⟨b, 0, rfl, ?_, fun t ht => ?_⟩
              · have := (Gb.setCells (b := b) (Builtin.zeroCells #[.int .i64 0, .int .i64 0, .int .i64 0] (n - k)).toList (k * 3) wr (Gb.refl wr _)).size
                have := hF.lt
                omega
              · have htk : t < k := by omega
                have e : (dd d.toList).getD t (0, 0, 0) = dk[t]! := by
                  rw [← hdone, ← arr_get (by omega)]
                  simp [List.getD_eq_getElem?_getD, htk]
                obtain ⟨c0, c1, c2⟩ := hr.cells (j := t) (by omega) e.symm
                have ho : ∀ o, o < k * 3 → (wr.setCells b (k * 3) (Builtin.zeroCells #[.int .i64 0, .int .i64 0, .int .i64 0] (n - k)).toList).cell? ⟨b, o, none⟩ = wr.cell? ⟨b, o, none⟩ := fun o ho => World.cell?_setCells_out b _ _ _ _ (fun _ _ => Or.inl ho)
                rw [Nat.zero_add, ho _ (by omega), ho _ (by omega), ho _ (by omega)]
                exact ⟨c0, c1, c2⟩
            have hgf := Gb.setCells (b := b) (Builtin.zeroCells #[.int .i64 0, .int .i64 0, .int .i64 0] (n - k)).toList (k * 3) wr hg
            have HF : Hid _ := And.intro hlen (And.intro hfin hgf)
            clear hlen hfin hgf hdone hF hF2 hr hg HC
            go_wp2
            go_ret
            rw [HF.out.1]
            exact ⟨rfl, HF.out.2.1, HF.out.2.2⟩
      · have HK2 : Hid (dd (d.toList.take (k' + 1 + 1)) = d.toList.take (k' + 1 + 1)) := dd_grow (by omega) (by omega) HK.out (by simp only [Nat.add_sub_cancel]; rw [HXY.out.1, HXY.out.2]; exact hxy)
        rcases ne_cases hxy with e1 | ⟨e1, e2⟩ | ⟨e1, e2, e3⟩
        all_goals (
          clear hxy
          go_wp2_with fail
          go_region
          go_wp2
          exact ⟨⟨k' + 1 + 1, by omega, by omega, by go_num, HK2, hr.drew, Gb.drew hg⟩, by simp [intOf]; omega⟩)
    · have i1 : ¬ (k : Int) < (n : Int) := by omega
      have hkn : k = n := by omega
      have hfin : dd d.toList = d.toList := by
        have := HK.out
        rwa [hkn, List.take_of_length_le (by rw [HD.out, HN.out]; exact Nat.le_refl _)] at this
      have hlen : (dd d.toList).length = n := by rw [hfin, HD.out, HN.out]
      have HF : Hid _ := And.intro hfin hlen
      clear hfin hlen
      go_wp2
      go_ret
      rw [HF.out.2, HF.out.1]
      exact ⟨rfl, hr.rs, hg⟩

/-- The row that Concat has made, as one that is sorted. -/
theorem RO.rw {w : World} {base : Nat} {v : Value} {rs : List Ru} (h : RO w base v rs) (hn : 0 < rs.length) : ∃ b cap, v = .slice (some ⟨b, 0, none⟩) rs.length cap ∧ base ≤ b ∧ rs.length ≤ cap ∧ cap ≤ maxLen ∧ RW w b (cap * 3) rs.toArray := by
  rcases h.2 with ⟨_, h0⟩ | ⟨g, cap, cur, hv, hb, hg, hnc, hm, hc, ht⟩
  · omega
  · refine ⟨g, cap, hv, hb, hnc, hm, by simp; omega, fun i => cur.getD i (.int .i64 0), ⟨cur, hg, hc, fun i hi => ?_⟩, fun j hj => ?_⟩
    · have hi' : i < cur.size := by omega
      simp [Array.getD, hi']
    · have hj' : j < rs.length := by simpa using hj
      have hget : ∀ i u, i < rs.length * 3 → (rcs rs)[i]? = some u → cur.getD i (.int .i64 0) = u := fun i u hi hu => by
        rw [← ht, List.getElem?_take_of_lt hi] at hu
        have hi' : i < cur.size := by omega
        have : cur[i] = u := by simpa [hi'] using hu
        simp [Array.getD, hi', this]
      obtain ⟨a0, a1, a2⟩ := rcs_at rs j hj'
      have e : rs.getD j r0 = (rs.toArray)[j]! := by rw [← arr_get (d := rs.toArray) (by simpa using hj')]
      rw [e] at a0 a1 a2
      exact ⟨hget _ _ (by omega) a0, hget _ _ (by omega) a1, hget _ _ (by omega) a2⟩

end Go.Proofs.Ytmjddnnjjmnddad.Tb
