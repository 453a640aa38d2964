/- What the document's own Find answers, for every net and flow: the same as Find; nothing that was there is changed. -/
import Derived.Test.YtagkbpckflineabA2
import Derived.Test.YtagkbpckflineabT2
import Derived.Test.YtagkbpckflineabP7
import Derived.Test.YtagkbpckflineabR1
import Derived.Test.YtagkbpckflineabD2
namespace Go.Proofs.Ytagkbpckflineab
open Go.RowKit Go.Maps Stw Go.Deep Stp

theorem all_ok {nn : Nat} {ls : List Lk} {ao : Option Addr} {len cap : Nat} {to : Int} (hlen : ls.length = len) (hx : len ≤ 9223372036854775807) (hr : Right (nn : Int) ls) : ∀ k, AllOk nn ls ao len cap to k
  | 0 => by
    intro p b off pc w hpk hnd hrg
    have hbd := hr.bounds
    have h := nodup_le 8 p hnd (fun x hx => by have := hrg x hx; omega)
    omega
  | k + 1 => all_step hlen hx hr (all_ok hlen hx hr k)

theorem all_short {C : Int → Int → Int} {n : Nat} {to : Int} : ∀ {k : Nat} {p q : List Int}, q ∈ all C n to k p → q.length ≤ p.length + k
  | 0, _, _, h => by cases h
  | k + 1, p, q, h => by
    unfold all at h
    split at h
    · simp at h; subst h; omega
    · simp only [List.mem_flatMap] at h
      obtain ⟨s, _, h⟩ := h
      split at h
      · have := all_short h
        simp at this
        omega
      · cases h

theorem cell_one {W : World} {n : Nat} (h : W.heap.size = n) (v : Value) (T : TypeId) : (W.alloc (.cells #[v] T)).cell? ⟨n, 0 + 0, none⟩ = some v := by subst h; simp
theorem rstep_no {n : Int} {ls : List Lk} {fr to : Int} {via nt p : List Int} {b : Option (List Int)} (h : svB n ls fr to via nt p = false) : rstep n ls fr to via nt b p = b := by
  unfold rstep; rw [if_neg (by rw [h]; simp)]
theorem rstep_first {n : Int} {ls : List Lk} {fr to : Int} {via nt p : List Int} (h : svB n ls fr to via nt p = true) : rstep n ls fr to via nt none p = some p := by
  unfold rstep; rw [if_pos h]
theorem rstep_better {n : Int} {ls : List Lk} {fr to : Int} {via nt p q : List Int} (h : svB n ls fr to via nt q = true) (hc : Stp.pc (cost ls) q < Stp.pc (cost ls) p) : rstep n ls fr to via nt (some p) q = some q := by
  unfold rstep; rw [if_pos h]; simp only [if_pos hc]
theorem rstep_keep {n : Int} {ls : List Lk} {fr to : Int} {via nt p q : List Int} (h : svB n ls fr to via nt q = true) (hc : Stp.pc (cost ls) p ≤ Stp.pc (cost ls) q) : rstep n ls fr to via nt (some p) q = some p := by
  unfold rstep; rw [if_pos h]; simp only [if_neg (show ¬ Stp.pc (cost ls) q < Stp.pc (cost ls) p by omega)]
/-- What is kept of the best path. -/
def BP (B : Nat) (w : World) (v : Value) : Option (List Int) → Prop
  | none => v = .slice none 0 0
  | some p => ∃ b off c, v = .slice (some ⟨b, off, none⟩) p.length c ∧ B ≤ b ∧ b < w.heap.size ∧ IntsAt w b off p ∧ p.length ≤ c
theorem BP.ext {B : Nat} {w w' : World} {v : Value} {o : Option (List Int)} (h : BP B w v o) (k : Ext w w') : BP B w' v o := by
  cases o with
  | none => exact h
  | some p =>
    obtain ⟨b, off, c, h1, h0, h2, h3, h4⟩ := h
    exact ⟨b, off, c, h1, h0, Nat.lt_of_lt_of_le h2 k.size, fun i hi => (k.cells.1 _ _ h2).trans (h3 i hi), h4⟩
theorem foldl_take {α β : Type} (f : β → α → β) (b : β) (l : List α) (i : Nat) (x : α) (h : l[i]? = some x) : (l.take (i + 1)).foldl f b = f ((l.take i).foldl f b) x := by
  have hi := (List.getElem?_eq_some_iff.1 h).1
  rw [List.take_succ_eq_append_getElem hi, List.foldl_append]
  have : l[i] = x := (List.getElem?_eq_some_iff.1 h).2
  rw [this]; rfl
theorem svB_path {n : Int} {ls : List Lk} {fr to : Int} {via nt p : List Int} (h : svB n ls fr to via nt p = true) : pathB n ls p = true := by
  simp only [svB, Bool.and_eq_true] at h
  exact h.1.1.1

/-- What comes of it: a path of its own. -/
def FindNew (w w' : World) (e : Ending) (r : Int × List Int) : Prop := ∃ go gc, e = .returned (.tuple #[.slice go r.2.length gc, .int .i64 r.1]) ∧ FN w.heap.size w' r.2 (.slice go r.2.length gc) ∧ Ext w w'
theorem fn_nil (B : Nat) (w : World) : FN B w [] (.slice none ([] : List Int).length 0) := ⟨none, 0, rfl, Or.inl rfl, Nat.le_refl _⟩

set_option maxRecDepth 100000 in
set_option maxHeartbeats 4000000 in
theorem refFind_any (n : Int) (ao : Option Addr) (len cap : Nat) (ls : List Lk) (f : Stf.Fl) (vo no : Option Addr) (vc nc : Nat) (w : World) (hlen : ls.length = len) (hl : NetAt w ao ls) (hx : len ≤ 9223372036854775807) (hcap : len ≤ cap)
    (hv : ListAt w vo f.via) (hvl : f.via.length ≤ 4611686018427387904) (hvc : f.via.length ≤ vc) (hn : ListAt w no f.nt) (hnl : f.nt.length ≤ 4611686018427387904) (hnc : f.nt.length ≤ nc) :
    Calls Try.prog 9 #[.agg #[.int .i64 n, .slice ao len cap], .agg #[.int .i64 f.fr, .int .i64 f.to, .slice vo f.via.length vc, .slice no f.nt.length nc]] w fun e w' => FindNew w w' e (fnd n ls f) := by
  obtain ⟨fr, to, via, nt⟩ := f
  simp only at hv hvl hvc hn hnl hnc ⊢
  by_cases hr : (wrong n ls).1 = 0
  · have hright := right_of hr
    have hbd := hright.bounds
    obtain ⟨nn, rfl⟩ := Int.eq_ofNat_of_zero_le (show 0 ≤ n by omega)
    have hw0 := hright.wrong
    have HW := hidp hw0
    obtain ⟨r, hr2⟩ : ∃ r, r = Stf.wflow ⟨fr, to, via, nt⟩ nn := ⟨_, rfl⟩
    have HF : Hid (fnd nn ls ⟨fr, to, via, nt⟩ = if Stf.wflow ⟨fr, to, via, nt⟩ nn ≠ 0 then (Stf.wflow ⟨fr, to, via, nt⟩ nn, []) else match find (cost ls) fr to via nt with
        | none => (9, [])
        | some (p, _) => (0, p)) := by unfold fnd; rw [if_neg (by rw [hw0]; simp)]; exact hidp rfl
    rw [← hr2] at HF
    have HR2 := hidp hr2
    clear hr hw0 hr2
    go_enter Try.func9, Try.ntmps9
    go_wp2_with fail
    refine (refWrong_any nn ao len cap ls _ hlen (hl.ext (((Ext.refl w).alloc _).alloc _)) hx hcap).mono ?_
    rintro e w1 ⟨he, E1⟩
    rw [HW.out] at he
    subst he
    have hEw1 : Ext w w1 := (((Ext.refl w).alloc _).alloc _).trans E1
    have hs1 : w.heap.size + 1 < w1.heap.size := by have := E1.size; simp at this; omega
    have hs0 : w.heap.size < w1.heap.size := by omega
    obtain ⟨q1, g1⟩ := E1.cells
    have a0 : w1.cell? ⟨w.heap.size, 0, none⟩ = some (.int .i64 nn) := (q1 _ _ (by simp; omega)).trans (by simp)
    have a1 : w1.cell? ⟨w.heap.size, 1, none⟩ = some (.slice ao len cap) := (q1 _ _ (by simp; omega)).trans (by simp)
    have b0 : w1.cell? ⟨w.heap.size + 1, 0, none⟩ = some (.int .i64 fr) := (q1 _ _ (by simp)).trans (by simp)
    have b1 : w1.cell? ⟨w.heap.size + 1, 1, none⟩ = some (.int .i64 to) := (q1 _ _ (by simp)).trans (by simp)
    have b2 : w1.cell? ⟨w.heap.size + 1, 2, none⟩ = some (.slice vo via.length vc) := (q1 _ _ (by simp)).trans (by simp)
    have b3 : w1.cell? ⟨w.heap.size + 1, 3, none⟩ = some (.slice no nt.length nc) := (q1 _ _ (by simp)).trans (by simp)
    clear q1 g1
    go_wp2_with fail
    refine (Fw.refWrong_few _ 1 1 nn [⟨fr, to, via, nt⟩] _ rfl (flows_one (b := w1.heap.size + 1) (by simp) ⟨vo, vc, rfl, hv.ext (hEw1.alloc _), hvc⟩ ⟨no, nc, rfl, hn.ext (hEw1.alloc _), hnc⟩) (sm_one hvl hnl) (by omega)).mono ?_
    rintro e w2 ⟨he, E2⟩
    rw [wflows_one, ← HR2.out] at he
    subst he
    have hEw2 : Ext w1 w2 := (((Ext.refl w1).alloc _).alloc _).trans E2
    have hs2 : w.heap.size + 1 < w2.heap.size := by have := hEw2.size; omega
    have hs02 : w.heap.size < w2.heap.size := by omega
    by_cases h0 : r = 0
    · subst h0
      have hF := rightF_of HR2.out.symm
      have HRF := hidp hF
      have HB : Hid (∀ W, Ext w2 W → (W.cell? ⟨w.heap.size, 0, none⟩ = some (.int .i64 nn) ∧ W.cell? ⟨w.heap.size, 1, none⟩ = some (.slice ao len cap)) ∧ W.cell? ⟨w.heap.size + 1, 0, none⟩ = some (.int .i64 fr) ∧ W.cell? ⟨w.heap.size + 1, 1, none⟩ = some (.int .i64 to) ∧ W.cell? ⟨w.heap.size + 1, 2, none⟩ = some (.slice vo via.length vc) ∧ W.cell? ⟨w.heap.size + 1, 3, none⟩ = some (.slice no nt.length nc)) := fun W h => by
        have hq := (hEw2.trans h).cells.1
        exact ⟨⟨(hq _ _ hs0).trans a0, (hq _ _ hs0).trans a1⟩, (hq _ _ hs1).trans b0, (hq _ _ hs1).trans b1, (hq _ _ hs1).trans b2, (hq _ _ hs1).trans b3⟩
      obtain ⟨⟨d0, d1⟩, f0, f1, f2, f3⟩ := HB.out w2 (Ext.refl _)
      clear a0 a1 b0 b1 b2 b3 hF
      have HRf := hidp (ref_find (to := to) (via := via) hright HRF.out.fr (fun h => (HRF.out.nt _ h).2.2.1 rfl))
      have hW2 : Ext w w2 := hEw1.trans hEw2
      have heql : ∀ (w : World) (a : Option Addr) (n c : Nat), (binOp .eql 26 (.slice a n c) (.slice none 0 0)).run Try.prog w = .ok (.bool a.isNone) w := fun w a n c => Lib.run_eql_slice_nil w _ _ a n c 0 0 Try.underlying26
      have HP1 : Hid (IntsAt ((w2.alloc (.cells #[.int .i64 0, .int .i64 0] 38)).alloc (.cells #[.int .i64 fr] 3)) (w2.heap.size + 1) 0 [fr]) := fun i hi => by
        have : i = 0 := by simp at hi; omega
        subst this
        exact cell_one (by simp) _ _
      go_wp2_with fail
      refine (all_ok hlen hx hright 8 [fr] (w2.heap.size + 1) 0 1 _ (by simp) (by simp) (fun y hy => by simp at hy; subst hy; exact HRF.out.fr) (by simp) (by simp) HP1.out (by simp) (hl.ext ((hW2.alloc _).alloc _))).mono ?_
      rintro e w3 ⟨ro, rcap, vs, rfl, E3, hrow, hrc, hpv⟩
      obtain ⟨ps, hps⟩ : ∃ ps, ps = all (cost ls) nn to 8 [fr] := ⟨_, rfl⟩
      have HSh : Hid (∀ q ∈ ps, q.length ≤ 9) := fun q hq => by rw [hps] at hq; have := all_short hq; simpa using this
      have hpl8 : ps.length ≤ 16777216 := by rw [hps]; have := all_len (C := cost ls) (n := nn) (to := to) (by omega) 8 [fr]; simpa using this
      rw [← hps] at hpv HRf
      clear hps d0 d1 f0 f1 f2 f3
      have hvl2 := hpv.len
      have hW3 : Ext w2 w3 := (((Ext.refl w2).alloc _).alloc _).trans E3
      go_wp2
      go_loopw [8, 40] (fun bv iv wr => ∃ (i : Nat) (bst : Option (List Int)) (bw : Value), bw = bv ∧ i ≤ vs.length ∧ iv = .int .i64 i ∧ bst = (ps.take i).foldl (rstep nn ls fr to via nt) none ∧ BP w.heap.size wr bw bst ∧ (∀ q, bst = some q → svB nn ls fr to via nt q = true) ∧ Ext w3 wr) (fun _ iv _ => vs.length - (intOf iv).toNat)
      case atStart => exact ⟨0, none, _, rfl, Nat.zero_le _, rfl, rfl, rfl, fun q hq => (by cases hq), Ext.refl _⟩
      case round =>
        obtain ⟨i, bst, bw, hbw, hi, rfl, hbst, hBP, hbs, hext⟩ := hrel
        subst hbw
        obtain ⟨wo, rfl⟩ : ∃ wo : World, wo = wr := ⟨_, rfl⟩
        have hWo : Ext w wo := (hW2.trans hW3).trans hext
        obtain ⟨⟨d0, d1⟩, f0, f1, f2, f3⟩ := HB.out wo (hW3.trans hext)
        have HBst := hidp hbst
        have HBS := hidp hbs
        clear hbst hbs
        by_cases hlt : i < vs.length
        · obtain ⟨v, hv1, hpvi⟩ := hpv.get (i := i) (by omega)
          obtain ⟨rg, roff, rfl, hrg, hrc2⟩ : ∃ rg roff, ro = some ⟨rg, roff, none⟩ ∧ rg < w3.heap.size ∧ ∀ (i : Nat) (v : Value), vs[i]? = some v → w3.cell? ⟨rg, roff + i, none⟩ = some v := by
            rcases hrow with ⟨h, _⟩ | h
            · subst h; simp at hlt
            · exact h
          have cv := (hext.cells.1 _ _ hrg).trans (hrc2 i v hv1)
          have hpi : ps[i]? = some (ps.getD i []) := by rw [List.getD_eq_getElem?_getD, List.getElem?_eq_getElem (by omega : i < ps.length)]; rfl
          have HT := hidp (foldl_take (rstep nn ls fr to via nt) none ps i _ hpi)
          have hq9 := HSh.out (ps.getD i []) (List.mem_of_getElem? hpi)
          obtain ⟨q, hq⟩ : ∃ q, q = ps.getD i [] := ⟨_, rfl⟩
          rw [← hq] at hpvi HT hq9
          clear hq hpi hrc2
          obtain ⟨bq, oq, cq, rfl, hQq, hbq, hatq, hcq⟩ := hpvi
          have hBq : w.heap.size ≤ bq := by
            simp only [World.size_alloc] at hQq
            rcases hQq with h | h <;> omega
          clear hQq
          have hrgo : rg < wo.heap.size := Nat.lt_of_lt_of_le hrg hext.size
          have hqo : ListAt wo (some ⟨bq, oq, none⟩) q := Or.inr ⟨bq, oq, rfl, Nat.lt_of_lt_of_le hbq hext.size, fun j hj => (hext.cells.1 _ _ hbq).trans (hatq j hj)⟩
          have i1 : (i : Int) < (vs.length : Int) := by omega
          cases hsv : svB nn ls fr to via nt q
          · have HSV := hidp hsv
            clear hsv
            go_wp2_with fail
            refine (Serves_any nn ao len cap ls fr to via nt vo no vc nc q _ q.length cq _ hlen (hl.ext hWo) hx HW.out (hv.ext hWo) hvl (hn.ext hWo) hnl rfl (by omega) hqo).mono ?_
            rintro e w4 ⟨he, E4⟩
            rw [HSV.out] at he
            subst he
            go_wp2
            go_roundw
            case rel => exact ⟨i + 1, bst, bw, rfl, by omega, by go_num, by rw [HT.out, ← HBst.out]; exact (rstep_no HSV.out).symm, hBP.ext E4, HBS.out, hext.trans E4⟩
            case measure => simp [intOf]; omega
          · have HSV := hidp hsv
            have HLq : Hid (lengthOf nn ls q = (Stp.pc (cost ls) q, true)) := by rw [length_iff hright, if_pos (svB_path hsv)]; exact hidp rfl
            clear hsv
            go_wp2_with fail
            refine (Serves_any nn ao len cap ls fr to via nt vo no vc nc q _ q.length cq _ hlen (hl.ext hWo) hx HW.out (hv.ext hWo) hvl (hn.ext hWo) hnl rfl (by omega) hqo).mono ?_
            rintro e w4 ⟨he, E4⟩
            rw [HSV.out] at he
            subst he
            have hW4 := hWo.trans E4
            obtain ⟨⟨d0', d1'⟩, _, _, _, _⟩ := HB.out w4 ((hW3.trans hext).trans E4)
            clear d0 d1 f0 f1 f2 f3
            go_wp2_with fail
            refine (refLength_any nn ao _ len cap q.length cq ls q _ hlen (hl.ext hW4) hx HW.out rfl (by omega) (hqo.ext E4)).mono ?_
            rintro e w5 ⟨he, E5⟩
            rw [HLq.out] at he
            subst he
            have hW5 := hW4.trans E5
            obtain ⟨⟨d0, d1⟩, _, _, _, _⟩ := HB.out w5 (((hW3.trans hext).trans E4).trans E5)
            clear d0' d1'
            have hqn : BP w.heap.size w5 (.slice (some ⟨bq, oq, none⟩) q.length cq) (some q) := ⟨bq, oq, cq, rfl, hBq, by have := (hext.trans (E4.trans E5)).size; omega, fun j hj => ((hext.trans (E4.trans E5)).cells.1 _ _ hbq).trans (hatq j hj), hcq⟩
            cases bst with
            | none =>
              have hbn : bw = .slice none 0 0 := hBP
              subst hbn
              go_wp2_with fail
              refine (refLength_any nn ao none len cap 0 0 ls [] _ hlen (hl.ext hW5) hx HW.out rfl (by omega) (Or.inl rfl)).mono ?_
              rintro e w6 ⟨he, E6⟩
              subst he
              go_wp2
              go_roundw
              case rel => exact ⟨i + 1, some q, _, rfl, by omega, by go_num, by rw [HT.out, ← HBst.out]; exact (rstep_first HSV.out).symm, hqn.ext E6, fun q' h => by cases h; exact HSV.out, ((hext.trans E4).trans E5).trans E6⟩
              case measure => simp [intOf]; omega
            | some p =>
              have hsvp := HBS.out p rfl
              have HLp : Hid (lengthOf nn ls p = (Stp.pc (cost ls) p, true)) := by rw [length_iff hright, if_pos (svB_path hsvp)]; exact hidp rfl
              have hp8 := pth_len (pth_of hright (svB_path hsvp))
              clear hsvp
              obtain ⟨bp, op, cp, rfl, hBp, hbp, hatp, hcp⟩ := hBP.ext (E4.trans E5)
              obtain ⟨x, hx1⟩ : ∃ x, x = Stp.pc (cost ls) q := ⟨_, rfl⟩
              obtain ⟨y, hy1⟩ : ∃ y, y = Stp.pc (cost ls) p := ⟨_, rfl⟩
              rw [← hy1] at HLp
              have HX := hidp hx1
              have HY := hidp hy1
              rw [← hx1]
              clear hx1 hy1
              go_wp2_with fail
              refine (refLength_any nn ao _ len cap p.length cp ls p _ hlen (hl.ext hW5) hx HW.out rfl (by omega) (Or.inr ⟨bp, op, rfl, hbp, hatp⟩)).mono ?_
              rintro e w6 ⟨he, E6⟩
              rw [HLp.out] at he
              subst he
              have hpn : BP w.heap.size w6 (.slice (some ⟨bp, op, none⟩) p.length cp) (some p) := BP.ext (w := w5) ⟨bp, op, cp, rfl, hBp, hbp, hatp, hcp⟩ E6
              by_cases hxy : x < y
              · have HXY : Hid (Stp.pc (cost ls) q < Stp.pc (cost ls) p) := by rw [← HX.out, ← HY.out]; exact hidp hxy
                go_wp2
                go_roundw
                case rel => exact ⟨i + 1, some q, _, rfl, by omega, by go_num, by rw [HT.out, ← HBst.out]; exact (rstep_better HSV.out HXY.out).symm, hqn.ext E6, fun q' h => by cases h; exact HSV.out, ((hext.trans E4).trans E5).trans E6⟩
                case measure => simp [intOf]; omega
              · have HXY : Hid (Stp.pc (cost ls) p ≤ Stp.pc (cost ls) q) := by rw [← HX.out, ← HY.out]; exact hidp (by omega)
                go_wp2
                go_roundw
                case rel => exact ⟨i + 1, some p, _, rfl, by omega, by go_num, by rw [HT.out, ← HBst.out]; exact (rstep_keep HSV.out HXY.out).symm, hpn, HBS.out, ((hext.trans E4).trans E5).trans E6⟩
                case measure => simp [intOf]; omega
        · have hall : ps.take i = ps := List.take_of_length_le (by omega)
          have HRes : Hid (bst = (find (cost ls) fr to via nt).map Prod.fst) := by rw [HBst.out, hall]; exact HRf.out
          clear hall d0 d1 f0 f1 f2 f3
          cases bst with
          | none =>
            have hbn : bw = .slice none 0 0 := hBP
            subst hbn
            have HF2 : Hid (fnd nn ls ⟨fr, to, via, nt⟩ = (9, [])) := by
              rw [HF.out, if_neg (by simp)]
              have := HRes.out
              cases hfi : find (cost ls) fr to via nt with
              | none => exact hidp rfl
              | some y => rw [hfi] at this; cases this
            go_wp2
            go_ret2
            refine ⟨none, 0, ?_, ?_, hWo⟩
            · rw [HF2.out]; rfl
            · rw [HF2.out]; exact fn_nil _ _
          | some p =>
            have HF2 : Hid (fnd nn ls ⟨fr, to, via, nt⟩ = (0, p)) := by
              rw [HF.out, if_neg (by simp)]
              have := HRes.out
              cases hfi : find (cost ls) fr to via nt with
              | none => rw [hfi] at this; cases this
              | some y => rw [hfi] at this; injection this with this; rw [this]; exact hidp rfl
            obtain ⟨bp, op, cp, rfl, hBp, hbp, hatp, hcp⟩ := hBP
            go_wp2
            go_ret2
            refine ⟨some ⟨bp, op, none⟩, cp, ?_, ?_, hWo⟩
            · rw [HF2.out]; rfl
            · rw [HF2.out]; exact ⟨_, _, rfl, Or.inr ⟨bp, op, rfl, hBp, hbp, hatp⟩, hcp⟩
    · have h0' : (r != 0) = true := by simpa using h0
      go_wp2
      go_region
      go_wp2
      go_ret2
      have HF2 : fnd nn ls ⟨fr, to, via, nt⟩ = (r, []) := by rw [HF.out, if_pos h0]
      refine ⟨none, 0, ?_, ?_, ((hEw1.trans hEw2).alloc _).drew⟩
      · rw [HF2]; rfl
      · rw [HF2]; exact fn_nil _ _
  · have hr' : ((wrong n ls).1 == 0) = false := by simpa using hr
    have HF : Hid (fnd n ls ⟨fr, to, via, nt⟩ = ((wrong n ls).1, [])) := by unfold fnd; rw [if_pos hr]; exact hidp rfl
    clear hr
    go_enter Try.func9, Try.ntmps9
    go_wp2_with fail
    refine (refWrong_any n ao len cap ls _ hlen (hl.ext (((Ext.refl w).alloc _).alloc _)) hx hcap).mono ?_
    rintro e w1 ⟨rfl, E1⟩
    go_wp2
    go_region
    go_wp2
    go_ret2
    refine ⟨none, 0, ?_, ?_, (((((Ext.refl w).alloc _).alloc _).trans E1).alloc _).drew⟩
    · rw [HF.out]; rfl
    · rw [HF.out]; exact fn_nil _ _

end Go.Proofs.Ytagkbpckflineab
