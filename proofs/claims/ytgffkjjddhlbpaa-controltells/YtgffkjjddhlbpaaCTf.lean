/- What the document's own Ask answers. -/
import Derived.Test.YtgffkjjddhlbpaaCTe
import Derived.Test.YtgffkjjddhlbpaaT2
import Derived.Test.YtgffkjjddhlbpaaP7a
import Derived.Test.YtgffkjjddhlbpaaR1
import Derived.Test.YtgffkjjddhlbpaaCTi
import Derived.Test.YtgffkjjddhlbpaaT4a
import Derived.Test.YtgffkjjddhlbpaaCTd
/- What the document's own Find answers, for every net and flow: the same as Find; nothing that was there is changed. -/
namespace Go.Proofs.Ytgffkjjddhlbpaa
open Go.RowKit Go.Maps Stw Go.Deep Stp

theorem all_ok {nn : Nat} {ls : List Lk} {ao : Option Addr} {len cap : Nat} {tx : Int} (hlen : ls.length = len) (hx : len ≤ 9223372036854775807) (hr : Right (nn : Int) ls) : ∀ k, AllOk nn ls ao len cap tx k
  | 0 => by
    intro p b off pc w hpk hnd hrg
    have hbd := hr.bounds
    have h := nodup_le 8 p hnd (fun x hx => by have := hrg x hx; omega)
    omega
  | k + 1 => all_step hlen hx hr (all_ok hlen hx hr k)

theorem all_short {C : Int → Int → Int} {n : Nat} {tx : Int} : ∀ {k : Nat} {p q : List Int}, q ∈ all C n tx k p → q.length ≤ p.length + k
  | 0, _, _, h => by cases h
  | k + 1, p, q, h => by
    unfold all at h
    split at h
    · simp at h; subst h; omega
    · simp only [List.mem_flatMap] at h
      obtain ⟨s, _, h⟩ := h
      split at h
      · have := all_short h
        simp at this
        omega
      · cases h

theorem cell_one {W : World} {n : Nat} (h : W.heap.size = n) (v : Value) (T : TypeId) : (W.alloc (.cells #[v] T)).cell? ⟨n, 0 + 0, none⟩ = some v := by subst h; simp
theorem rstep_no {n : Int} {ls : List Lk} {fr tx : Int} {via nt p : List Int} {b : Option (List Int)} (h : svB n ls fr tx via nt p = false) : rstep n ls fr tx via nt b p = b := by
  unfold rstep; rw [if_neg (by rw [h]; simp)]
theorem rstep_first {n : Int} {ls : List Lk} {fr tx : Int} {via nt p : List Int} (h : svB n ls fr tx via nt p = true) : rstep n ls fr tx via nt none p = some p := by
  unfold rstep; rw [if_pos h]
theorem rstep_better {n : Int} {ls : List Lk} {fr tx : Int} {via nt p q : List Int} (h : svB n ls fr tx via nt q = true) (hc : Stp.pc (cost ls) q < Stp.pc (cost ls) p) : rstep n ls fr tx via nt (some p) q = some q := by
  unfold rstep; rw [if_pos h]; simp only [if_pos hc]
theorem rstep_keep {n : Int} {ls : List Lk} {fr tx : Int} {via nt p q : List Int} (h : svB n ls fr tx via nt q = true) (hc : Stp.pc (cost ls) p ≤ Stp.pc (cost ls) q) : rstep n ls fr tx via nt (some p) q = some p := by
  unfold rstep; rw [if_pos h]; simp only [if_neg (show ¬ Stp.pc (cost ls) q < Stp.pc (cost ls) p by omega)]
/-- What is kept of the best path. -/
def BP (B : Nat) (w : World) (v : Value) : Option (List Int) → Prop
  | none => v = .slice none 0 0
  | some p => ∃ b off c, v = .slice (some ⟨b, off, none⟩) p.length c ∧ B ≤ b ∧ b < w.heap.size ∧ IntsAt w b off p ∧ p.length ≤ c
theorem BP.ext {B : Nat} {w w' : World} {v : Value} {o : Option (List Int)} (h : BP B w v o) (k : Ext w w') : BP B w' v o := by
  cases o with
  | none => exact h
  | some p =>
    obtain ⟨b, off, c, h1, h0, h2, h3, h4⟩ := h
    exact ⟨b, off, c, h1, h0, Nat.lt_of_lt_of_le h2 k.size, fun i hi => (k.cells.1 _ _ h2).trans (h3 i hi), h4⟩
theorem foldl_take {α β : Type} (f : β → α → β) (b : β) (l : List α) (i : Nat) (x : α) (h : l[i]? = some x) : (l.take (i + 1)).foldl f b = f ((l.take i).foldl f b) x := by
  have hi := (List.getElem?_eq_some_iff.1 h).1
  rw [List.take_succ_eq_append_getElem hi, List.foldl_append]
  have : l[i] = x := (List.getElem?_eq_some_iff.1 h).2
  rw [this]; rfl
theorem svB_path {n : Int} {ls : List Lk} {fr tx : Int} {via nt p : List Int} (h : svB n ls fr tx via nt p = true) : pathB n ls p = true := by
  simp only [svB, Bool.and_eq_true] at h
  exact h.1.1.1

/-- What comes of it: a path of its own. -/
def FindNew (w w' : World) (e : Ending) (r : Int × List Int) : Prop := ∃ go gc, e = .returned (.tuple #[.slice go r.2.length gc, .int .i64 r.1]) ∧ FN w.heap.size w' r.2 (.slice go r.2.length gc) ∧ Ext w w'
theorem fn_nil (B : Nat) (w : World) : FN B w [] (.slice none ([] : List Int).length 0) := ⟨none, 0, rfl, Or.inl rfl, Nat.le_refl _⟩

set_option maxRecDepth 100000 in
set_option maxHeartbeats 4000000 in
theorem refFind_any (n : Int) (ao : Option Addr) (len cap : Nat) (ls : List Lk) (f : Stf.Fl) (vo no : Option Addr) (vc nc : Nat) (w : World) (hlen : ls.length = len) (hl : NetAt w ao ls) (hx : len ≤ 9223372036854775807) (hcap : len ≤ cap)
    (hv : ListAt w vo f.via) (hvl : f.via.length ≤ 4611686018427387904) (hvc : f.via.length ≤ vc) (hn : ListAt w no f.nt) (hnl : f.nt.length ≤ 4611686018427387904) (hnc : f.nt.length ≤ nc) :
    Calls Try.prog 54 #[.agg #[.int .i64 n, .slice ao len cap], .agg #[.int .i64 f.fr, .int .i64 f.to, .slice vo f.via.length vc, .slice no f.nt.length nc]] w fun e w' => FindNew w w' e (fnd n ls f) := by
  obtain ⟨fr, tx, via, nt⟩ := f
  simp only at hv hvl hvc hn hnl hnc ⊢
  by_cases hr : (wrong n ls).1 = 0
  · have hright := right_of hr
    have hbd := hright.bounds
    obtain ⟨nn, rfl⟩ := Int.eq_ofNat_of_zero_le (show 0 ≤ n by omega)
    have hw0 := hright.wrong
    have HW := hidp hw0
    obtain ⟨r, hr2⟩ : ∃ r, r = Stf.wflow ⟨fr, tx, via, nt⟩ nn := ⟨_, rfl⟩
    have HF : Hid (fnd nn ls ⟨fr, tx, via, nt⟩ = if Stf.wflow ⟨fr, tx, via, nt⟩ nn ≠ 0 then (Stf.wflow ⟨fr, tx, via, nt⟩ nn, []) else match find (cost ls) fr tx via nt with
        | none => (9, [])
        | some (p, _) => (0, p)) := by unfold fnd; rw [if_neg (by rw [hw0]; simp)]; exact hidp rfl
    rw [← hr2] at HF
    have HR2 := hidp hr2
    clear hr hw0 hr2
    go_enter Try.func54, Try.ntmps54
    go_wp2_with fail
    refine (refWrong_any nn ao len cap ls _ hlen (hl.ext (((Ext.refl w).alloc _).alloc _)) hx hcap).mono ?_
    rintro e w1 ⟨he, E1⟩
    rw [HW.out] at he
    subst he
    have hEw1 : Ext w w1 := (((Ext.refl w).alloc _).alloc _).trans E1
    have hs1 : w.heap.size + 1 < w1.heap.size := by have := E1.size; simp at this; omega
    have hs0 : w.heap.size < w1.heap.size := by omega
    obtain ⟨q1, g1⟩ := E1.cells
    have a0 : w1.cell? ⟨w.heap.size, 0, none⟩ = some (.int .i64 nn) := (q1 _ _ (by simp; omega)).trans (by simp)
    have a1 : w1.cell? ⟨w.heap.size, 1, none⟩ = some (.slice ao len cap) := (q1 _ _ (by simp; omega)).trans (by simp)
    have b0 : w1.cell? ⟨w.heap.size + 1, 0, none⟩ = some (.int .i64 fr) := (q1 _ _ (by simp)).trans (by simp)
    have b1 : w1.cell? ⟨w.heap.size + 1, 1, none⟩ = some (.int .i64 tx) := (q1 _ _ (by simp)).trans (by simp)
    have b2 : w1.cell? ⟨w.heap.size + 1, 2, none⟩ = some (.slice vo via.length vc) := (q1 _ _ (by simp)).trans (by simp)
    have b3 : w1.cell? ⟨w.heap.size + 1, 3, none⟩ = some (.slice no nt.length nc) := (q1 _ _ (by simp)).trans (by simp)
    clear q1 g1
    go_wp2_with fail
    refine (Fw.refWrong_few _ 1 1 nn [⟨fr, tx, via, nt⟩] _ rfl (flows_one (b := w1.heap.size + 1) (by simp) ⟨vo, vc, rfl, hv.ext (hEw1.alloc _), hvc⟩ ⟨no, nc, rfl, hn.ext (hEw1.alloc _), hnc⟩) (sm_one hvl hnl) (by omega)).mono ?_
    rintro e w2 ⟨he, E2⟩
    rw [wflows_one, ← HR2.out] at he
    subst he
    have hEw2 : Ext w1 w2 := (((Ext.refl w1).alloc _).alloc _).trans E2
    have hs2 : w.heap.size + 1 < w2.heap.size := by have := hEw2.size; omega
    have hs02 : w.heap.size < w2.heap.size := by omega
    by_cases h0 : r = 0
    · subst h0
      have hF := rightF_of HR2.out.symm
      have HRF := hidp hF
      have HB : Hid (∀ W, Ext w2 W → (W.cell? ⟨w.heap.size, 0, none⟩ = some (.int .i64 nn) ∧ W.cell? ⟨w.heap.size, 1, none⟩ = some (.slice ao len cap)) ∧ W.cell? ⟨w.heap.size + 1, 0, none⟩ = some (.int .i64 fr) ∧ W.cell? ⟨w.heap.size + 1, 1, none⟩ = some (.int .i64 tx) ∧ W.cell? ⟨w.heap.size + 1, 2, none⟩ = some (.slice vo via.length vc) ∧ W.cell? ⟨w.heap.size + 1, 3, none⟩ = some (.slice no nt.length nc)) := fun W h => by
        have hq := (hEw2.trans h).cells.1
        exact ⟨⟨(hq _ _ hs0).trans a0, (hq _ _ hs0).trans a1⟩, (hq _ _ hs1).trans b0, (hq _ _ hs1).trans b1, (hq _ _ hs1).trans b2, (hq _ _ hs1).trans b3⟩
      obtain ⟨⟨d0, d1⟩, f0, f1, f2, f3⟩ := HB.out w2 (Ext.refl _)
      clear a0 a1 b0 b1 b2 b3 hF
      have HRf := hidp (@ref_find _ _ _ tx via _ hright HRF.out.fr (fun h => (HRF.out.nt _ h).2.2.1 rfl))
      have hW2 : Ext w w2 := hEw1.trans hEw2
      have heql : ∀ (w : World) (a : Option Addr) (n c : Nat), (binOp .eql 26 (.slice a n c) (.slice none 0 0)).run Try.prog w = .ok (.bool a.isNone) w := fun w a n c => Lib.run_eql_slice_nil w _ _ a n c 0 0 Try.underlying26
      have HP1 : Hid (IntsAt ((w2.alloc (.cells #[.int .i64 0, .int .i64 0] 64)).alloc (.cells #[.int .i64 fr] 3)) (w2.heap.size + 1) 0 [fr]) := fun i hi => by
        have : i = 0 := by simp at hi; omega
        subst this
        exact cell_one (by simp) _ _
      go_wp2_with fail
      refine (all_ok hlen hx hright 8 [fr] (w2.heap.size + 1) 0 1 _ (by simp) (by simp) (fun y hy => by simp at hy; subst hy; exact HRF.out.fr) (by simp) (by simp) HP1.out (by simp) (hl.ext ((hW2.alloc _).alloc _))).mono ?_
      rintro e w3 ⟨ro, rcap, vs, rfl, E3, hrow, hrc, hpv⟩
      obtain ⟨ps, hps⟩ : ∃ ps, ps = all (cost ls) nn tx 8 [fr] := ⟨_, rfl⟩
      have HSh : Hid (∀ q ∈ ps, q.length ≤ 9) := fun q hq => by rw [hps] at hq; have := all_short hq; simpa using this
      have hpl8 : ps.length ≤ 16777216 := by rw [hps]; have : (all (cost ls) nn tx 8 [fr]).length ≤ 8 ^ 8 := all_len (by omega) 8 [fr]; simpa using this
      rw [← hps] at hpv HRf
      clear hps d0 d1 f0 f1 f2 f3
      have hvl2 := hpv.len
      have hW3 : Ext w2 w3 := (((Ext.refl w2).alloc _).alloc _).trans E3
      go_wp2
      go_loopw [8, 40] (fun bv iv wr => ∃ (i : Nat) (bst : Option (List Int)) (bw : Value), bw = bv ∧ i ≤ vs.length ∧ iv = .int .i64 i ∧ bst = (ps.take i).foldl (rstep nn ls fr tx via nt) none ∧ BP w.heap.size wr bw bst ∧ (∀ q, bst = some q → svB nn ls fr tx via nt q = true) ∧ Ext w3 wr) (fun _ iv _ => vs.length - (intOf iv).toNat)
      case atStart => exact ⟨0, none, _, rfl, Nat.zero_le _, rfl, rfl, rfl, fun q hq => (by cases hq), Ext.refl _⟩
      case round =>
        obtain ⟨i, bst, bw, hbw, hi, rfl, hbst, hBP, hbs, hext⟩ := hrel
        subst hbw
        obtain ⟨wo, rfl⟩ : ∃ wo : World, wo = wr := ⟨_, rfl⟩
        have hWo : Ext w wo := (hW2.trans hW3).trans hext
        obtain ⟨⟨d0, d1⟩, f0, f1, f2, f3⟩ := HB.out wo (hW3.trans hext)
        have HBst := hidp hbst
        have HBS := hidp hbs
        clear hbst hbs
        by_cases hlt : i < vs.length
        · obtain ⟨v, hv1, hpvi⟩ := hpv.get (i := i) (by omega)
          obtain ⟨rg, roff, rfl, hrg, hrc2⟩ : ∃ rg roff, ro = some ⟨rg, roff, none⟩ ∧ rg < w3.heap.size ∧ ∀ (i : Nat) (v : Value), vs[i]? = some v → w3.cell? ⟨rg, roff + i, none⟩ = some v := by
            rcases hrow with ⟨h, _⟩ | h
            · subst h; simp at hlt
            · exact h
          have cv := (hext.cells.1 _ _ hrg).trans (hrc2 i v hv1)
          have hpi : ps[i]? = some (ps.getD i []) := by rw [List.getD_eq_getElem?_getD, List.getElem?_eq_getElem (by omega : i < ps.length)]; rfl
          have HT := hidp (foldl_take (rstep nn ls fr tx via nt) none ps i _ hpi)
          have hq9 := HSh.out (ps.getD i []) (List.mem_of_getElem? hpi)
          obtain ⟨q, hq⟩ : ∃ q, q = ps.getD i [] := ⟨_, rfl⟩
          rw [← hq] at hpvi HT hq9
          clear hq hpi hrc2
          obtain ⟨bq, oq, cq, rfl, hQq, hbq, hatq, hcq⟩ := hpvi
          have hBq : w.heap.size ≤ bq := by
            simp only [World.size_alloc] at hQq
            rcases hQq with h | h <;> omega
          clear hQq
          have hrgo : rg < wo.heap.size := Nat.lt_of_lt_of_le hrg hext.size
          have hqo : ListAt wo (some ⟨bq, oq, none⟩) q := Or.inr ⟨bq, oq, rfl, Nat.lt_of_lt_of_le hbq hext.size, fun j hj => (hext.cells.1 _ _ hbq).trans (hatq j hj)⟩
          have i1 : (i : Int) < (vs.length : Int) := by omega
          cases hsv : svB nn ls fr tx via nt q
          · have HSV := hidp hsv
            clear hsv
            go_wp2_with fail
            refine (Serves_any nn ao len cap ls fr tx via nt vo no vc nc q _ q.length cq _ hlen (hl.ext hWo) hx HW.out (hv.ext hWo) hvl (hn.ext hWo) hnl rfl (by omega) hqo).mono ?_
            rintro e w4 ⟨he, E4⟩
            rw [HSV.out] at he
            subst he
            go_wp2
            go_roundw
            case rel => exact ⟨i + 1, bst, bw, rfl, by omega, by go_num, by rw [HT.out, ← HBst.out]; exact (rstep_no HSV.out).symm, hBP.ext E4, HBS.out, hext.trans E4⟩
            case measure => simp [intOf]; omega
          · have HSV := hidp hsv
            have HLq : Hid (lengthOf nn ls q = (Stp.pc (cost ls) q, true)) := by rw [length_iff hright, if_pos (svB_path hsv)]; exact hidp rfl
            clear hsv
            go_wp2_with fail
            refine (Serves_any nn ao len cap ls fr tx via nt vo no vc nc q _ q.length cq _ hlen (hl.ext hWo) hx HW.out (hv.ext hWo) hvl (hn.ext hWo) hnl rfl (by omega) hqo).mono ?_
            rintro e w4 ⟨he, E4⟩
            rw [HSV.out] at he
            subst he
            have hW4 := hWo.trans E4
            obtain ⟨⟨d0', d1'⟩, _, _, _, _⟩ := HB.out w4 ((hW3.trans hext).trans E4)
            clear d0 d1 f0 f1 f2 f3
            go_wp2_with fail
            refine (refLength_any nn ao _ len cap q.length cq ls q _ hlen (hl.ext hW4) hx HW.out rfl (by omega) (hqo.ext E4)).mono ?_
            rintro e w5 ⟨he, E5⟩
            rw [HLq.out] at he
            subst he
            have hW5 := hW4.trans E5
            obtain ⟨⟨d0, d1⟩, _, _, _, _⟩ := HB.out w5 (((hW3.trans hext).trans E4).trans E5)
            clear d0' d1'
            have hqn : BP w.heap.size w5 (.slice (some ⟨bq, oq, none⟩) q.length cq) (some q) := ⟨bq, oq, cq, rfl, hBq, by have := (hext.trans (E4.trans E5)).size; omega, fun j hj => ((hext.trans (E4.trans E5)).cells.1 _ _ hbq).trans (hatq j hj), hcq⟩
            cases bst with
            | none =>
              have hbn : bw = .slice none 0 0 := hBP
              subst hbn
              go_wp2_with fail
              refine (refLength_any nn ao none len cap 0 0 ls [] _ hlen (hl.ext hW5) hx HW.out rfl (by omega) (Or.inl rfl)).mono ?_
              rintro e w6 ⟨he, E6⟩
              subst he
              go_wp2
              go_roundw
              case rel => exact ⟨i + 1, some q, _, rfl, by omega, by go_num, by rw [HT.out, ← HBst.out]; exact (rstep_first HSV.out).symm, hqn.ext E6, fun q' h => by cases h; exact HSV.out, ((hext.trans E4).trans E5).trans E6⟩
              case measure => simp [intOf]; omega
            | some p =>
              have hsvp := HBS.out p rfl
              have HLp : Hid (lengthOf nn ls p = (Stp.pc (cost ls) p, true)) := by rw [length_iff hright, if_pos (svB_path hsvp)]; exact hidp rfl
              have hp8 := pth_len (pth_of hright (svB_path hsvp))
              clear hsvp
              obtain ⟨bp, op, cp, rfl, hBp, hbp, hatp, hcp⟩ := hBP.ext (E4.trans E5)
              obtain ⟨x, hx1⟩ : ∃ x, x = Stp.pc (cost ls) q := ⟨_, rfl⟩
              obtain ⟨y, hy1⟩ : ∃ y, y = Stp.pc (cost ls) p := ⟨_, rfl⟩
              rw [← hy1] at HLp
              have HX := hidp hx1
              have HY := hidp hy1
              rw [← hx1]
              clear hx1 hy1
              go_wp2_with fail
              refine (refLength_any nn ao _ len cap p.length cp ls p _ hlen (hl.ext hW5) hx HW.out rfl (by omega) (Or.inr ⟨bp, op, rfl, hbp, hatp⟩)).mono ?_
              rintro e w6 ⟨he, E6⟩
              rw [HLp.out] at he
              subst he
              have hpn : BP w.heap.size w6 (.slice (some ⟨bp, op, none⟩) p.length cp) (some p) := BP.ext (w := w5) ⟨bp, op, cp, rfl, hBp, hbp, hatp, hcp⟩ E6
              by_cases hxy : x < y
              · have HXY : Hid (Stp.pc (cost ls) q < Stp.pc (cost ls) p) := by rw [← HX.out, ← HY.out]; exact hidp hxy
                go_wp2
                go_roundw
                case rel => exact ⟨i + 1, some q, _, rfl, by omega, by go_num, by rw [HT.out, ← HBst.out]; exact (rstep_better HSV.out HXY.out).symm, hqn.ext E6, fun q' h => by cases h; exact HSV.out, ((hext.trans E4).trans E5).trans E6⟩
                case measure => simp [intOf]; omega
              · have HXY : Hid (Stp.pc (cost ls) p ≤ Stp.pc (cost ls) q) := by rw [← HX.out, ← HY.out]; exact hidp (by omega)
                go_wp2
                go_roundw
                case rel => exact ⟨i + 1, some p, _, rfl, by omega, by go_num, by rw [HT.out, ← HBst.out]; exact (rstep_keep HSV.out HXY.out).symm, hpn, HBS.out, ((hext.trans E4).trans E5).trans E6⟩
                case measure => simp [intOf]; omega
        · have hall : ps.take i = ps := List.take_of_length_le (by omega)
          have HRes : Hid (bst = (find (cost ls) fr tx via nt).map Prod.fst) := by rw [HBst.out, hall]; exact HRf.out
          clear hall d0 d1 f0 f1 f2 f3
          cases bst with
          | none =>
            have hbn : bw = .slice none 0 0 := hBP
            subst hbn
            have HF2 : Hid (fnd nn ls ⟨fr, tx, via, nt⟩ = (9, [])) := by
              rw [HF.out, if_neg (by simp)]
              have := HRes.out
              cases hfi : find (cost ls) fr tx via nt with
              | none => exact hidp rfl
              | some y => rw [hfi] at this; cases this
            go_wp2
            go_ret2
            refine ⟨none, 0, ?_, ?_, hWo⟩
            · rw [HF2.out]; rfl
            · rw [HF2.out]; exact fn_nil _ _
          | some p =>
            have HF2 : Hid (fnd nn ls ⟨fr, tx, via, nt⟩ = (0, p)) := by
              rw [HF.out, if_neg (by simp)]
              have := HRes.out
              cases hfi : find (cost ls) fr tx via nt with
              | none => rw [hfi] at this; cases this
              | some y => rw [hfi] at this; injection this with this; rw [this]; exact hidp rfl
            obtain ⟨bp, op, cp, rfl, hBp, hbp, hatp, hcp⟩ := hBP
            go_wp2
            go_ret2
            refine ⟨some ⟨bp, op, none⟩, cp, ?_, ?_, hWo⟩
            · rw [HF2.out]; rfl
            · rw [HF2.out]; exact ⟨_, _, rfl, Or.inr ⟨bp, op, rfl, hBp, hbp, hatp⟩, hcp⟩
    · have h0' : (r != 0) = true := by simpa using h0
      go_wp2
      go_region
      go_wp2
      go_ret2
      have HF2 : fnd nn ls ⟨fr, tx, via, nt⟩ = (r, []) := by rw [HF.out, if_pos h0]
      refine ⟨none, 0, ?_, ?_, ((hEw1.trans hEw2).alloc _).drew⟩
      · rw [HF2]; rfl
      · rw [HF2]; exact fn_nil _ _
  · have hr' : ((wrong n ls).1 == 0) = false := by simpa using hr
    have HF : Hid (fnd n ls ⟨fr, tx, via, nt⟩ = ((wrong n ls).1, [])) := by unfold fnd; rw [if_pos hr]; exact hidp rfl
    clear hr
    go_enter Try.func54, Try.ntmps54
    go_wp2_with fail
    refine (refWrong_any n ao len cap ls _ hlen (hl.ext (((Ext.refl w).alloc _).alloc _)) hx hcap).mono ?_
    rintro e w1 ⟨rfl, E1⟩
    go_wp2
    go_region
    go_wp2
    go_ret2
    refine ⟨none, 0, ?_, ?_, (((((Ext.refl w).alloc _).alloc _).trans E1).alloc _).drew⟩
    · rw [HF.out]; rfl
    · rw [HF.out]; exact fn_nil _ _

end Go.Proofs.Ytgffkjjddhlbpaa

/- What the document's own Plan answers, for every net, number and flows; nothing that was there is changed. -/
namespace Go.Proofs.Ytgffkjjddhlbpaa
open Go.RowKit Go.Maps Stw Go.Deep Stp

theorem refFlows_any (ao : Option Addr) (len cap : Nat) (n : Int) (fs : List Stf.Fl) (w : World) (hlen : fs.length = len) (hf : Fw.FlowsAt w ao fs) (hS : Fw.Sm fs) (hl : len ≤ 9223372036854775807) :
    Calls Try.prog 53 #[.slice ao len cap, .int .i64 n] w fun e w' => e = .returned (.agg #[.int .i64 (Stf.wflows fs n).1, .int .i64 (Stf.wflows fs n).2]) ∧ Ext w w' := by
  by_cases h : 12 < len
  · have e : Stf.wflows fs n = (5, 0) := by rw [Stf.wflows, if_pos (by omega)]
    rw [e]
    exact Fw.refWrong_many ao len cap n w h hl
  · exact Fw.refWrong_few ao len cap n fs w hlen hf hS h

/-- Paths of one's own, wherever they are looked at. -/
theorem pths_new {W : World} {P k : Nat} {qv : Value} {V : List Value} {ps : List (List Int)} (hown : W.ownsRow (P + 1) 105 1 qv k V) (hl : LQs W (fun b => P + 1 ≤ b ∧ qv.ownBlock ≠ some b ∧ True) ps V) :
    ∃ qo qc, qv = .slice qo ps.length qc ∧ ∀ U : World, W.heap.size ≤ U.heap.size → (∀ b, P + 1 ≤ b → b < W.heap.size → U.heap[b]? = W.heap[b]?) → PthsAt U qo ps := by
  obtain ⟨qo, qc, h3, _⟩ := pths_own hown hl
  refine ⟨qo, qc, h3, fun U hs hU => ?_⟩
  have hown' : U.ownsRow (P + 1) 105 1 qv k V := by
    refine ⟨hown.1, ?_⟩
    rcases hown.2 with h2 | ⟨g, cap, cur, h1, h2, h3, h4⟩
    · exact Or.inl h2
    · exact Or.inr ⟨g, cap, cur, h1, h2, (hU g h2 (Array.getElem?_eq_some_iff.1 h3).1).trans h3, h4⟩
  obtain ⟨qo', qc', k3, k4⟩ := pths_own hown' (hl.mono (Q' := fun _ => True) (fun b hb hlt => ⟨trivial, Nat.lt_of_lt_of_le hlt hs, hU b hb.1 hlt⟩))
  rw [h3] at k3
  cases k3
  exact k4
/-- What comes of the document's plan: its flows are those that came in, its paths lie in new blocks. -/
def PlanRef (w w' : World) (e : Ending) (n version : Int) (ls : List Lk) (fs : List Stf.Fl) (lo : Option Addr) : Prop :=
  ∃ (pv : Int) (fo : Option Addr) (fl fc : Nat) (qo : Option Addr) (ql qc : Nat), e = .returned (.tuple #[.agg #[.int .i64 pv, .slice fo fl fc, .slice qo ql qc], .agg #[.int .i64 (plnF n version ls fs).1, .int .i64 (plnF n version ls fs).2]]) ∧ Ext w w' ∧
    (((plnF n version ls fs).1 ≠ 0 ∧ pv = 0 ∧ fl = 0 ∧ ql = 0) ∨ ((plnF n version ls fs).1 = 0 ∧ pv = version ∧ fo = lo ∧ fl = fs.length ∧ ql = (plnP n ls fs).length ∧ ∀ U : World, w'.heap.size ≤ U.heap.size → (∀ b, w.heap.size ≤ b → b < w'.heap.size → U.heap[b]? = w'.heap[b]?) → PthsAt U qo (plnP n ls fs)))
theorem planR_bad {w w' : World} {n version : Int} {ls : List Lk} {fs : List Stf.Fl} {lo : Option Addr} {r : Int × Int} (h : plnF n version ls fs = r) (hr : r.1 ≠ 0) (hE : Ext w w') : PlanRef w w' (.returned (.tuple #[.agg #[.int .i64 0, .slice none 0 0, .slice none 0 0], .agg #[.int .i64 r.1, .int .i64 r.2]])) n version ls fs lo :=
  ⟨0, none, 0, 0, none, 0, 0, by rw [h], hE, Or.inl ⟨by rw [h]; exact hr, rfl, rfl, rfl⟩⟩

set_option maxRecDepth 100000 in
set_option maxHeartbeats 4000000 in
theorem refPlan_new (n version : Int) (ao : Option Addr) (len cap : Nat) (ls : List Lk) (lo : Option Addr) (ll lc : Nat) (fs : List Stf.Fl) (w : World) (hlen : ls.length = len) (hl : NetAt w ao ls) (hx : len ≤ 9223372036854775807) (hcap : len ≤ cap)
    (hll : fs.length = ll) (hf : Fw.FlowsAt w lo fs) (hS : Fw.Sm fs) (hlx : ll ≤ 9223372036854775807) :
    Calls Try.prog 27 #[.agg #[.int .i64 n, .slice ao len cap], .int .i64 version, .slice lo ll lc] w fun e w' => PlanRef w w' e n version ls fs lo := by
  go_enter Try.func27, Try.ntmps27
  go_wp2_with fail
  refine (refWrong_any n ao len cap ls _ hlen (hl.ext ((((Ext.refl w).alloc _).alloc _).alloc _)) hx hcap).mono ?_
  rintro e w1 ⟨rfl, E1⟩
  have hw1 : Ext w w1 := ((((Ext.refl w).alloc _).alloc _).alloc _).trans E1
  have hpb := (PB.start w n ao len cap).ext E1
  have HPB := hidp hpb
  obtain ⟨s1, n0, n1, p0, p1, p2, f0, f1, z1, z2⟩ := hpb
  have s0 : w.heap.size + 1 < w1.heap.size := by omega
  have s00 : w.heap.size < w1.heap.size := by omega
  by_cases hr : (wrong n ls).1 = 0
  · have hright := right_of hr
    have HW := hidp hr
    rw [hright.wrong]
    clear hr
    by_cases hv : version < 1 ∨ 1000 < version
    · have HP := hidp (plnF_range (fs := fs) HW.out hv)
      rcases hv with hv | hv
      · go_wp2
        refine bodyPost_ret_by (plan_ret Try.results27 rfl rfl (((c5_sets (by omega) HPB.out.c5).alloc (by simp; omega) (by simp; omega) _))) rfl (planR_bad HP.out (by simp) ?_)
        exact ((((((hw1).setCell (by simp) _).setCell (by simp) _).setCell (by simp) _).setCell (by simp; omega) _).setCell (by simp; omega) _).alloc _
      · go_wp2
        refine bodyPost_ret_by (plan_ret Try.results27 rfl rfl (((c5_sets (by omega) HPB.out.c5).alloc (by simp; omega) (by simp; omega) _))) rfl (planR_bad HP.out (by simp) ?_)
        exact ((((((hw1).setCell (by simp) _).setCell (by simp) _).setCell (by simp) _).setCell (by simp; omega) _).setCell (by simp; omega) _).alloc _
    · have hv1 : ¬ version < 1 := fun h => hv (Or.inl h)
      have hv2 : ¬ 1000 < version := fun h => hv (Or.inr h)
      have HV := hidp hv
      clear hv
      go_wp2_with fail
      refine (refFlows_any lo ll lc n fs _ hll (hf.ext (hw1.alloc _)) hS hlx).mono ?_
      rintro e w2 ⟨rfl, E2⟩
      have E2' : Ext w1 w2 := ((Ext.refl w1).alloc _).trans E2
      have hw2 : Ext w w2 := hw1.trans E2'
      have hpb2 := HPB.out.ext E2'
      have HPB2 := hidp hpb2
      clear n0 n1 p0 p1 p2 f0 f1 z1 z2 HPB
      obtain ⟨s2, n0, n1, p0, p1, p2, f0, f1, z1, z2⟩ := hpb2
      have s02 : w.heap.size + 1 < w2.heap.size := by omega
      have s002 : w.heap.size < w2.heap.size := by omega
      by_cases hwf : (Stf.wflows fs n).1 = 0
      · have HWF := hidp hwf
        have h12 := wflows_len hwf
        obtain ⟨i0, hi, hz0, hz1, hz2⟩ := info_parts infoP
        have hw9 : Ext w (w2.alloc (.cells #[.int .i64 (Stf.wflows fs n).1, .int .i64 (Stf.wflows fs n).2] 64)) := hw2.alloc _
        have hp9 := HPB2.out.ext ((Ext.refl w2).alloc (.cells #[.int .i64 (Stf.wflows fs n).1, .int .i64 (Stf.wflows fs n).2] 64))
        obtain ⟨w9, hw9d⟩ : ∃ w9, w9 = w2.alloc (.cells #[.int .i64 (Stf.wflows fs n).1, .int .i64 (Stf.wflows fs n).2] 64) := ⟨_, rfl⟩
        rw [← hw9d] at hw9 hp9
        have HP9 := hidp hp9
        have HSz : Hid (w9.heap.size = w2.heap.size + 1) := by rw [hw9d]; exact hidp (by simp)
        have HD9 := hidp hw9d
        clear hp9 hw9d
        have hwf' : ((Stf.wflows fs n).1 != 0) = false := by simpa using hwf
        clear hwf
        go_wp2
        go_loopw [44] (fun iv wr => ∃ (k : Nat) (qv : Value) (V : List Value), k ≤ ll ∧ iv = .int .i64 k ∧ (∀ j, j < k → (fnd n ls (fs.getD j Fw.f0)).1 = 0) ∧ wr.rowIs (w2.heap.size + 1) 25 3 (pF (.int .i64 version) (.slice lo ll lc) qv) ∧ wr.ownsRow (w2.heap.size + 1 + 1) 105 1 qv k V ∧ LQs wr (fun b => w2.heap.size + 1 + 1 ≤ b ∧ qv.ownBlock ≠ some b ∧ True) ((plnP n ls fs).take k) V ∧ Below (w2.heap.size + 1) w9 wr) (fun iv _ => ll - (intOf iv).toNat)
        case atStart =>
          rw [← HD9.out]
          refine ⟨0, .slice none 0 0, [], Nat.zero_le _, rfl, fun j hj => by omega, plan_row HSz.out _ _ _, World.ownsRow_nil _ _ _ _, trivial, (Below.refl _ _).alloc (by rw [HSz.out]; exact Nat.le_refl _) _⟩
        case round =>
          clear n0 n1 p0 p1 p2 f0 f1 z1 z2
          obtain ⟨k, qv, V, hk, rfl, hpre, hrow, hown, hlq, hbel⟩ := hrel
          have hszr : w2.heap.size + 1 ≤ wr.heap.size := by have := hbel.size; have := HSz.out; omega
          have hpr := HP9.out.below hbel (by have := HSz.out; omega)
          have hEr : Ext w wr := Below.trans hw9 (hbel.mono (by omega))
          have hPr := hrow.lt
          have HPr := hidp hpr
          have HPre := hidp hpre
          clear hpre
          obtain ⟨sr, n0, n1, p0, p1, p2, f0, f1, z1, z2⟩ := hpr
          have sr0 : w.heap.size + 1 < wr.heap.size := by omega
          have sr00 : w.heap.size < wr.heap.size := by omega
          by_cases hlt : k < ll
          · obtain ⟨b, off, vo, vc, no, nc, a, t, X, Y, rfl, hb, hg, c0, c1, c2, c3, ⟨_, _, e1, hv, hvc⟩, ⟨_, _, e2, hn, hnc⟩⟩ := (hf.ext hEr).get (k := k) (by omega)
            cases e1
            cases e2
            have hsm := hS.get (k := k) (by omega) hg
            have HG := hidp hg
            have i1 : (k : Int) < (ll : Int) := by omega
            clear hg
            go_wp2_with fail
            refine (refFind_any n ao len cap ls ⟨a, t, X, Y⟩ vo no vc nc _ hlen (hl.ext (hEr.alloc _)) hx hcap (hv.ext ((Ext.refl wr).alloc _)) hsm.1 hvc (hn.ext ((Ext.refl wr).alloc _)) hsm.2 hnc).mono ?_
            rintro e w3 ⟨go, gc, rfl, hfn, E3⟩
            have E3' : Ext wr w3 := ((Ext.refl wr).alloc _).trans E3
            have hE3 := hEr.trans E3'
            have hP3 := HPr.out.ext E3'
            have HP3 := hidp hP3
            clear n0 n1 p0 p1 p2 f0 f1 z1 z2 c0 c1 c2 c3
            obtain ⟨s3, n0, n1, p0, p1, p2, f0, f1, z1, z2⟩ := hP3
            have s03 : w.heap.size + 1 < w3.heap.size := by omega
            obtain ⟨r, hr⟩ : ∃ r, r = fnd n ls ⟨a, t, X, Y⟩ := ⟨_, rfl⟩
            rw [← hr] at hfn ⊢
            have HR := hidp hr
            clear hr
            by_cases h0 : r.1 = 0
            · have hrow3 := hrow.of_block (Below.block E3' _ hPr)
              have hown3 := own_ext hown E3'
              have hlq3 : LQs w3 (fun b => w2.heap.size + 1 + 1 ≤ b ∧ qv.ownBlock ≠ some b ∧ True) ((plnP n ls fs).take k) V := hlq.mono (fun b hb hlt => ⟨hb, Nat.lt_of_lt_of_le hlt E3'.size, Below.block E3' b hlt⟩)
              have hfn3 : LQ w3 (fun b => w2.heap.size + 1 + 1 ≤ b ∧ qv.ownBlock ≠ some b ∧ True) r.2 (.slice go r.2.length gc) := hfn.lq.mono (fun b hb hlt => ⟨⟨by simp at hb; omega, fun e => by have := (hown.lt b e).2; simp at hb; omega, trivial⟩, hlt, rfl⟩)
              have hbel3 : Below (w2.heap.size + 1) w9 w3 := below_ext hbel E3' hszr
              have q2 := hrow3.cell (i := 2) (by omega)
              have qz := hrow3.frozen 2
              have q2' : w3.cell? ⟨w2.heap.size + 1, 2, none⟩ = some qv := q2
              have s93 := hrow3.lt
              clear q2 hrow hown hlq hbel hfn
              rw [h0]
              go_wp2_with (first | (at_builtin; refine wpList_append_lies _ rfl _ _ 23 rfl (w2.heap.size + 1 + 1) 105 i0 (.slice none 0 0) 1 24 Try.underlying23 hi hz0 hz1 hz2 rfl (by decide) _ _ _ rfl (hown3.alloc _) ⟨w3.heap.size, 0, none⟩ 1 1 [.slice go r.2.length gc] rfl rfl (news1' rfl _ _) (one1s _ _ _) (by decide) (by unfold maxLen; omega) (by omega) (by simp; omega) _ rfl ?_) | go_in)
              intro g gcap w4 hown4 hg4 hat4 hlt4
              have hb4P : w4.heap[w2.heap.size + 1]? = w3.heap[w2.heap.size + 1]? := (hg4.block _ (by simp; omega) (fun e => by have := (hown3.lt _ e.symm).1; omega)).trans (blk_alloc_lt _ _ _ s93)
              have q4 : w4.cell? ⟨w2.heap.size + 1, 2, none⟩ = some qv := (World.cell?_of_block (a := ⟨w2.heap.size + 1, 2, none⟩) hb4P).trans q2'
              have q4z : w4.frozen? ⟨w2.heap.size + 1, 2, none⟩ = false := (World.frozen?_of_block (a := ⟨w2.heap.size + 1, 2, none⟩) hb4P).trans qz
              have HP4 := hidp (plan_push hrow3 hown3 hlq3 hfn3 hbel3 hown4 hg4 (hat4.imp id (fun h => by simpa using h)))
              clear hrow3 hown3 hlq3 hfn3 hbel3 hown4 hg4 hat4
              go_wp2
              go_roundw
              case rel =>
                obtain ⟨m1, m2, m3, m4⟩ := HP4.out
                refine ⟨k + 1, _, _, by omega, by go_num, fun j hj => ?_, m1, m2, ?_, m4⟩
                · by_cases e : j = k
                  · subst e; rw [HG.out, ← HR.out, h0]
                  · exact HPre.out j (by omega)
                · rw [plnP_take (by omega), HG.out, ← HR.out]; exact m3
              case measure => simp [intOf]; omega
            · have HP := hidp (plnF_bad (version := version) HW.out HV.out HWF.out (k := k) (by omega) HPre.out (by rw [HG.out, ← HR.out]; exact h0))
              have h0' : (r.1 != 0) = true := by simpa using h0
              have HH := hidp h0
              clear h0
              go_wp2
              refine bodyPost_ret_by (plan_ret Try.results27 rfl rfl (c5_sets (by omega) HP3.out.c5)) rfl ?_
              have hq := planR_bad (lo := some ⟨b, off, none⟩) (w := w) (w' := ((((((w3.setCell ⟨w.heap.size + 1, 0, none⟩ (.int .i64 0)).setCell ⟨w.heap.size + 1, 1, none⟩ (.slice none 0 0)).setCell ⟨w.heap.size + 1, 2, none⟩ (.slice none 0 0)).setCell ⟨w.heap.size + 1 + 1, 0, none⟩ (.int .i64 r.1)).setCell ⟨w.heap.size + 1 + 1, 1, none⟩ (.int .i64 k)))) (r := (r.1, (k : Int))) (by rw [HP.out, HG.out, ← HR.out]) HH.out ((((((hE3).setCell (by simp) _).setCell (by simp) _).setCell (by simp) _).setCell (by simp; omega) _).setCell (by simp; omega) _)
              exact hq
          · have hkl : k = fs.length := by omega
            have HP := hidp (plnF_good (version := version) HW.out HV.out HWF.out (fun j hj => HPre.out j (by omega)))
            have ht : (plnP n ls fs).take k = plnP n ls fs := List.take_of_length_le (by simp [plnP]; omega)
            rw [ht] at hlq
            obtain ⟨qo, qc, rfl, hpt⟩ := pths_new hown hlq
            have HT := hidp hpt
            have q0 : wr.cell? ⟨w2.heap.size + 1, 0, none⟩ = some (.int .i64 version) := hrow.cell (i := 0) (by omega)
            have q1 : wr.cell? ⟨w2.heap.size + 1, 1, none⟩ = some (.slice lo ll lc) := hrow.cell (i := 1) (by omega)
            have q2 : wr.cell? ⟨w2.heap.size + 1, 2, none⟩ = some (.slice qo (plnP n ls fs).length qc) := hrow.cell (i := 2) (by omega)
            have i1 : ¬ (k : Int) < (ll : Int) := by omega
            have HK := hidp hkl
            clear hpt hrow hown hlq hbel ht hkl
            go_wp2
            refine bodyPost_ret_by (plan_ret Try.results27 rfl rfl (c5_sets (by omega) HPr.out.c5)) rfl ?_
            have hE5 : Ext w (((((wr.setCell ⟨w.heap.size + 1, 0, none⟩ (.int .i64 version)).setCell ⟨w.heap.size + 1, 1, none⟩ (.slice lo ll lc)).setCell ⟨w.heap.size + 1, 2, none⟩ (.slice qo (plnP n ls fs).length qc)).setCell ⟨w.heap.size + 1 + 1, 0, none⟩ (.int .i64 0)).setCell ⟨w.heap.size + 1 + 1, 1, none⟩ (.int .i64 0)) :=
              ((((hEr.setCell (by simp) _).setCell (by simp) _).setCell (by simp) _).setCell (by simp; omega) _).setCell (by simp; omega) _
            refine ⟨version, lo, ll, lc, qo, _, qc, by rw [HP.out], hE5, Or.inr ⟨by rw [HP.out], rfl, rfl, hll.symm, rfl, fun U hs hU => HT.out U (by simpa using hs) (fun b hb hlt => (hU b (by omega) (by simpa using hlt)).trans ?_)⟩⟩
            rw [blk_setCell_other _ _ _ _ (by simp; omega), blk_setCell_other _ _ _ _ (by simp; omega), blk_setCell_other _ _ _ _ (by simp; omega), blk_setCell_other _ _ _ _ (by simp; omega), blk_setCell_other _ _ _ _ (by simp; omega)]
      · have HP := hidp (plnF_flows (version := version) HW.out HV.out hwf)
        have hwf' : ((Stf.wflows fs n).1 != 0) = true := by simpa using hwf
        have HWF := hidp hwf
        clear hwf
        go_wp2
        go_region
        go_wp2
        refine bodyPost_ret_by (plan_ret Try.results27 rfl rfl (((c5_sets (by omega) HPB2.out.c5).alloc (by simp; omega) (by simp; omega) _).drew)) rfl (planR_bad HP.out HWF.out ?_)
        exact (((((((hw2).setCell (by simp) _).setCell (by simp) _).setCell (by simp) _).setCell (by simp; omega) _).setCell (by simp; omega) _).alloc _).drew
  · have HP := hidp (plnF_wrong (version := version) (fs := fs) hr)
    have hr' : ((wrong n ls).1 != 0) = true := by simpa using hr
    have HR := hidp hr
    clear hr
    go_wp2
    go_region
    go_wp2
    refine bodyPost_ret_by (plan_ret Try.results27 rfl rfl (((c5_sets (by omega) HPB.out.c5).alloc (by simp; omega) (by simp; omega) _).drew)) rfl (planR_bad HP.out HR.out ?_)
    exact (((((((hw1).setCell (by simp) _).setCell (by simp) _).setCell (by simp) _).setCell (by simp; omega) _).setCell (by simp; omega) _).alloc _).drew

theorem refPlan_any (n version : Int) (ao : Option Addr) (len cap : Nat) (ls : List Lk) (lo : Option Addr) (ll lc : Nat) (fs : List Stf.Fl) (w : World) (hlen : ls.length = len) (hl : NetAt w ao ls) (hx : len ≤ 9223372036854775807) (hcap : len ≤ cap)
    (hll : fs.length = ll) (hf : Fw.FlowsAt w lo fs) (hS : Fw.Sm fs) (hlx : ll ≤ 9223372036854775807) :
    Calls Try.prog 27 #[.agg #[.int .i64 n, .slice ao len cap], .int .i64 version, .slice lo ll lc] w fun e w' => PlanOut w w' e n version ls fs := by
  refine (refPlan_new n version ao len cap ls lo ll lc fs w hlen hl hx hcap hll hf hS hlx).mono ?_
  rintro e w' ⟨pv, fo, fl, fc, qo, ql, qc, h1, h2, h3⟩
  refine ⟨pv, fo, fl, fc, qo, ql, qc, h1, h2, h3.imp id (fun ⟨k1, k2, k3, k4, k5, k6⟩ => ?_)⟩
  subst k3
  exact ⟨k1, k2, k4, hf.ext h2, k5, k6 w' (Nat.le_refl _) (fun _ _ _ => rfl)⟩

end Go.Proofs.Ytgffkjjddhlbpaa

namespace Go.Proofs.Ytgffkjjddhlbpaa.Ct
open Go.RowKit Go.Deep Stw Stp Tb Rul

theorem RO.rq {w : World} {base : Nat} {v : Value} {rs : List Ru} {Q : Nat → Prop} (h : RO w base v rs) (hQ : ∀ b, base ≤ b → b < w.heap.size → Q b) : RQ w Q rs v := by
  obtain ⟨ao, cap', e, hat, _⟩ := RO.form h
  rcases h.2 with ⟨hv, h0⟩ | ⟨g, cap, cur, hv, hb, _⟩
  · exact ⟨none, 0, by rw [h0]; exact hv, Or.inl (List.eq_nil_of_length_eq_zero h0)⟩
  · refine ⟨ao, cap', e, hat.imp id (fun ⟨b, off, e', hlt, hcs⟩ => ⟨b, off, e', hQ b ?_ hlt, hlt, hcs⟩)⟩
    rw [e, e'] at hv
    injection hv with h1
    cases h1
    exact hb
theorem FlowsAt.stb {w : World} {lo : Option Addr} {fs : List Stf.Fl} (h : Fw.FlowsAt w lo fs) : Stb (fun b => b < w.heap.size) w (fun U => Fw.FlowsAt U lo fs) := fun U hs hb => by
  have k := h.ext (ext_of hs (fun b h1 => hb b h1 h1))
  exact k

set_option maxRecDepth 100000 in
set_option maxHeartbeats 4000000 in
theorem refAsk_any (Y : Nat → Prop) (c : Co) (a : CA) (n : Int) (ao : Option Addr) (len cap : Nat) (ls : List Lk) (lo : Option Addr) (ll lc : Nat) (fs : List Stf.Fl) (w : World) (hst : Stb (fun b => Y b ∧ b < w.heap.size) w (fun U => CoAt U c a)) (hok : CoOk c) (hwn : a.wo = none → a.wc = 0) (hlen : ls.length = len) (hl : NetAt w ao ls) (hx : len ≤ 9223372036854775807) (hcap : len ≤ cap)
    (hll : fs.length = ll) (hfs : Stb (fun b => Y b ∧ b < w.heap.size) w (fun U => Fw.FlowsAt U lo fs)) (hS : Fw.Sm fs) (hlx : ll ≤ 9223372036854775807) :
    Calls Try.prog 8 #[cvl c a, .agg #[.int .i64 n, .slice ao len cap], .slice lo ll lc] w fun e w' => RfOut Y w (askS c n ls fs).1 (askS c n ls fs).2 e w' := by
  subst hll
  have HA := hidp (Aw_ab w c a n (.slice ao len cap))
  have hE0 := Aw_ext w c a n (.slice ao len cap)
  have hsA : (Aw w c a n (.slice ao len cap)).heap.size = w.heap.size + 1 + 1 + 1 := by unfold Aw; simp
  unfold cvl
  go_enter Try.func8, Try.ntmps8
  go_upto_region 1 with fail
  obtain ⟨W1, hW1⟩ : ∃ W1, W1 = Aw w c a n (.slice ao len cap) := ⟨_, rfl⟩
  rw [← hW1] at HA hE0 hsA
  unfold Aw at hW1
  rw [← hW1]
  clear hW1
  have c0 : W1.cell? ⟨w.heap.size, 0, none⟩ = some (.int .i64 c.st) := World.rowIs.cell HA.out.box (i := 0) (by omega)
  have hl10 : w.heap.size < W1.heap.size := by omega
  have hl11 : w.heap.size + 1 < W1.heap.size := by omega
  have hl12 : w.heap.size + 1 + 1 < W1.heap.size := by omega
  by_cases h0 : c.st = 0
  · have HD0 : Hid (askS c n ls fs = if (plnF n (nx c.now.v) ls fs).1 ≠ 0 then (⟨co0, []⟩, (plnF n (nx c.now.v) ls fs).1) else if full n.toNat c.now ⟨nx c.now.v, fs, plnP n ls fs⟩ = true then (⟨co0, []⟩, 10) else (goS n.toNat (told n.toNat (addO ⟨nx c.now.v, fs, plnP n ls fs⟩) ⟨⟨1, c.now, ⟨nx c.now.v, fs, plnP n ls fs⟩, c.num, c.wts⟩, []⟩), 0)) := by
      show _ = _
      unfold askS
      rw [if_neg (by simpa using h0)]
    have HH0 := hidp h0
    obtain ⟨v, hv⟩ : ∃ v, nx c.now.v = v := ⟨_, rfl⟩
    rw [hv] at HD0
    have hv' : IntKind.i64.wrap (c.now.v + 1) = v := hv
    clear hv
    rw [h0] at c0
    clear h0
    have c1 : W1.cell? ⟨w.heap.size, 1, none⟩ = some (.int .i64 c.now.v) := World.rowIs.cell HA.out.box (i := 1) (by omega)
    have n0 := HA.out.n0
    have n1 := HA.out.n1
    have HPL := hidp (refPlan_new n v ao len cap ls lo fs.length lc fs W1 hlen (hl.ext hE0) hx hcap rfl (hfs.at.ext hE0) hS hlx)
    go_wp2_with (go_at_call 27; fail)
    refine Calls.mono HPL.out ?_
    rintro e w1 ⟨pv, fo, fl, fc, qo, ql, qc, rfl, E1, hP⟩
    have HP := hidp hP
    clear hP HPL n0 n1 c0 c1
    obtain ⟨w2, hw2⟩ : ∃ w2, w2 = (w1.alloc (.cells #[.int .i64 pv, .slice fo fl fc, .slice qo ql qc] 25)).alloc (.cells #[.int .i64 (plnF n v ls fs).1, .int .i64 (plnF n v ls fs).2] 64) := ⟨_, rfl⟩
    have HPB : Hid (∀ U, Ext w2 U → U.cell? ⟨w1.heap.size, 0, none⟩ = some (.int .i64 pv) ∧ U.cell? ⟨w1.heap.size, 1, none⟩ = some (.slice fo fl fc) ∧ U.cell? ⟨w1.heap.size, 2, none⟩ = some (.slice qo ql qc) ∧ w1.heap.size < U.heap.size) := fun U hU => by
      have l0 : w1.heap.size < w2.heap.size := by rw [hw2]; simp; omega
      exact ⟨(hU.cells.1 _ _ l0).trans (by rw [hw2]; simp), (hU.cells.1 _ _ l0).trans (by rw [hw2]; simp), (hU.cells.1 _ _ l0).trans (by rw [hw2]; simp), Nat.lt_of_lt_of_le l0 hU.size⟩
    have f0 : w2.cell? ⟨w1.heap.size + 1, 0, none⟩ = some (.int .i64 (plnF n v ls fs).1) := by rw [hw2]; simp
    have hf0 : w1.heap.size + 1 < w2.heap.size := by rw [hw2]; simp
    have E12 : Ext w1 w2 := by rw [hw2]; exact ((Ext.refl _).alloc _).alloc _
    have E2 : Ext W1 w2 := E1.trans E12
    have hs1 := E1.size
    have hne1 : w1.heap.size + 1 ≠ w.heap.size + 1 + 1 := by omega
    go_upto_region 4 with fail
    rw [← hw2]
    clear hw2
    have HA2 := hidp (HA.out.ext E2)
    have hl2 := HA2.out.lt
    have hE2 := hE0.trans E2
    have hl20 : w.heap.size < w2.heap.size := by omega
    have hl21 : w.heap.size + 1 < w2.heap.size := by omega
    by_cases hp0 : (plnF n v ls fs).1 = 0
    · rcases HP.out with hP | ⟨-, e1, e2, e3, e4, hU⟩
      · exact absurd hp0 hP.1
      obtain rfl := e1.symm
      obtain rfl := e2.symm
      obtain rfl := e3.symm
      obtain rfl := e4.symm
      clear e1 e2 e3 e4 HP
      have hgd := plan_good hp0
      have HOK := hidp (plan_ok hp0)
      obtain ⟨nn, rfl⟩ := Int.eq_ofNat_of_zero_le hgd.n0
      have hn8 : nn ≤ 8 := by have := hgd.n8; omega
      have HPS : Hid (Stb (fun b => W1.heap.size ≤ b) w1 (fun U => PthsAt U qo (plnP nn ls fs))) := hU
      have HP0 := hidp hp0
      rw [hp0] at f0
      clear hp0 hgd hU
      have hT1 : tot c.now.ps c.now.ps.length * 24 ≤ 140737488351232 := by rw [tot_sum]; have := hok.n.tt; omega
      have hT2 : tot (plnP nn ls fs) (plnP nn ls fs).length * 24 ≤ 140737488351232 := by rw [tot_sum]; have := HOK.out.tt; simp only at this; omega
      have hq1 : c.now.ps.length ≤ 4611686018427387904 := by have := hok.n.ql; omega
      have hq2 : (plnP nn ls fs).length ≤ 4611686018427387904 := by have := HOK.out.ql; simp only at this; omega
      have HRL1 : Hid (∀ s : Nat, (rls c.now s).length ≤ 16777216) := fun s => rls_len hok.n s
      have HRL2 : Hid (∀ s : Nat, (rls ⟨v, fs, plnP nn ls fs⟩ s).length ≤ 16777216) := fun s => rls_len HOK.out s
      have HPS2 : Hid (PsAt w2 qo (plnP nn ls fs)) := PthsAt.ps (HPS.out.ext E12).at
      have HPS1 : Hid (PsAt w2 a.n.qo c.now.ps) := PthsAt.ps (hst.at.hn.hq.ext hE2)
      obtain ⟨Q, hQ⟩ : ∃ Q, Q = plnP nn ls fs := ⟨_, rfl⟩
      rw [← hQ] at HPS HPS2 HRL2 hT2 hq2 HOK HD0 HPB
      clear hQ
      go_wp2
      go_loopw [7, 8, 11] (fun _ _ sv wr => ∃ s : Nat, s ≤ nn ∧ sv = .int .i64 s ∧ Hid (∀ j, j < s → (rls c.now j).length + (rls ⟨v, fs, Q⟩ j).length ≤ 16) ∧ Ext w2 wr) (fun _ _ sv _ => nn - (intOf sv).toNat)
      case atStart => exact ⟨0, Nat.zero_le _, rfl, fun j hj => by omega, Ext.refl _⟩
      case round =>
        clear f0
        obtain ⟨s, hs, rfl, HW, hEr⟩ := hrel
        have HAr := hidp (HA2.out.ext hEr)
        have hlr := HAr.out.lt
        have hlr0 : w.heap.size < wr.heap.size := by omega
        have hlr1 : w.heap.size + 1 < wr.heap.size := by omega
        have n0 := HAr.out.n0
        by_cases hlt : s < nn
        · have i1 : (s : Int) < (nn : Int) := by omega
          have HKP : Hid (∀ V : World, Ext wr V → V.cell? ⟨w.heap.size, 1, none⟩ = some (.int .i64 c.now.v) ∧ V.cell? ⟨w.heap.size, 2, none⟩ = some (.slice a.n.fo c.now.fs.length a.n.fc) ∧ V.cell? ⟨w.heap.size, 3, none⟩ = some (.slice a.n.qo c.now.ps.length a.n.qc) ∧ V.cell? ⟨w1.heap.size, 0, none⟩ = some (.int .i64 v) ∧ V.cell? ⟨w1.heap.size, 1, none⟩ = some (.slice lo fs.length fc) ∧ V.cell? ⟨w1.heap.size, 2, none⟩ = some (.slice qo Q.length qc)) := fun V hV => by
            have q := (HAr.out.ext hV).box
            obtain ⟨b0, b1, b2, _⟩ := HPB.out V (hEr.trans hV)
            exact ⟨World.rowIs.cell q (i := 1) (by omega), World.rowIs.cell q (i := 2) (by omega), World.rowIs.cell q (i := 3) (by omega), b0, b1, b2⟩
          have hR0 := Ext.refl wr
          have hps1 := HPS1.out.ext hEr
          have hps2 := HPS2.out.ext hEr
          have HFT := hidp (full_true (n := nn) (a := c.now) (b := ⟨v, fs, Q⟩) hlt)
          have hb1 := HRL1.out s
          have hb2 := HRL2.out s
          obtain ⟨X, hX⟩ : ∃ X, rof c.now.v s c.now.ps c.now.ps.length = X := ⟨_, rfl⟩
          obtain ⟨Y, hY⟩ : ∃ Y, rof v s Q Q.length = Y := ⟨_, rfl⟩
          have HX : Hid (rls c.now s = X) := hX
          have HY : Hid (rls ⟨v, fs, Q⟩ s = Y) := hY
          have HX' := hidp hX
          have HY' := hidp hY
          rw [HX.out] at hb1 HFT
          rw [HY.out] at hb2 HFT
          clear hX hY
          have hwr : IntKind.i64.wrap ((X.length : Int) + (Y.length : Int)) = (X.length : Int) + (Y.length : Int) := by rw [IntKind.wrap_i64]; omega
          by_cases hfull : 16 < X.length + Y.length
          · have i2 : (16 : Int) < IntKind.i64.wrap ((X.length : Int) + (Y.length : Int)) := by rw [hwr]; omega
            clear hwr
            have HD : Hid (askS c nn ls fs = (⟨co0, []⟩, 10)) := by
              show _ = _
              rw [HD0.out, if_neg (by simpa using HP0.out), show (nn : Int).toNat = nn from rfl, if_pos (HFT.out hfull)]
            clear hfull HFT HD0
            go_wp2
            go_region_held3 (fun V => V.cell? ⟨w.heap.size, 1, none⟩ = some (.int .i64 c.now.v) ∧ V.cell? ⟨w.heap.size, 2, none⟩ = some (.slice a.n.fo c.now.fs.length a.n.fc) ∧ V.cell? ⟨w.heap.size, 3, none⟩ = some (.slice a.n.qo c.now.ps.length a.n.qc) ∧ V.cell? ⟨w1.heap.size, 0, none⟩ = some (.int .i64 v) ∧ V.cell? ⟨w1.heap.size, 1, none⟩ = some (.slice lo fs.length fc) ∧ V.cell? ⟨w1.heap.size, 2, none⟩ = some (.slice qo Q.length qc))
              (first | exact HKP.out _ hR0.drew | exact HKP.out _ mk2 | exact HKP.out _ mk1)
              (first
                | (have _t := mk1; go_at_call 28; refine (refRules_any v s lo qo fs.length fc Q.length qc Q _ rfl (hps2.ext mk1) hT2 hq2).mono ?_; rintro e w6 ⟨v6, rfl, ho6, E6⟩; rw [HY'.out] at ho6; obtain ⟨mo6, mc6, rfl, _, _, _, _⟩ := RO.form ho6; have mk2 : Ext wr w6 := mk1.trans E6; clear ho6 E6)
                | (go_at_call 28; refine (refRules_any c.now.v s a.n.fo a.n.qo c.now.fs.length a.n.fc c.now.ps.length a.n.qc c.now.ps _ rfl (hps1.ext hR0.drew) hT1 hq1).mono ?_; rintro e w5 ⟨v5, rfl, ho5, E5⟩; rw [HX'.out] at ho5; obtain ⟨mo5, mc5, rfl, _, _, _, _⟩ := RO.form ho5; have mk1 : Ext wr w5 := hR0.drew.trans E5; clear ho5 E5))
            have HA5 := hidp (HAr.out.ext mk2)
            have hl5 := HA5.out.lt
            obtain ⟨r0, r1, r2, r3, r4, r5, r6, r7, r8⟩ := HA5.out.zeros
            have z := box_frozen HA5.out.ans
            have z0' := z 0
            have z1 := z 1
            have z2 := z 2
            have z3 := z 3
            have z4 := z 4
            have z5 := z 5
            have z6 := z 6
            have z7 := z 7
            have z8 := z 8
            clear z
            go_wp2
            refine bodyPost_ret (v := .tuple #[.agg #[.int .i64 0, .int .i64 0, .slice none 0 0, .slice none 0 0, .int .i64 0, .slice none 0 0, .slice none 0 0, .int .i64 0, .slice none 0 0], .slice none 0 0, .int .i64 10]) (by simp [results, Try.results8, go_sem, r0, r1, r2, r3, r4, r5, r6, r7, r8]) rfl ?_
            rw [HD.out]
            exact rf_none (by omega) (hE2.trans (hEr.trans mk2)) _ _ _ _ _ _ _ _ _
          · have i2 : ¬ (16 : Int) < IntKind.i64.wrap ((X.length : Int) + (Y.length : Int)) := by rw [hwr]; omega
            clear hwr
            have HW1 : Hid (∀ j, j < s + 1 → (rls c.now j).length + (rls ⟨v, fs, Q⟩ j).length ≤ 16) := fun j hj => by
              by_cases e : j = s
              · subst e; rw [HX.out, HY.out]; omega
              · exact HW.out j (by omega)
            clear hfull HFT
            go_wp2
            go_region_held3 (fun V => V.cell? ⟨w.heap.size, 1, none⟩ = some (.int .i64 c.now.v) ∧ V.cell? ⟨w.heap.size, 2, none⟩ = some (.slice a.n.fo c.now.fs.length a.n.fc) ∧ V.cell? ⟨w.heap.size, 3, none⟩ = some (.slice a.n.qo c.now.ps.length a.n.qc) ∧ V.cell? ⟨w1.heap.size, 0, none⟩ = some (.int .i64 v) ∧ V.cell? ⟨w1.heap.size, 1, none⟩ = some (.slice lo fs.length fc) ∧ V.cell? ⟨w1.heap.size, 2, none⟩ = some (.slice qo Q.length qc))
              (first | exact HKP.out _ hR0.drew | exact HKP.out _ mk2 | exact HKP.out _ mk1)
              (first
                | (have _t := mk1; go_at_call 28; refine (refRules_any v s lo qo fs.length fc Q.length qc Q _ rfl (hps2.ext mk1) hT2 hq2).mono ?_; rintro e w6 ⟨v6, rfl, ho6, E6⟩; rw [HY'.out] at ho6; obtain ⟨mo6, mc6, rfl, _, _, _, _⟩ := RO.form ho6; have mk2 : Ext wr w6 := mk1.trans E6; clear ho6 E6)
                | (go_at_call 28; refine (refRules_any c.now.v s a.n.fo a.n.qo c.now.fs.length a.n.fc c.now.ps.length a.n.qc c.now.ps _ rfl (hps1.ext hR0.drew) hT1 hq1).mono ?_; rintro e w5 ⟨v5, rfl, ho5, E5⟩; rw [HX'.out] at ho5; obtain ⟨mo5, mc5, rfl, _, _, _, _⟩ := RO.form ho5; have mk1 : Ext wr w5 := hR0.drew.trans E5; clear ho5 E5))
            go_wp2
            go_roundw
            case rel => exact ⟨s + 1, by omega, by go_num, HW1.out, hEr.trans mk2⟩
            case measure => simp [intOf]; omega
        · have i1 : ¬ (s : Int) < (nn : Int) := by omega
          have HD : Hid (askS c nn ls fs = (goS nn (told nn (addO ⟨v, fs, Q⟩) ⟨⟨1, c.now, ⟨v, fs, Q⟩, c.num, c.wts⟩, []⟩), 0)) := by
            show _ = _
            rw [HD0.out, if_neg (by simpa using HP0.out), show (nn : Int).toNat = nn from rfl, if_neg (by rw [full_false (fun j hj => HW.out j (by omega))]; simp)]
          have hEw : Ext w wr := hE2.trans hEr
          have hsr := hEr.size
          obtain ⟨wo, hwo⟩ : ∃ wo, wo = wr.alloc (.cells #[.slice none 0 0] 36) := ⟨_, rfl⟩
          have Eo : Ext wr wo := by rw [hwo]; exact (Ext.refl _).alloc _
          have HOB : Hid (wo.rowIs wr.heap.size 36 1 (fun _ => .slice none 0 0)) := by rw [hwo]; exact one_row rfl _
          have hso : wo.heap.size = wr.heap.size + 1 := by rw [hwo]; simp
          clear HW HD0
          go_upto_region 12 with fail
          rw [← hwo]
          clear hwo n0 i1
          have HAo := hidp (HAr.out.ext Eo)
          obtain ⟨b0, b1, b2, bl⟩ := HPB.out wo (hEr.trans Eo)
          have s0 : wo.cell? ⟨w.heap.size, 0, none⟩ = some (.int .i64 c.st) := World.rowIs.cell HAo.out.box (i := 0) (by omega)
          have s4 : wo.cell? ⟨w.heap.size, 4, none⟩ = some (.int .i64 c.nxt.v) := World.rowIs.cell HAo.out.box (i := 4) (by omega)
          have s5 : wo.cell? ⟨w.heap.size, 5, none⟩ = some (.slice a.x.fo c.nxt.fs.length a.x.fc) := World.rowIs.cell HAo.out.box (i := 5) (by omega)
          have s6 : wo.cell? ⟨w.heap.size, 6, none⟩ = some (.slice a.x.qo c.nxt.ps.length a.x.qc) := World.rowIs.cell HAo.out.box (i := 6) (by omega)
          have z0 : wo.frozen? ⟨w.heap.size, 0, none⟩ = false := World.rowIs.frozen HAo.out.box 0
          have z4 : wo.frozen? ⟨w.heap.size, 4, none⟩ = false := World.rowIs.frozen HAo.out.box 4
          have z5 : wo.frozen? ⟨w.heap.size, 5, none⟩ = false := World.rowIs.frozen HAo.out.box 5
          have z6 : wo.frozen? ⟨w.heap.size, 6, none⟩ = false := World.rowIs.frozen HAo.out.box 6
          have hlo0 : w.heap.size < wo.heap.size := by omega
          have hne2 : w1.heap.size ≠ w.heap.size := by omega
          obtain ⟨W3, hW3⟩ : ∃ W3, W3 = ((((wo.setCell ⟨w.heap.size, 0, none⟩ (.int .i64 1)).setCell ⟨w.heap.size, 4, none⟩ (.int .i64 v)).setCell ⟨w.heap.size, 5, none⟩ (.slice lo fs.length fc)).setCell ⟨w.heap.size, 6, none⟩ (.slice qo Q.length qc)).drew := ⟨_, rfl⟩
          have HK3 : Hid (∀ b, b ≠ w.heap.size → W3.heap[b]? = wo.heap[b]?) := fun b hb => by
            rw [hW3, drew_heap, blk_setCell_other _ _ _ _ hb, blk_setCell_other _ _ _ _ hb, blk_setCell_other _ _ _ _ hb, blk_setCell_other _ _ _ _ hb]
          have hs3 : W3.heap.size = wo.heap.size := by rw [hW3, drew_heap]; simp
          have HR3 : Hid (RSt (ZR Y w) w.heap.size wr.heap.size w W3 ⟨⟨1, c.now, ⟨v, fs, Q⟩, c.num, c.wts⟩, []⟩ ⟨a.n, ⟨lo, qo, fc, qc⟩, a.wo, a.wc⟩ (.slice none 0 0) []) := by
            have E3 : Ext w W3 := by
              rw [hW3]
              exact (((((hEw.trans Eo).setCell (Nat.le_refl _) _).setCell (Nat.le_refl _) _).setCell (Nat.le_refl _) _).setCell (Nat.le_refl _) _).drew
            have hbx : BX W3 w.heap.size (coL ⟨1, c.now, ⟨v, fs, Q⟩, c.num, c.wts⟩ ⟨a.n, ⟨lo, qo, fc, qc⟩, a.wo, a.wc⟩) := by
              have e : ((((coL c a).set 0 (.int .i64 1)).set 4 (.int .i64 v)).set 5 (.slice lo fs.length fc)).set 6 (.slice qo Q.length qc) = coL ⟨1, c.now, ⟨v, fs, Q⟩, c.num, c.wts⟩ ⟨a.n, ⟨lo, qo, fc, qc⟩, a.wo, a.wc⟩ := rfl
              rw [← e, hW3]
              exact World.rowIs.of_block (BX.set (BX.set (BX.set (BX.set HAo.out.box (i := 0) (by simp [coL]) _) (i := 4) (by simp [coL]) _) (i := 5) (by simp [coL]) _) (i := 6) (by simp [coL]) _) (by rw [drew_heap])
            refine RSt.start hbx (World.rowIs.of_block HOB.out (HK3.out _ (by omega))) ?_ E3 (by omega) hwn
            have q1 := (hst.ext hEw).more (Y' := fun b => Y b ∧ b < w.heap.size ∨ w.heap.size + 1 + 1 < b ∧ b < wr.heap.size) (fun b hb _ => Or.inl hb)
            have q2 := (hfs.ext hEw).more (Y' := fun b => Y b ∧ b < w.heap.size ∨ w.heap.size + 1 + 1 < b ∧ b < wr.heap.size) (fun b hb _ => Or.inl hb)
            have q3 := ((HPS.out).more (Y' := fun b => Y b ∧ b < w.heap.size ∨ w.heap.size + 1 + 1 < b ∧ b < wr.heap.size) (fun b hb hlt => Or.inr ⟨by omega, by omega⟩)).ext (E12.trans hEr)
            refine (((q1.and (q2.and q3)).imp (D' := fun U => CoAt U ⟨1, c.now, ⟨v, fs, Q⟩, c.num, c.wts⟩ ⟨a.n, ⟨lo, qo, fc, qc⟩, a.wo, a.wc⟩) (fun U k => ⟨k.1.hn, ⟨k.2.1, k.2.2⟩, k.1.hw⟩)).ext Eo).step (by omega) (fun b hb _ => HK3.out b (by omega))
          have HA3 : Hid ((W3.cell? ⟨w.heap.size + 1, 0, none⟩ = some (.int .i64 nn) ∧ W3.cell? ⟨w.heap.size + 1, 1, none⟩ = some (.slice ao len cap) ∧ W3.heap[w.heap.size + 1 + 1]? = some (.cells #[.int .i64 0, .int .i64 0, .slice none 0 0, .slice none 0 0, .int .i64 0, .slice none 0 0, .slice none 0 0, .int .i64 0, .slice none 0 0] 28 (0, 0)) ∧ w.heap.size + 1 + 1 < W3.heap.size) ∧ W3.cell? ⟨w1.heap.size, 0, none⟩ = some (.int .i64 v) ∧ W3.cell? ⟨w1.heap.size, 1, none⟩ = some (.slice lo fs.length fc) ∧ W3.cell? ⟨w1.heap.size, 2, none⟩ = some (.slice qo Q.length qc) ∧ w1.heap.size < W3.heap.size) :=
            ⟨⟨(World.cell?_of_block (a := ⟨w.heap.size + 1, 0, none⟩) (HK3.out (w.heap.size + 1) (by omega))).trans HAo.out.n0, (World.cell?_of_block (a := ⟨w.heap.size + 1, 1, none⟩) (HK3.out (w.heap.size + 1) (by omega))).trans HAo.out.n1, (HK3.out _ (by omega)).trans HAo.out.ans, by omega⟩, (World.cell?_of_block (a := ⟨w1.heap.size, 0, none⟩) (HK3.out w1.heap.size hne2)).trans b0, (World.cell?_of_block (a := ⟨w1.heap.size, 1, none⟩) (HK3.out w1.heap.size hne2)).trans b1, (World.cell?_of_block (a := ⟨w1.heap.size, 2, none⟩) (HK3.out w1.heap.size hne2)).trans b2, by omega⟩
          have HQ1 : Hid (Qr w.heap.size wr.heap.size (.slice none 0 0) (w.heap.size + 1)) := ⟨by omega, by omega, by simp [Value.ownBlock]⟩
          have HQ2 : Hid (Qr w.heap.size wr.heap.size (.slice none 0 0) (w.heap.size + 1 + 1)) := ⟨by omega, by omega, by simp [Value.ownBlock]⟩
          have HQ3 : Hid (Qr w.heap.size wr.heap.size (.slice none 0 0) w1.heap.size) := ⟨by omega, by omega, by simp [Value.ownBlock]⟩
          have HW13 : Hid (∀ b, W1.heap.size ≤ b → b < w1.heap.size → W3.heap[b]? = w1.heap[b]?) := fun b h1 h2 => (HK3.out b (by omega)).trans (Below.block (E12.trans (hEr.trans Eo)) b h2)
          have HS13 : Hid (w1.heap.size ≤ W3.heap.size ∧ w1.heap.size < wr.heap.size) := ⟨by omega, by omega⟩
          go_region
          rw [← hW3]
          clear hW3 s0 s4 s5 s6 z0 z4 z5 z6 b0 b1 b2 HK3
          obtain ⟨wp, hwp⟩ : ∃ wp, wp = wr := ⟨_, rfl⟩
          subst hwp
          go_wp2
          go_loopw [13, 14] (fun sv _ wx => ∃ s : Nat, s ≤ nn ∧ sv = .int .i64 s ∧ Hid (∃ a2 tv2 TV2, RSt (ZR Y w) w.heap.size wp.heap.size w wx (told s (addO ⟨v, fs, Q⟩) ⟨⟨1, c.now, ⟨v, fs, Q⟩, c.num, c.wts⟩, []⟩) a2 tv2 TV2 ∧ RKp w.heap.size wp.heap.size W3 (.slice none 0 0) wx tv2)) (fun sv _ _ => nn - (intOf sv).toNat)
          case atStart => exact ⟨0, Nat.zero_le _, rfl, _, _, _, HR3.out, RKp.ext (Ext.refl _)⟩
          case round =>
            obtain ⟨s, hs, rfl, HX⟩ := hrel
            obtain ⟨a2, tv2, TV2, hR4, hK4⟩ := HX.out
            have HR4 := hidp hR4
            have HK4 := hidp hK4
            have HL := hidp (told_len (ord := addO ⟨v, fs, Q⟩) (g := ⟨⟨1, c.now, ⟨v, fs, Q⟩, c.num, c.wts⟩, []⟩) s)
            clear HX hR4 hK4
            have n0 : wr.cell? ⟨w.heap.size + 1, 0, none⟩ = some (.int .i64 nn) := (World.cell?_of_block (a := ⟨w.heap.size + 1, 0, none⟩) (HK4.out.block _ HQ1.out (by have := HA3.out.1.2.2.2; omega)).2).trans HA3.out.1.1
            have hl4 : w.heap.size + 1 + 1 < wr.heap.size := Nat.lt_of_lt_of_le HA3.out.1.2.2.2 HK4.out.size
            have hl41 : w.heap.size + 1 < wr.heap.size := by omega
            have hl40 : w.heap.size < wr.heap.size := by omega
            have hl4B : w1.heap.size < wr.heap.size := Nat.lt_of_lt_of_le HA3.out.2.2.2.2 HK4.out.size
            by_cases hlt : s < nn
            · have i1 : (s : Int) < (nn : Int) := by omega
              have HPW : Hid (∀ V, Ext wr V → V.cell? ⟨w1.heap.size, 0, none⟩ = some (.int .i64 v)) := fun V hV => (hV.cells.1 _ _ hl4B).trans ((World.cell?_of_block (a := ⟨w1.heap.size, 0, none⟩) (HK4.out.block _ HQ3.out HA3.out.2.2.2.2).2).trans HA3.out.2.1)
              have b0 := HPW.out wr (Ext.refl _)
              have b1 : wr.cell? ⟨w1.heap.size, 1, none⟩ = some (.slice lo fs.length fc) := (World.cell?_of_block (a := ⟨w1.heap.size, 1, none⟩) (HK4.out.block _ HQ3.out HA3.out.2.2.2.2).2).trans HA3.out.2.2.1
              have b2 : wr.cell? ⟨w1.heap.size, 2, none⟩ = some (.slice qo Q.length qc) := (World.cell?_of_block (a := ⟨w1.heap.size, 2, none⟩) (HK4.out.block _ HQ3.out HA3.out.2.2.2.2).2).trans HA3.out.2.2.2.1
              have HPS3 : Hid (PsAt wr qo Q) := PthsAt.ps (HPS.out wr (Nat.le_trans HS13.out.1 HK4.out.size) (fun b h1 h2 => ((HK4.out.block b ⟨by omega, by have := HS13.out.2; omega, by simp [Value.ownBlock]⟩ (by have := HS13.out.1; omega)).2).trans (HW13.out b h1 h2)))
              go_wp2_with (go_at_call 28; fail)
              refine Calls.mono (refRules_any v s lo qo fs.length fc Q.length qc Q _ rfl HPS3.out hT2 hq2) ?_
              rintro e w5 ⟨v5, rfl, ho5, E5⟩
              have HRQ := hidp (RO.rq (Q := Qx (ZR Y w) w.heap.size wp.heap.size tv2) ho5 (fun b hb _ => HR4.out.fresh b hb))
              obtain ⟨mo, mc, rfl, _, _, _, _⟩ := RO.form ho5
              clear ho5 b0 b1 b2
              have HRL : Hid (rls ⟨v, fs, Q⟩ s = rof v s Q Q.length) := rfl
              obtain ⟨L, hL⟩ : ∃ L, rof v s Q Q.length = L := ⟨_, rfl⟩
              rw [hL] at HRL HRQ ⊢
              clear hL
              have HR5 := hidp (HR4.out.ext E5)
              have HK5 := hidp (HK4.out.trans (RKp.ext E5))
              have b0 := HPW.out w5 E5
              have hl5B := Nat.lt_of_lt_of_le hl4B E5.size
              by_cases hL0 : L = []
              · have HN : Hid (told (s + 1) (addO ⟨v, fs, Q⟩) ⟨⟨1, c.now, ⟨v, fs, Q⟩, c.num, c.wts⟩, []⟩ = told s (addO ⟨v, fs, Q⟩) ⟨⟨1, c.now, ⟨v, fs, Q⟩, c.num, c.wts⟩, []⟩) := told_none (by unfold addO; rw [HRL.out, if_pos hL0])
                subst hL0
                simp only [List.length_nil]
                go_wp2
                go_roundw
                case rel => exact ⟨s + 1, by omega, by go_num, _, _, _, by rw [HN.out]; exact HR5.out, HK5.out⟩
                case measure => simp [intOf]; omega
              · have HN := hidp (told_some (g := ⟨⟨1, c.now, ⟨v, fs, Q⟩, c.num, c.wts⟩, []⟩) (show addO ⟨v, fs, Q⟩ s = some ⟨1, 0, v, L, []⟩ by unfold addO; rw [HRL.out, if_neg hL0]))
                have iL : (0 : Int) < (L.length : Int) := by have := List.length_pos_iff.2 hL0; omega
                have HTL := hidp (refTell_any _ w.heap.size wp.heap.size s 1 0 v L [] mo none L.length mc 0 0 w w5 _ a2 tv2 TV2 HR5.out HRQ.out (LQ.nil _ _) (by have h1 : _ ≤ c.wts.length + s := HL.out.1; have := hok.w; omega) (by have h1 : _ ≤ 0 + s := HL.out.2; omega))
                clear hL0
                go_wp2_with (go_at_call 29; refine Calls.mono HTL.out ?_; rintro e w6 ⟨rfl, a6, tv6, TV6, hR6, hK6⟩; have HR6 := hidp hR6; have HK6 := hidp hK6; clear hR6 hK6)
                go_roundw
                case rel => exact ⟨s + 1, by omega, by go_num, _, _, _, by rw [HN.out]; exact HR6.out, HK5.out.trans HK6.out⟩
                case measure => simp [intOf]; omega
            · have i1 : ¬ (s : Int) < (nn : Int) := by omega
              have hsn : s = nn := by omega
              rw [hsn] at HR4 HL
              clear hsn
              have n1 : wr.cell? ⟨w.heap.size + 1, 1, none⟩ = some (.slice ao len cap) := (World.cell?_of_block (a := ⟨w.heap.size + 1, 1, none⟩) (HK4.out.block _ HQ1.out (by have := HA3.out.1.2.2.2; omega)).2).trans HA3.out.1.2.1
              have HBG := hidp (refBegin_any _ w.heap.size wp.heap.size nn ao len cap w wr _ a2 tv2 TV2 HR4.out hn8 hok.n.fl HOK.out.fl (by have h1 : _ ≤ 0 + nn := HL.out.2; omega))
              go_wp2_with (go_at_call 30; refine Calls.mono HBG.out ?_; rintro e w6 ⟨rfl, a6, tv6, TV6, hR6, hK6⟩; have HR6 := hidp hR6; have HK6 := hidp (HK4.out.trans hK6); clear hR6 hK6)
              clear n0 n1 HBG
              have HAN : Hid (Qr w.heap.size wp.heap.size tv6 (w.heap.size + 1 + 1) ∧ w6.heap[w.heap.size + 1 + 1]? = some (.cells #[.int .i64 0, .int .i64 0, .slice none 0 0, .slice none 0 0, .int .i64 0, .slice none 0 0, .slice none 0 0, .int .i64 0, .slice none 0 0] 28 (0, 0))) := by
                have k := HK6.out.block _ HQ2.out HA3.out.1.2.2.2
                exact ⟨k.1, k.2.trans HA3.out.1.2.2.1⟩
              have hb6 := HAN.out.2
              have r0 := box_cell hb6 0
              have r1 := box_cell hb6 1
              have r2 := box_cell hb6 2
              have r3 := box_cell hb6 3
              have r4 := box_cell hb6 4
              have r5 := box_cell hb6 5
              have r6 := box_cell hb6 6
              have r7 := box_cell hb6 7
              have r8 := box_cell hb6 8
              have z0 := box_frozen hb6 0
              have z1 := box_frozen hb6 1
              have z2 := box_frozen hb6 2
              have z3 := box_frozen hb6 3
              have z4 := box_frozen hb6 4
              have z5 := box_frozen hb6 5
              have z6 := box_frozen hb6 6
              have z7 := box_frozen hb6 7
              have z8 := box_frozen hb6 8
              simp only [List.getElem?_toArray, List.getElem?_cons_zero, List.getElem?_cons_succ] at r0 r1 r2 r3 r4 r5 r6 r7 r8
              have hl62 : w.heap.size + 1 + 1 < w6.heap.size := (Array.getElem?_eq_some_iff.1 hb6).1
              have hl60 := World.rowIs.lt HR6.out.box
              have hl6O := HR6.out.obx.lt
              clear hb6
              obtain ⟨k0, k1, o2, l2, q2, o3, l3, q3, k4, o5, l5, q5, o6, l6, q6, k7, o8, l8, q8, tO, l9, tc, c0, c1, c2, c3, c4, c5, c6, c7, c8, cO, HF⟩ := HR6.out.letters
              go_region
              go_wp2
              refine bodyPost_ret (v := .tuple #[.agg #[.int .i64 k0, .int .i64 k1, .slice o2 l2 q2, .slice o3 l3 q3, .int .i64 k4, .slice o5 l5 q5, .slice o6 l6 q6, .int .i64 k7, .slice o8 l8 q8], .slice tO l9 tc, .int .i64 0]) (by simp [results, Try.results8, go_sem, r0, r1, r2, r3, r4, r5, r6, r7, r8]) rfl ?_
              rw [HD.out]
              obtain ⟨e1, e2, e3⟩ := HF.out
              exact ⟨a6, tO, tc, by rw [e1, e2], fun U hU kU => e3 (fun b hb => ⟨fun e => HAN.out.1.2.2 (by rw [hb, e]), Or.inr (HR6.out.ownT.lt b hb).1⟩) U (Nat.le_trans (Nat.le_of_eq W9_size.symm) hU) (fun b hb hlt => (kU b hb.2 (Nat.lt_of_lt_of_le hlt (Nat.le_of_eq W9_size.symm))).trans (W9_block b hb.1)), W9_ext HR6.out.bel (by omega)⟩
    · have HD : Hid (askS c n ls fs = (⟨co0, []⟩, (plnF n v ls fs).1)) := by
        show _ = _
        rw [HD0.out, if_pos hp0]
      have b0 : ((plnF n v ls fs).1 != 0) = true := by simpa using hp0
      clear hp0 HP
      obtain ⟨r0, r1, r2, r3, r4, r5, r6, r7, r8⟩ := HA2.out.zeros
      have z := box_frozen HA2.out.ans
      have z0' := z 0
      have z1 := z 1
      have z2 := z 2
      have z3 := z 3
      have z4 := z 4
      have z5 := z 5
      have z6 := z 6
      have z7 := z 7
      have z8 := z 8
      clear z
      go_wp2
      go_region
      go_wp2
      refine bodyPost_ret (v := .tuple #[.agg #[.int .i64 0, .int .i64 0, .slice none 0 0, .slice none 0 0, .int .i64 0, .slice none 0 0, .slice none 0 0, .int .i64 0, .slice none 0 0], .slice none 0 0, .int .i64 (plnF n v ls fs).1]) (by simp [results, Try.results8, go_sem, r0, r1, r2, r3, r4, r5, r6, r7, r8]) rfl ?_
      rw [HD.out]
      exact rf_noneD (by omega) hE2 _ _ _ _ _ _ _ _ _
  · have HD : Hid (askS c n ls fs = (⟨co0, []⟩, 11)) := by
      show _ = _
      unfold askS
      rw [if_pos h0]
    have b0 : (c.st != 0) = true := by simpa using h0
    clear h0
    obtain ⟨r0, r1, r2, r3, r4, r5, r6, r7, r8⟩ := HA.out.zeros
    have z := box_frozen HA.out.ans
    have z0' := z 0
    have z1 := z 1
    have z2 := z 2
    have z3 := z 3
    have z4 := z 4
    have z5 := z 5
    have z6 := z 6
    have z7 := z 7
    have z8 := z 8
    clear z
    go_wp2
    refine bodyPost_ret (v := .tuple #[.agg #[.int .i64 0, .int .i64 0, .slice none 0 0, .slice none 0 0, .int .i64 0, .slice none 0 0, .slice none 0 0, .int .i64 0, .slice none 0 0], .slice none 0 0, .int .i64 11]) (by simp [results, Try.results8, go_sem, r0, r1, r2, r3, r4, r5, r6, r7, r8]) rfl ?_
    rw [HD.out]
    exact rf_none (by omega) hE0 _ _ _ _ _ _ _ _ _

end Go.Proofs.Ytgffkjjddhlbpaa.Ct
