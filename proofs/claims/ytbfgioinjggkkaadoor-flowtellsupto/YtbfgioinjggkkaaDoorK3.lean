/- What the document's own Line answers, for every text and place; nothing that was there is changed. -/
import Derived.Test.YtbfgioinjggkkaaDoorK2
namespace Go.Proofs.YtbfgioinjggkkaaDoor
open Go.RowKit Go.Maps Stf Go.Sort

def rwrd (word : Bs) (N : Nat) (r : Bs) : Option (List Int × Bs) := if word.isPrefixOf r then rgo N (r.drop word.length) else some ([], r)
def rtail (N : Nat) (x y : Int) (r : Bs) : Option (Fl × Bs) :=
  match rwrd wVia N r with
  | none => none
  | some (v, r2) => match rwrd wNot N r2 with
    | none => none
    | some (nn, r3) => if r3.head? = some 10 then some (⟨x, y, v, nn⟩, r3.tail) else none
def rline (N : Nat) (r : Bs) : Option (Fl × Bs) :=
  match num (tw r) with
  | none => none
  | some x => if (r.drop (tw r).length).head? = some 62 then
      match num (tw (r.drop ((tw r).length + 1))) with
      | none => none
      | some y => rtail N x y ((r.drop ((tw r).length + 1)).drop (tw (r.drop ((tw r).length + 1))).length)
    else none
/-- What list hands back, with its word or without. -/
def LO2 (B : Nat) (w' : World) (e : Ending) (l : Bs) : Option (List Int × Bs) → Prop
  | none => ∃ p : Int, e = .returned (.tuple #[.slice none 0 0, .int .i64 p, .bool false])
  | some (xs, rest) => ∃ o c, ∃ q : Nat, e = .returned (.tuple #[.slice o xs.length c, .int .i64 q, .bool true]) ∧ LB B w' xs (.slice o xs.length c) ∧ q ≤ l.length ∧ l.drop q = rest
theorem list_any (s word : ByteArray) (a : Nat) (w : World) (hs : s.size ≤ 1000000) (hw : word.size ≤ 5) (ha : a ≤ s.size) :
    Calls Tryd.prog 28 #[.string s, .int .i64 a, .string word] w fun e w' => Ext w w' ∧ LO2 w.heap.size w' e s.data.toList (rwrd word.data.toList (s.size + 1) (s.data.toList.drop a)) := by
  have hl : s.data.toList.length = s.size := (Lib.size_eq s).symm
  unfold rwrd
  by_cases h : word.data.toList <+: s.data.toList.drop a
  · rw [if_pos (by simpa using h), List.drop_drop, ← Lib.size_eq word]
    refine (list_yes s word a w hs hw h ha).mono ?_
    rintro e w' ⟨hE, ho⟩
    refine ⟨hE, ?_⟩
    cases hr : rgo (s.size + 1) (s.data.toList.drop (a + word.size)) with
    | none => rw [hr] at ho; exact ho
    | some q => rw [hr] at ho; exact ho
  · rw [if_neg (by simpa using h)]
    refine (list_no s word a w hs ha hw h).mono ?_
    rintro e w' ⟨rfl, rfl⟩
    exact ⟨Ext.refl _, none, 0, a, rfl, ⟨none, 0, rfl, Nat.le_refl _, Or.inl rfl⟩, by omega, rfl⟩
/-- What Line hands back. -/
def LineOut (B : Nat) (w' : World) (e : Ending) (l : Bs) (o : Option (Fl × Bs)) : Prop :=
  ∃ A T X Y v nv, ∃ q : Int, e = .returned (.tuple #[.agg #[.int .i64 A, .int .i64 T, v, nv], .int .i64 q, .bool o.isSome]) ∧ LB B w' X v ∧ LB B w' Y nv ∧ ∀ f rest, o = some (f, rest) → f = ⟨A, T, X, Y⟩ ∧ ∃ k : Nat, q = k ∧ k ≤ l.length ∧ l.drop k = rest
theorem LBnil (B : Nat) (w : World) : LB B w [] (.slice none 0 0) := ⟨none, 0, rfl, Nat.le_refl _, Or.inl rfl⟩
theorem head_drop {l : Bs} {k : Nat} : (l.drop k).head? = l[k]? := by rw [List.head?_drop]

set_option maxRecDepth 100000 in
set_option maxHeartbeats 4000000 in
theorem Line_any (s : ByteArray) (a : Nat) (w : World) (hs : s.size ≤ 1000000) (ha : a ≤ s.size) :
    Calls Tryd.prog 15 #[.string s, .int .i64 a] w fun e w' => Ext w w' ∧ LineOut w.heap.size w' e s.data.toList (rline (s.size + 1) (s.data.toList.drop a)) := by
  have hl : s.data.toList.length = s.size := (Lib.size_eq s).symm
  obtain ⟨r, hr⟩ : ∃ r, r = s.data.toList.drop a := ⟨_, rfl⟩
  have hrl : r.length = s.size - a := by rw [hr, List.length_drop, hl]
  rw [← hr]
  have HRR := hid hr
  clear hr
  have htl := tw_le r
  cases hnum : num (tw r) with
  | none =>
    have hfin : rline (s.size + 1) r = none := by unfold rline; rw [hnum]
    have HF := hid hfin
    have HN := hid hnum
    have e1 : numV (tw r) = 0 := by simp [numV, hnum]
    have e2 : rEnd r a = a := by simp [rEnd, hnum]
    clear hnum hfin
    go_enter Tryd.func15, Tryd.ntmps15
    go_wp2_with (go_at_call 27; refine (number_any s a _ hs ha).mono ?_; rintro e w2 ⟨he, rfl⟩; rw [← HRR.out, e1, e2, HN.out] at he; subst he)
    refine bodyPost_ret (v := .tuple #[.agg #[.int .i64 0, .int .i64 0, .slice none 0 0, .slice none 0 0], .int .i64 a, .bool false]) (by simp [results, Tryd.results15, go_sem]) rfl ⟨((Ext.refl w).alloc _).alloc _, 0, 0, [], [], _, _, _, by rw [HF.out]; rfl, LBnil _ _, LBnil _ _, fun f rest h => by rw [HF.out] at h; cases h⟩
  | some x =>
    have HN := hid hnum
    have e1 : numV (tw r) = x := by simp [numV, hnum]
    have e2 : rEnd r a = a + (tw r).length := by simp [rEnd, hnum]
    have hrln : rline (s.size + 1) r = if r[(tw r).length]? = some 62 then (match num (tw (r.drop ((tw r).length + 1))) with | none => none | some y => rtail (s.size + 1) x y ((r.drop ((tw r).length + 1)).drop (tw (r.drop ((tw r).length + 1))).length)) else none := by
      unfold rline; rw [hnum]; simp only [head_drop]
    clear hnum
    obtain ⟨d, hd⟩ : ∃ d, d = (tw r).length := ⟨_, rfl⟩
    rw [← hd] at e2 htl hrln
    have HRL := hid hrln
    clear hd hrln
    by_cases hq : a + d < s.size
    · have hb0 := byte_at hq
      have hc := (s[a + d]).toNat_lt
      generalize hcc : s[a + d] = c at hb0 hc
      have hrd : r[d]? = some c := by rw [HRR.out, List.getElem?_drop]; exact hb0
      have HRD := hid hrd
      clear hb0 hrd
      have i4 : (a : Int) + (d : Int) < (s.size : Int) := by omega
      by_cases h62 : c = 62
      · have j1 : ((c.toNat : Int) != 62) = false := by rw [h62]; rfl
        have h62' := hid h62
        obtain ⟨r1, hr1⟩ : ∃ r1, r1 = r.drop (d + 1) := ⟨_, rfl⟩
        have hr1s : r1 = s.data.toList.drop (a + d + 1) := by rw [hr1, HRR.out, List.drop_drop]; congr 1
        have hrl2 : rline (s.size + 1) r = match num (tw r1) with | none => none | some y => rtail (s.size + 1) x y (r1.drop (tw r1).length) := by
          rw [HRL.out, HRD.out, h62'.out, if_pos rfl, ← hr1]
        have hr1l : r1.length = s.size - (a + d + 1) := by rw [hr1s, List.length_drop, hl]
        have HR1 := hid hr1s
        have HRL2 := hid hrl2
        have htl1 := tw_le r1
        clear h62 hr1 hr1s hrl2
        cases hnum1 : num (tw r1) with
        | none =>
          have hfin : rline (s.size + 1) r = none := by rw [HRL2.out, hnum1]
          have HF := hid hfin
          have HN1 := hid hnum1
          have e3 : numV (tw r1) = 0 := by simp [numV, hnum1]
          have e4 : rEnd r1 (a + d + 1) = a + d + 1 := by simp [rEnd, hnum1]
          clear hnum1 hfin
          go_enter Tryd.func15, Tryd.ntmps15
          go_wp2_with fail
          refine (number_any s a _ hs ha).mono ?_
          rintro e w2 ⟨he, rfl⟩
          rw [← HRR.out, e1, e2, HN.out] at he
          subst he
          go_wp2_with fail
          refine (number_any s (a + d + 1) _ hs (by omega)).mono ?_
          rintro e w2 ⟨he, rfl⟩
          rw [← HR1.out, e3, e4, HN1.out] at he
          subst he
          go_wp2
          refine bodyPost_ret (v := .tuple #[.agg #[.int .i64 x, .int .i64 0, .slice none 0 0, .slice none 0 0], .int .i64 (a + d + 1 : Nat), .bool false]) (by simp [results, Tryd.results15, go_sem]) rfl ⟨((Ext.refl w).alloc _).alloc _, x, 0, [], [], _, _, _, by rw [HF.out]; rfl, LBnil _ _, LBnil _ _, fun f rest h => by rw [HF.out] at h; cases h⟩
        | some y =>
          have HN1 := hid hnum1
          have e3 : numV (tw r1) = y := by simp [numV, hnum1]
          have e4 : rEnd r1 (a + d + 1) = a + d + 1 + (tw r1).length := by simp [rEnd, hnum1]
          have hrl3 : rline (s.size + 1) r = rtail (s.size + 1) x y (s.data.toList.drop (a + d + 1 + (tw r1).length)) := by rw [HRL2.out, hnum1]; simp only; rw [HR1.out, List.drop_drop, ← HR1.out]
          clear hnum1
          obtain ⟨p, hp⟩ : ∃ p, p = a + d + 1 + (tw r1).length := ⟨_, rfl⟩
          rw [← hp] at e4 hrl3
          have hps : p ≤ s.size := by omega
          have HRL3 := hid hrl3
          clear hp hrl3
          go_enter Tryd.func15, Tryd.ntmps15
          go_wp2_with fail
          refine (number_any s a _ hs ha).mono ?_
          rintro e w2 ⟨he, rfl⟩
          rw [← HRR.out, e1, e2, HN.out] at he
          subst he
          go_wp2_with fail
          refine (number_any s (a + d + 1) _ hs (by omega)).mono ?_
          rintro e w2 ⟨he, rfl⟩
          rw [← HR1.out, e3, e4, HN1.out] at he
          subst he
          go_wp2_with fail
          refine (list_any s _ p _ hs (show (ByteArray.mk #[32, 118, 105, 97, 32]).size ≤ 5 by decide) hps).mono ?_
          rintro e w3 ⟨E3, ho⟩
          have bR := (((Box4.made w (.int .i64 0) (.int .i64 0) (.slice none 0 0) (.slice none 0 0) 38).alloc (.cells #[.int .i64 x, .int .i64 y, .slice none 0 0, .slice none 0 0] 38)).ext E3)
          have bF := ((Box4.made' (w := w.alloc (.cells #[.int .i64 0, .int .i64 0, .slice none 0 0, .slice none 0 0] 38)) (n := w.heap.size + 1) (by simp) (.int .i64 x) (.int .i64 y) (.slice none 0 0) (.slice none 0 0) 38).ext E3)
          have EW : Ext w w3 := (((Ext.refl w).alloc _).alloc _).trans E3
          have nRF : w.heap.size ≠ w.heap.size + 1 := by omega
          have hwd : (ByteArray.mk #[32, 118, 105, 97, 32]).data.toList = wVia := rfl
          rw [hwd] at ho
          cases hv : rwrd wVia (s.size + 1) (s.data.toList.drop p) with
          | none =>
            rw [hv] at ho
            obtain ⟨pp, rfl⟩ := ho
            have hfin : rline (s.size + 1) r = none := by rw [HRL3.out]; unfold rtail; rw [hv]
            have HF := hid hfin
            clear hfin hv
            obtain ⟨lR, R0, R1, R2, R3, S0, S1, S2, S3⟩ := bR
            obtain ⟨lF, F0, F1, F2, F3, G0, G1, G2, G3⟩ := bF
            go_wp2
            refine bodyPost_ret (v := .tuple #[.agg #[.int .i64 x, .int .i64 y, .slice none 0 0, .slice none 0 0], .int .i64 pp, .bool false]) (by simp [results, Tryd.results15, go_sem, R0, R1, R2, R3]) rfl ⟨?_, x, y, [], [], _, _, _, by rw [HF.out]; rfl, LBnil _ _, LBnil _ _, fun f rest h => by rw [HF.out] at h; cases h⟩
            have hF : w.heap.size ≤ w.heap.size + 1 := by omega
            exact (((((EW.setCell (p := ⟨w.heap.size + 1, 2, none⟩) hF _).setCell (Nat.le_refl _) _).setCell (Nat.le_refl _) _).setCell (Nat.le_refl _) _).setCell (Nat.le_refl _) _)
          | some o =>
            obtain ⟨X, r2⟩ := o
            rw [hv] at ho
            obtain ⟨vo, vc, q, rfl, hlv, hq1, hq2⟩ := ho
            have HV := hid hv
            have HQ2 := hid hq2
            clear hv hq2
            have hqs : q ≤ s.size := by omega
            have hlv2 := (hlv.mono (show w.heap.size + 2 ≤ _ by simp)).setCell (p := ⟨w.heap.size + 1, 2, none⟩) (by simp) (.slice vo X.length vc)
            have bF2 := bF.set2 (.slice vo X.length vc)
            have bR2 := bR.other (p := ⟨w.heap.size + 1, 2, none⟩) (by simp) (.slice vo X.length vc)
            have EW2 : Ext w (w3.setCell ⟨w.heap.size + 1, 2, none⟩ (.slice vo X.length vc)) := EW.setCell (show w.heap.size ≤ w.heap.size + 1 by omega) _
            have lR3 := bR.1
            have lF3 := bF.1
            obtain ⟨-, R0, R1, R2, R3, S0, S1, S2, S3⟩ := bR
            obtain ⟨-, F0, F1, F2, F3, G0, G1, G2, G3⟩ := bF
            go_wp2_with fail
            refine (list_any s _ q _ hs (show (ByteArray.mk #[32, 110, 111, 116, 32]).size ≤ 5 by decide) hqs).mono ?_
            rintro e w4 ⟨E4, ho⟩
            have bR4 := bR2.ext E4
            have bF4 := bF2.ext E4
            have EW4 := EW2.trans E4
            have hlv4 := hlv2.ext E4
            clear R0 R1 R2 R3 S0 S1 S2 S3 F0 F1 F2 F3 G0 G1 G2 G3 lR3 lF3 bR2 bF2
            have hwd2 : (ByteArray.mk #[32, 110, 111, 116, 32]).data.toList = wNot := rfl
            rw [hwd2, HQ2.out] at ho
            cases hv2 : rwrd wNot (s.size + 1) r2 with
            | none =>
              rw [hv2] at ho
              obtain ⟨pp, rfl⟩ := ho
              have hfin : rline (s.size + 1) r = none := by rw [HRL3.out]; unfold rtail; rw [HV.out]; simp only; rw [hv2]
              have HF := hid hfin
              clear hfin hv2
              obtain ⟨lR, R0, R1, R2, R3, S0, S1, S2, S3⟩ := bR4
              obtain ⟨lF, F0, F1, F2, F3, G0, G1, G2, G3⟩ := bF4
              go_wp2
              refine bodyPost_ret (v := .tuple #[.agg #[.int .i64 x, .int .i64 y, .slice vo X.length vc, .slice none 0 0], .int .i64 pp, .bool false]) (by simp [results, Tryd.results15, go_sem, R0, R1, R2, R3]) rfl ⟨?_, x, y, X, [], _, _, _, by rw [HF.out]; rfl, ?_, LBnil _ _, fun f rest h => by rw [HF.out] at h; cases h⟩
              · have hF : w.heap.size ≤ w.heap.size + 1 := by omega
                exact (((((EW4.setCell (p := ⟨w.heap.size + 1, 3, none⟩) hF _).setCell (Nat.le_refl _) _).setCell (Nat.le_refl _) _).setCell (Nat.le_refl _) _).setCell (Nat.le_refl _) _)
              · have hb : ∀ i, (⟨w.heap.size, i, none⟩ : Addr).block < w.heap.size + 2 := fun i => by simp
                exact (((((hlv4.setCell (p := ⟨w.heap.size + 1, 3, none⟩) (by simp) _).setCell (hb 0) _).setCell (hb 1) _).setCell (hb 2) _).setCell (hb 3) _).mono (by omega)
            | some o2 =>
              obtain ⟨Y, r3⟩ := o2
              rw [hv2] at ho
              obtain ⟨no, nc, q3, rfl, hln, hq3, hq4⟩ := ho
              have HV2 := hid hv2
              have HQ4 := hid hq4
              clear hv2 hq4
              have hq3s : q3 ≤ s.size := by omega
              have hsz4 : w.heap.size + 2 ≤ (w3.setCell ⟨w.heap.size + 1, 2, none⟩ (.slice vo X.length vc)).heap.size := by have := E3.size; simp at this; simp; omega
              have hln4 := hln.mono hsz4
              have hrl4 : rline (s.size + 1) r = if s.data.toList[q3]? = some 10 then some (⟨x, y, X, Y⟩, s.data.toList.drop (q3 + 1)) else none := by
                rw [HRL3.out]; unfold rtail; rw [HV.out]; simp only; rw [HV2.out]; simp only; rw [← HQ4.out, head_drop, List.tail_drop]
              have HRL4 := hid hrl4
              clear hrl4
              have hF : w.heap.size ≤ w.heap.size + 1 := by omega
              have hb : ∀ i, (⟨w.heap.size, i, none⟩ : Addr).block < w.heap.size + 2 := fun i => by simp
              obtain ⟨lR, R0, R1, R2, R3, S0, S1, S2, S3⟩ := bR4
              obtain ⟨lF, F0, F1, F2, F3, G0, G1, G2, G3⟩ := bF4
              by_cases hq5 : q3 < s.size
              · have hb0 := byte_at hq5
                have hc5 := (s[q3]).toNat_lt
                generalize hcc5 : s[q3] = c5 at hb0 hc5
                have HB5 := hid hb0
                clear hb0
                have i5 : (q3 : Int) < (s.size : Int) := by omega
                by_cases h10 : c5 = 10
                · have j5 : ((c5.toNat : Int) != 10) = false := by rw [h10]; rfl
                  have hfin : rline (s.size + 1) r = some (⟨x, y, X, Y⟩, s.data.toList.drop (q3 + 1)) := by rw [HRL4.out, HB5.out, h10, if_pos rfl]
                  have HF := hid hfin
                  clear hfin h10
                  go_wp2
                  refine bodyPost_ret (v := .tuple #[.agg #[.int .i64 x, .int .i64 y, .slice vo X.length vc, .slice no Y.length nc], .int .i64 (q3 + 1 : Nat), .bool true]) (by simp [results, Tryd.results15, go_sem, R0, R1, R2, R3]) rfl ⟨?_, x, y, X, Y, _, _, _, by rw [HF.out]; rfl, ?_, ?_, fun f rest h => ?_⟩
                  · exact (((((EW4.setCell (p := ⟨w.heap.size + 1, 3, none⟩) hF _).setCell (Nat.le_refl _) _).setCell (Nat.le_refl _) _).setCell (Nat.le_refl _) _).setCell (Nat.le_refl _) _)
                  · exact (((((hlv4.setCell (p := ⟨w.heap.size + 1, 3, none⟩) (by simp) _).setCell (hb 0) _).setCell (hb 1) _).setCell (hb 2) _).setCell (hb 3) _).mono (by omega)
                  · exact (((((hln4.setCell (p := ⟨w.heap.size + 1, 3, none⟩) (by simp) _).setCell (hb 0) _).setCell (hb 1) _).setCell (hb 2) _).setCell (hb 3) _).mono (by omega)
                  · rw [HF.out] at h
                    cases h
                    exact ⟨rfl, q3 + 1, rfl, by omega, rfl⟩
                · have j5 : ((c5.toNat : Int) != 10) = true := by
                    simp only [bne_iff_ne]
                    intro e
                    exact h10 (UInt8.toNat_inj.1 (by have h6 : (10 : UInt8).toNat = 10 := rfl; omega))
                  have hfin : rline (s.size + 1) r = none := by rw [HRL4.out, HB5.out, if_neg (fun e => h10 (by cases e; rfl))]
                  have HF := hid hfin
                  clear hfin h10
                  go_wp2
                  refine bodyPost_ret (v := .tuple #[.agg #[.int .i64 x, .int .i64 y, .slice vo X.length vc, .slice no Y.length nc], .int .i64 q3, .bool false]) (by simp [results, Tryd.results15, go_sem, R0, R1, R2, R3]) rfl ⟨?_, x, y, X, Y, _, _, _, by rw [HF.out]; rfl, ?_, ?_, fun f rest h => by rw [HF.out] at h; cases h⟩
                  · exact (((((EW4.setCell (p := ⟨w.heap.size + 1, 3, none⟩) hF _).setCell (Nat.le_refl _) _).setCell (Nat.le_refl _) _).setCell (Nat.le_refl _) _).setCell (Nat.le_refl _) _)
                  · exact (((((hlv4.setCell (p := ⟨w.heap.size + 1, 3, none⟩) (by simp) _).setCell (hb 0) _).setCell (hb 1) _).setCell (hb 2) _).setCell (hb 3) _).mono (by omega)
                  · exact (((((hln4.setCell (p := ⟨w.heap.size + 1, 3, none⟩) (by simp) _).setCell (hb 0) _).setCell (hb 1) _).setCell (hb 2) _).setCell (hb 3) _).mono (by omega)
              · have i5 : ¬ (q3 : Int) < (s.size : Int) := by omega
                have hfin : rline (s.size + 1) r = none := by rw [HRL4.out, if_neg (fun e => by have := (List.getElem?_eq_some_iff.1 e).1; omega)]
                have HF := hid hfin
                clear hfin
                go_wp2
                refine bodyPost_ret (v := .tuple #[.agg #[.int .i64 x, .int .i64 y, .slice vo X.length vc, .slice no Y.length nc], .int .i64 q3, .bool false]) (by simp [results, Tryd.results15, go_sem, R0, R1, R2, R3]) rfl ⟨?_, x, y, X, Y, _, _, _, by rw [HF.out]; rfl, ?_, ?_, fun f rest h => by rw [HF.out] at h; cases h⟩
                · exact (((((EW4.setCell (p := ⟨w.heap.size + 1, 3, none⟩) hF _).setCell (Nat.le_refl _) _).setCell (Nat.le_refl _) _).setCell (Nat.le_refl _) _).setCell (Nat.le_refl _) _)
                · exact (((((hlv4.setCell (p := ⟨w.heap.size + 1, 3, none⟩) (by simp) _).setCell (hb 0) _).setCell (hb 1) _).setCell (hb 2) _).setCell (hb 3) _).mono (by omega)
                · exact (((((hln4.setCell (p := ⟨w.heap.size + 1, 3, none⟩) (by simp) _).setCell (hb 0) _).setCell (hb 1) _).setCell (hb 2) _).setCell (hb 3) _).mono (by omega)
      · have j1 : ((c.toNat : Int) != 62) = true := by
          simp only [bne_iff_ne]
          intro e
          exact h62 (UInt8.toNat_inj.1 (by have h5 : (62 : UInt8).toNat = 62 := rfl; omega))
        have hfin : rline (s.size + 1) r = none := by rw [HRL.out, HRD.out, if_neg (fun e => h62 (by cases e; rfl))]
        have HF := hid hfin
        clear hfin h62
        go_enter Tryd.func15, Tryd.ntmps15
        go_wp2_with (go_at_call 27; refine (number_any s a _ hs ha).mono ?_; rintro e w2 ⟨he, rfl⟩; rw [← HRR.out, e1, e2, HN.out] at he; subst he)
        refine bodyPost_ret (v := .tuple #[.agg #[.int .i64 x, .int .i64 0, .slice none 0 0, .slice none 0 0], .int .i64 (a + d : Nat), .bool false]) (by simp [results, Tryd.results15, go_sem]) rfl ⟨((Ext.refl w).alloc _).alloc _, x, 0, [], [], _, _, _, by rw [HF.out]; rfl, LBnil _ _, LBnil _ _, fun f rest h => by rw [HF.out] at h; cases h⟩
    · have i4 : ¬ (a : Int) + (d : Int) < (s.size : Int) := by omega
      have hfin : rline (s.size + 1) r = none := by rw [HRL.out, if_neg (fun e => by have := (List.getElem?_eq_some_iff.1 e).1; omega)]
      have HF := hid hfin
      clear hfin
      go_enter Tryd.func15, Tryd.ntmps15
      go_wp2_with (go_at_call 27; refine (number_any s a _ hs ha).mono ?_; rintro e w2 ⟨he, rfl⟩; rw [← HRR.out, e1, e2, HN.out] at he; subst he)
      refine bodyPost_ret (v := .tuple #[.agg #[.int .i64 x, .int .i64 0, .slice none 0 0, .slice none 0 0], .int .i64 (a + d : Nat), .bool false]) (by simp [results, Tryd.results15, go_sem]) rfl ⟨((Ext.refl w).alloc _).alloc _, x, 0, [], [], _, _, _, by rw [HF.out]; rfl, LBnil _ _, LBnil _ _, fun f rest h => by rw [HF.out] at h; cases h⟩

end Go.Proofs.YtbfgioinjggkkaaDoor
