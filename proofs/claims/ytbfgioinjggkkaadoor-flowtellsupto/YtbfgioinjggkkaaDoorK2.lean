/- What the document's own list answers, for every text, place and word; nothing that was there is changed. -/
import Derived.Test.YtbfgioinjggkkaaDoorK1
namespace Go.Proofs.YtbfgioinjggkkaaDoor
open Go.RowKit Go.Maps Stf Go.Sort

def rgo : Nat → Bs → Option (List Int × Bs)
  | 0, _ => none
  | n + 1, r => match num (tw r) with
    | none => none
    | some x => match r.drop (tw r).length with
      | [] => some ([x], [])
      | c :: t => if c = 44 then (rgo n t).map (fun q => (x :: q.1, q.2)) else some ([x], c :: t)
def pfx (acc : List Int) (o : Option (List Int × Bs)) : Option (List Int × Bs) := o.map (fun q => (acc ++ q.1, q.2))
theorem pfx_pfx (a b : List Int) (o : Option (List Int × Bs)) : pfx a (pfx b o) = pfx (a ++ b) o := by cases o <;> simp [pfx]
theorem rgo_bad {n : Nat} {r : Bs} (h : num (tw r) = none) : rgo (n + 1) r = none := by rw [rgo, h]
theorem rgo_end {n : Nat} {r : Bs} {x : Int} (h : num (tw r) = some x) (h2 : ∀ c, r[(tw r).length]? = some c → c ≠ 44) : rgo (n + 1) r = some ([x], r.drop (tw r).length) := by
  rw [rgo, h]
  simp only
  cases hd : r.drop (tw r).length with
  | nil => rfl
  | cons c t =>
    have hc : r[(tw r).length]? = some c := by
      have := List.getElem?_drop (xs := r) (i := (tw r).length) (j := 0)
      rw [hd] at this
      simpa using this.symm
    simp only
    rw [if_neg (h2 c hc)]
theorem rgo_more {n : Nat} {r : Bs} {x : Int} (h : num (tw r) = some x) (h2 : r[(tw r).length]? = some 44) : rgo (n + 1) r = pfx [x] (rgo n (r.drop ((tw r).length + 1))) := by
  rw [rgo, h]
  simp only
  cases hd : r.drop (tw r).length with
  | nil =>
    have := List.getElem?_drop (xs := r) (i := (tw r).length) (j := 0)
    rw [hd, Nat.add_zero, h2] at this
    cases this
  | cons c t =>
    have hc : some c = some 44 := by
      have := List.getElem?_drop (xs := r) (i := (tw r).length) (j := 0)
      rw [hd, Nat.add_zero, h2] at this
      simpa using this
    cases hc
    simp only
    rw [← List.drop_drop, hd, if_pos trivial]
    rfl
theorem tw_le (r : Bs) : (tw r).length ≤ r.length := (List.takeWhile_prefix _).length_le

/-- What list hands back. -/
def LOut (B : Nat) (w' : World) (e : Ending) (l : Bs) : Option (List Int × Bs) → Prop
  | none => ∃ p : Int, e = .returned (.tuple #[.slice none 0 0, .int .i64 p, .bool false])
  | some (xs, rest) => ∃ o c, ∃ q : Nat, e = .returned (.tuple #[.slice o xs.length c, .int .i64 q, .bool true]) ∧ LB B w' xs (.slice o xs.length c) ∧ q ≤ l.length ∧ l.drop q = rest

theorem ext_len {s : ByteArray} {a n : Nat} : (s.extract a (a + n)).data.toList = (s.data.toList.drop a).take n := by
  rw [Lib.extract_data]
  congr 1
  omega

set_option maxHeartbeats 2000000 in
theorem list_no (s word : ByteArray) (a : Nat) (w : World) (hs : s.size ≤ 1000000) (ha : a ≤ s.size) (hw : word.size ≤ 5) (hno : ¬ word.data.toList <+: s.data.toList.drop a) :
    Calls Tryd.prog 28 #[.string s, .int .i64 a, .string word] w fun e w' => e = .returned (.tuple #[.slice none 0 0, .int .i64 a, .bool true]) ∧ w' = w := by
  by_cases h1 : s.size < a + word.size
  · have i1 : (s.size : Int) < (a : Int) + (word.size : Int) := by omega
    go_enter Tryd.func28, Tryd.ntmps28
    go_wp2
    go_ret3
    exact ⟨rfl, rfl⟩
  · have i1 : ¬ (s.size : Int) < (a : Int) + (word.size : Int) := by omega
    have hneb : ((s.extract a (a + word.size)).toList == word.toList) = false := by
      rw [beq_eq_false_iff_ne, Lib.toList_data, Lib.toList_data, ext_len]
      intro e
      exact hno (by rw [← e]; exact List.take_prefix _ _)
    go_enter Tryd.func28, Tryd.ntmps28
    go_wp2
    go_ret3
    exact ⟨rfl, rfl⟩

set_option maxRecDepth 100000 in
set_option maxHeartbeats 4000000 in
theorem list_yes (s word : ByteArray) (a : Nat) (w : World) (hs : s.size ≤ 1000000) (hw : word.size ≤ 5) (hyes : word.data.toList <+: s.data.toList.drop a) (ha : a ≤ s.size) :
    Calls Tryd.prog 28 #[.string s, .int .i64 a, .string word] w fun e w' => Ext w w' ∧ LOut w.heap.size w' e s.data.toList (rgo (s.size + 1) (s.data.toList.drop (a + word.size))) := by
  obtain ⟨i3, hi3, hz0, hz1, hz2⟩ := info_parts Tryd.info3
  have hl : s.data.toList.length = s.size := (Lib.size_eq s).symm
  have hlen := hyes.length_le
  rw [List.length_drop, hl, ← Lib.size_eq] at hlen
  have i1 : ¬ (s.size : Int) < (a : Int) + (word.size : Int) := by omega
  have heqb : ((s.extract a (a + word.size)).toList == word.toList) = true := by
    rw [beq_iff_eq, Lib.toList_data, Lib.toList_data, ext_len, Lib.size_eq word]
    exact (List.prefix_iff_eq_take.1 hyes).symm
  clear hyes
  go_enter Tryd.func28, Tryd.ntmps28
  go_wp2
  clear heqb
  go_loopw [1, 9] (fun av ov wr => ∃ (p n : Nat) (acc : List Int), p ≤ s.size ∧ av = .int .i64 p ∧ acc.length ≤ p ∧ s.size - p ≤ n ∧ rgo (s.size + 1) (s.data.toList.drop (a + word.size)) = pfx acc (rgo (n + 1) (s.data.toList.drop p)) ∧ wr.ownsRow w.heap.size 3 1 ov acc.length (acc.map (Value.int .i64)) ∧ Ext w wr) (fun av _ _ => s.size - (intOf av).toNat)
  case atStart =>
    refine ⟨a + word.size, s.size, [], by omega, by congr 1, by simp, by omega, ?_, World.ownsRow_nil _ _ _ _, Ext.refl _⟩
    cases rgo (s.size + 1) (s.data.toList.drop (a + word.size)) <;> simp [pfx]
  case round =>
    obtain ⟨p, n, acc, hp, rfl, hacc, hn, hrg, hown, hext⟩ := hrel
    have HG := hid hrg
    clear hrg
    obtain ⟨r, hr⟩ : ∃ r, r = s.data.toList.drop p := ⟨_, rfl⟩
    have hrl : r.length = s.size - p := by rw [hr, List.length_drop, hl]
    have HRR := hid hr
    clear hr
    have htl := tw_le r
    cases hnum : num (tw r) with
    | none =>
      have HN := hid hnum
      have e1 : numV (tw r) = 0 := by simp [numV, hnum]
      have e2 : rEnd r p = p := by simp [rEnd, hnum]
      clear hnum
      go_wp2_with (go_at_call 27; refine (number_any s p _ hs hp).mono ?_; rintro e w2 ⟨he, rfl⟩; rw [← HRR.out, e1, e2, HN.out] at he; subst he)
      go_ret3
      refine ⟨hext, ?_⟩
      rw [HG.out, ← HRR.out, rgo_bad HN.out]
      exact ⟨_, rfl⟩
    | some x =>
      have HN := hid hnum
      have e1 : numV (tw r) = x := by simp [numV, hnum]
      have e2 : rEnd r p = p + (tw r).length := by simp [rEnd, hnum]
      have htw1 : 1 ≤ (tw r).length := by
        rcases Nat.eq_zero_or_pos (tw r).length with h0 | h0
        · have hb : badNum (tw r) = true := decide_eq_true (Or.inl (by omega))
          rw [num_bad hb] at hnum
          cases hnum
        · exact h0
      clear hnum
      obtain ⟨d, hd⟩ : ∃ d, d = (tw r).length := ⟨_, rfl⟩
      rw [← hd] at e2 htw1 htl
      have HD := hid hd
      clear hd
      by_cases hq : p + d < s.size
      · have hb0 := byte_at hq
        have hc := (s[p + d]).toNat_lt
        generalize hcc : s[p + d] = c at hb0 hc
        have hrd : r[d]? = some c := by rw [HRR.out, List.getElem?_drop]; exact hb0
        have HRD := hid hrd
        clear hb0 hrd
        have i4 : (p : Int) + (d : Int) < (s.size : Int) := by omega
        by_cases h44 : c = 44
        · have j1 : ((c.toNat : Int) != 44) = false := by rw [h44]; rfl
          have H44 := hid h44
          clear h44
          go_wp2_with (first | (go_at_call 27; refine (number_any s p _ hs hp).mono ?_; rintro e w2 ⟨he, rfl⟩; rw [← HRR.out, e1, e2, HN.out] at he; subst he) | (at_builtin; refine wpList_append_own _ rfl _ _ 36 rfl w.heap.size 3 i3 (.int .i64 0) 1 8 Tryd.underlying36 hi3 hz0 hz1 hz2 rfl (by decide) _ _ _ rfl (hown.alloc _) ⟨w2.heap.size, 0, none⟩ 1 1 [.int .i64 x] rfl rfl ?c1 ?c2 ?c3 ?c4 ?c5 ?_) | go_in)
          case c1 =>
            intro i u hu
            match i, hu with
            | 0, hu => simp at hu; subst hu; exact cell_at rfl _ _
          case c2 => intro u hu; simp at hu; subst hu; rfl
          case c3 => unfold maxLen; omega
          case c4 => omega
          case c5 => have := hext.size; simp; omega
          · intro v' w5 hown5 hg5 _
            have hext5 : Ext w w5 := Below.grown ((hext).alloc _) hg5 (by have := hext.size; simp; omega) (fun j hj => (hown.lt j hj).1)
            have hown6 : w5.ownsRow w.heap.size 3 1 v' (acc ++ [x]).length ((acc ++ [x]).map (Value.int .i64)) := by rw [List.map_append, List.length_append]; simpa using hown5
            go_wp2
            refine ⟨⟨p + d + 1, n - 1, acc ++ [x], by omega, by congr 1, by simp; omega, by omega, ?_, hown6, hext5⟩, by simp only [intOf]; omega⟩
            have hn1 : n - 1 + 1 = n := by omega
            rw [HG.out, ← HRR.out, rgo_more HN.out (by rw [← HD.out, HRD.out, H44.out]), pfx_pfx, hn1, HRR.out, List.drop_drop, ← HRR.out, ← HD.out]
            rfl
        · have j1 : ((c.toNat : Int) != 44) = true := by
            simp only [bne_iff_ne]
            intro e
            exact h44 (UInt8.toNat_inj.1 (by have h5 : (44 : UInt8).toNat = 44 := rfl; omega))
          have H44 := hid h44
          clear h44
          go_wp2_with (first | (go_at_call 27; refine (number_any s p _ hs hp).mono ?_; rintro e w2 ⟨he, rfl⟩; rw [← HRR.out, e1, e2, HN.out] at he; subst he) | (at_builtin; refine wpList_append_own _ rfl _ _ 36 rfl w.heap.size 3 i3 (.int .i64 0) 1 8 Tryd.underlying36 hi3 hz0 hz1 hz2 rfl (by decide) _ _ _ rfl (hown.alloc _) ⟨w2.heap.size, 0, none⟩ 1 1 [.int .i64 x] rfl rfl ?c1 ?c2 ?c3 ?c4 ?c5 ?_) | go_in)
          case c1 =>
            intro i u hu
            match i, hu with
            | 0, hu => simp at hu; subst hu; exact cell_at rfl _ _
          case c2 => intro u hu; simp at hu; subst hu; rfl
          case c3 => unfold maxLen; omega
          case c4 => omega
          case c5 => have := hext.size; simp; omega
          · intro v' w5 hown5 hg5 _
            have hext5 : Ext w w5 := Below.grown ((hext).alloc _) hg5 (by have := hext.size; simp; omega) (fun j hj => (hown.lt j hj).1)
            have hown6 : w5.ownsRow w.heap.size 3 1 v' (acc ++ [x]).length ((acc ++ [x]).map (Value.int .i64)) := by rw [List.map_append, List.length_append]; simpa using hown5
            have HEND := hid (rgo_end (n := n) HN.out (fun c' hc' => by rw [← HD.out, HRD.out] at hc'; cases hc'; exact H44.out))
            rcases hown6.2 with ⟨rfl, hz⟩ | ⟨g, gc, cur, rfl, _, _, hgc, _⟩
            · simp at hz
            · have hlo := lb_of_own hown6 (Nat.le_refl _) rfl hgc
              go_wp2
              go_ret3
              refine ⟨hext5, ?_⟩
              have hfin : pfx acc (some ([x], r.drop (tw r).length)) = some (acc ++ [x], s.data.toList.drop (p + d)) := by
                rw [← HD.out]
                show some (acc ++ [x], r.drop d) = _
                rw [HRR.out, List.drop_drop]
              rw [HG.out, ← HRR.out, HEND.out, hfin]
              exact ⟨some ⟨g, 0, none⟩, gc, p + d, by rw [List.length_append]; rfl, hlo, by omega, rfl⟩
      · have i4 : ¬ (p : Int) + (d : Int) < (s.size : Int) := by omega
        go_wp2_with (first | (go_at_call 27; refine (number_any s p _ hs hp).mono ?_; rintro e w2 ⟨he, rfl⟩; rw [← HRR.out, e1, e2, HN.out] at he; subst he) | (at_builtin; refine wpList_append_own _ rfl _ _ 36 rfl w.heap.size 3 i3 (.int .i64 0) 1 8 Tryd.underlying36 hi3 hz0 hz1 hz2 rfl (by decide) _ _ _ rfl (hown.alloc _) ⟨w2.heap.size, 0, none⟩ 1 1 [.int .i64 x] rfl rfl ?c1 ?c2 ?c3 ?c4 ?c5 ?_) | go_in)
        case c1 =>
          intro i u hu
          match i, hu with
          | 0, hu => simp at hu; subst hu; exact cell_at rfl _ _
        case c2 => intro u hu; simp at hu; subst hu; rfl
        case c3 => unfold maxLen; omega
        case c4 => omega
        case c5 => have := hext.size; simp; omega
        · intro v' w5 hown5 hg5 _
          have hext5 : Ext w w5 := Below.grown ((hext).alloc _) hg5 (by have := hext.size; simp; omega) (fun j hj => (hown.lt j hj).1)
          have hown6 : w5.ownsRow w.heap.size 3 1 v' (acc ++ [x]).length ((acc ++ [x]).map (Value.int .i64)) := by rw [List.map_append, List.length_append]; simpa using hown5
          have HEND := hid (rgo_end (n := n) HN.out (fun c' hc' => by have := (List.getElem?_eq_some_iff.1 hc').1; rw [← HD.out] at this; omega))
          rcases hown6.2 with ⟨rfl, hz⟩ | ⟨g, gc, cur, rfl, _, _, hgc, _⟩
          · simp at hz
          · have hlo := lb_of_own hown6 (Nat.le_refl _) rfl hgc
            go_wp2
            go_ret3
            refine ⟨hext5, ?_⟩
            have hfin : pfx acc (some ([x], r.drop (tw r).length)) = some (acc ++ [x], s.data.toList.drop (p + d)) := by
              rw [← HD.out]
              show some (acc ++ [x], r.drop d) = _
              rw [HRR.out, List.drop_drop]
            rw [HG.out, ← HRR.out, HEND.out, hfin]
            exact ⟨some ⟨g, 0, none⟩, gc, p + d, by rw [List.length_append]; rfl, hlo, by omega, rfl⟩

end Go.Proofs.YtbfgioinjggkkaaDoor
