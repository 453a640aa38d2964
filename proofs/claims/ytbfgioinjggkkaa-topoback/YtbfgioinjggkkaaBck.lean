/- TopoBack answers true, for every net, list and number; nothing that was there is changed. -/
import Derived.Test.YtbfgioinjggkkaaOpn
import Derived.Test.YtbfgioinjggkkaaM4
namespace Go.Proofs.Ytbfgioinjggkkaa
open Go.RowKit Go.Maps Stw

theorem rev_snoc {ps : List Int} {k : Nat} (h : k < ps.length) : ps.reverse.take (k + 1) = ps.reverse.take k ++ [ps.getD (ps.length - 1 - k) 0] := by
  rw [List.take_succ_eq_append_getElem (by simpa using h), List.getElem_reverse, getD_at (by omega)]

set_option maxHeartbeats 4000000 in
theorem back_any (n at0 : Int) (ao po : Option Addr) (len cap pl pc : Nat) (ls : List Lk) (ps : List Int) (w : World) (hlen : ls.length = len) (hl : NetAt w ao ls) (hx : len ≤ 9223372036854775807)
    (hpl : ps.length = pl) (hpx : pl * 8 ≤ 140737488351232) (hp : ListAt w po ps) (hi : ∀ x ∈ ps, I64 x) (hpc : pl ≤ pc) (hpm : pc ≤ 9223372036854775807) :
    Calls Try.prog 5 #[.agg #[.int .i64 n, .slice ao len cap], .slice po pl pc, .int .i64 at0] w fun e w' => e = .returned (.bool true) ∧ Ext w w' := by
  have hfd := fldErr
  go_enter Try.func5, Try.ntmps5
  go_wp2_with fail
  refine (alive_any _).mono ?_; rintro e w1 ⟨rfl, hb1⟩
  have hs1 : w.heap.size < w1.heap.size := by have := hb1.size; simp at this; omega
  have hw1 : Ext w w1 := ((Ext.refl w).alloc _).trans hb1
  have c0 : w1.cell? ⟨w.heap.size, 0, none⟩ = some (.int .i64 n) := (hb1.cells.1 _ _ (by simp)).trans (by simp)
  have c1 : w1.cell? ⟨w.heap.size, 1, none⟩ = some (.slice ao len cap) := (hb1.cells.1 _ _ (by simp)).trans (by simp)
  go_wp2_with fail
  refine (Length_any n ao po len cap pl pc ls ps _ hlen (hl.ext hw1) hx hpl hpx (hp.ext hw1) hi).mono ?_
  rintro e w2 ⟨rfl, hb2⟩
  have hs2 : w.heap.size < w2.heap.size := by have := hb2.size; omega
  have hw2 : Ext w w2 := hw1.trans hb2
  have d0 := (hb2.cells.1 _ _ hs1).trans c0
  have d1 := (hb2.cells.1 _ _ hs1).trans c1
  clear c0 c1
  go_wp2_with fail
  refine (Wrong_any n ao len cap ls _ hlen (hl.ext hw2) hx).mono ?_
  rintro e w3 ⟨rfl, hb3⟩
  have hs3 : w.heap.size < w3.heap.size := by have := hb3.size; omega
  have hw3 : Ext w w3 := hw2.trans hb3
  have e0 := (hb3.cells.1 _ _ hs2).trans d0
  have e1 := (hb3.cells.1 _ _ hs2).trans d1
  clear d0 d1
  cases hok : (lengthOf n ls ps).2
  · cases hwr : ((wrong n ls).1 != 0)
    · go_wp2
      go_ret
      exact ⟨rfl, hw3⟩
    · go_wp2
      go_ret
      exact ⟨rfl, hw3⟩
  · have hwr : ((wrong n ls).1 != 0) = false := by simp [len_right hok]
    have hrev := len_rev hok
    have hrg := len_range (n := n) (ls := ls) (ps := ps)
    have hp0 : 0 < pl := by
      cases ps with
      | nil => simp [lengthOf, pathB] at hok
      | cons a r => simp at hpl; omega
    rcases hp with rfl | ⟨b, off, rfl, hbw, hp⟩
    · simp at hpl; omega
    have HREV : Hid (lengthOf n ls ps.reverse = lengthOf n ls ps) := hrev
    clear hrev
    obtain ⟨i0, hin, hz0, hz1, hz2⟩ := info_parts Try.info3
    go_wp2
    go_loopw [9, 10] (fun v iv wr => ∃ k : Nat, k ≤ pl ∧ iv = .int .i64 ((pl : Int) - 1 - k) ∧ wr.ownsRow w3.heap.size 3 1 v k ((ps.reverse.take k).map (Value.int .i64)) ∧ Ext w3 wr) (fun _ iv _ => (intOf iv + 1).toNat)
    case atStart => exact ⟨0, Nat.zero_le _, by simp, World.ownsRow_nil _ _ _ _, Ext.refl _⟩
    case round =>
      obtain ⟨k, hk, rfl, hown, hext⟩ := hrel
      have hwr' : Ext w wr := hw3.trans hext
      by_cases hlt : k < pl
      · have ce := (hwr'.cells.1 _ _ hbw).trans (hp (pl - 1 - k) (by omega))
        have hbr : b < wr.heap.size := by have := hwr'.size; omega
        have hge : (0 : Int) ≤ (pl : Int) - 1 - k := by omega
        have hsn := rev_snoc (ps := ps) (k := k) (by omega)
        rw [hpl] at hsn
        obtain ⟨x, hx0⟩ : ∃ x, x = ps.getD (pl - 1 - k) 0 := ⟨_, rfl⟩
        rw [← hx0] at ce hsn
        have HS : Hid (ps.reverse.take (k + 1) = ps.reverse.take k ++ [x]) := hsn
        clear hx0 hsn
        go_wp2_with (first | (at_builtin; refine wpList_append_own _ rfl _ _ 25 rfl w3.heap.size 3 i0 (.int .i64 0) 1 8 Try.underlying25 hin hz0 hz1 hz2 rfl (by decide) _ _ _ rfl (hown.alloc _) ⟨wr.heap.size, 0, none⟩ 1 1 [.int .i64 x] rfl rfl ?c1 ?c2 ?c3 ?c4 ?c5 ?_) | go_in)
        case c1 =>
          intro i u hu
          match i, hu with
          | 0, hu => simp at hu; subst hu; exact cell_at rfl _ _
        case c2 => intro u hu; simp at hu; subst hu; rfl
        case c3 => unfold maxLen; omega
        case c4 => omega
        case c5 => have := hext.size; simp; omega
        · intro v' w5 hown5 hg5 _
          clear ce
          go_wp2
          go_roundw
          case rel =>
            refine ⟨k + 1, by omega, by go_num, by rw [HS.out, List.map_append]; simpa using hown5, ?_⟩
            exact Below.grown ((hext).alloc _) hg5 (by have := hext.size; simp; omega) (fun j hj => (hown.lt j hj).1)
          case measure => simp [intOf]; omega
      · have f0 := (hext.cells.1 _ _ hs3).trans e0
        have f1 := (hext.cells.1 _ _ hs3).trans e1
        have hkp : k = pl := by omega
        subst hkp
        have hrt : ps.reverse.take k = ps.reverse := List.take_of_length_le (by simp; omega)
        rw [hrt] at hown
        have hq := hown.2
        rcases hq with ⟨_, hk0⟩ | ⟨g, gc, cur, rfl, _⟩
        · omega
        have hlo := list_of_own hown
        clear hrt e0 e1
        have hs4 : w.heap.size < wr.heap.size := by have := hext.size; omega
        go_wp2_with fail
        refine (Length_any n ao _ len cap k gc ls ps.reverse _ hlen (hl.ext hwr') hx hlo.2 hpx hlo.1 (fun x hx => hi x (by simpa using hx))).mono ?_
        rintro e w4 ⟨he, hb4⟩
        rw [HREV.out, hok] at he
        subst he
        have hw4 := hwr'.trans hb4
        have g0 := (hb4.cells.1 _ _ hs4).trans f0
        have g1 := (hb4.cells.1 _ _ hs4).trans f1
        have hs5 : w.heap.size < w4.heap.size := by have := hb4.size; omega
        clear f0 f1
        by_cases hat : 0 ≤ at0 ∧ at0 < k
        · go_wp2_with fail
          obtain ⟨a, rfl⟩ := Int.eq_ofNat_of_zero_le hat.1
          have ha : a < k := by omega
          have hpar := len_parts (n := n) (ls := ls) (ps := ps) (k := a) hok (by omega)
          have ht1 : (ps.take (a + 1)).length = a + 1 := by simp; omega
          have hd1 : (ps.drop a).length = k - a := by simp; omega
          have hla : ListAt w (some ⟨b, off, none⟩) (ps.take (a + 1)) := Or.inr ⟨b, off, rfl, hbw, fun j hj => by
            rw [hp j (by omega)]; simp [List.getD_eq_getElem?_getD, show j < a + 1 by omega]⟩
          have hld : ListAt w (some ⟨b, off + a, none⟩) (ps.drop a) := Or.inr ⟨b, off + a, rfl, hbw, fun j hj => by
            rw [Nat.add_assoc, hp (a + j) (by omega)]; simp [List.getD_eq_getElem?_getD]⟩
          have HP : Hid ((lengthOf n ls (ps.take (a + 1))).2 = true ∧ (lengthOf n ls (ps.drop a)).2 = true ∧ (lengthOf n ls (ps.take (a + 1))).1 + (lengthOf n ls (ps.drop a)).1 = (lengthOf n ls ps).1) := hpar
          clear hpar ht1 hd1
          have hb1' : (a : Int) + 1 ≤ (pc : Int) := by omega
          have hb2' : ((a : Int) + 1).toNat = a + 1 := by omega
          have hb3' : IntKind.i64.wrap ((a : Int) + 1) = (a : Int) + 1 := by rw [IntKind.wrap_i64]; omega
          have hb4' : (0 : Int) ≤ (a : Int) + 1 := by omega
          go_region_with (go_at_call 12; refine (Length_any n ao _ len cap (a + 1) pc ls (ps.take (a + 1)) _ hlen ?_ hx ?_ ?_ ?_ ?_).mono ?_; exact hl.ext hw4.drew; (simp; omega); omega; exact hla.ext hw4.drew; exact (fun x hx => hi x (List.mem_of_mem_take hx)); rintro e w5 ⟨he, hb5⟩; rw [HP.out.1] at he; subst he)
          have hw5 := hw4.drew.trans hb5
          have k0 := (hb5.cells.1 _ 0 hs5).trans g0
          have k1 := (hb5.cells.1 _ 1 hs5).trans g1
          have hs6 : w.heap.size < w5.heap.size := by have := hb5.size; simp at this; omega
          have hb6' : ¬ pc = a := by omega
          have hb7' : (a : Int) ≤ (k : Int) := by omega
          clear g0 g1 hb3' hb4' hb2' hb1'
          go_wp2
          go_region_with (go_at_call 12; refine (Length_any n ao _ len cap (k - a) (pc - a) ls (ps.drop a) _ hlen ?_ hx ?_ ?_ ?_ ?_).mono ?_; exact hl.ext hw5.drew; (simp; omega); omega; exact hld.ext hw5.drew; exact (fun x hx => hi x (List.mem_of_mem_drop hx)); rintro e w6 ⟨he, hb6⟩; rw [HP.out.2.1] at he; subst he)
          have q1 := len_range (n := n) (ls := ls) (ps := ps.take (a + 1))
          have q2 := len_range (n := n) (ls := ls) (ps := ps.drop a)
          have q3 := HP.out.2.2
          simp only [List.length_take, List.length_drop] at q1 q2
          have q4 : ((lengthOf n ls (ps.take (a + 1))).1 + (lengthOf n ls (ps.drop a)).1 == (lengthOf n ls ps).1) = true := by simpa using q3
          clear q3
          go_wp2
          go_ret
          exact ⟨rfl, hw5.drew.trans hb6⟩
        · have hat2 : at0 < 0 ∨ (k : Int) ≤ at0 := by omega
          clear hat
          rcases hat2 with hat2 | hat2
          · go_wp2
            go_ret
            exact ⟨rfl, hw4⟩
          · have hat3 : ¬ at0 < 0 := by omega
            go_wp2
            go_ret
            exact ⟨rfl, hw4⟩

end Go.Proofs.Ytbfgioinjggkkaa
