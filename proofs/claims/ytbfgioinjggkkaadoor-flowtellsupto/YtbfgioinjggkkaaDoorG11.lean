/- What writeList writes, for every list; nothing else that was there is changed. -/
import Derived.Test.YtbfgioinjggkkaaDoorG10
import Derived.Test.YtbfgioinjggkkaaDoorF3
import Derived.Lib.AppendIntMem
import Derived.Lib.OthersKept
namespace Go.Proofs.YtbfgioinjggkkaaDoor
open Go.RowKit Go.Maps Stf

/-- A Builder that holds these bytes. -/
def Bd (B b : Nat) (acc : Bs) (w : World) : Prop := Lib.IsBuilderF 51 5 B b (Lib.byteCells acc) w
theorem Bd.lt {B b : Nat} {acc : Bs} {w : World} (h : Bd B b acc w) : B ≤ b ∧ b < w.heap.size := by
  rcases h with h | h
  · exact ⟨h.1, h.lt⟩
  · exact ⟨h.1, h.lt⟩
theorem bdat_ext {T e : TypeId} {B b : Nat} {p : Value} {bs : List Value} {w w' : World} (h : Lib.BuilderAtF T e B b p bs w) (k : Ext w w') : Lib.BuilderAtF T e B b p bs w' := by
  have hlt := h.lt
  obtain ⟨hB, v, h1, ⟨h2, h3⟩, h4⟩ := h
  refine ⟨hB, v, (Below.block k b hlt).trans h1, ⟨h2, ?_⟩, h4⟩
  rcases h3 with h3 | ⟨g, cap, cur, fz, e1, e2, e3, e4⟩
  · exact Or.inl h3
  · exact Or.inr ⟨g, cap, cur, fz, e1, e2, (Below.block k g (Array.getElem?_eq_some_iff.1 e3).1).trans e3, e4⟩
theorem Bd.ext {B b : Nat} {acc : Bs} {w w' : World} (h : Bd B b acc w) (k : Ext w w') : Bd B b acc w' := by
  rcases h with h | h
  · exact Or.inl (bdat_ext h k)
  · exact Or.inr (bdat_ext h k)
theorem kept_ext {e : TypeId} {b : Option Nat} {w w' : World} (k : Ext w w') : Lib.OthersKept e b w w' := fun i _ h _ _ => (Below.block k i (Array.getElem?_eq_some_iff.1 h).1).trans h
/-- What writing leaves: all below, and all that is no byte. -/
def Wr (B b : Nat) (w w' : World) : Prop := Below B w w' ∧ Lib.OthersKept 5 (some b) w w'
theorem Wr.refl (B b : Nat) (w : World) : Wr B b w w := ⟨Below.refl _ _, Lib.OthersKept.refl _ _ _⟩
theorem Wr.trans {B b : Nat} {x y z : World} (h : Wr B b x y) (k : Wr B b y z) : Wr B b x z := ⟨h.1.trans k.1, h.2.trans k.2⟩
theorem Wr.ext {B b : Nat} {x y z : World} (h : Wr B b x y) (k : Ext y z) (hB : B ≤ y.heap.size) : Wr B b x z := h.trans ⟨Below.mono k hB, kept_ext k⟩
theorem write_bd (B b : Nat) (acc : Bs) (s : ByteArray) (w : World) (h : Bd B b acc w) (hlen : acc.length + s.size ≤ 140737488355328) :
    Calls Tryd.prog 20 #[.pointer (some ⟨b, 0, none⟩), .string s] w fun e w' => e = .returned (.tuple #[.int .i64 s.size, .nilIface]) ∧ Bd B b (acc ++ s.data.toList) w' ∧ Wr B b w w' := by
  have hl := h.lt
  refine (Tryd.write_any B b _ s w h (by rw [Lib.byteCells_length]; exact hlen) (by omega)).mono ?_
  rintro e w' ⟨rfl, h1, h2, h3⟩
  refine ⟨rfl, Or.inr ?_, h2, h3⟩
  rw [Lib.byteCells_append]
  exact h1
def Tab (w : World) : Prop := Lib.TabIs Tryd.prog w "internal/strconv.uint64pow10" .u64 Lib.pow10Tab
theorem itoa_bd (n : Int) (w : World) (hn : I64 n) (ht : Tab w) :
    Calls Tryd.prog 21 #[.int .i64 n] w fun e w' => ∃ s : ByteArray, e = .returned (.string s) ∧ s.data.toList = Lib.itoa n ∧ s.size ≤ 21 ∧ Ext w w' := by
  have hr := Joins.in64_of_wf hn
  refine (Tryd.itoa_any n hr.1 hr.2 w ht).mono ?_
  rintro e w' ⟨rfl, k, os, rfl⟩
  have h1 := Lib.itoa_length_le n hr.1 hr.2
  refine ⟨_, rfl, by simp, ?_, Lib.below_grow _ _ (Nat.le_refl _) _ _⟩
  rw [Lib.size_eq]
  exact h1

theorem take_ne {L : List Int} {k : Nat} (h : k ≠ 0) (hk : k ≤ L.length) : ∃ y r, L.take k = y :: r := by
  cases L with
  | nil => simp at hk; exact absurd hk h
  | cons y r =>
    obtain ⟨m, rfl⟩ : ∃ m, k = m + 1 := ⟨k - 1, by omega⟩
    exact ⟨y, r.take m, rfl⟩

set_option maxHeartbeats 2000000 in
theorem writeList_any (B b : Nat) (acc : Bs) (word : ByteArray) (lo : Option Addr) (lc len : Nat) (L : List Int) (w : World) (hb : Bd B b acc w) (hT : ∀ w', Below B w w' → Tab w') (hL : ∀ w', Below B w w' → ListAt w' lo L) (hI : ∀ x ∈ L, I64 x)
    (hlen : L.length = len) (hwd : word.size ≤ 5) (hsm : acc.length + len * 26 ≤ 140737488355328) :
    Calls Tryd.prog 22 #[.pointer (some ⟨b, 0, none⟩), .string word, .slice lo len lc] w fun e w' => e = .returned (.tuple #[]) ∧ Bd B b (acc ++ txtL word.data.toList L) w' ∧ Wr B b w w' := by
  have hwl : word.data.toList.length ≤ 5 := by rw [← Lib.size_eq]; exact hwd
  have hIl : ∀ x ∈ L, (Lib.itoa x).length ≤ 21 := fun x hx => by have := Joins.in64_of_wf (hI x hx); exact Lib.itoa_length_le x this.1 this.2
  go_enter Tryd.func22, Tryd.ntmps22
  go_wp2
  go_loopw [10] (fun iv wr => ∃ k : Nat, k ≤ len ∧ iv = .int .i64 k ∧ Bd B b (acc ++ txtL word.data.toList (L.take k)) wr ∧ Wr B b w wr) (fun iv _ => len - (intOf iv).toNat)
  case atStart => exact ⟨0, Nat.zero_le _, rfl, by simpa [txtL] using hb, Wr.refl _ _ _⟩
  case round =>
    obtain ⟨k, hk, rfl, hbd, hwr⟩ := hrel
    have hlt' := hbd.lt
    by_cases hlt : k < len
    · obtain ⟨bk, off, rfl, hbk, hat⟩ : ∃ bk off, lo = some ⟨bk, off, none⟩ ∧ bk < wr.heap.size ∧ IntsAt wr bk off L := by
        rcases hL wr hwr.1 with rfl | h
        · simp at hlen; omega
        · exact h
      have ce := hat k (by omega)
      have hts := hid (take_snocI (L := L) (k := k) (by omega))
      have hmx := hI (L.getD k 0) (by simp [List.getD_eq_getElem?_getD, show k < L.length by omega])
      obtain ⟨x, hxx⟩ : ∃ x, x = L.getD k 0 := ⟨_, rfl⟩
      rw [← hxx] at ce hts hmx
      have i1 : (k : Int) < (len : Int) := by omega
      have hal : (acc ++ txtL word.data.toList (L.take k)).length ≤ acc.length + k * 26 := by
        have := txtL_len word.data.toList (L.take k) hwl (fun y hy => hIl y (List.mem_of_mem_take hy))
        rw [List.length_take, Nat.min_eq_left (by omega)] at this
        rw [List.length_append]; omega
      clear hxx hat
      by_cases h0 : k = 0
      · have hk0 : ((k : Int) == 0) = true := by simp [h0]
        have H0 := hid h0
        clear h0
        go_wp2_with fail
        refine (write_bd B b _ word _ hbd (by omega)).mono ?_
        rintro e w1 ⟨rfl, hb1, hw1⟩
        go_wp2_with fail
        refine (itoa_bd x _ hmx (hT _ (hwr.1.trans hw1.1))).mono ?_
        rintro e w2 ⟨sx, rfl, hsx, lsx, E2⟩
        have hb2 := hb1.ext E2
        have hlb1 := hb1.lt
        go_wp2_with fail
        refine (write_bd B b _ sx _ hb2 (by rw [List.length_append, ← Lib.size_eq word]; omega)).mono ?_
        rintro e w3 ⟨rfl, hb3, hw3⟩
        go_wp2
        refine ⟨⟨k + 1, by omega, by go_num, ?_, (((hwr.trans hw1).ext E2 (by omega)).trans hw3)⟩, by simp [intOf]; omega⟩
        rw [hts.out, H0.out, List.take_zero, List.nil_append, txtL_one, ← hsx, ← List.append_assoc]
        rw [H0.out, List.take_zero] at hb3
        simpa [txtL] using hb3
      · have hk0 : ((k : Int) == 0) = false := by simpa using h0
        have H0 := hid h0
        clear h0
        go_wp2_with fail
        refine (write_bd B b _ _ _ hbd (show _ + (ByteArray.mk #[44]).size ≤ _ by have : (ByteArray.mk #[44]).size = 1 := rfl; omega)).mono ?_
        rintro e w1 ⟨rfl, hb1, hw1⟩
        go_wp2_with fail
        refine (itoa_bd x _ hmx (hT _ (hwr.1.trans hw1.1))).mono ?_
        rintro e w2 ⟨sx, rfl, hsx, lsx, E2⟩
        have hb2 := hb1.ext E2
        have hlb1 := hb1.lt
        go_wp2_with fail
        refine (write_bd B b _ sx _ hb2 (by rw [List.length_append]; simp only [List.length_cons, List.length_nil]; omega)).mono ?_
        rintro e w3 ⟨rfl, hb3, hw3⟩
        go_wp2
        refine ⟨⟨k + 1, by omega, by go_num, ?_, (((hwr.trans hw1).ext E2 (by omega)).trans hw3)⟩, by simp [intOf]; omega⟩
        obtain ⟨y, r, hyr⟩ := take_ne (L := L) H0.out (by omega)
        rw [hts.out, hyr, txtL_snoc, ← hsx]
        rw [hyr] at hb3
        simpa using hb3
    · have hall : L.take k = L := List.take_of_length_le (by omega)
      rw [hall] at hbd
      go_wp2
      go_end0
      exact ⟨rfl, hbd, hwr⟩

end Go.Proofs.YtbfgioinjggkkaaDoor
