/- What SameOrder answers of two orders that are the same, and what Bare answers; bytes as a text. -/
import Derived.Test.YtiepbdgjhfkceadN10
import Derived.Test.YtiepbdgjhfkceadI0
import Derived.Laws.BytesArg
namespace Go.Proofs.Ytiepbdgjhfkcead.Tb
open Go.RowKit Go.Deep Rul

set_option maxRecDepth 100000 in
set_option maxHeartbeats 800000 in
theorem SameRules_same (ao bo : Option Addr) (len ac bc : Nat) (rs : List Ru) (w : World) (hlen : rs.length = len) (ha : RsAt w ao rs) (hb : RsAt w bo rs) (hl : len ≤ 4611686018427387904) :
    Calls Try.prog 24 #[.slice ao len ac, .slice bo len bc] w fun e w' => e = .returned (.bool true) ∧ Ext w w' := by
  go_enter Try.func24, Try.ntmps24
  go_wp2
  go_loopw [13] (fun iv wd => ∃ k : Nat, k ≤ len ∧ iv = .int .i64 k ∧ Ext w wd) (fun iv _ => len - (intOf iv).toNat)
  case atStart => exact ⟨0, Nat.zero_le _, rfl, Ext.refl w⟩
  case round =>
    obtain ⟨k, hk, rfl, hE⟩ := hrel
    by_cases hlt : k < len
    · obtain ⟨g, off, rfl, hg, hcs⟩ := (ha.ext hE).get (k := k) (by omega)
      obtain ⟨g', off', rfl, hg', hcs'⟩ := (hb.ext hE).get (k := k) (by omega)
      have i1 : (k : Int) < (len : Int) := by omega
      obtain ⟨c0, c1, c2⟩ := hcs k (by omega)
      obtain ⟨e0, e1, e2⟩ := hcs' k (by omega)
      obtain ⟨r, hr⟩ : ∃ r, rs.getD k r0 = r := ⟨_, rfl⟩
      rw [hr] at c0 c1 c2 e0 e1 e2
      clear hr hcs hcs'
      go_wp2
      go_region
      go_wp2
      exact ⟨⟨k + 1, by omega, by go_num, hE.drew⟩, by simp [intOf]; omega⟩
    · have i1 : ¬ (k : Int) < (len : Int) := by omega
      go_wp2
      go_ret
      exact ⟨rfl, hE⟩

end Go.Proofs.Ytiepbdgjhfkcead.Tb
namespace Go.Proofs.Ytiepbdgjhfkcead.Wi
open Go.RowKit Go.Maps Go.Deep Go.Sort Tb Rul

set_option maxRecDepth 100000 in
set_option maxHeartbeats 800000 in
theorem SameOrder_same (o : Wir.Od) (ro fo ro' fo' : Option Addr) (rc fc rc' fc' : Nat) (w : World) (h : OAt w o ro fo) (h' : OAt w o ro' fo') :
    Calls Try.prog 13 #[ovl o ro fo rc fc, ovl o ro' fo' rc' fc'] w fun e w' => e = .returned (.bool true) ∧ Ext w w' := by
  obtain ⟨k, n, v, rs, fs⟩ := o
  unfold ovl
  have HA : Hid _ := h
  have HB : Hid _ := h'
  clear h h'
  go_enter Try.func13, Try.ntmps13
  go_wp2_with fail
  obtain ⟨B, hB⟩ : ∃ B, B = (w.alloc (.cells #[.int .i64 k, .int .i64 n, .int .i64 v, .slice ro rs.length rc, .slice fo fs.length fc] 25)).alloc (.cells #[.int .i64 k, .int .i64 n, .int .i64 v, .slice ro' rs.length rc', .slice fo' fs.length fc'] 25) := ⟨_, rfl⟩
  have hE0 : Ext w B := by rw [hB]; exact ((Ext.refl w).alloc _).alloc _
  have HK : Hid (∀ W, Ext B W → W.cell? ⟨w.heap.size, 4, none⟩ = some (.slice fo fs.length fc) ∧ W.cell? ⟨w.heap.size + 1, 4, none⟩ = some (.slice fo' fs.length fc')) := fun W hW => by
    have l0 : w.heap.size < B.heap.size := by rw [hB]; simp; omega
    have l1 : w.heap.size + 1 < B.heap.size := by rw [hB]; simp
    exact ⟨(hW.cells.1 _ _ l0).trans (by rw [hB]; simp), (hW.cells.1 _ _ l1).trans (by rw [hB]; simp)⟩
  rw [← hB]
  clear hB
  refine (SameRules_same ro ro' rs.length rc rc' rs _ rfl (HA.out.hr.ext hE0) (HB.out.hr.ext hE0) HA.out.rl).mono ?_
  rintro e w1 ⟨rfl, E1⟩
  obtain ⟨q0, q1⟩ := HK.out _ E1
  have hE1 := hE0.trans E1
  go_wp2_with fail
  refine (Ints_any fo fo' fs.length fs.length fc fc' fs fs _ rfl rfl HA.out.fl (HA.out.hf.ext hE1) (HB.out.hf.ext hE1)).mono ?_
  rintro e w2 ⟨he, E2⟩
  rw [show decide (fs = fs) = true from decide_eq_true rfl] at he
  subst he
  go_wp2
  go_ret
  exact ⟨rfl, hE1.trans E2⟩

theorem bare_at {w : World} {o : Wir.Od} {ro fo : Option Addr} (h : OAt w o ro fo) : OAt w (Wir.bare o) (if o.k = 1 then ro else none) (if o.k = 2 then fo else none) := by
  refine ⟨?_, ?_, h.hk, ?_, ?_⟩
  · unfold Wir.bare
    by_cases hk : o.k = 1
    · simp only [if_pos hk]; exact h.hr
    · simp only [if_neg hk]; exact Or.inl rfl
  · unfold Wir.bare
    by_cases hk : o.k = 2
    · simp only [if_pos hk]; exact h.hf
    · simp only [if_neg hk]; exact Or.inl rfl
  · unfold Wir.bare
    by_cases hk : o.k = 1
    · simp only [if_pos hk]; exact h.rl
    · simp only [if_neg hk]; exact Nat.zero_le _
  · unfold Wir.bare
    by_cases hk : o.k = 2
    · simp only [if_pos hk]; exact h.fl
    · simp only [if_neg hk]; exact Nat.zero_le _
/-- What Bare answers: an order, with what its kind has. -/
def bval (o : Wir.Od) (ro fo : Option Addr) (rc fc : Nat) : Value := ovl (Wir.bare o) (if o.k = 1 then ro else none) (if o.k = 2 then fo else none) (if o.k = 1 then rc else 0) (if o.k = 2 then fc else 0)
theorem bval1 {n v : Int} {rs : List Ru} {fs : List Int} {ro fo : Option Addr} {rc fc : Nat} : bval ⟨1, n, v, rs, fs⟩ ro fo rc fc = .agg #[.int .i64 1, .int .i64 n, .int .i64 v, .slice ro rs.length rc, .slice none 0 0] := by
  simp [bval, ovl, Wir.bare]
theorem bval2 {n v : Int} {rs : List Ru} {fs : List Int} {ro fo : Option Addr} {rc fc : Nat} : bval ⟨2, n, v, rs, fs⟩ ro fo rc fc = .agg #[.int .i64 2, .int .i64 n, .int .i64 v, .slice none 0 0, .slice fo fs.length fc] := by
  simp [bval, ovl, Wir.bare]
theorem bval3 {k n v : Int} {rs : List Ru} {fs : List Int} {ro fo : Option Addr} {rc fc : Nat} (h1 : ¬ k = 1) (h2 : ¬ k = 2) : bval ⟨k, n, v, rs, fs⟩ ro fo rc fc = .agg #[.int .i64 k, .int .i64 n, .int .i64 v, .slice none 0 0, .slice none 0 0] := by
  simp [bval, ovl, Wir.bare, h1, h2]

set_option maxRecDepth 100000 in
set_option maxHeartbeats 800000 in
theorem Bare_any (o : Wir.Od) (ro fo : Option Addr) (rc fc : Nat) (w : World) :
    Calls Try.prog 15 #[ovl o ro fo rc fc] w fun e w' => e = .returned (bval o ro fo rc fc) ∧ Ext w w' := by
  obtain ⟨k, n, v, rs, fs⟩ := o
  by_cases h1 : k = 1
  · subst h1
    rw [bval1]
    unfold ovl
    go_enter Try.func15, Try.ntmps15
    go_wp2
    exact bodyPost_ret (v := .agg #[.int .i64 1, .int .i64 n, .int .i64 v, .slice ro rs.length rc, .slice none 0 0]) (by simp [results, Try.results15, go_sem]) rfl ⟨rfl, (((Ext.refl w).alloc _).alloc _).alloc _⟩
  · by_cases h2 : k = 2
    · subst h2
      rw [bval2]
      unfold ovl
      go_enter Try.func15, Try.ntmps15
      go_wp2
      exact bodyPost_ret (v := .agg #[.int .i64 2, .int .i64 n, .int .i64 v, .slice none 0 0, .slice fo fs.length fc]) (by simp [results, Try.results15, go_sem]) rfl ⟨rfl, (((Ext.refl w).alloc _).alloc _).alloc _⟩
    · rw [bval3 h1 h2]
      have b1 : (k == 1) = false := by simpa using h1
      have b2 : (k == 2) = false := by simpa using h2
      clear h1 h2
      unfold ovl
      go_enter Try.func15, Try.ntmps15
      go_wp2
      exact bodyPost_ret (v := .agg #[.int .i64 k, .int .i64 n, .int .i64 v, .slice none 0 0, .slice none 0 0]) (by simp [results, Try.results15, go_sem]) rfl ⟨rfl, (((Ext.refl w).alloc _).alloc _).alloc _⟩

/-! ### bytes as a text -/
def bstr (bs : List Nat) : ByteArray := strOfNums (bs.map (fun n : Nat => (n : Int)))
theorem bstr_nil : bstr [] = ByteArray.empty := rfl
theorem conv_str {w : World} {ao : Option Addr} {bs : List Nat} {len : Nat} (h : ByAt w ao bs) (hlen : bs.length = len) (cap : Nat) : (convert 26 9 (.slice ao len cap)).run Try.prog w = .ok (.string (bstr bs)) w := by
  rcases h with h0 | ⟨g, off, rfl, hg, hc⟩
  · subst h0
    have hl0 : len = 0 := hlen.symm
    subst hl0
    rw [run_convert_bytes_string w 26 9 5 ao 0 cap Try.underlying26 Try.underlying5 Try.underlying9, bstr_nil]
    cases ao <;> simp [Conv.bytesToString, loadCells]
    all_goals rfl
  · exact run_convert_bytes_arg w 26 5 Try.underlying26 Try.underlying5 g off len cap (bs.map (fun n : Nat => (n : Int))) (by simpa using hlen) (fun i hi => by
      rw [hc i (by omega)]
      simp [List.getD_eq_getElem?_getD, show i < bs.length by omega]) 9 Try.underlying9

end Go.Proofs.Ytiepbdgjhfkcead.Wi
