/- A row of rules in memory that is turned about: two parts of one length change places. -/
import Derived.Test.YtmjddnnjjmnddadV3
import Derived.Deep.OwnRows
import Derived.WalkSmall
import Derived.Lib.SmallJoins
import Derived.BigRegion
namespace Go.Proofs.Ytmjddnnjjmnddad.Tb
open Go.RowKit Go.Deep Rul Go.Sort

theorem Gb.trans {a b c : World} {r : Option Nat} (h : a.grownBy b r) (k : b.grownBy c r) : a.grownBy c r :=
  ⟨k.os.trans h.os, k.tape.trans h.tape, k.output.trans h.output, Nat.le_trans h.size k.size, fun i hi hr => (k.block i (Nat.lt_of_lt_of_le hi h.size) hr).trans (h.block i hi hr)⟩
theorem Gb.set {a b : World} {g : Nat} (h : a.grownBy b (some g)) (o : Nat) (v : Value) : a.grownBy (b.setCell ⟨g, o, none⟩ v) (some g) :=
  ⟨h.os, h.tape, h.output, by simpa using h.size, fun i hi hr => by rw [blk_setCell_other _ _ _ _ (by intro e; exact hr (by rw [e]))]; exact h.block i hi hr⟩
theorem Gb.drew {a b : World} {r : Option Nat} (h : a.grownBy b r) : a.grownBy b.drew r := ⟨h.os, h.tape, h.output, h.size, h.block⟩

structure RW (w : World) (b N : Nat) (d : Array Ru) : Prop where
  fit : d.size * 3 ≤ N
  row : ∃ F, w.rowIs b 59 N F ∧ ∀ j, j < d.size → F (j * 3) = .int .i64 (d[j]!).1 ∧ F (j * 3 + 1) = .int .i64 (d[j]!).2.1 ∧ F (j * 3 + 2) = .int .i64 (d[j]!).2.2

section
variable {w : World} {b N : Nat} {d : Array Ru}
theorem RW.lt (h : RW w b N d) : b < w.heap.size := by obtain ⟨F, h1, _⟩ := h.row; exact h1.lt
theorem RW.cells (h : RW w b N d) {j : Nat} (hj : j < d.size) {r : Ru} (e : d[j]! = r) : w.cell? ⟨b, j * 3, none⟩ = some (.int .i64 r.1) ∧ w.cell? ⟨b, j * 3 + 1, none⟩ = some (.int .i64 r.2.1) ∧ w.cell? ⟨b, j * 3 + 2, none⟩ = some (.int .i64 r.2.2) := by
  obtain ⟨F, h1, h2⟩ := h.row
  have hf := h.fit
  obtain ⟨e0, e1, e2⟩ := h2 j hj
  rw [h1.cell (by omega), h1.cell (by omega), h1.cell (by omega), e0, e1, e2, e]
  exact ⟨rfl, rfl, rfl⟩
theorem RW.frozen (h : RW w b N d) (o : Nat) : w.frozen? ⟨b, o, none⟩ = false := by obtain ⟨F, h1, _⟩ := h.row; exact h1.frozen o
theorem RW.of_block {w' : World} (h : RW w b N d) (e : w'.heap[b]? = w.heap[b]?) : RW w' b N d := by
  obtain ⟨F, h1, h2⟩ := h.row
  exact ⟨h.fit, F, h1.of_block e, h2⟩
theorem RW.ext {w' : World} (h : RW w b N d) (e : Ext w w') : RW w' b N d := h.of_block (Below.block e _ h.lt)
theorem RW.drew (h : RW w b N d) : RW w.drew b N d := h.of_block rfl
theorem RW.put (h : RW w b N d) {i : Nat} (hi : i < d.size) (r : Ru) : RW (((w.setCell ⟨b, i * 3, none⟩ (.int .i64 r.1)).setCell ⟨b, i * 3 + 1, none⟩ (.int .i64 r.2.1)).setCell ⟨b, i * 3 + 2, none⟩ (.int .i64 r.2.2)) b N (d.setIfInBounds i r) := by
  obtain ⟨F, h1, h2⟩ := h.row
  refine ⟨by simpa using h.fit, _, ((h1.set _ _).set _ _).set _ _, fun j hj => ?_⟩
  have hj' : j < d.size := by simpa using hj
  by_cases e : j = i
  · subst e
    have : (d.setIfInBounds j r)[j]! = r := by simp [hj']
    rw [this]
    simp
  · have : (d.setIfInBounds i r)[j]! = d[j]! := by
      rw [getElem!_pos _ j hj, getElem!_pos d j hj', Array.getElem_setIfInBounds_ne (hj := hj') (h := fun h => e h.symm)]
    obtain ⟨e0, e1, e2⟩ := h2 j hj'
    rw [this, ← e0, ← e1, ← e2]
    refine ⟨?_, ?_, ?_⟩
    · rw [if_neg (by omega), if_neg (by omega), if_neg (by omega)]
    · rw [if_neg (by omega), if_neg (by omega), if_neg (by omega)]
    · rw [if_neg (by omega), if_neg (by omega), if_neg (by omega)]
theorem RW.swap (h : RW w b N d) {i j : Nat} (hi : i < d.size) (hj : j < d.size) : RW ((((((w.setCell ⟨b, i * 3, none⟩ (.int .i64 (d[j]!).1)).setCell ⟨b, i * 3 + 1, none⟩ (.int .i64 (d[j]!).2.1)).setCell ⟨b, i * 3 + 2, none⟩ (.int .i64 (d[j]!).2.2)).setCell ⟨b, j * 3, none⟩ (.int .i64 (d[i]!).1)).setCell ⟨b, j * 3 + 1, none⟩ (.int .i64 (d[i]!).2.1)).setCell ⟨b, j * 3 + 2, none⟩ (.int .i64 (d[i]!).2.2)) b N (swp d i j) :=
  (h.put hi d[j]!).put (by simpa using hj) d[i]!
theorem Gb.swap {a : World} (h : a.grownBy w (some b)) (i j : Nat) (v0 v1 v2 u0 u1 u2 : Value) : a.grownBy ((((((w.setCell ⟨b, i * 3, none⟩ v0).setCell ⟨b, i * 3 + 1, none⟩ v1).setCell ⟨b, i * 3 + 2, none⟩ v2).setCell ⟨b, j * 3, none⟩ u0).setCell ⟨b, j * 3 + 1, none⟩ u1).setCell ⟨b, j * 3 + 2, none⟩ u2) (some b) :=
  Gb.set (Gb.set (Gb.set (Gb.set (Gb.set (Gb.set h _ _) _ _) _ _) _ _) _ _) _ _
end

set_option maxRecDepth 100000 in
set_option maxHeartbeats 800000 in
theorem swapRange_any (cb : Value) (b N cap a c n : Nat) (d : Array Ru) (w : World) (h : RW w b N d) (hac : a + n ≤ c) (hcn : c + n ≤ d.size) (hsz : d.size ≤ 1152921504606846976) :
    Calls Try.prog 69 #[.slice (some ⟨b, 0, none⟩) d.size cap, .int .i64 a, .int .i64 c, .int .i64 n, cb] w fun e w' => e = .returned (.tuple #[]) ∧ ∃ d', Swr a c n d d' ∧ RW w' b N d' ∧ w.grownBy w' (some b) := by
  go_enter Try.func69, Try.ntmps69
  go_wp2
  go_loopw [10] (fun iv wr => ∃ (i : Nat) (d1 : Array Ru), i ≤ n ∧ iv = .int .i64 i ∧ Swr a c i d d1 ∧ RW wr b N d1 ∧ w.grownBy wr (some b)) (fun iv _ => n - (intOf iv).toNat)
  case atStart => exact ⟨0, d, Nat.zero_le _, rfl, Swr.zero _ _ _, h, Gb.refl _ _⟩
  case round =>
    obtain ⟨i, d1, hi, rfl, hs, hr, hg⟩ := hrel
    by_cases hlt : i < n
    · have i1 : (i : Int) < (n : Int) := by omega
      have hsz1 : d1.size = d.size := hs.size
      obtain ⟨x, hx⟩ : ∃ x, d1[a + i]! = x := ⟨_, rfl⟩
      obtain ⟨y, hy⟩ : ∃ x, d1[c + i]! = x := ⟨_, rfl⟩
      obtain ⟨x0, x1, x2⟩ := hr.cells (j := a + i) (by omega) hx
      obtain ⟨y0, y1, y2⟩ := hr.cells (j := c + i) (by omega) hy
      have fz := hr.frozen
      have wa : IntKind.i64.wrap ((a : Int) + i) = ((a + i : Nat) : Int) := by rw [IntKind.wrap_i64]; omega
      have wc : IntKind.i64.wrap ((c : Int) + i) = ((c + i : Nat) : Int) := by rw [IntKind.wrap_i64]; omega
      have ba : ((a + i : Nat) : Int) < (d.size : Int) := by omega
      have bc : ((c + i : Nat) : Int) < (d.size : Int) := by omega
      have HR : Hid (RW wr b N d1) := hr
      have HG : Hid (w.grownBy wr (some b)) := hg
      clear hr hg h
      go_wp2_with fail
      go_region
      go_wp2
      refine ⟨⟨i + 1, swp d1 (a + i) (c + i), by omega, by go_num, hs.succ (by omega) (by omega), ?_, ?_⟩, by simp [intOf]; omega⟩
      · have := (HR.out.swap (i := a + i) (j := c + i) (by omega) (by omega)).drew
        rw [hx, hy] at this
        exact this
      · exact Gb.drew (Gb.swap HG.out _ _ _ _ _ _ _ _)
    · have i1 : ¬ (i : Int) < (n : Int) := by omega
      go_wp2
      go_end0
      have : i = n := by omega
      subst this
      exact ⟨rfl, d1, hs, hr, hg⟩

end Go.Proofs.Ytmjddnnjjmnddad.Tb
