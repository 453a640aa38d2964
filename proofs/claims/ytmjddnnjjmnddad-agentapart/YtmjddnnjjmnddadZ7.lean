/- The closed fact that every law of chapter 6 asks first: it stands. Blocks of switches and of orders. -/
import Derived.Test.YtmjddnnjjmnddadZ3
import Derived.Test.YtmjddnnjjmnddadZ6
namespace Go.Proofs.Ytmjddnnjjmnddad.Ag
open Go.RowKit Go.Deep Tb Rul Wi

theorem blk2 {w W : World} {a b : Value} {T : TypeId} (E : Ext (w.alloc (.cells #[a, b] T)) W) : W.cell? ⟨w.heap.size, 0, none⟩ = some a ∧ W.cell? ⟨w.heap.size, 1, none⟩ = some b ∧ W.frozen? ⟨w.heap.size, 0, none⟩ = false ∧ W.frozen? ⟨w.heap.size, 1, none⟩ = false ∧ w.heap.size < W.heap.size := by
  have l0 : w.heap.size < (w.alloc (.cells #[a, b] T)).heap.size := by simp
  exact ⟨(E.cells.1 _ _ l0).trans (by simp), (E.cells.1 _ _ l0).trans (by simp), (E.cells.2 _ _ l0).trans (by simp), (E.cells.2 _ _ l0).trans (by simp), Nat.lt_of_lt_of_le l0 E.size⟩
theorem blk5 {w W : World} {a b c d e : Value} {T : TypeId} (E : Ext (w.alloc (.cells #[a, b, c, d, e] T)) W) : W.cell? ⟨w.heap.size, 0, none⟩ = some a ∧ W.cell? ⟨w.heap.size, 1, none⟩ = some b ∧ W.cell? ⟨w.heap.size, 2, none⟩ = some c ∧ W.cell? ⟨w.heap.size, 3, none⟩ = some d ∧ W.cell? ⟨w.heap.size, 4, none⟩ = some e ∧ w.heap.size < W.heap.size := by
  have l0 : w.heap.size < (w.alloc (.cells #[a, b, c, d, e] T)).heap.size := by simp
  exact ⟨(E.cells.1 _ _ l0).trans (by simp), (E.cells.1 _ _ l0).trans (by simp), (E.cells.1 _ _ l0).trans (by simp), (E.cells.1 _ _ l0).trans (by simp), (E.cells.1 _ _ l0).trans (by simp), Nat.lt_of_lt_of_le l0 E.size⟩

def oA : Wir.Od := ⟨2, 1, 4, [], [2, 5]⟩
def sA : Agt.Sw := ⟨[], [(2, 4), (5, 4)]⟩
theorem oA_do : Agt.doS Agt.sw0 oA = (sA, 0) := by
  have h1 : Agt.wrongS Agt.sw0 = 0 := by decide +kernel
  have h2 : Wir.wrong oA = 0 := by decide +kernel
  rw [Agt.do_stamp h1 h2 rfl]; rfl

set_option maxRecDepth 100000 in
set_option maxHeartbeats 1600000 in
theorem alive_any (w : World) : Calls Try.prog 25 #[] w fun e w' => e = .returned (.bool true) ∧ Ext w w' := by
  obtain ⟨B, hB⟩ : ∃ B, B = w.alloc (.cells #[.int .i64 2, .int .i64 5] 3) := ⟨_, rfl⟩
  have hE0 : Ext w B := by rw [hB]; exact (Ext.refl w).alloc _
  have HB : Hid (Calls Try.prog 22 #[.agg #[.slice none 0 0, .slice none 0 0], .agg #[.int .i64 2, .int .i64 1, .int .i64 4, .slice none 0 0, .slice (some ⟨w.heap.size, 0, none⟩) 2 2]] B fun e w' => SwOut B (sA, 0) e w') := by
    obtain ⟨c0, c1, _, _, cl⟩ := blk2 (a := .int .i64 2) (b := .int .i64 5) (T := 3) (w := w) (W := B) (by rw [hB]; exact Ext.refl _)
    have h := Do_any Agt.sw0 oA none none none (some ⟨w.heap.size, 0, none⟩) 0 0 0 2 B (SwAt_none B) ⟨Or.inl rfl, Or.inr ⟨w.heap.size, 0, rfl, cl, fun k hk => by
      match k, hk with
      | 0, _ => exact c0
      | 1, _ => exact c1
      | k + 2, hk => exact absurd hk (by simp [oA])⟩, i64_small (by decide) (by decide), by decide, by decide⟩ (fun _ => ⟨rfl, rfl⟩)
    rw [oA_do] at h
    exact h
  go_enter Try.func25, Try.ntmps25
  go_wp2_with fail
  rw [← hB]
  refine HB.out.mono ?_
  rintro e w1 ⟨ao, bo, ac, bc, he, hx, E1⟩
  have he' : e = .returned (.tuple #[.agg #[.slice ao 0 ac, .slice bo 2 bc], .int .i64 0]) := he
  subst he'
  have HX : Hid _ := hx
  clear he hx HB hB
  have HK : Hid (∀ W, Ext (w1.alloc (.cells #[.slice ao 0 ac, .slice bo 2 bc] 41)) W → _) := fun W hW => blk2 hW
  go_wp2_with fail
  refine Calls.mono (Version_any sA ao bo ac bc 5 _ (HX.out.ext ((Ext.refl w1).alloc _))) ?_
  rintro e w2 ⟨he, E2⟩
  have he' : e = .returned (.int .i64 4) := he.trans (by rw [show Agt.ver sA.st 5 = 4 by decide +kernel])
  subst he'
  obtain ⟨q0, q1, _, _, _⟩ := HK.out _ E2
  clear he
  go_wp2_with fail
  refine Calls.mono (Version_any sA ao bo ac bc 3 _ (HX.out.ext (((Ext.refl w1).alloc _).trans E2))) ?_
  rintro e w3 ⟨he, E3⟩
  have he' : e = .returned (.int .i64 0) := he.trans (by rw [show Agt.ver sA.st 3 = 0 by decide +kernel])
  subst he'
  clear he q0 q1
  go_wp2
  go_ret
  exact ⟨rfl, (((hE0.trans E1).alloc _).trans E2).trans E3⟩

end Go.Proofs.Ytmjddnnjjmnddad.Ag
