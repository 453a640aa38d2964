/- The blocks in which a switch begins to do an order. -/
import Derived.Test.YtmjddnnjjmnddadY1
import Derived.Test.YtmjddnnjjmnddadN3

namespace Go.Proofs.Ytmjddnnjjmnddad.Ag
open Go.RowKit Go.Deep Tb Rul Wi

/-- The world in which Does begins: the switch, the order and the answer lie in three blocks. -/
def Dw (w : World) (rv sv : Value) (k n v : Int) (pv fv : Value) : World :=
  ((w.alloc (.cells #[rv, sv] 41)).alloc (.cells #[.int .i64 k, .int .i64 n, .int .i64 v, pv, fv] 25)).alloc (.cells #[.slice none 0 0, .slice none 0 0] 41)
theorem Dw_ext (w : World) (rv sv : Value) (k n v : Int) (pv fv : Value) : Ext w (Dw w rv sv k n v pv fv) := (((Ext.refl w).alloc _).alloc _).alloc _
structure DAt (W : World) (b : Nat) (rv sv : Value) (k n v : Int) (pv fv : Value) : Prop where
  s0 : W.cell? ⟨b, 0, none⟩ = some rv
  s1 : W.cell? ⟨b, 1, none⟩ = some sv
  o0 : W.cell? ⟨b + 1, 0, none⟩ = some (.int .i64 k)
  o1 : W.cell? ⟨b + 1, 1, none⟩ = some (.int .i64 n)
  o2 : W.cell? ⟨b + 1, 2, none⟩ = some (.int .i64 v)
  o3 : W.cell? ⟨b + 1, 3, none⟩ = some pv
  o4 : W.cell? ⟨b + 1, 4, none⟩ = some fv
  r0 : W.cell? ⟨b + 1 + 1, 0, none⟩ = some (.slice none 0 0)
  r1 : W.cell? ⟨b + 1 + 1, 1, none⟩ = some (.slice none 0 0)
  f0 : W.frozen? ⟨b, 0, none⟩ = false
  f1 : W.frozen? ⟨b, 1, none⟩ = false
  g0 : W.frozen? ⟨b + 1 + 1, 0, none⟩ = false
  g1 : W.frozen? ⟨b + 1 + 1, 1, none⟩ = false
theorem DAt.of {w W : World} {rv sv : Value} {k n v : Int} {pv fv : Value} (E : Ext (Dw w rv sv k n v pv fv) W) : DAt W w.heap.size rv sv k n v pv fv := by
  have l0 : w.heap.size < (Dw w rv sv k n v pv fv).heap.size := by unfold Dw; simp; omega
  have l1 : w.heap.size + 1 < (Dw w rv sv k n v pv fv).heap.size := by unfold Dw; simp
  have l2 : w.heap.size + 1 + 1 < (Dw w rv sv k n v pv fv).heap.size := by unfold Dw; simp
  obtain ⟨hc, hf⟩ := E.cells
  constructor
  · rw [hc _ _ l0]; unfold Dw; first | (simp; done) | (simp [go_sem]; done)
  · rw [hc _ _ l0]; unfold Dw; first | (simp; done) | (simp [go_sem]; done)
  · rw [hc _ _ l1]; unfold Dw; first | (simp; done) | (simp [go_sem]; done)
  · rw [hc _ _ l1]; unfold Dw; first | (simp; done) | (simp [go_sem]; done)
  · rw [hc _ _ l1]; unfold Dw; first | (simp; done) | (simp [go_sem]; done)
  · rw [hc _ _ l1]; unfold Dw; first | (simp; done) | (simp [go_sem]; done)
  · rw [hc _ _ l1]; unfold Dw; first | (simp; done) | (simp [go_sem]; done)
  · rw [hc _ _ l2]; unfold Dw; first | (simp; done) | (simp [go_sem]; done)
  · rw [hc _ _ l2]; unfold Dw; first | (simp; done) | (simp [go_sem]; done)
  · rw [hf _ _ l0]; unfold Dw; first | (simp; done) | (simp [go_sem]; done)
  · rw [hf _ _ l0]; unfold Dw; first | (simp; done) | (simp [go_sem]; done)
  · rw [hf _ _ l2]; unfold Dw; first | (simp; done) | (simp [go_sem]; done)
  · rw [hf _ _ l2]; unfold Dw; first | (simp; done) | (simp [go_sem]; done)

end Go.Proofs.Ytmjddnnjjmnddad.Ag
