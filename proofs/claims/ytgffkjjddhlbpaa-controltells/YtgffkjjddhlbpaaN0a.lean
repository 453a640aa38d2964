/- What is kept: memory that was there; numbers in it. -/
import Derived.Test.YtgffkjjddhlbpaaRows
import Derived.WalkKit
import Derived.WalkSpells
import Derived.WalkLawsBesides
import Derived.BigQuiet
import Derived.BigRegion
import Derived.WalkSmall
import Derived.Deep.QuietTactic
import Derived.Deep.LoopGhost
import Derived.Deep.OwnRows
import Derived.Deep.RegionWith
import Derived.Deep.AppendLies
import Derived.Laws.AppendOwnNone
import Derived.Lib.QuietBelow
import Derived.Lib.SmallJoins
import Derived.Lib.Walk
import Derived.Deep.RegionLaw
namespace Go.Proofs.Ytgffkjjddhlbpaa
open Go.RowKit

/-- All that was there is as it was. -/
def Ext (w w' : World) : Prop := Below w.heap.size w w'
theorem Ext.refl (w : World) : Ext w w := Below.refl _ _
theorem Ext.trans {a b c : World} (h : Ext a b) (k : Ext b c) : Ext a c := Below.trans h (Below.mono k (Below.size h))
theorem Ext.alloc {a b : World} (h : Ext a b) (o : Obj) : Ext a (b.alloc o) := Below.alloc h (Below.size h) o
theorem Ext.setCell {a b : World} (h : Ext a b) {p : Addr} (hp : a.heap.size ≤ p.block) (u : Value) : Ext a (b.setCell p u) := Below.setCell h hp u
theorem Ext.drew {a b : World} (h : Ext a b) : Ext a b.drew := Below.drew h
theorem Ext.drewN {a b : World} (h : Ext a b) (n : Nat) : Ext a (b.drewN n) := below_drewN h n
theorem Ext.size {a b : World} (h : Ext a b) : a.heap.size ≤ b.heap.size := Below.size h
theorem Ext.cells {W w1 : World} (hb : Ext W w1) : (∀ b o, b < W.heap.size → w1.cell? ⟨b, o, none⟩ = W.cell? ⟨b, o, none⟩) ∧ (∀ b o, b < W.heap.size → w1.frozen? ⟨b, o, none⟩ = W.frozen? ⟨b, o, none⟩) :=
  ⟨fun b o h => Below.cell hb (p := ⟨b, o, none⟩) h, fun b o h => Below.frozen hb (p := ⟨b, o, none⟩) h⟩

def I64 (a : Int) : Prop := (Lit.int .i64 a).wf = true
theorem i64_small {a : Int} (h0 : -1000000 ≤ a) (h1 : a ≤ 1000000) : I64 a := WalkArith.wf_i64 (by omega)
/-- Numbers lie at this address. -/
def IntsAt (w : World) (b off : Nat) (ps : List Int) : Prop := ∀ k, k < ps.length → w.cell? ⟨b, off + k, none⟩ = some (.int .i64 (ps.getD k 0))
def ListAt (w : World) (ao : Option Addr) (ps : List Int) : Prop := ps = [] ∨ ∃ b off, ao = some ⟨b, off, none⟩ ∧ b < w.heap.size ∧ IntsAt w b off ps
theorem ListAt.ext {w w' : World} {ao : Option Addr} {ps : List Int} (h : ListAt w ao ps) (k : Ext w w') : ListAt w' ao ps := by
  rcases h with h | ⟨b, off, h1, h2, h3⟩
  · exact Or.inl h
  · exact Or.inr ⟨b, off, h1, Nat.lt_of_lt_of_le h2 k.size, fun i hi => (k.cells.1 _ _ h2).trans (h3 i hi)⟩
theorem ListAt.get {w : World} {ao : Option Addr} {ps : List Int} (h : ListAt w ao ps) {k : Nat} (hk : k < ps.length) : ∃ g off, ao = some ⟨g, off, none⟩ ∧ g < w.heap.size ∧ IntsAt w g off ps := by
  rcases h with h | h
  · rw [h] at hk; simp at hk
  · exact h

theorem Try.laidOut : laidOutB Try.prog = true := by kernel_rfl
theorem Try.own : ownKnob Try.prog.godebug = none := by kernel_rfl
theorem Try.cells3 : Try.prog.cellsOf 3 = 1 := by kernel_rfl
theorem Try.bytes3 : Try.prog.bytesOf 3 = 8 := by kernel_rfl

end Go.Proofs.Ytgffkjjddhlbpaa
