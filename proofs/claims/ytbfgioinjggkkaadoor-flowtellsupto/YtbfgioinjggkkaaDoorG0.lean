/- What is kept: memory that was there; lists of numbers in it. -/
import Derived.Test.YtbfgioinjggkkaaDoorRows
import Derived.Test.YtbfgioinjggkkaaDoorF1
import Derived.WalkKit
import Derived.WalkSpells
import Derived.WalkLawsBesides
import Derived.BigQuiet
import Derived.Deep.QuietTactic
import Derived.Deep.LoopGhost
import Derived.Deep.OwnRows
import Derived.Deep.RegionWith
namespace Go.Proofs.YtbfgioinjggkkaaDoor
open Go.RowKit Stf

/-- All that was there is as it was. -/
def Ext (w w' : World) : Prop := Below w.heap.size w w'
theorem Ext.refl (w : World) : Ext w w := Below.refl _ _
theorem Ext.trans {a b c : World} (h : Ext a b) (k : Ext b c) : Ext a c := Below.trans h (Below.mono k (Below.size h))
theorem Ext.alloc {a b : World} (h : Ext a b) (o : Obj) : Ext a (b.alloc o) := Below.alloc h (Below.size h) o
theorem Ext.setCell {a b : World} (h : Ext a b) {p : Addr} (hp : a.heap.size ≤ p.block) (u : Value) : Ext a (b.setCell p u) := Below.setCell h hp u
theorem Ext.drew {a b : World} (h : Ext a b) : Ext a b.drew := Below.drew h
theorem Ext.drewN {a b : World} (h : Ext a b) (n : Nat) : Ext a (b.drewN n) := below_drewN h n
theorem Ext.size {a b : World} (h : Ext a b) : a.heap.size ≤ b.heap.size := Below.size h
theorem Ext.cells {W w1 : World} (hb : Ext W w1) : (∀ b o, b < W.heap.size → w1.cell? ⟨b, o, none⟩ = W.cell? ⟨b, o, none⟩) ∧ (∀ b o, b < W.heap.size → w1.frozen? ⟨b, o, none⟩ = W.frozen? ⟨b, o, none⟩) :=
  ⟨fun b o h => Below.cell hb (p := ⟨b, o, none⟩) h, fun b o h => Below.frozen hb (p := ⟨b, o, none⟩) h⟩

/-- Numbers lie at this address. -/
def IntsAt (w : World) (b off : Nat) (ps : List Int) : Prop := ∀ k, k < ps.length → w.cell? ⟨b, off + k, none⟩ = some (.int .i64 (ps.getD k 0))
def ListAt (w : World) (ao : Option Addr) (ps : List Int) : Prop := ps = [] ∨ ∃ b off, ao = some ⟨b, off, none⟩ ∧ b < w.heap.size ∧ IntsAt w b off ps
theorem ListAt.ext {w w' : World} {ao : Option Addr} {ps : List Int} (h : ListAt w ao ps) (k : Ext w w') : ListAt w' ao ps := by
  rcases h with h | ⟨b, off, h1, h2, h3⟩
  · exact Or.inl h
  · exact Or.inr ⟨b, off, h1, Nat.lt_of_lt_of_le h2 k.size, fun i hi => (k.cells.1 _ _ h2).trans (h3 i hi)⟩
theorem list_of_own {w : World} {base g n cap : Nat} {L : List Int} (h : w.ownsRow base 3 1 (.slice (some ⟨g, 0, none⟩) n cap) n (L.map (Value.int .i64))) : ListAt w (some ⟨g, 0, none⟩) L ∧ L.length = n := by
  have hl : L.length = n := by have := h.1; simp at this; omega
  refine ⟨Or.inr ⟨g, 0, rfl, (h.lt g rfl).2, fun k hk => ?_⟩, hl⟩
  rw [Nat.zero_add, h.cellAt k (by omega), List.getElem?_map, List.getElem?_eq_getElem hk]
  simp [List.getD_eq_getElem?_getD, hk]
theorem cell_at {W : World} {n : Nat} (h : W.heap.size = n) (v : Value) (T : TypeId) : (W.alloc (.cells #[v] T)).cell? ⟨n, 0, none⟩ = some v := by subst h; simp
theorem Tryd.info3 : (Tryd.prog.info? 3).map (fun i => (i.zero, i.size, i.bytes)) = some (some (.int .i64 0), 1, 8) := by kernel_rfl
def I64 (a : Int) : Prop := (Lit.int .i64 a).wf = true
theorem i64_small {a : Int} (h0 : -1000000 ≤ a) (h1 : a ≤ 1000000) : I64 a := WalkArith.wf_i64 (by omega)
theorem hid {p : Prop} (h : p) : Hid p := h
/-- A value that is a list of numbers. -/
def FV (w : World) (xs : List Int) (v : Value) : Prop := ∃ o c, v = .slice o xs.length c ∧ ListAt w o xs ∧ xs.length ≤ c
theorem FV.ext {w w' : World} {xs : List Int} {v : Value} (h : FV w xs v) (k : Ext w w') : FV w' xs v := by
  obtain ⟨o, c, h1, h2, h3⟩ := h
  exact ⟨o, c, h1, h2.ext k, h3⟩

end Go.Proofs.YtbfgioinjggkkaaDoor
