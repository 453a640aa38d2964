/- What read answers, for every net: the costs of all links in a new map, or the first fault; nothing that was there is changed. -/
import Derived.Test.YtgffkjjddhlbpaaW1
import Derived.Maps.OwnOps
import Derived.Maps.OwnSet
import Derived.DeepKeys4
import Derived.Deep.RegionWith
import Derived.Deep.LoopGhost
namespace Go.Proofs.Ytgffkjjddhlbpaa
open Go.RowKit Go.Maps Stw

theorem Try.rowE : (141 : TypeId) < Try.prog.types.size := of_decide_eq_true (by kernel_rfl)
theorem Try.wideE : (match Try.prog.underlying 141 with | some (.array _ _) | some (.struct _) => true | _ => false) = true := by kernel_rfl
set_option maxRecDepth 100000 in
theorem lawE : Keyed Try.prog 141 := Keyed.of_law (deep_law_laid Try.laidOut (m := 2) (by omega) Try.rowE (by kernel_rfl) Try.wideE)
theorem zero3 (w : World) : (zeroValue 3).run Try.prog w = .ok (.int .i64 0) w := by kernel_rfl
theorem Try.cellsE : Try.prog.cellsOf 141 = 2 := by kernel_rfl

def kk (a b : Int) : Lit := .string (keyBytes [.int .i64 a, .int .i64 b])

theorem Try.sizeE : Try.prog.types.size = (Try.prog.types.size - 1) + 1 := by kernel_rfl
theorem Try.keyE : Try.prog.keyType 141 = true := by kernel_rfl
theorem keyLits_two {a b : Int} (ha : I64 a) (hb : I64 b) (m : Nat) : Try.prog.keyLits (m + 1 + 1) 141 [.int .i64 a, .int .i64 b] = some [.int .i64 a, .int .i64 b] := by
  unfold I64 at ha hb
  simp [Program.keyLits, Try.underlying141, Try.underlying3, Try.cellsE, Try.cells3, ha, hb]
theorem keyLits_ends {a b : Int} (ha : I64 a) (hb : I64 b) : Try.prog.keyLits (Try.prog.types.size + 1) 141 [.int .i64 a, .int .i64 b] = some [.int .i64 a, .int .i64 b] := by
  rw [Try.sizeE]
  exact keyLits_two ha hb _

theorem key_ends {a b : Int} (ha : I64 a) (hb : I64 b) : keyOf Try.prog 141 (.agg #[.int .i64 a, .int .i64 b]) = some (kk a b) := by
  have hf : (Value.agg #[.int .i64 a, .int .i64 b]).formed Try.prog 141 = true := by simp [Value.formed, Try.underlying141, Try.cellsE]
  unfold keyOf
  simp only [Try.underlying141, Try.keyE, hf, Bool.and_self, if_true, Value.cells]
  rw [keyLits_ends ha hb]
  rfl

theorem kk_inj {a b c d : Int} (ha : I64 a) (hb : I64 b) (hc : I64 c) (hd : I64 d) (h : kk a b = kk c d) : a = c ∧ b = d := by
  have h1 := key_ends ha hb
  have h2 := key_ends hc hd
  rw [h] at h1
  have := lawE.inj h1 h2
  simpa using this

/-- The links lie at this address. -/
def LinksAt (w : World) (b off : Nat) (ls : List Lk) : Prop :=
  ∀ k, k < ls.length → w.cell? ⟨b, off + k * 3, none⟩ = some (.int .i64 (ls.getD k lk0).a) ∧ w.cell? ⟨b, off + k * 3 + 1, none⟩ = some (.int .i64 (ls.getD k lk0).b) ∧ w.cell? ⟨b, off + k * 3 + 2, none⟩ = some (.int .i64 (ls.getD k lk0).c)

/-- A net's links, at whatever address where there are none. -/
def NetAt (w : World) (ao : Option Addr) (ls : List Lk) : Prop :=
  ls = [] ∨ ∃ b off, ao = some ⟨b, off, none⟩ ∧ b < w.heap.size ∧ LinksAt w b off ls

theorem LinksAt.ext {w w' : World} {b off : Nat} {ls : List Lk} (h : LinksAt w b off ls) (hb : b < w.heap.size) (k : Ext w w') : LinksAt w' b off ls := by
  intro i hi
  obtain ⟨h1, h2, h3⟩ := h i hi
  exact ⟨(k.cells.1 _ _ hb).trans h1, (k.cells.1 _ _ hb).trans h2, (k.cells.1 _ _ hb).trans h3⟩
theorem NetAt.ext {w w' : World} {ao : Option Addr} {ls : List Lk} (h : NetAt w ao ls) (k : Ext w w') : NetAt w' ao ls := by
  rcases h with h | ⟨b, off, h1, h2, h3⟩
  · exact Or.inl h
  · exact Or.inr ⟨b, off, h1, Nat.lt_of_lt_of_le h2 k.size, h3.ext h2 k⟩

/-- A map of what links cost. -/
def CostMap (w : World) (m : Nat) (ls : List Lk) : Prop :=
  ∃ n, n ≤ ls.length ∧ ∃ D : DataW Unit, w.ownsMap Try.prog 141 (plainElem Try.prog 3) m n D ∧ ∀ a b, I64 a → I64 b → D.atKey (kk (min a b) (max a b)) (.lit (.int .i64 0)) = .lit (.int .i64 (cost ls a b))

theorem CostMap.ext {w w' : World} {m : Nat} {ls : List Lk} (h : CostMap w m ls) (k : Ext w w') : CostMap w' m ls := by
  obtain ⟨n, hn, D, hown, hD⟩ := h
  refine ⟨n, hn, D, ?_, hD⟩
  have hlt := hown.lt
  obtain ⟨es, cl, hb, r⟩ := hown
  exact ⟨es, cl, by rw [← hb]; exact Below.block k m hlt, r⟩

theorem CostMap.setCell {w : World} {m : Nat} {ls : List Lk} (h : CostMap w m ls) {a : Addr} (ha : m ≠ a.block) (u : Value) : CostMap (w.setCell a u) m ls := by
  obtain ⟨n, hn, D, hown, hD⟩ := h
  exact ⟨n, hn, D, hown.setCell ha u, hD⟩

theorem CostMap.lt {w : World} {m : Nat} {ls : List Lk} (h : CostMap w m ls) : m < w.heap.size := by
  obtain ⟨n, hn, D, hown, hD⟩ := h
  exact hown.lt

theorem CostMap.look {w : World} {m : Nat} {ls : List Lk} (h : CostMap w m ls) {a b : Int} (ha : I64 a) (hb : I64 b) :
    (Instr.lookup 119 (.map (some m)) (.agg #[.int .i64 (min a b), .int .i64 (max a b)]) false).run Try.prog w = .ok (.int .i64 (cost ls a b)) w := by
  obtain ⟨n, hn, D, hown, hD⟩ := h
  have ha' : I64 (min a b) := by simp only [Int.min_def]; split <;> assumption
  have hb' : I64 (max a b) := by simp only [Int.max_def]; split <;> assumption
  obtain ⟨c, hrun, hat, _⟩ := hown.lookup_int lawE Try.underlying119 Try.underlying3 (zero3 _) (key_ends ha' hb')
  rw [hrun]
  rw [hD a b ha hb] at hat
  simp only [DataW.lit.injEq, Lit.int.injEq, true_and] at hat
  rw [hat]

set_option maxRecDepth 100000 in
theorem CostMap.put {w : World} {m : Nat} {ls : List Lk} (h : CostMap w m ls) (l : Lk) (ha : I64 l.a) (hb : I64 l.b) (hc : I64 l.c) (hs : ls.length < maxLen) (hj : anyJ ls l.a l.b = false) :
    ∃ w', (Instr.mapUpdate 119 (.map (some m)) (.agg #[.int .i64 (min l.a l.b), .int .i64 (max l.a l.b)]) (.int .i64 l.c)).run Try.prog w = .ok () w' ∧ CostMap w' m (ls ++ [l]) ∧ w.grownBy w' (some m) := by
  obtain ⟨n, hn, D, hown, hD⟩ := h
  have mm : ∀ {a b : Int}, I64 a → I64 b → I64 (min a b) := by intro a b ha hb; simp only [Int.min_def]; split <;> assumption
  have mx : ∀ {a b : Int}, I64 a → I64 b → I64 (max a b) := by intro a b ha hb; simp only [Int.max_def]; split <;> assumption
  obtain ⟨w', hrun, hown', hg⟩ := hown.update lawE Try.underlying119 (Nat.lt_of_le_of_lt hn hs) (key_ends (mm ha hb) (mx ha hb)) (plainElem_int Try.underlying3 hc)
  refine ⟨w', hrun, ⟨n + 1, by simp; omega, _, hown', fun a b wa wb => ?_⟩, hg⟩
  rw [cost_snoc]
  by_cases he : jn l a b = true
  · have e1 := jn_minmax.1 he
    rw [e1.1, e1.2]
    have : anyJ ls a b = false := by
      rw [← hj]
      unfold anyJ
      rcases jn_iff.1 he with ⟨h1, h2⟩ | ⟨h1, h2⟩
      · rw [h1, h2]
      · rw [h1, h2]; congr 1; funext x; exact jn_comm x a b
    simp only [this, he, Bool.false_eq_true, if_false, if_true]
    exact atKey_put_same hown.isMap (lawE.key (key_ends (mm wa wb) (mx wa wb))) _ _
  · have hne : kk (min a b) (max a b) ≠ kk (min l.a l.b) (max l.a l.b) := fun e => by
      have := kk_inj (mm wa wb) (mx wa wb) (mm ha hb) (mx ha hb) e
      exact he (jn_minmax.2 ⟨this.1.symm, this.2.symm⟩)
    have e2 : (if anyJ ls a b = true then cost ls a b else if jn l a b = true then l.c else 0) = cost ls a b := by
      simp only [he, Bool.false_eq_true, if_false]
      split
      · rfl
      · rename_i h; exact (cost_none (by simpa using h)).symm
    rw [e2, ← hD a b wa wb]
    exact atKey_put_other hne _ _

theorem two_boxes {w wr : World} {v0 v1 u0 u1 : Value} {T U : TypeId} (h : Below (w.heap.size + 1 + 1) ((w.alloc (.cells #[v0, v1] T)).alloc (.cells #[u0, u1] U)) wr) :
    wr.cell? ⟨w.heap.size, 0, none⟩ = some v0 ∧ wr.cell? ⟨w.heap.size, 1, none⟩ = some v1 ∧ wr.cell? ⟨w.heap.size + 1, 0, none⟩ = some u0 ∧ wr.cell? ⟨w.heap.size + 1, 1, none⟩ = some u1 ∧
    wr.frozen? ⟨w.heap.size + 1, 0, none⟩ = false ∧ wr.frozen? ⟨w.heap.size + 1, 1, none⟩ = false ∧ (∀ b o, b < w.heap.size → wr.cell? ⟨b, o, none⟩ = w.cell? ⟨b, o, none⟩) := by
  have k0 : w.heap.size < w.heap.size + 1 + 1 := by omega
  have k1 : w.heap.size + 1 < w.heap.size + 1 + 1 := by omega
  refine ⟨(h.cell k0).trans (by simp), (h.cell k0).trans (by simp), (h.cell k1).trans (by simp), (h.cell k1).trans (by simp), (h.frozen k1).trans (by simp), (h.frozen k1).trans (by simp), fun b o hb => ?_⟩
  exact (h.cell (p := ⟨b, o, none⟩) (show b < w.heap.size + 1 + 1 by omega)).trans ((World.cell?_alloc_past _ _ _ (by simp; omega)).trans (World.cell?_alloc_past _ _ _ hb))

/-- What the boxes of a call stand on. -/
theorem ext_boxes {w wr : World} {o1 o2 : Obj} (h : Below (w.heap.size + 1 + 1) ((w.alloc o1).alloc o2) wr) : Ext w wr :=
  Below.trans (((Ext.refl w).alloc o1).alloc o2) (h.mono (by omega))

theorem below_ext {B : Nat} {a b c : World} (h : Below B a b) (k : Ext b c) (hB : B ≤ b.heap.size) : Below B a c := h.trans (Below.mono k hB)
theorem below_grown {B m : Nat} {a b c : World} (h : Below B a b) (k : b.grownBy c (some m)) (hB : B ≤ b.heap.size) (hm : B ≤ m) : Below B a c := h.grown k hB (fun j hj => by cases hj; exact hm)

theorem ewl_link {n : Int} {ls : List Lk} {k : Nat} {x : Lk} (hx : x = ls.getD k lk0) (h : ¬ wlink n x.a x.b x.c = 0) : ewl n ls k = wlink n x.a x.b x.c := by
  subst hx; simp only [ewl, h, if_false]
theorem ewl_dup {n : Int} {ls : List Lk} {k : Nat} {x : Lk} (hx : x = ls.getD k lk0) (h : wlink n x.a x.b x.c = 0) (hj : anyJ (ls.take k) x.a x.b = true) : ewl n ls k = 7 := by
  subst hx; simp only [ewl, h, hj, if_true]
theorem ewl_ok {n : Int} {ls : List Lk} {k : Nat} {x : Lk} (hx : x = ls.getD k lk0) (h : wlink n x.a x.b x.c = 0) (hj : anyJ (ls.take k) x.a x.b = false) : ewl n ls k = 0 := by
  subst hx; simp only [ewl, h, hj, if_true, Bool.false_eq_true, if_false]
theorem take_snoc {ls : List Lk} {k : Nat} {x : Lk} (hx : x = ls.getD k lk0) (h : k < ls.length) : ls.take (k + 1) = ls.take k ++ [x] := by
  subst hx
  rw [List.take_succ_eq_append_getElem h]
  simp [List.getD_eq_getElem?_getD, h]
theorem pre_pos {n : Int} {ls : List Lk} {k : Nat} (hk : k ≤ ls.length) (h : ∀ j, j < k → ewl n ls j = 0) : ∀ l ∈ ls.take k, 1 ≤ l.c := by
  intro l hl
  obtain ⟨i, hi, rfl⟩ := List.getElem_of_mem hl
  simp only [List.length_take] at hi
  have := wlink_zero (ewl_zero (h i (by omega))).1
  rw [List.getElem_take]
  have e : ls.getD i lk0 = ls[i]'(by omega) := by simp [List.getD_eq_getElem?_getD, show i < ls.length by omega]
  rw [e] at this
  omega

end Go.Proofs.Ytgffkjjddhlbpaa
