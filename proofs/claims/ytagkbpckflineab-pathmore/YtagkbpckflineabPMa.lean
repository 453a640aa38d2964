/- The links of a net as cells; how one link more is appended to a copy of them. -/
import Derived.Test.YtagkbpckflineabP8
import Derived.Lib.QuietBelow
import Derived.Deep.RegionHeld3
import Derived.Deep.AppendLies
import Derived.Deep.DeepCutAuto
namespace Go.Proofs.Ytagkbpckflineab
open Go.RowKit Go.Maps Stw Go.Sort

/-- Links, as cells. -/
def linkCells (ls : List Lk) : List Value := ls.flatMap (fun l => [.int .i64 l.a, .int .i64 l.b, .int .i64 l.c])
theorem linkCells_len : ∀ ls : List Lk, (linkCells ls).length = ls.length * 3
  | [] => rfl
  | l :: r => by
    have ih := linkCells_len r
    have e : linkCells (l :: r) = [Value.int .i64 l.a, .int .i64 l.b, .int .i64 l.c] ++ linkCells r := by simp [linkCells]
    rw [e, List.length_append, ih]
    simp
    omega
theorem linkCells_snoc (ls : List Lk) (l : Lk) : linkCells (ls ++ [l]) = linkCells ls ++ [.int .i64 l.a, .int .i64 l.b, .int .i64 l.c] := by simp [linkCells]
theorem linkCells_one (ls : List Lk) : ∀ u ∈ linkCells ls, u.oneCell' = true := by
  intro u hu
  simp only [linkCells, List.mem_flatMap, List.mem_cons, List.not_mem_nil, or_false] at hu
  obtain ⟨l, _, rfl | rfl | rfl⟩ := hu <;> rfl
theorem linkCells_at : ∀ (ls : List Lk) (k : Nat), k < ls.length → (linkCells ls)[k * 3]? = some (.int .i64 (ls.getD k lk0).a) ∧ (linkCells ls)[k * 3 + 1]? = some (.int .i64 (ls.getD k lk0).b) ∧ (linkCells ls)[k * 3 + 2]? = some (.int .i64 (ls.getD k lk0).c)
  | [], _, h => by simp at h
  | l :: r, 0, _ => by simp [linkCells]
  | l :: r, k + 1, h => by
    have ih := linkCells_at r k (by simpa using h)
    have e : linkCells (l :: r) = [Value.int .i64 l.a, .int .i64 l.b, .int .i64 l.c] ++ linkCells r := by simp [linkCells]
    rw [e, show (k + 1) * 3 = 3 + k * 3 by omega]
    simp only [List.getElem?_append, List.length_cons, List.length_nil]
    rw [if_neg (by omega), if_neg (by omega), if_neg (by omega)]
    simpa [show 3 + k * 3 - 3 = k * 3 by omega, show 3 + k * 3 + 1 - 3 = k * 3 + 1 by omega, show 3 + k * 3 + 2 - 3 = k * 3 + 2 by omega] using ih
theorem links_cells {w : World} {b off : Nat} {ls : List Lk} (h : LinksAt w b off ls) : ∀ j u, (linkCells ls)[j]? = some u → w.cell? ((⟨b, off, none⟩ : Addr).add j) = some u := by
  intro j u hu
  have hj : j < ls.length * 3 := by
    rw [← linkCells_len]
    exact (List.getElem?_eq_some_iff.1 hu).1
  have hadd : (⟨b, off, none⟩ : Addr).add j = ⟨b, off + j, none⟩ := by unfold Addr.add; split <;> simp_all
  rw [hadd]
  have hk : j / 3 < ls.length := by omega
  obtain ⟨h0, h1, h2⟩ := h (j / 3) hk
  obtain ⟨c0, c1, c2⟩ := linkCells_at ls (j / 3) hk
  rcases (show j = j / 3 * 3 ∨ j = j / 3 * 3 + 1 ∨ j = j / 3 * 3 + 2 by omega) with e | e | e
  · rw [e] at hu ⊢
    rw [c0] at hu; rw [h0]; exact hu
  · rw [e] at hu ⊢
    rw [c1] at hu; rw [← Nat.add_assoc, h1]; exact hu
  · rw [e] at hu ⊢
    rw [c2] at hu; rw [← Nat.add_assoc, h2]; exact hu
/-- What the call has appended are links of a net. -/
theorem links_own {w : World} {base g cap : Nat} {ls : List Lk} (h : w.ownsRow base 49 3 (.slice (some ⟨g, 0, none⟩) ls.length cap) ls.length (linkCells ls)) : LinksAt w g 0 ls := by
  intro k hk
  obtain ⟨c0, c1, c2⟩ := linkCells_at ls k hk
  rw [Nat.zero_add]
  exact ⟨(h.cellAt _ (by omega)).trans c0, (h.cellAt _ (by omega)).trans c1, (h.cellAt _ (by omega)).trans c2⟩

theorem Try.info43 : (Try.prog.info? 49).map (fun i => (i.zero, i.size, i.bytes)) = some (some (.agg #[.int .i64 0, .int .i64 0, .int .i64 0]), 3, 24) := by kernel_rfl

theorem own_empty {w : World} {base B : Nat} (hB : base ≤ B) (h : w.heap[B]? = some (.cells #[] 49 (0, 0))) : w.ownsRow base 49 3 (.slice (some ⟨B, 0, none⟩) 0 0) 0 [] :=
  ⟨rfl, Or.inr ⟨B, 0, #[], rfl, hB, h, Nat.le_refl _, by decide, rfl, rfl⟩⟩

/-- At a step of a region that draws its order: a list of its own, empty, to which another list is appended, which may be empty too. -/
theorem step_append_net {P : Program} {ops : Array Oper} {o : Oper} {a : Act} {K : Act → World → Prop} {Q : Exit → Act → World → Prop} {E : Prop} (w : World) (hgd : o.guard = none) (s y : Operand) (t : TypeId)
    (ho : o.op = .call { callee := .builtin .append, args := #[s, y], argTypes := #[t, t] })
    (base : Nat) (e : TypeId) (i : TypeInfo) (z : Value) (size bytes : Nat) (ht : P.underlying t = some (.slice e)) (hi : P.info? e = some i) (hz : i.zero = some z)
    (hsize : i.size = size) (hby : i.bytes = bytes) (hzs : z.cells.size = size) (hsz : 0 < size)
    (B : Nat) (hs : a.eval s = .slice (some ⟨B, 0, none⟩) 0 0) (hown : w.ownsRow base e size (.slice (some ⟨B, 0, none⟩) 0 0) 0 [])
    (ao : Option Addr) (m c : Nat) (news : List Value) (hx : a.eval y = .slice ao m c) (hl : news.length = m * size) (hnews : m = 0 ∨ ∃ ad, ao = some ad ∧ ∀ j u, news[j]? = some u → w.cell? (ad.add j) = some u) (h1 : ∀ u ∈ news, u.oneCell' = true)
    (h63 : m ≤ maxLen) (hbytes : m * bytes ≤ 140737488355328) (hbase : base ≤ w.heap.size)
    (h : ∀ g cap w', w'.ownsRow base e size (.slice (some ⟨g, 0, none⟩) m cap) m news → w.grownBy w' (some B) → K (a.put o.dst (.slice (some ⟨g, 0, none⟩) m cap)) w') :
    if Region.wanted o (yielded ops a.tmps) = true then Oper.wp P o a w K Q else E := by
  by_cases hm : m = 0
  · subst hm
    have hn : news = [] := List.eq_nil_of_length_eq_zero (by simpa using hl)
    subst hn
    have hw : Region.wanted o (yielded ops a.tmps) = true := by simp [Region.wanted, hgd]
    rw [if_pos hw]
    have hrun : (Builtin.append_ #[t, t] o.type #[.slice (some ⟨B, 0, none⟩) 0 0, .slice ao 0 c]).run P w = .ok (.slice (some ⟨B, 0, none⟩) 0 0) w := by
      cases ao <;> simp [Builtin.append_, run_underlying ht, sizeOf, typeInfo, hi, Builtin.lenOf, Builtin.firstCells, storeCells, loadCells, loadCellsFrom]
    unfold Oper.wp
    simp [execOp, ho, resolve, invoke, builtin, hs, hx, hrun, Result.andThen]
    exact h B 0 w hown (World.grownBy.refl _ _)
  · rcases hnews with h0 | ⟨ad, rfl, hnews⟩
    · exact absurd h0 hm
    · refine step_append_lies w hgd s y t ho base e i z size bytes ht hi hz hsize hby hzs hsz (.slice (some ⟨B, 0, none⟩) 0 0) 0 [] hs hown ad m c news hx hl hnews h1 (by omega) (by omega) (by simpa using hbytes) hbase _ rfl ?_
      intro g cap w' h2 h3 _ _
      simp only [Nat.zero_add, List.nil_append] at h2 ⊢
      exact h g cap w' h2 h3

theorem one3 (a b c : Int) : ∀ u ∈ [Value.int .i64 a, .int .i64 b, .int .i64 c], u.oneCell' = true := by
  intro u hu
  simp only [List.mem_cons, List.not_mem_nil, or_false] at hu
  rcases hu with rfl | rfl | rfl <;> rfl
theorem u_kept {w1 W0 W : World} {v : Value} (h : Below (w1.heap.size + 1) W0 W) (u1 : W0.cell? ⟨w1.heap.size, 1, none⟩ = some v) (uf : W0.frozen? ⟨w1.heap.size, 1, none⟩ = false) : W.cell? ⟨w1.heap.size, 1, none⟩ = some v ∧ W.frozen? ⟨w1.heap.size, 1, none⟩ = false :=
  ⟨(h.cell (p := ⟨w1.heap.size, 1, none⟩) (Nat.lt_succ_self _)).trans u1, (h.frozen (p := ⟨w1.heap.size, 1, none⟩) (Nat.lt_succ_self _)).trans uf⟩
theorem ext_of_below {w1 W0 W : World} (h : Ext w1 W0) (k : Below (w1.heap.size + 1) W0 W) : Ext w1 W := Below.trans h (k.mono (by omega))

theorem more_rel {w1 W0 w3 : World} {n : Int} {v : Value} {g gc len : Nat} {ls : List Lk} {x : Lk} (hE2 : Ext w1 W0) (hsz : W0.heap.size = w1.heap.size + 1) (hB3 : Below (w1.heap.size + 1) W0 w3) (hlen : ls.length = len)
    (hown3 : w3.ownsRow (w1.heap.size + 1) 49 3 (.slice (some ⟨g, 0, none⟩) (len + 1) gc) (len + 1) (linkCells ls ++ [.int .i64 x.a, .int .i64 x.b, .int .i64 x.c])) (u0 : W0.cell? ⟨w1.heap.size, 0, none⟩ = some (.int .i64 n)) (z1 : w3.cell? ⟨w1.heap.size, 1, none⟩ = some v) :
    ∃ (g' gc' : Nat), (w3.setCell ⟨w1.heap.size, 1, none⟩ (.slice (some ⟨g, 0, none⟩) (len + 1) gc)).cell? ⟨w1.heap.size, 0, none⟩ = some (.int .i64 n) ∧ (w3.setCell ⟨w1.heap.size, 1, none⟩ (.slice (some ⟨g, 0, none⟩) (len + 1) gc)).cell? ⟨w1.heap.size, 1, none⟩ = some (.slice (some ⟨g', 0, none⟩) (len + 1) gc') ∧
      g' < (w3.setCell ⟨w1.heap.size, 1, none⟩ (.slice (some ⟨g, 0, none⟩) (len + 1) gc)).heap.size ∧ LinksAt (w3.setCell ⟨w1.heap.size, 1, none⟩ (.slice (some ⟨g, 0, none⟩) (len + 1) gc)) g' 0 (ls ++ [x]) ∧ Ext w1 (w3.setCell ⟨w1.heap.size, 1, none⟩ (.slice (some ⟨g, 0, none⟩) (len + 1) gc)) ∧ w1.heap.size < (w3.setCell ⟨w1.heap.size, 1, none⟩ (.slice (some ⟨g, 0, none⟩) (len + 1) gc)).heap.size := by
  have hgl := hown3.lt g rfl
  have hs := hB3.size
  refine ⟨g, gc, ?_, World.cell?_setCell_same _ _ _ z1, by simpa using hgl.2, ?_, (ext_of_below hE2 hB3).setCell (by simp) _, by simp; omega⟩
  · rw [World.cell?_setCell_other _ ⟨w1.heap.size, 1, none⟩ ⟨w1.heap.size, 0, none⟩ _ (by simp)]
    exact (hB3.cell (p := ⟨w1.heap.size, 0, none⟩) (Nat.lt_succ_self _)).trans u0
  · have h1 := ownsRow_setCell_below hown3 (a := ⟨w1.heap.size, 1, none⟩) (Nat.lt_succ_self _) (.slice (some ⟨g, 0, none⟩) (len + 1) gc)
    rw [← linkCells_snoc] at h1
    have e : (ls ++ [x]).length = len + 1 := by simp [hlen]
    refine links_own (base := w1.heap.size + 1) (cap := gc) ?_
    rw [e]
    exact h1

end Go.Proofs.Ytagkbpckflineab
