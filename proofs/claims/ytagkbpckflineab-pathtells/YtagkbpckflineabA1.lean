/- Lists of paths in memory; how a list that may be empty is appended to one of the call's own. -/
import Derived.Test.YtagkbpckflineabS1
import Derived.Test.YtagkbpckflineabP2
import Derived.Test.YtagkbpckflineabQ5
import Derived.Test.YtagkbpckflineabM3
import Derived.Deep.RegionHeld3
import Derived.Deep.AppendLies
import Derived.Maps.AppendAt
namespace Go.Proofs.Ytagkbpckflineab
open Go.RowKit Go.Maps Stw Go.Deep Stp

/-- A value that is a path, in a block of such a kind. -/
def PV (w : World) (Q : Nat → Prop) (p : List Int) (v : Value) : Prop := ∃ b off c, v = .slice (some ⟨b, off, none⟩) p.length c ∧ Q b ∧ b < w.heap.size ∧ IntsAt w b off p ∧ p.length ≤ c
def PVs (w : World) (Q : Nat → Prop) : List (List Int) → List Value → Prop
  | [], [] => True
  | p :: ps, v :: vs => PV w Q p v ∧ PVs w Q ps vs
  | _, _ => False

theorem PV.mono {w w' : World} {Q Q' : Nat → Prop} {p : List Int} {v : Value} (h : PV w Q p v) (H : ∀ b, Q b → b < w.heap.size → Q' b ∧ b < w'.heap.size ∧ w'.heap[b]? = w.heap[b]?) : PV w' Q' p v := by
  obtain ⟨b, off, c, h1, h2, h3, h4, h5⟩ := h
  obtain ⟨k1, k2, k3⟩ := H b h2 h3
  exact ⟨b, off, c, h1, k1, k2, fun i hi => (World.cell?_of_block (a := ⟨b, off + i, none⟩) k3).trans (h4 i hi), h5⟩
theorem PVs.mono {w w' : World} {Q Q' : Nat → Prop} (H : ∀ b, Q b → b < w.heap.size → Q' b ∧ b < w'.heap.size ∧ w'.heap[b]? = w.heap[b]?) : ∀ {ps : List (List Int)} {vs : List Value}, PVs w Q ps vs → PVs w' Q' ps vs
  | [], [], _ => trivial
  | [], _ :: _, h => by cases h
  | _ :: _, [], h => by cases h
  | _ :: _, _ :: _, h => ⟨h.1.mono H, PVs.mono H h.2⟩
theorem PVs.ext {w w' : World} {Q : Nat → Prop} {ps : List (List Int)} {vs : List Value} (h : PVs w Q ps vs) (k : Ext w w') : PVs w' Q ps vs := h.mono (fun b hb hl => ⟨hb, Nat.lt_of_lt_of_le hl k.size, Below.block k b hl⟩)
theorem PVs.len {w : World} {Q : Nat → Prop} : ∀ {ps : List (List Int)} {vs : List Value}, PVs w Q ps vs → vs.length = ps.length
  | [], [], _ => rfl
  | [], _ :: _, h => by cases h
  | _ :: _, [], h => by cases h
  | _ :: _, _ :: _, h => by simp [PVs.len h.2]
theorem PVs.app {w : World} {Q : Nat → Prop} : ∀ {ps qs : List (List Int)} {vs us : List Value}, PVs w Q ps vs → PVs w Q qs us → PVs w Q (ps ++ qs) (vs ++ us)
  | [], _, [], _, _, k => k
  | [], _, _ :: _, _, h, _ => by cases h
  | _ :: _, _, [], _, h, _ => by cases h
  | _ :: _, _, _ :: _, _, h, k => ⟨h.1, PVs.app h.2 k⟩
theorem PVs.get {w : World} {Q : Nat → Prop} : ∀ {ps : List (List Int)} {vs : List Value} {i : Nat}, PVs w Q ps vs → i < ps.length → ∃ v, vs[i]? = some v ∧ PV w Q (ps.getD i []) v
  | [], _, _, _, hi => by simp at hi
  | _ :: _, [], _, h, _ => by cases h
  | _ :: _, v :: _, 0, h, _ => ⟨v, rfl, h.1⟩
  | _ :: _, _ :: _, i + 1, h, hi => by
    obtain ⟨v, h1, h2⟩ := PVs.get h.2 (i := i) (by simpa using hi)
    exact ⟨v, by simpa using h1, by simpa using h2⟩
theorem PVs.one {w : World} {Q : Nat → Prop} : ∀ {ps : List (List Int)} {vs : List Value}, PVs w Q ps vs → ∀ u ∈ vs, u.oneCell' = true
  | [], [], _, u, hu => by cases hu
  | [], _ :: _, h, _, _ => by cases h
  | _ :: _, [], h, _, _ => by cases h
  | _ :: _, _ :: _, h, u, hu => by
    rcases List.mem_cons.1 hu with rfl | hu
    · obtain ⟨b, off, c, rfl, _⟩ := h.1
      rfl
    · exact PVs.one h.2 u hu

/-- Values lie at this address, one behind the other. -/
def RowAt (w : World) (ro : Option Addr) (vs : List Value) : Prop := (vs = [] ∧ ro = none) ∨ ∃ g off, ro = some ⟨g, off, none⟩ ∧ g < w.heap.size ∧ ∀ (i : Nat) (v : Value), vs[i]? = some v → w.cell? ⟨g, off + i, none⟩ = some v
theorem RowAt.ext {w w' : World} {ro : Option Addr} {vs : List Value} (h : RowAt w ro vs) (k : Ext w w') : RowAt w' ro vs := by
  rcases h with h | ⟨g, off, h1, h2, h3⟩
  · exact Or.inl h
  · exact Or.inr ⟨g, off, h1, Nat.lt_of_lt_of_le h2 k.size, fun i v hv => (k.cells.1 _ _ h2).trans (h3 i v hv)⟩
theorem rowAt_own {w : World} {base : Nat} {e : TypeId} {v : Value} {vs : List Value} (h : w.ownsRow base e 1 v vs.length vs) : ∃ ro c, v = .slice ro vs.length c ∧ RowAt w ro vs := by
  rcases h.2 with ⟨h1, h2⟩ | ⟨g, c, cur, hv, _⟩
  · exact ⟨none, 0, by rw [h1, h2], Or.inl ⟨List.eq_nil_of_length_eq_zero h2, rfl⟩⟩
  · subst hv
    refine ⟨some ⟨g, 0, none⟩, c, rfl, Or.inr ⟨g, 0, rfl, (h.lt g rfl).2, fun i v hv => ?_⟩⟩
    have hi := (List.getElem?_eq_some_iff.1 hv).1
    rw [Nat.zero_add, h.cellAt i (by omega)]
    exact hv

theorem run_append_nil {P : Program} (w : World) (t ty e : TypeId) (i : TypeInfo) (ht : P.underlying t = some (.slice e)) (hi : P.info? e = some i) {base size : Nat} {v : Value} {n : Nat} {xs : List Value} (hown : w.ownsRow base e size v n xs) :
    (Builtin.append_ #[t, t] ty #[v, .slice none 0 0]).run P w = .ok v w := by
  rcases hown.2 with ⟨rfl, _⟩ | ⟨g, cap, cur, rfl, _, _, h1, h2, _⟩
  · simp [Builtin.append_, run_underlying ht, sizeOf, typeInfo, hi, Builtin.lenOf, Builtin.firstCells]
  · simp [Builtin.append_, run_underlying ht, sizeOf, typeInfo, hi, Builtin.lenOf, Builtin.firstCells, storeCells, loadCells, h1]

/-- At a step of a region that draws its order: a list that may be empty is appended to one of its own. -/
theorem step_append_row {P : Program} {ops : Array Oper} {o : Oper} {a : Act} {K : Act → World → Prop} {Q : Exit → Act → World → Prop} {E : Prop} (w : World) (hgd : o.guard = none) (s y : Operand) (t : TypeId)
    (ho : o.op = .call { callee := .builtin .append, args := #[s, y], argTypes := #[t, t] })
    (base : Nat) (e : TypeId) (i : TypeInfo) (z : Value) (bytes : Nat) (ht : P.underlying t = some (.slice e)) (hi : P.info? e = some i) (hz : i.zero = some z)
    (hsize : i.size = 1) (hby : i.bytes = bytes) (hzs : z.cells.size = 1)
    (v : Value) (n : Nat) (xs : List Value) (hs : a.eval s = v) (hown : w.ownsRow base e 1 v n xs)
    (ro : Option Addr) (m c : Nat) (news : List Value) (hx : a.eval y = .slice ro m c) (hl : news.length = m) (hc : ro = none → c = 0) (hrow : RowAt w ro news) (h1 : ∀ u ∈ news, u.oneCell' = true)
    (h63 : n + m ≤ maxLen) (hbytes : (n + m) * bytes ≤ 140737488355328) (hbase : base ≤ w.heap.size)
    (h : ∀ v' w', w'.ownsRow base e 1 v' (n + m) (xs ++ news) → w.grownBy w' v.ownBlock → (v'.ownBlock = v.ownBlock ∨ v'.ownBlock = some w.heap.size) → K (a.put o.dst v') w') :
    if Region.wanted o (yielded ops a.tmps) = true then Oper.wp P o a w K Q else E := by
  have hw : Region.wanted o (yielded ops a.tmps) = true := by simp [Region.wanted, hgd]
  rw [if_pos hw]
  rcases hrow with ⟨rfl, rfl⟩ | ⟨g, off, rfl, hg, hr⟩
  · have hm : m = 0 := by simpa using hl.symm
    subst hm
    have hc0 := hc rfl
    subst hc0
    have hrun := run_append_nil (P := P) w t o.type e i ht hi hown
    unfold Oper.wp execOp
    simp only [ho, resolve, invoke, builtin, Sem.run_bind, Sem.run_pure, Result.andThen_ok, List.map_toArray, List.map_cons, List.map_nil, hs, hx, hrun]
    exact h v w (by simpa using hown) (World.grownBy.refl _ _) (Or.inl rfl)
  · obtain ⟨v', w', hrun, h2, h3, _, h5⟩ := run_append_own_at (P := P) w base t o.type e i z 1 bytes ht hi hz hsize hby hzs (by omega) v n xs hown ⟨g, off, none⟩ m c news (by omega) (fun j u hu => by rw [Addr.add_mid]; exact hr j u hu) h1 h63 hbytes hbase
    unfold Oper.wp execOp
    simp only [ho, resolve, invoke, builtin, Sem.run_bind, Sem.run_pure, Result.andThen_ok, List.map_toArray, List.map_cons, List.map_nil, hs, hx, hrun]
    exact h v' w' h2 h3 h5

theorem infoL : (Try.prog.info? 26).map (fun i => (i.zero, i.size, i.bytes)) = some (some (.slice none 0 0), 1, 24) := by kernel_rfl
theorem own_ext {w w' : World} {base : Nat} {e : TypeId} {size n : Nat} {v : Value} {xs : List Value} (h : w.ownsRow base e size v n xs) (k : Ext w w') : w'.ownsRow base e size v n xs := by
  have hlt := h.lt
  obtain ⟨e1, e2⟩ := h
  refine ⟨e1, ?_⟩
  rcases e2 with e3 | ⟨g, cap, cur, hv, hb, hgc, r⟩
  · exact Or.inl e3
  · exact Or.inr ⟨g, cap, cur, hv, hb, (Below.block k g (hlt g (by rw [hv]; rfl)).2).trans hgc, r⟩
theorem own_none {w : World} {base B : Nat} (hB : base ≤ B) (h : w.heap[B]? = some (.cells #[] 3 (0, 0))) : w.ownsRow base 3 1 (.slice (some ⟨B, 0, none⟩) 0 0) 0 [] :=
  ⟨rfl, Or.inr ⟨B, 0, #[], rfl, hB, h, Nat.le_refl _, by decide, rfl, rfl⟩⟩
theorem heap_new (w : World) (o : Obj) : (w.alloc o).heap[w.heap.size]? = some o := blk_alloc_new w o

end Go.Proofs.Ytagkbpckflineab
