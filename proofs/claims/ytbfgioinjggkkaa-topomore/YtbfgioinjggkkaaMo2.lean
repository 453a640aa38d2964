/- TopoMore answers true, for every net and link; nothing that was there is changed. -/
import Derived.Test.YtbfgioinjggkkaaMo1
import Derived.Test.YtbfgioinjggkkaaOpn
import Derived.Test.YtbfgioinjggkkaaR1
import Derived.Deep.RegionHeld3
import Derived.Deep.AppendLies
import Derived.Deep.DeepCutAuto
namespace Go.Proofs.Ytbfgioinjggkkaa
open Go.RowKit Go.Maps Stw Go.Sort

theorem Try.info43 : (Try.prog.info? 43).map (fun i => (i.zero, i.size, i.bytes)) = some (some (.agg #[.int .i64 0, .int .i64 0, .int .i64 0]), 3, 24) := by kernel_rfl

theorem own_empty {w : World} {base B : Nat} (hB : base ≤ B) (h : w.heap[B]? = some (.cells #[] 43 (0, 0))) : w.ownsRow base 43 3 (.slice (some ⟨B, 0, none⟩) 0 0) 0 [] :=
  ⟨rfl, Or.inr ⟨B, 0, #[], rfl, hB, h, Nat.le_refl _, by decide, rfl, rfl⟩⟩

/-- At a step of a region that draws its order: a list of its own, empty, to which another list is appended, which may be empty too. -/
theorem step_append_net {P : Program} {ops : Array Oper} {o : Oper} {a : Act} {K : Act → World → Prop} {Q : Exit → Act → World → Prop} {E : Prop} (w : World) (hgd : o.guard = none) (s y : Operand) (t : TypeId)
    (ho : o.op = .call { callee := .builtin .append, args := #[s, y], argTypes := #[t, t] })
    (base : Nat) (e : TypeId) (i : TypeInfo) (z : Value) (size bytes : Nat) (ht : P.underlying t = some (.slice e)) (hi : P.info? e = some i) (hz : i.zero = some z)
    (hsize : i.size = size) (hby : i.bytes = bytes) (hzs : z.cells.size = size) (hsz : 0 < size)
    (B : Nat) (hs : a.eval s = .slice (some ⟨B, 0, none⟩) 0 0) (hown : w.ownsRow base e size (.slice (some ⟨B, 0, none⟩) 0 0) 0 [])
    (ao : Option Addr) (m c : Nat) (news : List Value) (hx : a.eval y = .slice ao m c) (hl : news.length = m * size) (hnews : m = 0 ∨ ∃ ad, ao = some ad ∧ ∀ j u, news[j]? = some u → w.cell? (ad.add j) = some u) (h1 : ∀ u ∈ news, u.oneCell' = true)
    (h63 : m ≤ maxLen) (hbytes : m * bytes ≤ 140737488355328) (hbase : base ≤ w.heap.size)
    (h : ∀ g cap w', w'.ownsRow base e size (.slice (some ⟨g, 0, none⟩) m cap) m news → w.grownBy w' (some B) → K (a.put o.dst (.slice (some ⟨g, 0, none⟩) m cap)) w') :
    if Region.wanted o (yielded ops a.tmps) = true then Oper.wp P o a w K Q else E := by
  by_cases hm : m = 0
  · subst hm
    have hn : news = [] := List.eq_nil_of_length_eq_zero (by simpa using hl)
    subst hn
    have hw : Region.wanted o (yielded ops a.tmps) = true := by simp [Region.wanted, hgd]
    rw [if_pos hw]
    have hrun : (Builtin.append_ #[t, t] o.type #[.slice (some ⟨B, 0, none⟩) 0 0, .slice ao 0 c]).run P w = .ok (.slice (some ⟨B, 0, none⟩) 0 0) w := by
      cases ao <;> simp [Builtin.append_, run_underlying ht, sizeOf, typeInfo, hi, Builtin.lenOf, Builtin.firstCells, storeCells, loadCells, loadCellsFrom]
    unfold Oper.wp
    simp [execOp, ho, resolve, invoke, builtin, hs, hx, hrun, Result.andThen]
    exact h B 0 w hown (World.grownBy.refl _ _)
  · rcases hnews with h0 | ⟨ad, rfl, hnews⟩
    · exact absurd h0 hm
    · refine step_append_lies w hgd s y t ho base e i z size bytes ht hi hz hsize hby hzs hsz (.slice (some ⟨B, 0, none⟩) 0 0) 0 [] hs hown ad m c news hx hl hnews h1 (by omega) (by omega) (by simpa using hbytes) hbase _ rfl ?_
      intro g cap w' h2 h3 _ _
      simp only [Nat.zero_add, List.nil_append] at h2 ⊢
      exact h g cap w' h2 h3

theorem range_of {n : Int} {ls : List Lk} {fr : Int} {L : List Int} (h : RL n ls fr L) (hr : Right n ls) {x : Int} (hx : x ∈ L) : 0 ≤ x ∧ x < n := by
  obtain ⟨_, h2, h3⟩ := (h.2 x).1 hx
  refine h3 (fun y => 0 ≤ y ∧ y < n) (swB_true.1 h2) (fun a b _ hc => ?_)
  have := (hr.cost a b).2.2 (by omega)
  omega
theorem len_of {n : Int} {ls : List Lk} {fr : Int} {L : List Int} (h : RL n ls fr L) (hr : Right n ls) : L.length ≤ 8 := by
  have hb := hr.bounds
  exact nodup_le 8 L (h.1.imp (fun h => by omega)) (fun x hx => by have := range_of h hr hx; omega)

theorem bool_of (p : Prop) : ∃ β : Bool, β = true ↔ p := by
  by_cases h : p
  · exact ⟨true, by simp [h]⟩
  · exact ⟨false, by simp [h]⟩
theorem more_fact {n k j : Int} {ls : List Lk} {x : Lk} {L1 L2 : List Int} {β1 β2 β3 β4 β5 : Bool} (h1 : (wrong n ls).1 = 0) (h2 : (wrong n (ls ++ [x])).1 = 0) (hr1 : Right n ls) (hr2 : Right n (ls ++ [x])) (hL1 : RL n ls k L1) (hL2 : RL n (ls ++ [x]) k L2) (hk0 : 0 ≤ k) (hk : k < n)
    (b1 : β1 = decide (j ∈ L1)) (b2 : β2 = decide (x.a ∈ L1)) (b3 : β3 = true ↔ Rch ls x.b j) (b4 : β4 = decide (x.b ∈ L1)) (b5 : β5 = true ↔ Rch ls x.a j) : decide (j ∈ L2) = (β1 || (β2 && β3) || (β4 && β5)) := by
  have hs : swB n k = true := swB_true.2 ⟨hk0, hk⟩
  have m1 : ∀ s, s ∈ L1 ↔ Rch ls k s := fun s => (hL1.2 s).trans ⟨fun h => h.2.2, fun h => ⟨h1, hs, h⟩⟩
  have m2 : j ∈ L2 ↔ Rch (ls ++ [x]) k j := (hL2.2 j).trans ⟨fun h => h.2.2, fun h => ⟨h2, hs, h⟩⟩
  rw [Bool.eq_iff_iff]
  simp only [Bool.or_eq_true, Bool.and_eq_true, b3, b5, b1, b2, b4, decide_eq_true_eq, m1, m2]
  rw [rch_more hr1 hr2, or_assoc]
theorem reach_in {n s j : Int} {ao : Option Addr} {len cap : Nat} {ls : List Lk} {W : World} {β : Bool} (hlen : ls.length = len) (hl : NetAt W ao ls) (hx : len ≤ 9223372036854775807) (h1 : (wrong n ls).1 = 0) (hr : Right n ls) (hs0 : 0 ≤ s) (hs : s < n) (hβ : β = true ↔ Rch ls s j) :
    Calls Try.prog 10 #[.agg #[.int .i64 n, .slice ao len cap], .int .i64 s] W fun e w' => ∃ lo lc L, e = .returned (.slice lo (List.length L) lc) ∧ Ext W w' ∧ ∀ W' : World, Ext w' W' → Calls Try.prog 17 #[.slice lo (List.length (α := Int) L) lc, .int .i64 j] W' fun e w'' => e = .returned (.bool β) ∧ w'' = W' := by
  refine (Reaches_any n s ao len cap ls W hlen hl hx).mono ?_
  rintro e w' ⟨lo, lc, L, rfl, hL, hrl, hE⟩
  refine ⟨lo, lc, L, rfl, hE, fun W' h => ?_⟩
  have hb : β = decide (j ∈ L) := by
    rw [Bool.eq_iff_iff, hβ, decide_eq_true_eq]
    exact ((hrl.2 j).trans ⟨fun h => h.2.2, fun h => ⟨h1, swB_true.2 ⟨hs0, hs⟩, h⟩⟩).symm
  rw [hb]
  exact in_any lo lc L j W' (len_of hrl hr) (hL.ext h)

theorem one3 (a b c : Int) : ∀ u ∈ [Value.int .i64 a, .int .i64 b, .int .i64 c], u.oneCell' = true := by
  intro u hu
  simp only [List.mem_cons, List.not_mem_nil, or_false] at hu
  rcases hu with rfl | rfl | rfl <;> rfl
theorem u_kept {w1 W0 W : World} {v : Value} (h : Below (w1.heap.size + 1) W0 W) (u1 : W0.cell? ⟨w1.heap.size, 1, none⟩ = some v) (uf : W0.frozen? ⟨w1.heap.size, 1, none⟩ = false) : W.cell? ⟨w1.heap.size, 1, none⟩ = some v ∧ W.frozen? ⟨w1.heap.size, 1, none⟩ = false :=
  ⟨(h.cell (p := ⟨w1.heap.size, 1, none⟩) (Nat.lt_succ_self _)).trans u1, (h.frozen (p := ⟨w1.heap.size, 1, none⟩) (Nat.lt_succ_self _)).trans uf⟩
theorem ext_of_below {w1 W0 W : World} (h : Ext w1 W0) (k : Below (w1.heap.size + 1) W0 W) : Ext w1 W := Below.trans h (k.mono (by omega))

theorem more_rel {w1 W0 w3 : World} {n : Int} {v : Value} {g gc len : Nat} {ls : List Lk} {x : Lk} (hE2 : Ext w1 W0) (hsz : W0.heap.size = w1.heap.size + 1) (hB3 : Below (w1.heap.size + 1) W0 w3) (hlen : ls.length = len)
    (hown3 : w3.ownsRow (w1.heap.size + 1) 43 3 (.slice (some ⟨g, 0, none⟩) (len + 1) gc) (len + 1) (linkCells ls ++ [.int .i64 x.a, .int .i64 x.b, .int .i64 x.c])) (u0 : W0.cell? ⟨w1.heap.size, 0, none⟩ = some (.int .i64 n)) (z1 : w3.cell? ⟨w1.heap.size, 1, none⟩ = some v) :
    ∃ (g' gc' : Nat), (w3.setCell ⟨w1.heap.size, 1, none⟩ (.slice (some ⟨g, 0, none⟩) (len + 1) gc)).cell? ⟨w1.heap.size, 0, none⟩ = some (.int .i64 n) ∧ (w3.setCell ⟨w1.heap.size, 1, none⟩ (.slice (some ⟨g, 0, none⟩) (len + 1) gc)).cell? ⟨w1.heap.size, 1, none⟩ = some (.slice (some ⟨g', 0, none⟩) (len + 1) gc') ∧
      g' < (w3.setCell ⟨w1.heap.size, 1, none⟩ (.slice (some ⟨g, 0, none⟩) (len + 1) gc)).heap.size ∧ LinksAt (w3.setCell ⟨w1.heap.size, 1, none⟩ (.slice (some ⟨g, 0, none⟩) (len + 1) gc)) g' 0 (ls ++ [x]) ∧ Ext w1 (w3.setCell ⟨w1.heap.size, 1, none⟩ (.slice (some ⟨g, 0, none⟩) (len + 1) gc)) ∧ w1.heap.size < (w3.setCell ⟨w1.heap.size, 1, none⟩ (.slice (some ⟨g, 0, none⟩) (len + 1) gc)).heap.size := by
  have hgl := hown3.lt g rfl
  have hs := hB3.size
  refine ⟨g, gc, ?_, World.cell?_setCell_same _ _ _ z1, by simpa using hgl.2, ?_, (ext_of_below hE2 hB3).setCell (by simp) _, by simp; omega⟩
  · rw [World.cell?_setCell_other _ ⟨w1.heap.size, 1, none⟩ ⟨w1.heap.size, 0, none⟩ _ (by simp)]
    exact (hB3.cell (p := ⟨w1.heap.size, 0, none⟩) (Nat.lt_succ_self _)).trans u0
  · have h1 := ownsRow_setCell_below hown3 (a := ⟨w1.heap.size, 1, none⟩) (Nat.lt_succ_self _) (.slice (some ⟨g, 0, none⟩) (len + 1) gc)
    rw [← linkCells_snoc] at h1
    have e : (ls ++ [x]).length = len + 1 := by simp [hlen]
    refine links_own (base := w1.heap.size + 1) (cap := gc) ?_
    rw [e]
    exact h1

set_option maxRecDepth 100000 in
set_option maxHeartbeats 4000000 in
theorem more_any (n : Int) (x : Lk) (ao : Option Addr) (len cap : Nat) (ls : List Lk) (w : World) (hlen : ls.length = len) (hl : NetAt w ao ls) (hx : len * 24 ≤ 140737488351232) :
    Calls Try.prog 6 #[.agg #[.int .i64 n, .slice ao len cap], .agg #[.int .i64 x.a, .int .i64 x.b, .int .i64 x.c]] w fun e w' => e = .returned (.bool true) ∧ Ext w w' := by
  have hfd := fldErr
  obtain ⟨i0, hi0, hz0, hz1, hz2⟩ := info_parts Try.info43
  go_enter Try.func6, Try.ntmps6
  go_wp2_with fail
  refine (alive_any _).mono ?_; rintro e w1 ⟨rfl, hb1⟩
  have hE1 : Ext w w1 := (((Ext.refl w).alloc _).alloc _).trans hb1
  have hs1 : w.heap.size + 1 < w1.heap.size := by have := hb1.size; simp at this; omega
  have hs0 : w.heap.size < w1.heap.size := by omega
  have HB : Hid (∀ W : World, Ext w1 W → W.cell? ⟨w.heap.size, 0, none⟩ = some (.int .i64 n) ∧ W.cell? ⟨w.heap.size, 1, none⟩ = some (.slice ao len cap) ∧ W.cell? ⟨w.heap.size + 1, 0, none⟩ = some (.int .i64 x.a) ∧ W.cell? ⟨w.heap.size + 1, 1, none⟩ = some (.int .i64 x.b) ∧ W.cell? ⟨w.heap.size + 1, 2, none⟩ = some (.int .i64 x.c)) := fun W h => by
    have h2 := hb1.cells.1
    refine ⟨(h.cells.1 _ _ hs0).trans ((h2 _ _ (by simp; omega)).trans ?_), (h.cells.1 _ _ hs0).trans ((h2 _ _ (by simp; omega)).trans ?_), (h.cells.1 _ _ hs1).trans ((h2 _ _ (by simp)).trans (by simp)), (h.cells.1 _ _ hs1).trans ((h2 _ _ (by simp)).trans (by simp)), (h.cells.1 _ _ hs1).trans ((h2 _ _ (by simp)).trans (by simp))⟩
    · rw [World.cell?_alloc_past _ _ _ (by simp)]; simp
    · rw [World.cell?_alloc_past _ _ _ (by simp)]; simp
  obtain ⟨c0, c1, c2, c3, c4⟩ := HB.out w1 (Ext.refl _)
  go_wp2
  obtain ⟨W0, hW0⟩ : ∃ W0, W0 = w1.alloc (.cells #[.int .i64 n, .slice ao len cap] 24) := ⟨_, rfl⟩
  have hE2 : Ext w1 W0 := by rw [hW0]; exact (Ext.refl w1).alloc _
  have hSz : W0.heap.size = w1.heap.size + 1 := by rw [hW0]; simp
  have u0 : W0.cell? ⟨w1.heap.size, 0, none⟩ = some (.int .i64 n) := by rw [hW0]; simp
  have u1 : W0.cell? ⟨w1.heap.size, 1, none⟩ = some (.slice ao len cap) := by rw [hW0]; simp
  have uf : W0.frozen? ⟨w1.heap.size, 1, none⟩ = false := by rw [hW0]; simp
  rw [← hW0]
  clear hW0
  have HSZ : Hid (W0.heap.size = w1.heap.size + 1) := hSz
  clear hSz
  go_cut [22] (fun _ wc => ∃ (g gc : Nat), wc.cell? ⟨w1.heap.size, 0, none⟩ = some (.int .i64 n) ∧ wc.cell? ⟨w1.heap.size, 1, none⟩ = some (.slice (some ⟨g, 0, none⟩) (len + 1) gc) ∧ g < wc.heap.size ∧ LinksAt wc g 0 (ls ++ [x]) ∧ Ext w1 wc ∧ w1.heap.size < wc.heap.size)
  case first =>
    have hnews : ∀ W, Ext W0 W → (len = 0 ∨ ∃ ad, ao = some ad ∧ ∀ j u, (linkCells ls)[j]? = some u → W.cell? (ad.add j) = some u) := fun W hW => by
      rcases hl with rfl | ⟨b, off, rfl, hb, hl⟩
      · exact Or.inl (by simpa using hlen.symm)
      · refine Or.inr ⟨_, rfl, ?_⟩
        have hlW : LinksAt W0 b off ls := (hl.ext hb (hE1.trans hE2))
        have hbW : b < W0.heap.size := Nat.lt_of_lt_of_le hb (hE1.trans hE2).size
        exact links_cells (hlW.ext hbW hW)
    have hSz := HSZ.out
    have hownA : ((W0.alloc (Obj.cells #[] 43)).drew).ownsRow (w1.heap.size + 1) 43 3 (.slice (some ⟨W0.heap.size, 0, none⟩) 0 0) 0 [] := own_empty (by omega) (heap_alloc_new W0 _)
    have hownB : (((W0.alloc (Obj.cells #[] 43)).alloc (Obj.cells #[.int .i64 x.a, .int .i64 x.b, .int .i64 x.c] 43)).drew).ownsRow (w1.heap.size + 1) 43 3 (.slice (some ⟨W0.heap.size, 0, none⟩) 0 0) 0 [] := own_empty (by omega) ((Below.heap_alloc _ _ _ (by simp)).trans (heap_alloc_new W0 _))
    have hownC : (((W0.alloc (Obj.cells #[.int .i64 x.a, .int .i64 x.b, .int .i64 x.c] 43)).alloc (Obj.cells #[] 43)).drew).ownsRow (w1.heap.size + 1) 43 3 (.slice (some ⟨W0.heap.size + 1, 0, none⟩) 0 0) 0 [] := own_empty (by omega) (by
      have := heap_alloc_new (W0.alloc (Obj.cells #[.int .i64 x.a, .int .i64 x.b, .int .i64 x.c] 43)) (Obj.cells #[] 43)
      rwa [World.size_alloc] at this)
    have HA := hid (And.intro hownA (And.intro (hnews ((W0.alloc (Obj.cells #[] 43)).drew) ((Ext.refl W0).alloc _).drew) (And.intro (show w1.heap.size + 1 ≤ ((W0.alloc (Obj.cells #[] 43)).drew).heap.size by simp; omega) (fun w2 (h : ((W0.alloc (Obj.cells #[] 43)).drew).grownBy w2 (some W0.heap.size)) => (show Below (w1.heap.size + 1) W0 w2 from Below.grown ((Below.refl _ _).alloc (by omega) _).drew h (by simp; omega) (fun k hk => by cases hk; omega))))))
    have HBB := hid (And.intro hownB (And.intro (hnews (((W0.alloc (Obj.cells #[] 43)).alloc (Obj.cells #[.int .i64 x.a, .int .i64 x.b, .int .i64 x.c] 43)).drew) (((Ext.refl W0).alloc _).alloc _).drew) (And.intro (show w1.heap.size + 1 ≤ (((W0.alloc (Obj.cells #[] 43)).alloc (Obj.cells #[.int .i64 x.a, .int .i64 x.b, .int .i64 x.c] 43)).drew).heap.size by simp; omega) (fun w2 (h : (((W0.alloc (Obj.cells #[] 43)).alloc (Obj.cells #[.int .i64 x.a, .int .i64 x.b, .int .i64 x.c] 43)).drew).grownBy w2 (some W0.heap.size)) => (show Below (w1.heap.size + 1) W0 w2 from Below.grown (((Below.refl _ _).alloc (by omega) _).alloc (by simp; omega) _).drew h (by simp; omega) (fun k hk => by cases hk; omega))))))
    have HC := hid (And.intro hownC (And.intro (hnews (((W0.alloc (Obj.cells #[.int .i64 x.a, .int .i64 x.b, .int .i64 x.c] 43)).alloc (Obj.cells #[] 43)).drew) (((Ext.refl W0).alloc _).alloc _).drew) (And.intro (show w1.heap.size + 1 ≤ (((W0.alloc (Obj.cells #[.int .i64 x.a, .int .i64 x.b, .int .i64 x.c] 43)).alloc (Obj.cells #[] 43)).drew).heap.size by simp; omega) (fun w2 (h : (((W0.alloc (Obj.cells #[.int .i64 x.a, .int .i64 x.b, .int .i64 x.c] 43)).alloc (Obj.cells #[] 43)).drew).grownBy w2 (some (W0.heap.size + 1))) => (show Below (w1.heap.size + 1) W0 w2 from Below.grown (((Below.refl _ _).alloc (by omega) _).alloc (by simp; omega) _).drew h (by simp; omega) (fun k hk => by cases hk; omega))))))
    have HNB : Hid (∀ w2, (((W0.alloc (Obj.cells #[] 43)).alloc (Obj.cells #[.int .i64 x.a, .int .i64 x.b, .int .i64 x.c] 43)).drew).grownBy w2 (some W0.heap.size) → w2.heap[W0.heap.size + 1]? = some (.cells #[.int .i64 x.a, .int .i64 x.b, .int .i64 x.c] 43 (0, 0))) := fun w2 h => by
      rw [h.block (W0.heap.size + 1) (by simp) (by simp)]
      have := heap_alloc_new (W0.alloc (Obj.cells #[] 43)) (Obj.cells #[.int .i64 x.a, .int .i64 x.b, .int .i64 x.c] 43)
      rw [World.size_alloc] at this
      exact this
    have HNC : Hid (∀ w2, (((W0.alloc (Obj.cells #[.int .i64 x.a, .int .i64 x.b, .int .i64 x.c] 43)).alloc (Obj.cells #[] 43)).drew).grownBy w2 (some (W0.heap.size + 1)) → w2.heap[W0.heap.size]? = some (.cells #[.int .i64 x.a, .int .i64 x.b, .int .i64 x.c] 43 (0, 0))) := fun w2 h => by
      rw [h.block W0.heap.size (by simp; omega) (by simp)]
      exact (Below.heap_alloc _ _ _ (by simp)).trans (heap_alloc_new W0 _)
    clear hownA hownB hownC hSz
    go_region_held3 (fun W => W.cell? ⟨w.heap.size, 1, none⟩ = some (.slice ao len cap) ∧ W.cell? ⟨w.heap.size + 1, 0, none⟩ = some (.int .i64 x.a) ∧ W.cell? ⟨w.heap.size + 1, 1, none⟩ = some (.int .i64 x.b) ∧ W.cell? ⟨w.heap.size + 1, 2, none⟩ = some (.int .i64 x.c))
      (first | exact (HB.out _ hE2.drew).2 | exact (HB.out _ (hE2.alloc _).drew).2 | exact (HB.out _ ((hE2.alloc _).alloc _).drew).2 | exact (HB.out _ (ext_of_below hE2 hB2)).2 | exact (HB.out _ ((ext_of_below hE2 hB2).alloc _)).2 | exact (HB.out _ (ext_of_below hE2 hB3)).2 | exact (HB.out _ ((ext_of_below hE2 hB3).setCell (by simp) _)).2)
      (first
        | (have _t := hB2
           refine step_append_lies _ ?_ (.tmp 18) (.tmp 20) 22 ?_ (w1.heap.size + 1) 43 i0 (.agg #[.int .i64 0, .int .i64 0, .int .i64 0]) 3 24 Try.underlying22 hi0 hz0 hz1 hz2 rfl (by decide) (.slice (some ⟨g1, 0, none⟩) len gc1) len (linkCells ls) ?_ ?_ ⟨w2.heap.size, 0, none⟩ 1 1 [.int .i64 x.a, .int .i64 x.b, .int .i64 x.c] ?_ rfl ?_ ?_ ?_ ?_ ?_ ?_ _ rfl ?_
           · rfl
           · rfl
           · first | rfl | (show Value.slice (some ⟨g1, 0, none⟩) (0 + len) gc1 = _; rw [Nat.zero_add])
           · exact hown2.alloc _
           · rfl
           · exact World.news_of_block (cs := #[.int .i64 x.a, .int .i64 x.b, .int .i64 x.c]) (heap_alloc_new w2 _)
           · exact one3 _ _ _
           · omega
           · unfold maxLen; omega
           · omega
           · have := hB2.size; have := HSZ.out; simp; omega
           intro g gc w3 hown3 hgr3 hat3 hlt3
           have hB3 : Below (w1.heap.size + 1) W0 w3 := Below.grown (hB2.alloc (by have := hB2.size; have := HSZ.out; omega) _) hgr3 (by have := hB2.size; have := HSZ.out; simp; omega) (fun k hk => (hown2.lt k hk).1)
           obtain ⟨z1, z2⟩ := u_kept hB3 u1 uf)
        | (have _t := hB2
           refine step_append_lies _ ?_ (.tmp 18) (.tmp 20) 22 ?_ (w1.heap.size + 1) 43 i0 (.agg #[.int .i64 0, .int .i64 0, .int .i64 0]) 3 24 Try.underlying22 hi0 hz0 hz1 hz2 rfl (by decide) (.slice (some ⟨g1, 0, none⟩) len gc1) len (linkCells ls) ?_ ?_ ⟨W0.heap.size + 1, 0, none⟩ 1 1 [.int .i64 x.a, .int .i64 x.b, .int .i64 x.c] ?_ rfl ?_ ?_ ?_ ?_ ?_ ?_ _ rfl ?_
           · rfl
           · rfl
           · first | rfl | (show Value.slice (some ⟨g1, 0, none⟩) (0 + len) gc1 = _; rw [Nat.zero_add])
           · exact hown2
           · rfl
           · exact World.news_of_block (cs := #[.int .i64 x.a, .int .i64 x.b, .int .i64 x.c]) (HNB.out w2 hgr2)
           · exact one3 _ _ _
           · omega
           · unfold maxLen; omega
           · omega
           · have := hB2.size; have := HSZ.out; omega
           intro g gc w3 hown3 hgr3 hat3 hlt3
           have hB3 : Below (w1.heap.size + 1) W0 w3 := Below.grown hB2 hgr3 (by have := hB2.size; have := HSZ.out; omega) (fun k hk => (hown2.lt k hk).1)
           obtain ⟨z1, z2⟩ := u_kept hB3 u1 uf)
        | (have _t := hB2
           refine step_append_lies _ ?_ (.tmp 18) (.tmp 20) 22 ?_ (w1.heap.size + 1) 43 i0 (.agg #[.int .i64 0, .int .i64 0, .int .i64 0]) 3 24 Try.underlying22 hi0 hz0 hz1 hz2 rfl (by decide) (.slice (some ⟨g1, 0, none⟩) len gc1) len (linkCells ls) ?_ ?_ ⟨W0.heap.size, 0, none⟩ 1 1 [.int .i64 x.a, .int .i64 x.b, .int .i64 x.c] ?_ rfl ?_ ?_ ?_ ?_ ?_ ?_ _ rfl ?_
           · rfl
           · rfl
           · first | rfl | (show Value.slice (some ⟨g1, 0, none⟩) (0 + len) gc1 = _; rw [Nat.zero_add])
           · exact hown2
           · rfl
           · exact World.news_of_block (cs := #[.int .i64 x.a, .int .i64 x.b, .int .i64 x.c]) (HNC.out w2 hgr2)
           · exact one3 _ _ _
           · omega
           · unfold maxLen; omega
           · omega
           · have := hB2.size; have := HSZ.out; omega
           intro g gc w3 hown3 hgr3 hat3 hlt3
           have hB3 : Below (w1.heap.size + 1) W0 w3 := Below.grown hB2 hgr3 (by have := hB2.size; have := HSZ.out; omega) (fun k hk => (hown2.lt k hk).1)
           obtain ⟨z1, z2⟩ := u_kept hB3 u1 uf)
        | (refine step_append_net _ ?_ (.tmp 15) (.tmp 17) 22 ?_ (w1.heap.size + 1) 43 i0 (.agg #[.int .i64 0, .int .i64 0, .int .i64 0]) 3 24 Try.underlying22 hi0 hz0 hz1 hz2 rfl (by decide) (W0.heap.size) ?_ ?_ ao len cap (linkCells ls) ?_ ?_ ?_ (linkCells_one ls) ?_ ?_ ?_ ?_
           · rfl
           · rfl
           · rfl
           · exact HA.out.1
           · rfl
           · rw [linkCells_len, hlen]
           · exact HA.out.2.1
           · unfold maxLen; omega
           · omega
           · exact HA.out.2.2.1
           intro g1 gc1 w2 hown2 hgr2
           have hB2 := HA.out.2.2.2 w2 hgr2)
        | (refine step_append_net _ ?_ (.tmp 15) (.tmp 17) 22 ?_ (w1.heap.size + 1) 43 i0 (.agg #[.int .i64 0, .int .i64 0, .int .i64 0]) 3 24 Try.underlying22 hi0 hz0 hz1 hz2 rfl (by decide) (W0.heap.size) ?_ ?_ ao len cap (linkCells ls) ?_ ?_ ?_ (linkCells_one ls) ?_ ?_ ?_ ?_
           · rfl
           · rfl
           · rfl
           · exact HBB.out.1
           · rfl
           · rw [linkCells_len, hlen]
           · exact HBB.out.2.1
           · unfold maxLen; omega
           · omega
           · exact HBB.out.2.2.1
           intro g1 gc1 w2 hown2 hgr2
           have hB2 := HBB.out.2.2.2 w2 hgr2)
        | (refine step_append_net _ ?_ (.tmp 15) (.tmp 17) 22 ?_ (w1.heap.size + 1) 43 i0 (.agg #[.int .i64 0, .int .i64 0, .int .i64 0]) 3 24 Try.underlying22 hi0 hz0 hz1 hz2 rfl (by decide) (W0.heap.size + 1) ?_ ?_ ao len cap (linkCells ls) ?_ ?_ ?_ (linkCells_one ls) ?_ ?_ ?_ ?_
           · rfl
           · rfl
           · rfl
           · exact HC.out.1
           · rfl
           · rw [linkCells_len, hlen]
           · exact HC.out.2.1
           · unfold maxLen; omega
           · omega
           · exact HC.out.2.2.1
           intro g1 gc1 w2 hown2 hgr2
           have hB2 := HC.out.2.2.2 w2 hgr2)
        | fail)
    all_goals
      go_wp2_with fail
      go_meet
      case rel => exact more_rel hE2 HSZ.out hB3 hlen hown3 u0 z1
  case rest =>
    obtain ⟨g, gc, d0, d1, hg, hlg, hE3, hs3⟩ := hcut
    obtain ⟨e0, e1, e2, e3, e4⟩ := HB.out _ hE3
    have hlt' : (ls ++ [x]).length = len + 1 := by simp [hlen]
    have hnu : NetAt wc (some ⟨g, 0, none⟩) (ls ++ [x]) := Or.inr ⟨g, 0, rfl, hg, hlg⟩
    have hnt : NetAt wc ao ls := hl.ext (hE1.trans hE3)
    by_cases hw1 : (wrong n ls).1 = 0
    · by_cases hw2 : (wrong n (ls ++ [x])).1 = 0
      · have hr1 := right_of hw1
        have hr2 := right_of hw2
        have hwa : ((wrong n ls).1 != 0) = false := by simpa using hw1
        have hwb : ((wrong n (ls ++ [x])).1 != 0) = false := by simpa using hw2
        have HW1 : Hid ((wrong n ls).1 = 0) := hw1
        have HW2 : Hid ((wrong n (ls ++ [x])).1 = 0) := hw2
        clear hw1 hw2
        have hbd := hr1.bounds
        obtain ⟨nn, rfl⟩ : ∃ nn : Nat, n = nn := ⟨n.toNat, by omega⟩
        go_wp2_with fail
        refine (Wrong_any nn ao len cap ls _ hlen hnt (by omega)).mono ?_
        rintro e w4 ⟨rfl, hb4⟩
        have d0' := (hb4.cells.1 _ _ hs3).trans d0
        have d1' := (hb4.cells.1 _ _ hs3).trans d1
        have hs4 : w1.heap.size < w4.heap.size := Nat.lt_of_lt_of_le hs3 hb4.size
        clear d0 d1
        go_wp2_with fail
        refine (Wrong_any nn (some ⟨g, 0, none⟩) (len + 1) gc (ls ++ [x]) _ hlt' (hnu.ext hb4) (by omega)).mono ?_
        rintro e w5 ⟨rfl, hb5⟩
        have hE5 : Ext w1 w5 := (hE3.trans hb4).trans hb5
        have d0 := (hb5.cells.1 _ _ hs4).trans d0'
        have d1 := (hb5.cells.1 _ _ hs4).trans d1'
        have hs5 : w1.heap.size < w5.heap.size := Nat.lt_of_lt_of_le hs4 hb5.size
        clear d0' d1' e0 e1 e2 e3 e4
        obtain ⟨e0, e1, e2, e3, e4⟩ := HB.out _ hE5
        clear c0 c1 c2 c3 c4 uf
        go_wp2_with fail
        clear hwa hwb hfd
        have HU : Hid (∀ W : World, Ext w5 W → W.cell? ⟨w1.heap.size, 0, none⟩ = some (.int .i64 nn) ∧ W.cell? ⟨w1.heap.size, 1, none⟩ = some (.slice (some ⟨g, 0, none⟩) (len + 1) gc)) := fun W h => ⟨(h.cells.1 _ _ hs5).trans d0, (h.cells.1 _ _ hs5).trans d1⟩
        clear e0 e1 e2 e3 e4 d0 d1
        go_loopw [35] (fun iv wr => ∃ k : Nat, k ≤ nn ∧ iv = .int .i64 k ∧ Ext w5 wr) (fun iv _ => nn - (intOf iv).toNat)
        case atStart => exact ⟨0, Nat.zero_le _, rfl, Ext.refl _⟩
        case round =>
          obtain ⟨k, hk, rfl, hext⟩ := hrel
          obtain ⟨wo, rfl⟩ : ∃ wo : World, wo = wr := ⟨_, rfl⟩
          by_cases hlt : k < nn
          · have hW : Ext w5 wo := hext
            have HS : Hid (∀ W : World, Ext w5 W → W.cell? ⟨w.heap.size, 0, none⟩ = some (.int .i64 nn) ∧ W.cell? ⟨w.heap.size, 1, none⟩ = some (.slice ao len cap) ∧ W.cell? ⟨w1.heap.size, 0, none⟩ = some (.int .i64 nn) ∧ W.cell? ⟨w1.heap.size, 1, none⟩ = some (.slice (some ⟨g, 0, none⟩) (len + 1) gc)) := fun W h => ⟨(HB.out _ (hE5.trans h)).1, (HB.out _ (hE5.trans h)).2.1, HU.out _ h⟩
            have hnt5 : NetAt w5 ao ls := hl.ext (hE1.trans hE5)
            have hnu5 : NetAt w5 (some ⟨g, 0, none⟩) (ls ++ [x]) := hnu.ext (hb4.trans hb5)
            go_wp2_with fail
            go_region_held3 (fun W => W.cell? ⟨w.heap.size, 0, none⟩ = some (.int .i64 nn) ∧ W.cell? ⟨w.heap.size, 1, none⟩ = some (.slice ao len cap) ∧ W.cell? ⟨w1.heap.size, 0, none⟩ = some (.int .i64 nn) ∧ W.cell? ⟨w1.heap.size, 1, none⟩ = some (.slice (some ⟨g, 0, none⟩) (len + 1) gc))
              (first | exact HS.out _ hW.drew | exact HS.out _ (hW.drew.trans ha1) | exact HS.out _ ((hW.drew.trans ha1).trans ha2))
              (first
                | (have _t := ha1; go_at_call 10; refine (Reaches_any nn k (some ⟨g, 0, none⟩) (len + 1) gc (ls ++ [x]) _ hlt' ?_ (by omega)).mono ?_; exact hnu5.ext (hW.drew.trans ha1); rintro e v2 ⟨lo2, lc2, L2, rfl, hL2, hrl2, ha2⟩)
                | (go_at_call 10; refine (Reaches_any nn k ao len cap ls _ hlen ?_ (by omega)).mono ?_; exact hnt5.ext hW.drew; rintro e v1 ⟨lo1, lc1, L1, rfl, hL1, hrl1, ha1⟩))
            go_wp2_with fail
            have hV : Ext w5 v2 := (hW.drew.trans ha1).trans ha2
            have hM1 := hL1.ext ha2
            have h8a := len_of hrl1 hr1
            have h8b := len_of hrl2 hr2
            clear hL1 ha1 ha2
            go_loopw [46] (fun iv wr => ∃ j : Nat, j ≤ nn ∧ iv = .int .i64 j ∧ Ext v2 wr) (fun iv _ => nn - (intOf iv).toNat)
            case atStart => exact ⟨0, Nat.zero_le _, rfl, Ext.refl _⟩
            case round =>
              obtain ⟨j, hj, rfl, hext2⟩ := hrel
              obtain ⟨wi, rfl⟩ : ∃ wi : World, wi = wr := ⟨_, rfl⟩
              by_cases hjlt : j < nn
              · obtain ⟨e0, e1, e2, e3, e4⟩ := HB.out _ ((hE5.trans hV).trans hext2)
                obtain ⟨β1, hβ1⟩ : ∃ β : Bool, β = decide ((j : Int) ∈ L1) := ⟨_, rfl⟩
                obtain ⟨β2, hβ2⟩ : ∃ β : Bool, β = decide (x.a ∈ L1) := ⟨_, rfl⟩
                obtain ⟨β4, hβ4⟩ : ∃ β : Bool, β = decide (x.b ∈ L1) := ⟨_, rfl⟩
                obtain ⟨β3, hβ3⟩ := bool_of (Rch ls x.b j)
                obtain ⟨β5, hβ5⟩ := bool_of (Rch ls x.a j)
                have hβ6 := more_fact HW1.out HW2.out hr1 hr2 hrl1 hrl2 (by omega) (by omega) hβ1 hβ2 hβ3 hβ4 hβ5
                have hxm := hr2.mem (l := x) (by simp)
                have HI : Hid (∀ W : World, Ext v2 W → (Calls Try.prog 17 #[.slice lo1 L1.length lc1, .int .i64 j] W fun e w' => e = .returned (.bool β1) ∧ w' = W) ∧ (Calls Try.prog 17 #[.slice lo1 L1.length lc1, .int .i64 x.a] W fun e w' => e = .returned (.bool β2) ∧ w' = W) ∧ (Calls Try.prog 17 #[.slice lo1 L1.length lc1, .int .i64 x.b] W fun e w' => e = .returned (.bool β4) ∧ w' = W) ∧ (Calls Try.prog 17 #[.slice lo2 L2.length lc2, .int .i64 j] W fun e w' => e = .returned (.bool (β1 || (β2 && β3) || (β4 && β5))) ∧ w' = W)) := fun W h => by
                  rw [← hβ6, hβ1, hβ2, hβ4]
                  exact ⟨in_any lo1 lc1 L1 j W h8a (hM1.ext h), in_any lo1 lc1 L1 x.a W h8a (hM1.ext h), in_any lo1 lc1 L1 x.b W h8a (hM1.ext h), in_any lo2 lc2 L2 j W h8b (hL2.ext h)⟩
                have HR : Hid (∀ W : World, Ext v2 W → (Calls Try.prog 10 #[.agg #[.int .i64 nn, .slice ao len cap], .int .i64 x.a] W fun e w' => ∃ lo lc L, e = .returned (.slice lo (List.length L) lc) ∧ Ext W w' ∧ ∀ W' : World, Ext w' W' → Calls Try.prog 17 #[.slice lo (List.length (α := Int) L) lc, .int .i64 j] W' fun e w'' => e = .returned (.bool β5) ∧ w'' = W') ∧ (Calls Try.prog 10 #[.agg #[.int .i64 nn, .slice ao len cap], .int .i64 x.b] W fun e w' => ∃ lo lc L, e = .returned (.slice lo (List.length L) lc) ∧ Ext W w' ∧ ∀ W' : World, Ext w' W' → Calls Try.prog 17 #[.slice lo (List.length (α := Int) L) lc, .int .i64 j] W' fun e w'' => e = .returned (.bool β3) ∧ w'' = W')) := fun W h =>
                  ⟨reach_in hlen (hnt5.ext (hV.trans h)) (by omega) HW1.out hr1 (by omega) (by omega) hβ5, reach_in hlen (hnt5.ext (hV.trans h)) (by omega) HW1.out hr1 (by omega) (by omega) hβ3⟩
                clear hβ1 hβ2 hβ4 hβ3 hβ5 hβ6 hxm
                go_wp2_with fail
                refine (HI.out _ hext2).1.mono ?_
                rintro e wq ⟨rfl, rfl⟩
                cases β1
                · go_wp2_with fail
                  refine (HI.out _ hext2).2.1.mono ?_
                  rintro e wq ⟨rfl, rfl⟩
                  cases β2
                  · go_wp2_with fail
                    refine (HI.out _ (hext2)).2.2.1.mono ?_
                    rintro e wq ⟨rfl, rfl⟩
                    cases β4
                    · go_wp2_with fail
                      refine (HI.out _ (hext2)).2.2.2.mono ?_
                      rintro e wq ⟨he, rfl⟩
                      replace he : e = .returned (.bool false) := he
                      subst he
                      go_wp2_with fail
                      go_roundw
                      case rel => exact ⟨j + 1, by omega, by go_num, hext2⟩
                      case measure => simp [intOf]; omega
                    · obtain ⟨f0, f1, f2, f3, f4⟩ := HB.out _ ((hE5.trans hV).trans (hext2))
                      go_wp2_with fail
                      refine (HR.out _ (hext2)).1.mono ?_
                      rintro e x4 ⟨lo4, lc4, L4, rfl, hx4, hq4⟩
                      go_wp2_with fail
                      refine (hq4 _ (Ext.refl _)).mono ?_
                      rintro e wq ⟨rfl, rfl⟩
                      cases β5
                      · go_wp2_with fail
                        refine (HI.out _ ((hext2).trans hx4)).2.2.2.mono ?_
                        rintro e wq ⟨he, rfl⟩
                        replace he : e = .returned (.bool false) := he
                        subst he
                        go_wp2_with fail
                        go_roundw
                        case rel => exact ⟨j + 1, by omega, by go_num, (hext2).trans hx4⟩
                        case measure => simp [intOf]; omega
                      · go_wp2_with fail
                        refine (HI.out _ ((hext2).trans hx4)).2.2.2.mono ?_
                        rintro e wq ⟨he, rfl⟩
                        replace he : e = .returned (.bool true) := he
                        subst he
                        go_wp2_with fail
                        go_roundw
                        case rel => exact ⟨j + 1, by omega, by go_num, (hext2).trans hx4⟩
                        case measure => simp [intOf]; omega
                  · obtain ⟨f0, f1, f2, f3, f4⟩ := HB.out _ ((hE5.trans hV).trans hext2)
                    go_wp2_with fail
                    refine (HR.out _ hext2).2.mono ?_
                    rintro e x3 ⟨lo3, lc3, L3, rfl, hx3, hq3⟩
                    go_wp2_with fail
                    refine (hq3 _ (Ext.refl _)).mono ?_
                    rintro e wq ⟨rfl, rfl⟩
                    cases β3
                    · obtain ⟨g0, g1, g2, g3, g4⟩ := HB.out _ ((hE5.trans hV).trans (hext2.trans hx3))
                      go_wp2_with fail
                      refine (HI.out _ (hext2.trans hx3)).2.2.1.mono ?_
                      rintro e wq ⟨rfl, rfl⟩
                      cases β4
                      · go_wp2_with fail
                        refine (HI.out _ (hext2.trans hx3)).2.2.2.mono ?_
                        rintro e wq ⟨he, rfl⟩
                        replace he : e = .returned (.bool false) := he
                        subst he
                        go_wp2_with fail
                        go_roundw
                        case rel => exact ⟨j + 1, by omega, by go_num, hext2.trans hx3⟩
                        case measure => simp [intOf]; omega
                      · obtain ⟨f0, f1, f2, f3, f4⟩ := HB.out _ ((hE5.trans hV).trans (hext2.trans hx3))
                        go_wp2_with fail
                        refine (HR.out _ (hext2.trans hx3)).1.mono ?_
                        rintro e x4 ⟨lo4, lc4, L4, rfl, hx4, hq4⟩
                        go_wp2_with fail
                        refine (hq4 _ (Ext.refl _)).mono ?_
                        rintro e wq ⟨rfl, rfl⟩
                        cases β5
                        · go_wp2_with fail
                          refine (HI.out _ ((hext2.trans hx3).trans hx4)).2.2.2.mono ?_
                          rintro e wq ⟨he, rfl⟩
                          replace he : e = .returned (.bool false) := he
                          subst he
                          go_wp2_with fail
                          go_roundw
                          case rel => exact ⟨j + 1, by omega, by go_num, (hext2.trans hx3).trans hx4⟩
                          case measure => simp [intOf]; omega
                        · go_wp2_with fail
                          refine (HI.out _ ((hext2.trans hx3).trans hx4)).2.2.2.mono ?_
                          rintro e wq ⟨he, rfl⟩
                          replace he : e = .returned (.bool true) := he
                          subst he
                          go_wp2_with fail
                          go_roundw
                          case rel => exact ⟨j + 1, by omega, by go_num, (hext2.trans hx3).trans hx4⟩
                          case measure => simp [intOf]; omega
                    · go_wp2_with fail
                      refine (HI.out _ (hext2.trans hx3)).2.2.2.mono ?_
                      rintro e wq ⟨he, rfl⟩
                      replace he : e = .returned (.bool true) := he
                      subst he
                      go_wp2_with fail
                      go_roundw
                      case rel => exact ⟨j + 1, by omega, by go_num, hext2.trans hx3⟩
                      case measure => simp [intOf]; omega
                · go_wp2_with fail
                  refine (HI.out _ (hext2)).2.2.2.mono ?_
                  rintro e wq ⟨he, rfl⟩
                  replace he : e = .returned (.bool true) := he
                  subst he
                  go_wp2_with fail
                  go_roundw
                  case rel => exact ⟨j + 1, by omega, by go_num, hext2⟩
                  case measure => simp [intOf]; omega
              · go_wp2_with fail
                go_roundw
                case rel => exact ⟨k + 1, by omega, by go_num, hV.trans hext2⟩
                case measure => simp [intOf]; omega
          · obtain ⟨e0, e1, e2, e3, e4⟩ := HB.out _ (hE5.trans hext)
            go_wp2_with fail
            go_ret
            exact ⟨rfl, (hE1.trans hE5).trans hext⟩
      · have hwa : ((wrong n ls).1 != 0) = false := by simpa using hw1
        have hwb : ((wrong n (ls ++ [x])).1 != 0) = true := by simpa using hw2
        clear hw1 hw2
        go_wp2_with fail
        refine (Wrong_any n ao len cap ls _ hlen hnt (by omega)).mono ?_
        rintro e w4 ⟨rfl, hb4⟩
        have d0' := (hb4.cells.1 _ _ hs3).trans d0
        have d1' := (hb4.cells.1 _ _ hs3).trans d1
        go_wp2_with fail
        refine (Wrong_any n (some ⟨g, 0, none⟩) (len + 1) gc (ls ++ [x]) _ hlt' (hnu.ext hb4) (by omega)).mono ?_
        rintro e w5 ⟨rfl, hb5⟩
        go_wp2_with fail
        go_ret
        exact ⟨rfl, ((hE1.trans hE3).trans hb4).trans hb5⟩
    · have hwa : ((wrong n ls).1 != 0) = true := by simpa using hw1
      clear hw1
      go_wp2_with fail
      refine (Wrong_any n ao len cap ls _ hlen hnt (by omega)).mono ?_
      rintro e w4 ⟨rfl, hb4⟩
      go_wp2_with fail
      go_ret
      exact ⟨rfl, (hE1.trans hE3).trans hb4⟩

end Go.Proofs.Ytbfgioinjggkkaa
