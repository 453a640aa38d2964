/- How a search changes: a switch is closed and opened again, the way grows and shrinks, a better one is kept. -/
import Derived.Test.YtgffkjjddhlbpaaP3
import Derived.WalkSmall
import Derived.Lib.SmallJoins
namespace Go.Proofs.Ytgffkjjddhlbpaa
open Go.RowKit Go.Maps Stw Go.Deep Stp

theorem own_cap {w : World} {base : Nat} {e : TypeId} {size g n cap : Nat} {xs : List Value} (h : w.ownsRow base e size (.slice (some ⟨g, 0, none⟩) n cap) n xs) : n ≤ cap ∧ cap ≤ maxLen := by
  rcases h.2 with ⟨h0, _⟩ | ⟨g', cap', cur, hv, _, _, h1, h2, _⟩
  · cases h0
  · cases hv; exact ⟨h1, h2⟩

section
variable {w : World} {S : Nat} {C : Int → Int → Int} {fr to l : Int} {vv nv wv bv : Value} {cl way : List Int} {best : Option (List Int × Int)}

theorem intsAt_of_block {w w' : World} {g o : Nat} {p : List Int} (h : IntsAt w g o p) (e : w'.heap[g]? = w.heap[g]?) : IntsAt w' g o p := fun i hi => (World.cell?_of_block (a := ⟨g, o + i, none⟩) e).trans (h i hi)

theorem BestIs.kept {w' : World} {wv' : Value} (h : BestIs w S wv bv l best) (hsz : w.heap.size ≤ w'.heap.size) (hb : ∀ g, S < g → g < w.heap.size → wv.ownBlock ≠ some g → w'.heap[g]? = w.heap[g]?) (hv : ∀ g, S < g → g < w.heap.size → wv.ownBlock ≠ some g → wv'.ownBlock ≠ some g) : BestIs w' S wv' bv l best := by
  cases best with
  | none => exact h
  | some x =>
    obtain ⟨p, c⟩ := x
    obtain ⟨g, cap, h1, h2, h3, h4, h5, h6, h7⟩ := h
    exact ⟨g, cap, h1, h2, by omega, intsAt_of_block h4 (hb g h2 h3 h5), hv g h2 h3 h5, h6, h7⟩

theorem SA.close (h : SA w S C fr to vv nv cl way wv bv l best) {x : Nat} (hx : x < 8) : SA (w.setCell ⟨S, 68 + x, none⟩ (.bool true)) S C fr to vv nv ((x : Int) :: cl) way wv bv l best :=
  ⟨(h.row.set _ _).congr (fun j _ => sF_close hx j), ownsRow_setCell_below h.own (by simp) _, h.best.kept (by simp) (fun g hg _ _ => blk_setCell_other _ _ _ _ (by simp; omega)) (fun g _ _ h => h)⟩
theorem SA.reopen {x : Nat} (h : SA w S C fr to vv nv ((x : Int) :: cl) way wv bv l best) (hx : x < 8) (hn : ¬ (x : Int) ∈ cl) : SA (w.setCell ⟨S, 68 + x, none⟩ (.bool false)) S C fr to vv nv cl way wv bv l best :=
  ⟨(h.row.set _ _).congr (fun j _ => sF_open hx hn j), ownsRow_setCell_below h.own (by simp) _, h.best.kept (by simp) (fun g hg _ _ => blk_setCell_other _ _ _ _ (by simp; omega)) (fun g _ _ h => h)⟩

theorem SA.push {w' : World} {o : Obj} {x : Int} {g cap : Nat} (h : SA w S C fr to vv nv cl way wv bv l best)
    (hown : w'.ownsRow (S + 1) 3 1 (.slice (some ⟨g, 0, none⟩) (way.length + 1) cap) (way.length + 1) (way.map (Value.int .i64) ++ [.int .i64 x])) (hg : (w.alloc o).grownBy w' wv.ownBlock) (hat : wv.ownBlock = some g ∨ g = w.heap.size + 1) :
    SA (w'.setCell ⟨S, 76, none⟩ (.slice (some ⟨g, 0, none⟩) (way.length + 1) cap)) S C fr to vv nv cl (way ++ [x]) (.slice (some ⟨g, 0, none⟩) (way.length + 1) cap) bv l best := by
  have hS := h.row.lt
  have hne : wv.ownBlock ≠ some S := by
    intro e
    have := (h.own.lt S e).1
    omega
  have hblk : ∀ k, k < w.heap.size → wv.ownBlock ≠ some k → w'.heap[k]? = w.heap[k]? := fun k hk hk2 => (hg.block k (by simp; omega) (fun e => hk2 e.symm)).trans (blk_alloc_lt _ _ _ hk)
  refine ⟨((h.row.of_block (hblk S hS hne)).set 76 _).congr (fun j _ => sF_way j), ?_, h.best.kept ?_ (fun k hk1 hk2 hk3 => ?_) (fun k hk1 hk2 hk3 => ?_)⟩
  · have := ownsRow_setCell_below hown (a := ⟨S, 76, none⟩) (by simp) (.slice (some ⟨g, 0, none⟩) (way.length + 1) cap)
    simpa using this
  · have := hg.size
    simp at this ⊢
    omega
  · rw [blk_setCell_other _ _ _ _ (by simp; omega)]
    exact hblk k hk2 hk3
  · intro e
    have e' : g = k := by simpa [Value.ownBlock] using e
    subst e'
    rcases hat with h1 | h1
    · exact hk3 h1
    · omega

theorem SA.pop {x : Int} {n g cap : Nat} (h : SA w S C fr to vv nv cl (way ++ [x]) (.slice (some ⟨g, 0, none⟩) n cap) bv l best) (hn : n = way.length + 1) :
    SA (w.setCell ⟨S, 76, none⟩ (.slice (some ⟨g, 0, none⟩) way.length cap)) S C fr to vv nv cl way (.slice (some ⟨g, 0, none⟩) way.length cap) bv l best := by
  subst hn
  refine ⟨(h.row.set 76 _).congr (fun j _ => sF_way j), ?_, h.best.kept (by simp) (fun k hk _ _ => blk_setCell_other _ _ _ _ (by simp; omega)) (fun k _ _ h => by simpa [Value.ownBlock] using h)⟩
  refine ownsRow_setCell_below ?_ (by simp) _
  have := h.own
  simp only [List.length_append, List.length_cons, List.length_nil, List.map_append, List.map_cons, List.map_nil] at this
  exact ownsRow_pop (by simp) this

theorem SA.keep {w' : World} {v' : Value} {p : List Int} {c : Int} (h : SA w S C fr to vv nv cl way wv bv l best) (hE : Ext w w') (hown : w'.ownsRow w.heap.size 3 1 v' way.length (way.map (Value.int .i64))) (hp : 0 < way.length) (hw : p = way) :
    SA ((w'.setCell ⟨S, 77, none⟩ v').setCell ⟨S, 78, none⟩ (.int .i64 c)) S C fr to vv nv cl way wv v' c (some (p, c)) := by
  subst hw
  have hS := h.row.lt
  obtain ⟨g, cap, rfl, hg1, hg2⟩ := hown.form hp
  refine ⟨(((h.row.of_block (Below.block hE _ hS)).set 77 _).set 78 _).congr (fun j hj => sF_best hj), ?_, g, cap, rfl, by omega, by simpa using hg2, ?_, ?_, rfl, (own_cap hown).1⟩
  · refine ownsRow_setCell_below (ownsRow_setCell_below ?_ (by simp) _) (by simp) _
    have hlt := h.own.lt
    obtain ⟨e1, e2⟩ := h.own
    refine ⟨e1, ?_⟩
    rcases e2 with e3 | ⟨g', cap', cur, hv, hb, hgc, r⟩
    · exact Or.inl e3
    · refine Or.inr ⟨g', cap', cur, hv, hb, (Below.block hE g' (hlt g' (by rw [hv]; rfl)).2).trans hgc, r⟩
  · intro i hi
    rw [World.cell?_setCell_other _ _ _ _ (by intro e; have := congrArg Addr.block e; simp at this; omega), World.cell?_setCell_other _ _ _ _ (by intro e; have := congrArg Addr.block e; simp at this; omega), Nat.zero_add, hown.cellAt i (by omega), List.getElem?_map, List.getElem?_eq_getElem hi]
    simp [List.getD_eq_getElem?_getD, hi]
  · intro e
    have := (h.own.lt g e).2
    omega

end
end Go.Proofs.Ytgffkjjddhlbpaa
