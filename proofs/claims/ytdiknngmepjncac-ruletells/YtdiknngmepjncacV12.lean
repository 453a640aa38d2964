/- What is wrong with a row of rules: what both say of it. -/
import Derived.Test.YtdiknngmepjncacV7
namespace Go.Proofs.Ytdiknngmepjncac.Tb
open Go.RowKit Go.Maps Stw Go.Deep Rul Go.Sort

/-- Rules lie where a slice says. -/
def RsAt (w : World) (ao : Option Addr) (rs : List Ru) : Prop :=
  rs = [] ∨ ∃ g off, ao = some ⟨g, off, none⟩ ∧ g < w.heap.size ∧ ∀ k, k < rs.length → w.cell? ⟨g, off + k * 3, none⟩ = some (.int .i64 (rs.getD k (0, 0, 0)).1) ∧ w.cell? ⟨g, off + k * 3 + 1, none⟩ = some (.int .i64 (rs.getD k (0, 0, 0)).2.1) ∧ w.cell? ⟨g, off + k * 3 + 2, none⟩ = some (.int .i64 (rs.getD k (0, 0, 0)).2.2)
theorem RsAt.ext {w w' : World} {ao : Option Addr} {rs : List Ru} (h : RsAt w ao rs) (E : Ext w w') : RsAt w' ao rs := by
  rcases h with h | ⟨g, off, h1, h2, h3⟩
  · exact Or.inl h
  · exact Or.inr ⟨g, off, h1, Nat.lt_of_lt_of_le h2 E.size, fun k hk => by
      obtain ⟨c0, c1, c2⟩ := h3 k hk
      exact ⟨(E.cells.1 _ _ h2).trans c0, (E.cells.1 _ _ h2).trans c1, (E.cells.1 _ _ h2).trans c2⟩⟩
theorem RsAt.get {w : World} {ao : Option Addr} {rs : List Ru} (h : RsAt w ao rs) {k : Nat} (hk : k < rs.length) : ∃ g off, ao = some ⟨g, off, none⟩ ∧ g < w.heap.size ∧ ∀ k, k < rs.length → w.cell? ⟨g, off + k * 3, none⟩ = some (.int .i64 (rs.getD k (0, 0, 0)).1) ∧ w.cell? ⟨g, off + k * 3 + 1, none⟩ = some (.int .i64 (rs.getD k (0, 0, 0)).2.1) ∧ w.cell? ⟨g, off + k * 3 + 2, none⟩ = some (.int .i64 (rs.getD k (0, 0, 0)).2.2) := by
  rcases h with h | h
  · rw [h] at hk; simp at hk
  · exact h
/-- A row that is sorted lies as rules do. -/
theorem RW.rs {w : World} {b N : Nat} {d : Array Ru} (h : RW w b N d) : RsAt w (some ⟨b, 0, none⟩) d.toList := by
  refine Or.inr ⟨b, 0, rfl, h.lt, fun k hk => ?_⟩
  have hk' : k < d.size := by simpa using hk
  have e : d.toList.getD k (0, 0, 0) = d[k]! := by rw [getElem!_pos d k hk']; simp [List.getD_eq_getElem?_getD, hk']
  rw [e]
  obtain ⟨c0, c1, c2⟩ := h.cells hk' rfl
  simpa using ⟨c0, c1, c2⟩

set_option maxHeartbeats 1600000 in
theorem inRange_any (r : Ru) (w : World) :
    Calls Try.prog 34 #[.agg #[.int .i64 r.1, .int .i64 r.2.1, .int .i64 r.2.2]] w fun e w' => e = .returned (.bool (inR r)) ∧ Ext w w' := by
  obtain ⟨v, f, n⟩ := r
  by_cases h1 : 1 ≤ v
  · by_cases h2 : v ≤ 1000
    · by_cases h3 : 0 ≤ f
      · by_cases h4 : f < 12
        · by_cases h5 : 0 ≤ n
          · by_cases h6 : n < 8
            · have hv : inR (v, f, n) = true := by simp only [inR]; exact decide_eq_true ⟨h1, h2, h3, h4, h5, h6⟩
              rw [hv]
              go_enter Try.func34, Try.ntmps34
              go_wp2
              go_ret
              exact ⟨by first | rfl | simp, (Ext.refl w).alloc _⟩
            · have hv : inR (v, f, n) = false := by simp only [inR]; exact decide_eq_false (fun h => by omega)
              rw [hv]
              go_enter Try.func34, Try.ntmps34
              go_wp2
              go_ret
              exact ⟨by first | rfl | simp, (Ext.refl w).alloc _⟩
          · have hv : inR (v, f, n) = false := by simp only [inR]; exact decide_eq_false (fun h => by omega)
            rw [hv]
            go_enter Try.func34, Try.ntmps34
            go_wp2
            go_ret
            exact ⟨by first | rfl | simp, (Ext.refl w).alloc _⟩
        · have hv : inR (v, f, n) = false := by simp only [inR]; exact decide_eq_false (fun h => by omega)
          rw [hv]
          go_enter Try.func34, Try.ntmps34
          go_wp2
          go_ret
          exact ⟨by first | rfl | simp, (Ext.refl w).alloc _⟩
      · have hv : inR (v, f, n) = false := by simp only [inR]; exact decide_eq_false (fun h => by omega)
        rw [hv]
        go_enter Try.func34, Try.ntmps34
        go_wp2
        go_ret
        exact ⟨by first | rfl | simp, (Ext.refl w).alloc _⟩
    · have hv : inR (v, f, n) = false := by simp only [inR]; exact decide_eq_false (fun h => by omega)
      rw [hv]
      go_enter Try.func34, Try.ntmps34
      go_wp2
      go_ret
      exact ⟨by first | rfl | simp, (Ext.refl w).alloc _⟩
  · have hv : inR (v, f, n) = false := by simp only [inR]; exact decide_eq_false (fun h => by omega)
    rw [hv]
    go_enter Try.func34, Try.ntmps34
    go_wp2
    go_ret
    exact ⟨by first | rfl | simp, (Ext.refl w).alloc _⟩

set_option maxHeartbeats 1600000 in
theorem ahead_any (x y : Ru) (w : World) :
    Calls Try.prog 36 #[.agg #[.int .i64 x.1, .int .i64 x.2.1, .int .i64 x.2.2], .agg #[.int .i64 y.1, .int .i64 y.2.1, .int .i64 y.2.2]] w fun e w' => e = .returned (.bool (lt x y)) ∧ Ext w w' := by
  obtain ⟨x0, x1, x2⟩ := x
  obtain ⟨y0, y1, y2⟩ := y
  by_cases h1 : x0 < y0
  · rw [show lt (x0, x1, x2) (y0, y1, y2) = true by rw [lt_true]; exact Or.inl h1]
    go_enter Try.func36, Try.ntmps36
    go_wp2
    go_ret
    exact ⟨by first | rfl | simp, ((Ext.refl w).alloc _).alloc _⟩
  · by_cases h2 : x0 = y0
    · by_cases h3 : x1 < y1
      · rw [show lt (x0, x1, x2) (y0, y1, y2) = true by rw [lt_true]; exact Or.inr ⟨h2, h3⟩]
        subst h2
        go_enter Try.func36, Try.ntmps36
        go_wp2
        go_ret
        exact ⟨by first | rfl | simp, ((Ext.refl w).alloc _).alloc _⟩
      · rw [show lt (x0, x1, x2) (y0, y1, y2) = false by rw [lt_false]; simp only; omega]
        subst h2
        go_enter Try.func36, Try.ntmps36
        go_wp2
        go_ret
        exact ⟨by first | rfl | simp, ((Ext.refl w).alloc _).alloc _⟩
    · rw [show lt (x0, x1, x2) (y0, y1, y2) = false by rw [lt_false]; simp only; omega]
      have h2' : (x0 == y0) = false := by simpa using h2
      go_enter Try.func36, Try.ntmps36
      go_wp2
      go_ret
      exact ⟨by first | rfl | simp, ((Ext.refl w).alloc _).alloc _⟩

end Go.Proofs.Ytdiknngmepjncac.Tb
