/- What within and shapes answer: whether a number is from one to another; a map of the kinds of orders, with how many entries their lists have at most and how many bytes each. -/
import Derived.Test.YtgffkjjddhlbpaaN0
import Derived.Test.YtgffkjjddhlbpaaX1
import Derived.Maps.OwnSet
namespace Go.Proofs.Ytgffkjjddhlbpaa.Wi
open Go.RowKit Go.Maps Go.Deep Tb Rul

def inB (x lo hi : Int) : Bool := decide (lo ≤ x ∧ x ≤ hi)
theorem inB_true {x lo hi : Int} : inB x lo hi = true ↔ lo ≤ x ∧ x ≤ hi := by simp [inB]
theorem inB_false {x lo hi : Int} : inB x lo hi = false ↔ ¬ (lo ≤ x ∧ x ≤ hi) := by simp [inB]

set_option maxHeartbeats 400000 in
theorem within_any (x lo hi : Int) (w : World) :
    Calls Try.prog 40 #[.int .i64 x, .int .i64 lo, .int .i64 hi] w fun e w' => e = .returned (.bool (inB x lo hi)) ∧ w' = w := by
  by_cases h1 : lo ≤ x
  · by_cases h2 : x ≤ hi
    · rw [inB_true.2 ⟨h1, h2⟩]
      go_enter Try.func40, Try.ntmps40
      go_wp2
      go_ret
      exact ⟨by first | rfl | simp, rfl⟩
    · rw [inB_false.2 (by omega)]
      go_enter Try.func40, Try.ntmps40
      go_wp2
      go_ret
      exact ⟨by first | rfl | simp, rfl⟩
  · rw [inB_false.2 (by omega)]
    go_enter Try.func40, Try.ntmps40
    go_wp2
    go_ret
    exact ⟨by first | rfl | simp, rfl⟩

/-! ### the map of the kinds -/
def shE (v : Value) : Option (DataW Unit × List MemPlace) :=
  match v with
  | .agg cs => match cs.toList with
    | [.int .i64 a, .int .i64 b] => some (.agg [.lit (.int .i64 a), .lit (.int .i64 b)], [])
    | _ => none
  | _ => none
theorem shE_mk (a b : Int) : shE (.agg #[.int .i64 a, .int .i64 b]) = some (.agg [.lit (.int .i64 a), .lit (.int .i64 b)], []) := rfl
theorem shE_inv {v : Value} {a b : Int} {ps : List MemPlace} (h : shE v = some (.agg [.lit (.int .i64 a), .lit (.int .i64 b)], ps)) : v = .agg #[.int .i64 a, .int .i64 b] := by
  unfold shE at h
  split at h
  · rename_i cs
    split at h
    · rename_i a' b' hc
      simp only [Option.some.injEq, Prod.mk.injEq, DataW.agg.injEq, List.cons.injEq, DataW.lit.injEq, Lit.int.injEq, true_and, and_true] at h
      obtain ⟨⟨rfl, rfl⟩, _⟩ := h
      have : cs = #[.int .i64 a', .int .i64 b'] := by apply Array.ext'; simpa using hc
      rw [this]
    · cases h
  · cases h
def sh (a b : Int) : DataW Unit := .agg [.lit (.int .i64 a), .lit (.int .i64 b)]
def kd (k : Int) : Lit := .int .i64 k
def D3 : DataW Unit := (((DataW.map []).put (kd 1) (sh 16 2)).put (kd 2) (sh 12 1)).put (kd 3) (sh 0 0)
def most (k : Int) : Int := if k = 1 then 16 else if k = 2 then 12 else 0
def wide (k : Int) : Int := if k = 1 then 2 else if k = 2 then 1 else 0
def isK (k : Int) : Bool := decide (k = 1 ∨ k = 2 ∨ k = 3)
theorem kd_ne {a b : Int} (h : a ≠ b) : kd a ≠ kd b := fun e => h (by simpa [kd] using e)
theorem kd_key (a : Int) (h : I64 a) : WideAt.IsKeyLit (kd a) := (int_keyed Try.underlying3).key (keyOf_int_mk Try.underlying3 h)
theorem D3_at (k : Int) : D3.atKey (kd k) (sh 0 0) = sh (most k) (wide k) ∧ Maps.has D3 (kd k) = isK k := by
  have k1 := kd_key 1 (i64_small (by omega) (by omega))
  have k2 := kd_key 2 (i64_small (by omega) (by omega))
  have k3 := kd_key 3 (i64_small (by omega) (by omega))
  have m0 : IsMap (DataW.map [] : DataW Unit) := isMap_empty
  unfold D3
  by_cases h3 : k = 3
  · subst h3
    exact ⟨atKey_put_same ((m0.put _ _).put _ _) k3 _ _, has_put_same ((m0.put _ _).put _ _) k3 _⟩
  · rw [atKey_put_other (kd_ne h3), has_put_other (kd_ne h3)]
    by_cases h2 : k = 2
    · subst h2
      exact ⟨atKey_put_same (m0.put _ _) k2 _ _, has_put_same (m0.put _ _) k2 _⟩
    · rw [atKey_put_other (kd_ne h2), has_put_other (kd_ne h2)]
      by_cases h1 : k = 1
      · subst h1
        exact ⟨atKey_put_same m0 k1 _ _, has_put_same m0 k1 _⟩
      · rw [atKey_put_other (kd_ne h1), has_put_other (kd_ne h1)]
        refine ⟨?_, ?_⟩
        · simp only [most, wide, if_neg h1, if_neg h2]; rfl
        · have : isK k = false := by simp [isK, h1, h2, h3]
          rw [this]; rfl
/-- The map of the kinds lies in this block. -/
def Shp (w : World) (m : Nat) : Prop := w.ownsMap Try.prog 3 shE m 3 D3
theorem Shp.ext {w w' : World} {m : Nat} (h : Shp w m) (k : Ext w w') : Shp w' m := by
  have hlt := World.ownsMap.lt h
  obtain ⟨es, cl, hb, r⟩ := h
  exact ⟨es, cl, by rw [← hb]; exact Below.block k m hlt, r⟩
theorem zeroSh (w : World) : (zeroValue 94).run Try.prog w = .ok (.agg #[.int .i64 0, .int .i64 0]) w := by kernel_rfl
theorem Shp.look {w : World} {m : Nat} (h : Shp w m) {k : Int} (hk : I64 k) :
    (Instr.lookup 96 (.map (some m)) (.int .i64 k) true).run Try.prog w = .ok (.tuple #[.agg #[.int .i64 (most k), .int .i64 (wide k)], .bool (isK k)]) w
    ∧ (Instr.lookup 96 (.map (some m)) (.int .i64 k) false).run Try.prog w = .ok (.agg #[.int .i64 (most k), .int .i64 (wide k)]) w := by
  have K : Keyed Try.prog 3 := int_keyed Try.underlying3
  have hkey : keyOf Try.prog 3 (.int .i64 k) = some (kd k) := keyOf_int_mk Try.underlying3 hk
  obtain ⟨v, ps, r1, h1⟩ := World.ownsMap.look_ok h K Try.underlying96 (zeroSh w) (shE_mk 0 0) hkey
  obtain ⟨u, qs, r2, h2⟩ := World.ownsMap.lookup h K Try.underlying96 (zeroSh w) (shE_mk 0 0) hkey
  obtain ⟨e1, e2⟩ := D3_at k
  unfold sh at e1
  rw [e1] at h1 h2
  rw [e2] at r1
  rw [shE_inv h1] at r1
  rw [shE_inv h2] at r2
  exact ⟨r1, r2⟩

set_option maxRecDepth 100000 in
set_option maxHeartbeats 1000000 in
theorem shapes_any (w : World) :
    Calls Try.prog 41 #[] w fun e w' => ∃ m, e = .returned (.map (some m)) ∧ Shp w' m ∧ Ext w w' := by
  have K : Keyed Try.prog 3 := int_keyed Try.underlying3
  have hkey : ∀ k : Int, I64 k → keyOf Try.prog 3 (.int .i64 k) = some (kd k) := fun k hk => keyOf_int_mk Try.underlying3 hk
  have hmm := @run_makeMap Try.prog
  have o0 := World.ownsMap_made w Try.prog 3 shE
  obtain ⟨w1, r1, o1, g1⟩ := o0.update K Try.underlying96 (by decide) (hkey 1 (i64_small (by omega) (by omega))) (shE_mk 16 2)
  obtain ⟨w2, r2, o2, g2⟩ := o1.update K Try.underlying96 (by decide) (hkey 2 (i64_small (by omega) (by omega))) (shE_mk 12 1)
  obtain ⟨w3, r3, o3, g3⟩ := o2.update K Try.underlying96 (by decide) (hkey 3 (i64_small (by omega) (by omega))) (shE_mk 0 0)
  have E1 : Ext w w1 := Below.grown ((Ext.refl w).alloc _) g1 (by simp) (fun j hj => by cases hj; exact Nat.le_refl _)
  have E2 : Ext w w2 := Below.grown E1 g2 (Ext.size E1) (fun j hj => by cases hj; exact Nat.le_refl _)
  have E3 : Ext w w3 := Below.grown E2 g3 (Ext.size E2) (fun j hj => by cases hj; exact Nat.le_refl _)
  have HS : Hid (Shp w3 w.heap.size) := o3
  clear o0 o1 o2 o3 g1 g2 g3 hkey
  go_enter Try.func41, Try.ntmps41
  go_wp2
  go_ret
  exact ⟨_, rfl, HS.out, E3⟩

end Go.Proofs.Ytgffkjjddhlbpaa.Wi
