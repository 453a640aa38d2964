/- What isSwitch and wrongList answer, for every flow, list and number; nothing that was there is changed. -/
import Derived.Test.YtgffkjjddhlbpaaH0
import Derived.Maps.OwnOps
import Derived.Maps.OwnSet
namespace Go.Proofs.Ytgffkjjddhlbpaa.Fw
open Go.RowKit Go.Maps Stf

set_option maxHeartbeats 400000 in
theorem isSwitch_any (s n : Int) (w : World) :
    Calls Try.prog 72 #[.int .i64 s, .int .i64 n] w fun e w' => e = .returned (.bool (swB s n)) ∧ w' = w := by
  by_cases h0 : 0 ≤ s
  · go_enter Try.func72, Try.ntmps72
    go_wp2
    go_ret
    exact ⟨by simp [swB, h0], rfl⟩
  · have e : swB s n = false := by simp [swB, h0]
    rw [e]
    go_enter Try.func72, Try.ntmps72
    go_wp2
    go_ret
    exact ⟨rfl, rfl⟩

theorem lawI : Keyed Try.prog 3 := int_keyed Try.underlying3
theorem zeroU (w : World) : (zeroValue 147).run Try.prog w = .ok (.agg #[]) w := by kernel_rfl
/-- A set of numbers. -/
def IntSet (w : World) (m : Nat) (xs : List Int) : Prop :=
  ∃ n, n ≤ xs.length ∧ ∃ D : DataW Unit, w.ownsMap Try.prog 3 (unitElem (H := Unit)) m n D ∧ ∀ a, I64 a → Maps.has D (.int .i64 a) = decide (a ∈ xs)
theorem IntSet.lt {w : World} {m : Nat} {xs : List Int} (h : IntSet w m xs) : m < w.heap.size := by
  obtain ⟨n, hn, D, hown, hD⟩ := h
  exact hown.lt
theorem IntSet.ext {w w' : World} {m : Nat} {xs : List Int} (h : IntSet w m xs) (k : Ext w w') : IntSet w' m xs := by
  obtain ⟨n, hn, D, hown, hD⟩ := h
  refine ⟨n, hn, D, ?_, hD⟩
  have hlt := hown.lt
  obtain ⟨es, cl, hb, r⟩ := hown
  exact ⟨es, cl, by rw [← hb]; exact Below.block k m hlt, r⟩
theorem IntSet.look {w : World} {m : Nat} {xs : List Int} (h : IntSet w m xs) {a : Int} (ha : I64 a) :
    (Instr.lookup 144 (.map (some m)) (.int .i64 a) true).run Try.prog w = .ok (.tuple #[.agg #[], .bool (decide (a ∈ xs))]) w := by
  obtain ⟨n, hn, D, hown, hD⟩ := h
  obtain ⟨v, ps, hrun, hv⟩ := hown.look_ok lawI Try.underlying144 (zeroU w) unitElem_mk (keyOf_int_mk Try.underlying3 ha)
  obtain ⟨rfl, _⟩ := unitElem_inv hv
  rw [hrun, hD a ha]
theorem IntSet.put {w : World} {m : Nat} {xs : List Int} (h : IntSet w m xs) {x : Int} (hx : I64 x) (hs : xs.length < maxLen) :
    ∃ w', (Instr.mapUpdate 144 (.map (some m)) (.int .i64 x) (.agg #[])).run Try.prog w = .ok () w' ∧ IntSet w' m (xs ++ [x]) ∧ w.grownBy w' (some m) := by
  obtain ⟨n, hn, D, hown, hD⟩ := h
  obtain ⟨w', hrun, hown', hg⟩ := hown.update lawI Try.underlying144 (Nat.lt_of_le_of_lt hn hs) (keyOf_int_mk Try.underlying3 hx) unitElem_mk
  refine ⟨w', hrun, ⟨n + 1, by simp; omega, _, hown', fun a ha => ?_⟩, hg⟩
  by_cases e : a = x
  · subst e
    rw [has_put_same hown.isMap (lawI.key (keyOf_int_mk Try.underlying3 hx))]
    simp
  · rw [has_put_other (by simpa using e), hD a ha]
    simp [e]
theorem IntSet.made (w : World) : IntSet (w.alloc (.map #[] 0)) w.heap.size [] := by
  refine ⟨0, Nat.le_refl _, .map [], ?_, fun _ _ => rfl⟩
  exact World.ownsMap_made (H := Unit) w Try.prog 3 (unitElem (H := Unit))

end Go.Proofs.Ytgffkjjddhlbpaa.Fw
