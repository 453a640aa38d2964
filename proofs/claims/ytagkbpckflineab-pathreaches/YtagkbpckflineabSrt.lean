/- What the library's sort of numbers does to a list that the call has made: the same list holds the same numbers, rising; nothing else that was there is changed. -/
import Derived.Test.YtagkbpckflineabW5
import Derived.Test.YtagkbpckflineabM3
import Derived.Test.YtagkbpckflineabSrL
import Derived.Shelf.Sort.Plain
import Derived.Sort.OwnSortedInts
namespace Go.Proofs.Ytagkbpckflineab
open Go.RowKit Go.Maps Stw Go.Sort

theorem sort_any (base g cap : Nat) (L : List Int) (w : World) (h : w.ownsRow base 3 1 (.slice (some ⟨g, 0, none⟩) L.length cap) L.length (L.map (Value.int .i64))) (hs : L.length < 4611686018427387904) :
    Calls Try.prog 33 #[.slice (some ⟨g, 0, none⟩) L.length cap] w fun e w' => e = .returned (.tuple #[]) ∧ w'.ownsRow base 3 1 (.slice (some ⟨g, 0, none⟩) L.length cap) L.length ((L.mergeSort fun x y => decide (x ≤ y)).map (Value.int .i64)) ∧ w.grownBy w' (some g) := by
  rcases h.2 with ⟨hnil, _⟩ | ⟨g', cap', cur, hv, hbase, hb, h1, h2, h3, h4⟩
  · cases hnil
  · cases hv
    have hH := holds_of_blockI hb (by simpa using h4)
    refine (Any.slices_Sort_int Try.lays189 g 0 cap L w hH (Array.getElem?_eq_some_iff.1 hb).1 hs).mono ?_
    rintro e w' ⟨rfl, n, os, rfl⟩
    exact ⟨rfl, ownsRow_sortedI (by simp) hbase hb h1 h2 h3, grownBy_sortedI _⟩

end Go.Proofs.Ytagkbpckflineab
