/- What Split and readList answer, for every text; nothing that was there is changed. -/
import Derived.Test.YtbfgioinjggkkaaDoorG1
import Derived.Test.YtbfgioinjggkkaaDoorShf
import Derived.Test.YtbfgioinjggkkaaDoorShW
namespace Go.Proofs.YtbfgioinjggkkaaDoor
open Go.RowKit Stf

theorem cell_lt {w : World} {a : Addr} {v : Value} (h : w.cell? a = some v) : a.block < w.heap.size := by
  rcases Nat.lt_or_ge a.block w.heap.size with h1 | h1
  · exact h1
  · have : w.heap[a.block]? = none := by simp [h1]
    simp [World.cell?, this] at h
/-- The library's one variable, which its search asks, holds a number. -/
def MaxAt (w : World) : Prop := ∃ m, w.cell? ⟨Tryd.lays145_ren.g 1, 0, none⟩ = some (.int .i64 m)
theorem MaxAt.ext {w w' : World} (h : MaxAt w) (k : Ext w w') : MaxAt w' := by
  obtain ⟨m, hm⟩ := h
  exact ⟨m, (k.cells.1 _ _ (cell_lt hm)).trans hm⟩

theorem split_parts (s : ByteArray) (w : World) (hs : s.size ≤ 1000000) (hm : MaxAt w) :
    Calls Tryd.prog 34 #[.string s, .string ⟨#[44]⟩] w fun e w' => ∃ (b n : Nat) (P : List ByteArray), e = .returned (.slice (some ⟨b, 0, none⟩) n n) ∧ P.length = n ∧ P.map (·.data.toList) = sp s.data.toList ∧ b < w'.heap.size ∧
      (∀ i (h : i < P.length), w'.cell? ⟨b, i, none⟩ = some (.string P[i])) ∧ Ext w w' := by
  obtain ⟨m, hm⟩ := hm
  refine (Tryd.split_any s ⟨#[44]⟩ m w (by omega) hm (by decide)).mono ?_
  rintro e w' ⟨rfl, rfl⟩
  have hd := Lib.splitB_data ⟨#[44]⟩ 0 (Lib.countB s ⟨#[44]⟩) s
  have hc : Lib.countB s ⟨#[44]⟩ = Lib.count s.data.toList [44] := rfl
  refine ⟨w.heap.size, _, Lib.splitB ⟨#[44]⟩ 0 (Lib.countB s ⟨#[44]⟩) s, rfl, Lib.splitB_all _ (by decide) 0 _ _ rfl, ?_, by simp, fun i h => ?_, (Ext.refl w).alloc _⟩
  · rw [hd, hc]; exact split_sp _
  · simp [h]

end Go.Proofs.YtbfgioinjggkkaaDoor
