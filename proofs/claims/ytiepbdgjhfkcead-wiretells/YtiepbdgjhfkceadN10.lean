/- The closed fact that every law of chapter 5 asks first: it stands. -/
import Derived.Test.YtiepbdgjhfkceadN9
namespace Go.Proofs.Ytiepbdgjhfkcead.Wi
open Go.RowKit Go.Maps Go.Deep Go.Sort Tb Rul

def oA : Wir.Od := ⟨1, 7, 2, [(2, 1, 3)], []⟩
theorem oA_wrong : Wir.wrong oA = 0 := by decide +kernel
theorem oA_len : (Wir.full oA).length = 10 := by rw [Wir.full_len]; rfl
theorem oA_parse : Wir.parse (Wir.full oA) = (oA, 0) := by rw [Wir.parse_full oA_wrong]; rfl
theorem oA_bts : (Wir.bts oA).1 = Wir.full oA := by rw [Wir.bts, if_neg (by rw [oA_wrong]; simp)]
/-- Bytes of their own, as a slice. -/
theorem BO.slice {w : World} {base n : Nat} {v : Value} {bs : List Nat} (h : BO w base v bs) (hn : bs.length = n) : ∃ ao cap, v = .slice ao n cap ∧ ByAt w ao bs ∧ (ao = none → bs = [] ∧ cap = 0) ∧ n ≤ cap ∧ cap ≤ 9223372036854775807 := by
  obtain ⟨ao, cap, h1, h2, h3, h4, h5⟩ := BO.form h
  unfold maxLen at h5
  exact ⟨ao, cap, by rw [← hn]; exact h1, h2, h3, by omega, by omega⟩

set_option maxRecDepth 100000 in
set_option maxHeartbeats 1600000 in
theorem alive_any (w : World) : Calls Try.prog 14 #[] w fun e w' => e = .returned (.bool true) ∧ Ext w w' := by
  have HB : Hid (Calls Try.prog 9 #[.agg #[.int .i64 1, .int .i64 7, .int .i64 2, .slice (some ⟨w.heap.size, 0, none⟩) 1 1, .slice none 0 0]] (w.alloc (.cells #[.int .i64 2, .int .i64 1, .int .i64 3] 48)) fun e w' => ∃ v', e = .returned (.tuple #[v', .int .i64 0]) ∧ BO w' (w.alloc (.cells #[.int .i64 2, .int .i64 1, .int .i64 3] 48)).heap.size v' (Wir.full oA) ∧ Ext (w.alloc (.cells #[.int .i64 2, .int .i64 1, .int .i64 3] 48)) w') := by
    have h := Bytes_any oA (some ⟨w.heap.size, 0, none⟩) none 1 0 (w.alloc (.cells #[.int .i64 2, .int .i64 1, .int .i64 3] 48)) ⟨(one_rule w 2 1 3).hat, Or.inl rfl, i64_small (by decide) (by decide), by decide, by decide⟩
    rw [oA_wrong, oA_bts] at h
    exact h
  go_enter Try.func14, Try.ntmps14
  go_wp2_with fail
  refine HB.out.mono ?_
  rintro e w1 ⟨v', rfl, hBO, E1⟩
  obtain ⟨bo, bc, rfl, hat, _, hle, hmx⟩ := BO.slice hBO oA_len
  have hE1 : Ext w w1 := ((Ext.refl w).alloc _).trans E1
  clear HB hBO E1
  go_wp2_with fail
  refine (Parse_any bo 10 bc (Wir.full oA) _ oA_len hat (Wir.full_lt oA_wrong) (by omega) hle hmx).mono ?_
  intro e w2 h2
  rw [oA_parse] at h2
  obtain ⟨ro, fo, rc, fc, he, hO, E2⟩ := h2
  have he' : e = .returned (.tuple #[.agg #[.int .i64 1, .int .i64 7, .int .i64 2, .slice ro 1 rc, .slice fo 0 fc], .int .i64 0]) := he
  subst he'
  have hr : RsAt w2 ro [(2, 1, 3)] := hO.hr
  obtain ⟨g, off, rfl, hg, hcs⟩ := hr.get (k := 0) (by simp)
  have c2 : w2.cell? ⟨g, off + 2, none⟩ = some (.int .i64 3) := (hcs 0 (by simp)).2.2
  have hE2 := hE1.trans E2
  clear hat he hO hr hcs
  go_wp2
  go_ret
  exact ⟨rfl, hE2.alloc _⟩

end Go.Proofs.Ytiepbdgjhfkcead.Wi
