/- What Parse answers, for every text, in one; and the closed fact that each law asks first: it stands. -/
import Derived.Test.YtbfgioinjggkkaaDoorG13
import Derived.Test.YtbfgioinjggkkaaDoorF4
namespace Go.Proofs.YtbfgioinjggkkaaDoor
open Go.RowKit Go.Maps Stf Go.Sort

/-- What Parse hands back. -/
def PO (w' : World) (e : Ending) (s : Bs) : Prop :=
  (∃ c p, pres s = .error (c, p) ∧ c ≠ 0 ∧ e = .returned (.tuple #[.slice none 0 0, .agg #[.int .i64 c, .int .i64 p]])) ∨
  (∃ fs ao cap, pres s = .ok fs ∧ e = .returned (.tuple #[.slice ao fs.length cap, .agg #[.int .i64 0, .int .i64 0]]) ∧ FlowsAt w' ao fs ∧ fs.length ≤ cap ∧ fs.length ≤ 2000 ∧ Sm2 fs)
theorem Parse_any (s : ByteArray) (w : World) (hx : s.size ≤ 9223372036854775807) (hm : MaxAt w) :
    Calls Tryd.prog 5 #[.string s] w fun e w' => Ext w w' ∧ PO w' e s.data.toList := by
  have hl := Lib.size_eq s
  by_cases h : 2000 < s.size
  · refine (Parse_much s w h hx).mono ?_
    rintro e w' ⟨rfl, hE⟩
    exact ⟨hE, Or.inl ⟨4, 0, by unfold pres; rw [if_pos (by omega)], by decide, rfl⟩⟩
  · refine (Parse_text s w (by omega) hm).mono ?_
    rintro e w' ⟨hE, ho⟩
    refine ⟨hE, ?_⟩
    cases hp : parse s.data.toList with
    | error p =>
      rw [hp] at ho
      exact Or.inl ⟨2, p, by unfold pres; rw [if_neg (by omega), hp], by decide, ho⟩
    | ok fs =>
      rw [hp] at ho
      obtain ⟨ao, cap, he, hf, hc, hn⟩ := ho
      refine Or.inr ⟨fs, ao, cap, pres_mk (by omega) hp, he, hf, hc, hn, fun k hk => ?_⟩
      have := par_lens _ hp (Nat.le_refl _) fs[k] (List.getElem_mem hk)
      omega

def alF : List Fl := [⟨0, 3, [1, 2], [4]⟩, ⟨3, 0, [], []⟩]
def alS : ByteArray := ⟨#[48, 62, 51, 32, 118, 105, 97, 32, 49, 44, 50, 32, 110, 111, 116, 32, 52, 10, 51, 62, 48, 10]⟩
theorem al_pres : pres alS.data.toList = .ok alF := by kernel_rfl
theorem al_wrong : wflows alF 5 = (0, 0) := by kernel_rfl
theorem dd (u : Nat) (h : u < 10) : Lib.itoa (u : Int) = [UInt8.ofNat (48 + u)] := by
  rw [Lib.itoa_nonneg, Lib.decDigits, dif_pos h]
theorem al_text : text alF = alS.data.toList := by
  have h0 : Lib.itoa 0 = [48] := dd 0 (by decide)
  have h1 : Lib.itoa 1 = [49] := dd 1 (by decide)
  have h2 : Lib.itoa 2 = [50] := dd 2 (by decide)
  have h3 : Lib.itoa 3 = [51] := dd 3 (by decide)
  have h4 : Lib.itoa 4 = [52] := dd 4 (by decide)
  simp only [alF, text, List.flatMap_cons, List.flatMap_nil, lineT, lineB, txtL, txtR, h0, h1, h2, h3, h4]
  rfl
theorem bytes_eq {s t : ByteArray} (h : s.data.toList = t.data.toList) : s = t := by
  cases s; cases t; simp at h; rw [h]
theorem fldErr (a b : Int) (w : World) : (Instr.field 25 (.agg #[.int .i64 a, .int .i64 b]) 0).run Tryd.prog w = .ok (.int .i64 a) w := by kernel_rfl

theorem alS_eq (s : ByteArray) (h : s.data.toList = alS.data.toList) : s = ⟨#[48, 62, 51, 32, 118, 105, 97, 32, 49, 44, 50, 32, 110, 111, 116, 32, 52, 10, 51, 62, 48, 10]⟩ := bytes_eq h

set_option maxHeartbeats 2000000 in
theorem alive_any (w : World) (hm : MaxAt w) (hT : Tab w) : Calls Tryd.prog 12 #[] w fun e w' => e = .returned (.bool true) ∧ Ext w w' := by
  have hTB := Lib.tabBelow_of_tabIs hT
  go_enter Tryd.func12, Tryd.ntmps12
  go_wp2_with fail
  refine (Parse_any _ _ (show alS.size ≤ _ by decide) hm).mono ?_
  rintro e w1 ⟨E1, ho⟩
  rcases ho with ⟨c, p, hq, _, _⟩ | ⟨fs, ao, cap, hq, rfl, hf, hc, hn, hs⟩
  · have := al_pres.symm.trans hq
    cases this
  · obtain rfl : fs = alF := by
      have := al_pres.symm.trans hq
      cases this
      rfl
    have hlen : alF.length = 2 := rfl
    rw [hlen]
    go_wp2_with fail
    refine (Print_any ao 2 cap 5 alF _ rfl (hf.ext ((Ext.refl _).alloc _)) (i64_small (by decide) (by decide)) hs (by decide) (hTB _ (E1.alloc _))).mono ?_
    rintro e w2 ⟨E2, ho⟩
    rcases ho with ⟨h1, _⟩ | ⟨_, s, hst, rfl⟩
    · rw [al_wrong] at h1; exact absurd rfl h1
    · obtain rfl := alS_eq s (hst.trans al_text)
      have c0 : w2.cell? ⟨w1.heap.size, 0, none⟩ = some (.int .i64 0) := (E2.cells.1 _ _ (by simp)).trans (by simp)
      have hs2 : w1.heap.size < w2.heap.size := by have := E2.size; simp at this; omega
      go_wp2
      go_ret
      exact ⟨rfl, ((E1.alloc _).trans E2).alloc _⟩

end Go.Proofs.YtbfgioinjggkkaaDoor
