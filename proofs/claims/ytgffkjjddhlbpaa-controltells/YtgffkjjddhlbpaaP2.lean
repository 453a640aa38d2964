/- What Clone answers of a path that is not empty; and how a search lies in memory. -/
import Derived.Test.YtgffkjjddhlbpaaP1
import Derived.Deep.AppendLies
import Derived.Lib.LazyBuf
namespace Go.Proofs.Ytgffkjjddhlbpaa
open Go.RowKit Go.Maps Stw Go.Deep

theorem infoI : (Try.prog.info? 3).map (fun i => (i.zero, i.size, i.bytes)) = some (some (.int .i64 0), 1, 8) := by kernel_rfl

set_option maxHeartbeats 1000000 in
theorem clonePath_any (b off n c : Nat) (ps : List Int) (w : World) (hn : ps.length = n) (hb : n * 8 ≤ 140737488351232) (hp : IntsAt w b off ps) :
    Calls Try.prog 63 #[.slice (some ⟨b, off, none⟩) n c] w fun e w' => ∃ v', e = .returned v' ∧ w'.ownsRow w.heap.size 3 1 v' n (ps.map (Value.int .i64)) ∧ v' ≠ .slice none 0 0 ∧ Ext w w' := by
  obtain ⟨i0, hi, hz0, hz1, hz2⟩ := info_parts infoI
  have hq : ∀ (w : World) (a : Option Addr) (n c : Nat), (binOp .eql 105 (.slice a n c) (.slice none 0 0)).run Try.prog w = .ok (.bool a.isNone) w := fun w a n c => Lib.run_eql_slice_nil w _ _ a n c 0 0 Try.underlying105
  have A := hidp hp
  clear hp
  go_enter Try.func63, Try.ntmps63
  go_wp2_with (at_builtin; refine wpList_append_own _ rfl _ _ 105 rfl w.heap.size 3 i0 (.int .i64 0) 1 8 Try.underlying105 hi hz0 hz1 hz2 rfl (by decide) _ _ _ rfl (World.ownsRow_made w #[] 0 (Nat.le_refl _) (Nat.zero_le _) rfl) ⟨b, off, none⟩ n c (ps.map (Value.int .i64)) rfl ?qc1 ?qc2 ?qc3 ?qc4 ?qc5 ?qc6 ?_)
  case qc1 => simp; omega
  case qc2 =>
    intro j u hj
    have hjn : j < ps.length := by have := (List.getElem?_eq_some_iff.1 hj).1; simpa using this
    have e : (⟨b, off, none⟩ : Addr).add j = ⟨b, off + j, none⟩ := Addr.add_mid b off j
    rw [e]
    have h1 := A.out j hjn
    have hlt : b < w.heap.size := by
      rcases Nat.lt_or_ge b w.heap.size with h | h
      · exact h
      · have : w.heap[b]? = none := by simp [h]
        simp [World.cell?, this] at h1
    rw [World.cell?_alloc_past _ _ _ hlt, h1]
    rw [List.getElem?_map, List.getElem?_eq_getElem hjn] at hj
    simp at hj
    rw [← hj]
    simp [List.getD_eq_getElem?_getD, hjn]
  case qc3 => intro u hu; obtain ⟨x, _, rfl⟩ := List.mem_map.1 hu; rfl
  case qc4 => unfold maxLen; omega
  case qc5 => omega
  case qc6 => simp
  intro v' w1 hown hgrow hnil
  go_wp2
  go_ret
  refine ⟨v', rfl, by simpa using hown, hnil, ?_⟩
  exact ((Below.refl _ w).alloc (Nat.le_refl _) _).grown hgrow (by simp) (by intro k hk; simp [Value.ownBlock] at hk; omega)

/-- The cells of a search: what steps cost; the flow; what is closed; the way, the best, what it costs. -/
def sF (C : Int → Int → Int) (fr to : Int) (vv nv : Value) (cl : List Int) (wv bv : Value) (l : Int) (j : Nat) : Value :=
  if j < 64 then .int .i64 (C ((j / 8 : Nat) : Int) ((j % 8 : Nat) : Int)) else if j = 64 then .int .i64 fr else if j = 65 then .int .i64 to else if j = 66 then vv else if j = 67 then nv
  else if j < 76 then .bool (decide (((j - 68 : Nat) : Int) ∈ cl)) else if j = 76 then wv else if j = 77 then bv else .int .i64 l

theorem sF_close {C : Int → Int → Int} {fr to l : Int} {vv nv wv bv : Value} {cl : List Int} {x : Nat} (hx : x < 8) (j : Nat) : (if j = 68 + x then Value.bool true else sF C fr to vv nv cl wv bv l j) = sF C fr to vv nv ((x : Int) :: cl) wv bv l j := by
  unfold sF
  by_cases h : j = 68 + x
  · subst h
    simp [show ¬ 68 + x < 64 by omega, show ¬ 68 + x = 64 by omega, show ¬ 68 + x = 65 by omega, show ¬ 68 + x = 66 by omega, show ¬ 68 + x = 67 by omega, show 68 + x < 76 by omega]
  · rw [if_neg h]
    repeat' split
    all_goals first | rfl | skip
    congr 1
    rw [decide_eq_decide, List.mem_cons]
    constructor
    · exact Or.inr
    · rintro (e | e)
      · omega
      · exact e
theorem sF_open {C : Int → Int → Int} {fr to l : Int} {vv nv wv bv : Value} {cl : List Int} {x : Nat} (hx : x < 8) (hn : ¬ (x : Int) ∈ cl) (j : Nat) : (if j = 68 + x then Value.bool false else sF C fr to vv nv ((x : Int) :: cl) wv bv l j) = sF C fr to vv nv cl wv bv l j := by
  unfold sF
  by_cases h : j = 68 + x
  · subst h
    simp [show ¬ 68 + x < 64 by omega, show ¬ 68 + x = 64 by omega, show ¬ 68 + x = 65 by omega, show ¬ 68 + x = 66 by omega, show ¬ 68 + x = 67 by omega, show 68 + x < 76 by omega, hn]
  · rw [if_neg h]
    repeat' split
    all_goals first | rfl | skip
    congr 1
    rw [decide_eq_decide, List.mem_cons]
    constructor
    · rintro (e | e)
      · omega
      · exact e
    · exact Or.inr
theorem sF_way {C : Int → Int → Int} {fr to l : Int} {vv nv wv bv v : Value} {cl : List Int} (j : Nat) : (if j = 76 then v else sF C fr to vv nv cl wv bv l j) = sF C fr to vv nv cl v bv l j := by
  unfold sF
  by_cases h : j = 76
  · subst h; simp
  · simp [h]
theorem sF_best {C : Int → Int → Int} {fr to l l' : Int} {vv nv wv bv v : Value} {cl : List Int} {j : Nat} (hj : j < 79) : (if j = 78 then Value.int .i64 l' else if j = 77 then v else sF C fr to vv nv cl wv bv l j) = sF C fr to vv nv cl wv v l' j := by
  unfold sF
  by_cases h : j = 78
  · subst h; simp
  · by_cases h2 : j = 77
    · subst h2; simp
    · rw [if_neg h, if_neg h2]
      repeat' split
      all_goals first | rfl | omega

/-- What is kept of the best: nil, or a list of its own. -/
def BestIs (w : World) (S : Nat) (wv bv : Value) (l : Int) : Option (List Int × Int) → Prop
  | none => bv = .slice none 0 0
  | some (p, c) => ∃ g cap, bv = .slice (some ⟨g, 0, none⟩) p.length cap ∧ S < g ∧ g < w.heap.size ∧ IntsAt w g 0 p ∧ wv.ownBlock ≠ some g ∧ l = c ∧ p.length ≤ cap

/-- A search at block S. -/
structure SA (w : World) (S : Nat) (C : Int → Int → Int) (fr to : Int) (vv nv : Value) (cl way : List Int) (wv bv : Value) (l : Int) (best : Option (List Int × Int)) : Prop where
  row : w.rowIs S 129 79 (sF C fr to vv nv cl wv bv l)
  own : w.ownsRow (S + 1) 3 1 wv way.length (way.map (Value.int .i64))
  best : BestIs w S wv bv l best

end Go.Proofs.Ytgffkjjddhlbpaa
