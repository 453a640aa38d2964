/- What goOn does, where enter does what it should: each next switch is gone to, rising. -/
import Derived.Test.YtgffkjjddhlbpaaP2
namespace Go.Proofs.Ytgffkjjddhlbpaa
open Go.RowKit Go.Maps Stw Go.Deep Stp

/-- A search, whatever its lists are. -/
def SE (w : World) (S : Nat) (C : Int → Int → Int) (fr to : Int) (vv nv : Value) (cl way : List Int) (best : Option (List Int × Int)) : Prop := ∃ wv bv l, SA w S C fr to vv nv cl way wv bv l best
/-- The switches that are to be met lie below the search. -/
def VA (w : World) (S : Nat) (vo : Option Addr) (via : List Int) : Prop := via = [] ∨ ∃ b off, vo = some ⟨b, off, none⟩ ∧ b < S ∧ IntsAt w b off via
theorem VA.below {w w' : World} {S : Nat} {vo : Option Addr} {via : List Int} (h : VA w S vo via) (k : Below S w w') : VA w' S vo via := by
  rcases h with h | ⟨b, off, h1, h2, h3⟩
  · exact Or.inl h
  · exact Or.inr ⟨b, off, h1, h2, fun i hi => (k.cell (p := ⟨b, off + i, none⟩) h2).trans (h3 i hi)⟩

/-- Enter does what it should, with so many switches left. -/
def EnterOk (S : Nat) (C : Int → Int → Int) (fr to : Int) (vo : Option Addr) (vc : Nat) (nv : Value) (via : List Int) (k : Nat) : Prop :=
  ∀ (cl way : List Int) (x : Nat) (c : Int) (m : Nat) (best : Option (List Int × Int)) (w : World), way.length + k = 8 → way.Nodup → (∀ y ∈ way, 0 ≤ y ∧ y < 8) → (∀ y ∈ way, y ∈ cl) → x < 8 → ¬ (x : Int) ∈ cl → 0 ≤ c → c ≤ 1000 * (way.length : Int) → m ≤ via.length →
    VA w S vo via → SE w S C fr to (.slice vo via.length vc) nv cl way best →
    Calls Try.prog 62 #[.pointer (some ⟨S, 0, none⟩), .int .i64 x, .int .i64 c, .int .i64 m] w fun e w' => e = .returned (.tuple #[]) ∧ Below S w w' ∧ SE w' S C fr to (.slice vo via.length vc) nv cl way (ent C to via k cl way x c m best)

def rowL (C : Int → Int → Int) (x : Nat) : List Value := (List.range 8).map fun (j : Nat) => Value.int .i64 (C x j)
theorem rowL_get {C : Int → Int → Int} {x j : Nat} (h : j < 8) : (rowL C x)[j]? = some (.int .i64 (C x j)) := by simp [rowL, h]
theorem rowL_at {w : World} {S : Nat} {C : Int → Int → Int} {fr to l : Int} {vv nv wv bv : Value} {cl : List Int} {x : Nat} (hx : x < 8) (h : w.rowIs S 129 79 (sF C fr to vv nv cl wv bv l)) : w.rangeAt S (x * 8) (rowL C x) := by
  intro j v hj
  have hj8 : j < 8 := by have := (List.getElem?_eq_some_iff.1 hj).1; simpa [rowL] using this
  rw [rowL_get hj8] at hj
  injection hj with hj
  rw [h.cell (i := x * 8 + j) (by omega), ← hj]
  simp only [sF, if_pos (show x * 8 + j < 64 by omega), show (x * 8 + j) / 8 = x by omega, show (x * 8 + j) % 8 = j by omega]
theorem closed_at {w : World} {S : Nat} {C : Int → Int → Int} {fr to l : Int} {vv nv wv bv : Value} {cl : List Int} {x : Nat} (hx : x < 8) (h : w.rowIs S 129 79 (sF C fr to vv nv cl wv bv l)) : w.cell? ⟨S, 68 + x, none⟩ = some (.bool (decide ((x : Int) ∈ cl))) := by
  rw [h.cell (i := 68 + x) (by omega)]
  simp [sF, show ¬ 68 + x < 64 by omega, show ¬ 68 + x = 64 by omega, show ¬ 68 + x = 65 by omega, show ¬ 68 + x = 66 by omega, show ¬ 68 + x = 67 by omega, show 68 + x < 76 by omega]

theorem row_index {C : Int → Int → Int} {x j : Nat} (h : j < 8) (w : World) : (Instr.index 101 (.agg (rowL C x).toArray) (.int .i64 j)).run Try.prog w = .ok (.int .i64 (C x j)) w := by
  have h1 : (0 : Int) ≤ (j : Int) ∧ (j : Int) < 8 := by omega
  have h2 := rowL_get (C := C) (x := x) h
  have hi : (sizeOf 3).run Try.prog w = .ok 1 w := by kernel_rfl
  simp [Instr.index, asIntOf, run_underlying Try.underlying101, h1, hi, part, h2]
  omega

/-- What a round of goOn makes of the best. -/
def goF (C : Int → Int → Int) (to : Int) (via : List Int) (k : Nat) (cl way : List Int) (x : Int) (c : Int) (m : Nat) (b : Option (List Int × Int)) (s : Nat) : Option (List Int × Int) :=
  if 0 < C x (s : Int) ∧ ¬ (s : Int) ∈ cl then ent C to via k cl way (s : Int) (c + C x (s : Int)) m b else b

set_option maxRecDepth 100000 in
set_option maxHeartbeats 2000000 in
theorem goOn_any {S : Nat} {C : Int → Int → Int} {fr to : Int} {vo : Option Addr} {vc : Nat} {nv : Value} {via : List Int} {k : Nat} (hC : ∀ a b, 0 ≤ C a b ∧ C a b ≤ 1000) (IH : EnterOk S C fr to vo vc nv via k)
    (cl way : List Int) (x : Nat) (c : Int) (m : Nat) (best : Option (List Int × Int)) (w : World) (hwk : way.length + k = 8) (hnd : way.Nodup) (hrg : ∀ y ∈ way, 0 ≤ y ∧ y < 8) (hcl : ∀ y ∈ way, y ∈ cl) (hx : x < 8) (hc0 : 0 ≤ c) (hc1 : c ≤ 1000 * ((way.length : Int) - 1)) (hm : m ≤ via.length)
    (hv : VA w S vo via) (hs : SE w S C fr to (.slice vo via.length vc) nv cl way best) :
    Calls Try.prog 74 #[.pointer (some ⟨S, 0, none⟩), .int .i64 x, .int .i64 c, .int .i64 m] w fun e w' => e = .returned (.tuple #[]) ∧ Below S w w' ∧ SE w' S C fr to (.slice vo via.length vc) nv cl way ((List.range 8).foldl (goF C to via k cl way x c m) best) := by
  have hwl : way.length ≤ 8 := by omega
  obtain ⟨wv0, bv0, l0, hsa0⟩ := hs
  have hrange := rowL_at hx hsa0.row
  go_enter Try.func74, Try.ntmps74
  go_wp2_with (refine wpList_load_mid rfl 101 (.tmp 14) rfl S (x * 8) rfl (rowL C x) _ hrange Try.underlying101 rfl (by kernel_rfl) ?_)
  go_loopw [16] (fun iv wr => ∃ j : Nat, j ≤ 8 ∧ iv = .int .i64 j ∧ Below S w wr ∧ SE wr S C fr to (.slice vo via.length vc) nv cl way ((List.range j).foldl (goF C to via k cl way x c m) best)) (fun iv _ => 8 - (intOf iv).toNat)
  case atStart => exact ⟨0, by omega, rfl, Below.refl _ _, wv0, bv0, l0, hsa0⟩
  case round =>
    obtain ⟨j, hj, rfl, hbel, hse⟩ := hrel
    by_cases hlt : j < 8
    · have hidx := row_index (C := C) (x := x) hlt
      have hse' := hse
      obtain ⟨wv, bv, l, hsa⟩ := hse
      have cc := closed_at (x := j) hlt hsa.row
      have hCj := hC x j
      have hfold : (List.range (j + 1)).foldl (goF C to via k cl way x c m) best = goF C to via k cl way x c m ((List.range j).foldl (goF C to via k cl way x c m) best) j := by rw [List.range_succ, List.foldl_append]; rfl
      have HFo := hidp hfold
      obtain ⟨b1, hb1⟩ : ∃ b1, b1 = (List.range j).foldl (goF C to via k cl way x c m) best := ⟨_, rfl⟩
      rw [← hb1] at hse' HFo
      obtain ⟨v, hv0⟩ : ∃ v, v = C x j := ⟨_, rfl⟩
      have HV := hidp hv0
      rw [← hv0] at hidx hCj
      clear hv0 hfold hsa hb1
      by_cases hp : 0 < v
      · cases hd : decide ((j : Int) ∈ cl)
        · rw [hd] at cc
          have hnm : ¬ (j : Int) ∈ cl := of_decide_eq_false hd
          have HN := hidp hnm
          clear hd hnm
          go_wp2_with fail
          refine (IH cl way j (c + v) m b1 _ hwk hnd hrg hcl hlt HN.out (by omega) (by omega) hm (hv.below hbel) hse').mono ?_
          rintro e w1 ⟨rfl, hbel1, hse1⟩
          go_wp2
          go_roundw
          case rel =>
            refine ⟨j + 1, by omega, by go_num, hbel.trans hbel1, ?_⟩
            rw [HFo.out, goF, if_pos ⟨by rw [← HV.out]; exact hp, HN.out⟩, ← HV.out]
            exact hse1
          case measure => simp [intOf]; omega
        · rw [hd] at cc
          have hnm : (j : Int) ∈ cl := of_decide_eq_true hd
          have HN := hidp hnm
          clear hd hnm
          go_wp2
          go_roundw
          case rel =>
            refine ⟨j + 1, by omega, by go_num, hbel, ?_⟩
            rw [HFo.out, goF, if_neg (fun h => h.2 HN.out)]
            exact hse'
          case measure => simp [intOf]; omega
      · go_wp2
        go_roundw
        case rel =>
          refine ⟨j + 1, by omega, by go_num, hbel, ?_⟩
          rw [HFo.out, goF, if_neg (fun h => hp (by rw [HV.out]; exact h.1))]
          exact hse'
        case measure => simp [intOf]; omega
    · go_wp2
      obtain rfl : j = 8 := by omega
      go_end0
      exact ⟨rfl, hbel, hse⟩

end Go.Proofs.Ytgffkjjddhlbpaa
