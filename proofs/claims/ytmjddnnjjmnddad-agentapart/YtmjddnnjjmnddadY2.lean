/- What is wrong with stamps, one by one. -/
import Derived.Test.YtmjddnnjjmnddadY1
namespace Go.Proofs.Ytmjddnnjjmnddad.Ag
open Go.RowKit Go.Deep Tb Rul

/-- the flow ahead of the k-th stamp, as the loop has it -/
def lsS (st : List (Int × Int)) : Nat → Int
  | 0 => -1
  | k + 1 => (st.getD k s0).1
def pvS (st : List (Int × Int)) : Nat → Option Int
  | 0 => none
  | k + 1 => some (st.getD k s0).1
theorem pvS_pos {st : List (Int × Int)} {k : Nat} (h : k ≠ 0) : pvS st k = some (lsS st k) := by
  cases k with
  | zero => exact absurd rfl h
  | succ k => rfl
theorem wst_step {st : List (Int × Int)} {p : Option Int} {k : Nat} (hk : k < st.length) : Agt.wst p (st.drop k) = if Agt.badS (st.getD k s0) = true then 3 else if p.any (fun q => decide ((st.getD k s0).1 ≤ q)) = true then 2 else Agt.wst (some (st.getD k s0).1) (st.drop (k + 1)) := by
  have e : st.getD k s0 = st[k] := by simp [List.getD_eq_getElem?_getD, hk]
  rw [List.drop_eq_getElem_cons hk, Agt.wst, e]
theorem wst_end {st : List (Int × Int)} {p : Option Int} {k : Nat} (hk : st.length ≤ k) : Agt.wst p (st.drop k) = 0 := by
  rw [List.drop_eq_nil_of_le hk]; cases p <;> rfl

end Go.Proofs.Ytmjddnnjjmnddad.Ag
