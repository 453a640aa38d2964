/- What SameRules answers of two rows of rules that are the same. -/
import Derived.Test.YtmjddnnjjmnddadN0
namespace Go.Proofs.Ytmjddnnjjmnddad.Tb
open Go.RowKit Go.Deep Rul

set_option maxRecDepth 100000 in
set_option maxHeartbeats 800000 in
theorem SameRules_same (ao bo : Option Addr) (len ac bc : Nat) (rs : List Ru) (w : World) (hlen : rs.length = len) (ha : RsAt w ao rs) (hb : RsAt w bo rs) (hl : len ≤ 4611686018427387904) :
    Calls Try.prog 26 #[.slice ao len ac, .slice bo len bc] w fun e w' => e = .returned (.bool true) ∧ Ext w w' := by
  go_enter Try.func26, Try.ntmps26
  go_wp2
  go_loopw [13] (fun iv wd => ∃ k : Nat, k ≤ len ∧ iv = .int .i64 k ∧ Ext w wd) (fun iv _ => len - (intOf iv).toNat)
  case atStart => exact ⟨0, Nat.zero_le _, rfl, Ext.refl w⟩
  case round =>
    obtain ⟨k, hk, rfl, hE⟩ := hrel
    by_cases hlt : k < len
    · obtain ⟨g, off, rfl, hg, hcs⟩ := (ha.ext hE).get (k := k) (by omega)
      obtain ⟨g', off', rfl, hg', hcs'⟩ := (hb.ext hE).get (k := k) (by omega)
      have i1 : (k : Int) < (len : Int) := by omega
      obtain ⟨c0, c1, c2⟩ := hcs k (by omega)
      obtain ⟨e0, e1, e2⟩ := hcs' k (by omega)
      obtain ⟨r, hr⟩ : ∃ r, rs.getD k r0 = r := ⟨_, rfl⟩
      rw [hr] at c0 c1 c2 e0 e1 e2
      clear hr hcs hcs'
      go_wp2
      go_region
      go_wp2
      exact ⟨⟨k + 1, by omega, by go_num, hE.drew⟩, by simp [intOf]; omega⟩
    · have i1 : ¬ (k : Int) < (len : Int) := by omega
      go_wp2
      go_ret
      exact ⟨rfl, hE⟩

end Go.Proofs.Ytmjddnnjjmnddad.Tb
