/- What isBody answers: whether there are just as many bytes as the kind and the count tell. -/
import Derived.Test.YtiepbdgjhfkceadN5
namespace Go.Proofs.Ytiepbdgjhfkcead.Wi
open Go.RowKit Go.Maps Go.Deep Tb Rul

def isb (k : Nat) (r : List Nat) : Bool := if k = 1 then decide (0 < r.length ∧ r.length = 1 + 2 * r.getD 0 0) else if k = 2 then decide (0 < r.length ∧ r.length = 1 + r.getD 0 0) else decide (r.length = 0)
theorem fldSh (a b : Int) (w : World) : (Instr.field 41 (.agg #[.int .i64 a, .int .i64 b]) 1).run Try.prog w = .ok (.int .i64 b) w := by kernel_rfl

set_option maxRecDepth 100000 in
set_option maxHeartbeats 1000000 in
theorem isBody_any (ao : Option Addr) (len cap k : Nat) (bs : List Nat) (w : World) (hlen : bs.length = len) (hf : ByAt w ao bs) (hb : ∀ x ∈ bs, x < 256) (hl : len ≤ 4611686018427387904) (hk : k < 256) :
    Calls Try.prog 22 #[.slice ao len cap, .int .i64 (k : Int)] w fun e w' => e = .returned (.bool (isb k bs)) ∧ Ext w w' := by
  have hfd := fldSh
  have hk64 : I64 (k : Int) := i64_small (by omega) (by omega)
  go_enter Try.func22, Try.ntmps22
  go_wp2_with fail
  refine (shapes_any _).mono ?_
  rintro e w1 ⟨m, rfl, hS, E1⟩
  have r1 := (hS.look hk64).2
  clear hk64 hS
  go_upto_region 2 with fail
  by_cases h1 : k = 1
  · rw [show wide (k : Int) = 2 by rw [wide, if_pos (by omega)]]
    clear r1
    rcases Nat.eq_zero_or_pos len with h0 | h0
    · have HF : Hid (isb k bs = false) := by show _ = _; rw [isb, if_pos h1]; exact decide_eq_false (by omega)
      have i0 : (len : Int) = 0 := by omega
      have i1 : ¬ (0 : Int) < (len : Int) := by omega
      clear h1 h0 
      go_wp2
      go_ret
      exact ⟨by rw [HF.out]; first | done | rfl, E1⟩
    · obtain ⟨g, off, rfl, hg, hcs⟩ := (hf.ext E1).get (by omega)
      have c0 := hcs 0 (by omega)
      rw [Nat.add_zero] at c0
      have hc : bs.getD 0 0 < 256 := hb _ (by simp only [List.getD_eq_getElem?_getD, List.getElem?_eq_getElem (show 0 < bs.length by omega), Option.getD_some]; exact List.getElem_mem _)
      have HF : Hid (isb k bs = decide ((len : Int) = 1 + 2 * ((bs.getD 0 0 : Nat) : Int))) := by
        show _ = _
        rw [isb, if_pos h1, decide_eq_decide]
        omega
      obtain ⟨c, hce⟩ : ∃ c, bs.getD 0 0 = c := ⟨_, rfl⟩
      rw [hce] at c0 hc HF
      have i1 : (0 : Int) < (len : Int) := by omega
      clear h1 h0 hce hcs 
      go_wp2
      go_ret
      exact ⟨by rw [HF.out]; first | done | rfl | (congr 2; simp; done) | (congr 2; simp [eq_comm]; done), E1⟩
  · by_cases h2 : k = 2
    · rw [show wide (k : Int) = 1 by rw [wide, if_neg (by omega), if_pos (by omega)]]
      clear r1
      rcases Nat.eq_zero_or_pos len with h0 | h0
      · have HF : Hid (isb k bs = false) := by show _ = _; rw [isb, if_neg h1, if_pos h2]; exact decide_eq_false (by omega)
        have i0 : (len : Int) = 0 := by omega
        have i1 : ¬ (0 : Int) < (len : Int) := by omega
        clear h1 h0 h2
        go_wp2
        go_ret
        exact ⟨by rw [HF.out]; first | done | rfl, E1⟩
      · obtain ⟨g, off, rfl, hg, hcs⟩ := (hf.ext E1).get (by omega)
        have c0 := hcs 0 (by omega)
        rw [Nat.add_zero] at c0
        have hc : bs.getD 0 0 < 256 := hb _ (by simp only [List.getD_eq_getElem?_getD, List.getElem?_eq_getElem (show 0 < bs.length by omega), Option.getD_some]; exact List.getElem_mem _)
        have HF : Hid (isb k bs = decide ((len : Int) = 1 + ((bs.getD 0 0 : Nat) : Int))) := by
          show _ = _
          rw [isb, if_neg h1, if_pos h2, decide_eq_decide]
          omega
        obtain ⟨c, hce⟩ : ∃ c, bs.getD 0 0 = c := ⟨_, rfl⟩
        rw [hce] at c0 hc HF
        have i1 : (0 : Int) < (len : Int) := by omega
        clear h1 h0 hce hcs h2
        go_wp2
        go_ret
        exact ⟨by rw [HF.out]; first | done | rfl | (congr 2; simp; done) | (congr 2; simp [eq_comm]; done), E1⟩
    · rw [show wide (k : Int) = 0 by rw [wide, if_neg (by omega), if_neg (by omega)]]
      have HF : Hid (isb k bs = decide ((len : Int) = 0)) := by
        show _ = _
        rw [isb, if_neg h1, if_neg h2, decide_eq_decide]
        omega
      clear r1 h1 h2
      go_wp2
      go_ret
      exact ⟨by rw [HF.out]; first | done | rfl | (congr 2; simp; done), E1⟩

end Go.Proofs.Ytiepbdgjhfkcead.Wi
