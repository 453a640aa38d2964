/- What the law RuleDrop answers, for every row of rules and numbers: true; nothing that was there is changed. -/
import Derived.Test.YtdiknngmepjncacV22
namespace Go.Proofs.Ytdiknngmepjncac.Tb
open Go.RowKit Go.Maps Stw Go.Deep Rul Go.Sort

theorem fldF (a b : Int) (w : World) : (Instr.field 46 (.agg #[.int .i64 a, .int .i64 b]) 0).run Try.prog w = .ok (.int .i64 a) w := by kernel_rfl

set_option maxRecDepth 100000 in
set_option maxHeartbeats 800000 in
theorem ruleDrop_any (ao : Option Addr) (len cap : Nat) (rs : List Ru) (v u f : Int) (w : World) (hok : SlOk w ao len cap rs) (hl : len * 24 ≤ 140737488351232) :
    Calls Try.prog 6 #[.slice ao len cap, .int .i64 v, .int .i64 u, .int .i64 f] w fun e w' => e = .returned (.bool true) ∧ Ext w w' := by
  have hfd := fldF
  go_enter Try.func6, Try.ntmps6
  go_wp2_with fail
  refine (alive_any _).mono ?_
  rintro e w1 ⟨rfl, E1⟩
  go_wp2_with fail
  refine (Wrong_any ao len cap rs _ hok.hlen (hok.hat.ext E1) (by omega)).mono ?_
  rintro e w2 ⟨he, E2⟩
  obtain ⟨x, hx⟩ : ∃ x, x = (Rul.wrong rs).1 := ⟨_, rfl⟩
  obtain ⟨xat, rfl⟩ : ∃ xat, e = .returned (.agg #[.int .i64 x, .int .i64 xat]) := ⟨_, by rw [hx]; exact he⟩
  clear he
  have hE2 := E1.trans E2
  by_cases h0 : x = 0
  · have ht : tab rs := by unfold tab; rw [← hx, h0]
    have HT : Hid (tab rs) := ht
    have hl16 := (tab_iff.1 ht).1
    have hlen := hok.hlen
    clear ht hx
    subst h0
    go_wp2_with fail
    refine (Drop_any ao len cap rs v _ hok.hlen (hok.hat.ext hE2) hl).mono ?_
    rintro e w3 ⟨v3, rfl, ho3, E3⟩
    obtain ⟨mo, mc, rfl, hat3, hnil3, _, _⟩ := ho3.form
    have hml : (drp rs v).length ≤ len := by have := drp_le rs v; omega
    have hE3 := hE2.trans E3
    clear ho3
    obtain ⟨m, hm⟩ : ∃ m, m = drp rs v := ⟨_, rfl⟩
    rw [← hm] at hat3 hml ⊢
    have HM : Hid (m = drp rs v) := hm
    clear hm hnil3
    go_wp2_with fail
    refine (Next_any ao len cap rs u f _ hok.hlen (hok.hat.ext hE3) (by omega)).mono ?_
    rintro e w4 ⟨he4, E4⟩
    obtain ⟨a, x, hax, rfl⟩ : ∃ a x, nxt u f rs = (a, x) ∧ e = .returned (.tuple #[.int .i64 a, .bool x]) := ⟨_, _, rfl, he4⟩
    clear he4
    go_wp2_with fail
    refine (Next_any mo m.length mc m u f _ rfl (hat3.ext E4) (by omega)).mono ?_
    rintro e w5 ⟨he5, E5⟩
    obtain ⟨b, y, hby, rfl⟩ : ∃ a x, nxt u f m = (a, x) ∧ e = .returned (.tuple #[.int .i64 a, .bool x]) := ⟨_, _, rfl, he5⟩
    clear he5
    go_wp2_with fail
    refine (Wrong_any mo m.length mc m _ rfl (hat3.ext (E4.trans E5)) (by omega)).mono ?_
    rintro e w6 ⟨he6, E6⟩
    have hwm : Rul.wrong m = (0, 0) := by rw [HM.out]; exact tab_wrong (drp_tab HT.out)
    rw [hwm] at he6
    subst he6
    have hE6 := ((hE3.trans E4).trans E5).trans E6
    clear hwm E1 E2 E3 E4 E5 E6 hat3
    by_cases huv : u = v
    · have hy : y = false := by
        have := drp_gone (l := rs) (v := v) (f := f)
        rw [← HM.out, ← huv, hby] at this
        exact (Prod.ext_iff.1 this).2
      subst huv
      subst hy
      clear hby hax
      go_wp2
      go_ret
      exact ⟨rfl, hE6⟩
    · have he : (a, x) = (b, y) := by rw [← hax, ← hby, HM.out]; exact (drp_other HT.out huv).symm
      have huv' : (u == v) = false := by simpa using huv
      cases he
      clear hax hby huv
      go_wp2
      go_ret
      exact ⟨by simp, hE6⟩
  · have h0' : (x != 0) = true := by simpa using h0
    clear hx h0
    go_wp2
    go_ret
    exact ⟨rfl, hE2⟩

end Go.Proofs.Ytdiknngmepjncac.Tb
