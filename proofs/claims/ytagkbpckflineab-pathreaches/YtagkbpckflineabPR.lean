/- PathReaches answers true, for every net and numbers; nothing that was there is changed. -/
import Derived.Test.YtagkbpckflineabP8
import Derived.Test.YtagkbpckflineabW6
namespace Go.Proofs.Ytagkbpckflineab
open Go.RowKit Go.Maps Stw Go.Deep Stp

theorem fldErr (a b : Int) (w : World) : (Instr.field 38 (.agg #[.int .i64 a, .int .i64 b]) 0).run Try.prog w = .ok (.int .i64 a) w := by kernel_rfl

/-- A flow that asks for nothing else is right between two switches. -/
theorem plain_right {n a b : Int} (ha : 0 ≤ a ∧ a < n) (hb : 0 ≤ b ∧ b < n) (hab : a ≠ b) : Stf.wflow ⟨a, b, [], []⟩ n = 0 := by
  have h1 : Stf.swB a n = true := by simp [Stf.swB, ha]
  have h2 : Stf.swB b n = true := by simp [Stf.swB, hb]
  have h3 : Stf.wlist a b n [] = 0 := Stf.wlist_good (fun j hj => by simp at hj)
  simp [Stf.wflow, h1, h2, hab, h3]

theorem rl_in {n : Int} {ls : List Lk} {fr : Int} {L : List Int} (h : RL n ls fr L) (hr : Right n ls) {x : Int} (hx : x ∈ L) : 0 ≤ x ∧ x < n := by
  obtain ⟨_, h2, h3⟩ := (h.2 x).1 hx
  refine h3 (fun y => 0 ≤ y ∧ y < n) (swB_true.1 h2) (fun a b _ hc => ?_)
  have := (hr.cost a b).2.2 (by omega)
  omega
theorem take_next {L : List Int} {k : Nat} {b : Int} (h : k < L.length) : decide (b ∈ L.take (k + 1)) = (decide (b ∈ L.take k) || (L.getD k 0 == b)) := by
  rw [List.take_succ_eq_append_getElem h, getD_at h, Bool.eq_iff_iff, decide_eq_true_eq, Bool.or_eq_true, decide_eq_true_eq, List.mem_append, List.mem_singleton, beq_iff_eq]
  exact or_congr Iff.rfl eq_comm
/-- What Find tells of such a flow. -/
theorem fnd_plain {n : Int} {ls : List Lk} {a b : Int} (hr : Right n ls) (ha : 0 ≤ a ∧ a < n) (hb : 0 ≤ b ∧ b < n) (hab : a ≠ b) : ((fnd n ls ⟨a, b, [], []⟩).1 = 0 ∧ Rch ls a b) ∨ ((fnd n ls ⟨a, b, [], []⟩).1 = 9 ∧ ¬ Rch ls a b) := by
  have hbd := hr.bounds
  have hC : ∀ x y, 0 ≤ cost ls x y := fun x y => (hr.cost x y).1
  have hw : (wrong n ls).1 = 0 := by rw [hr.wrong]
  have hf := plain_right ha hb hab
  unfold fnd
  rw [if_neg (by simp [hw]), if_neg (by simp [hf])]
  cases hfi : find (cost ls) a b [] [] with
  | none =>
    right
    refine ⟨rfl, fun h => ?_⟩
    obtain ⟨p, hp⟩ := (rch_pth hr ha).1 h
    exact find_none hC (by omega) (by simp) hfi p (srv_plain hp)
  | some y =>
    obtain ⟨p, c⟩ := y
    left
    exact ⟨rfl, (rch_pth hr ha).2 ⟨p, (find_some hC (by omega) (by simp) hfi).1.toPth⟩⟩

set_option maxRecDepth 100000 in
set_option maxHeartbeats 2000000 in
theorem pathReaches_any (n : Int) (ao : Option Addr) (len cap : Nat) (ls : List Lk) (a b : Int) (w : World) (hlen : ls.length = len) (hl : NetAt w ao ls) (hx : len ≤ 9223372036854775807) (hI : I64 n) :
    Calls Try.prog 7 #[.agg #[.int .i64 n, .slice ao len cap], .int .i64 a, .int .i64 b] w fun e w' => e = .returned (.bool true) ∧ Ext w w' := by
  go_enter Try.func7, Try.ntmps7
  go_wp2_with fail
  refine (alive_any _).mono ?_
  rintro e w1 ⟨rfl, E1⟩
  have hw1 : Ext w w1 := ((Ext.refl w).alloc _).trans E1
  have hs1 : w.heap.size < w1.heap.size := by have := E1.size; simp at this; omega
  have c0 : w1.cell? ⟨w.heap.size, 0, none⟩ = some (.int .i64 n) := (E1.cells.1 _ _ (by simp)).trans (by simp)
  have c1 : w1.cell? ⟨w.heap.size, 1, none⟩ = some (.slice ao len cap) := (E1.cells.1 _ _ (by simp)).trans (by simp)
  go_wp2_with fail
  refine (Wrong_any n ao len cap ls _ hlen (hl.ext hw1) hx).mono ?_
  rintro e w2 ⟨rfl, E2⟩
  have hw2 := hw1.trans E2
  have hs2 : w.heap.size < w2.heap.size := by have := E2.size; omega
  have d0 := (E2.cells.1 _ _ hs1).trans c0
  have d1 := (E2.cells.1 _ _ hs1).trans c1
  clear c0 c1
  have hfd := fldErr
  by_cases hr : (wrong n ls).1 = 0
  · have hright := right_of hr
    have hbd := hright.bounds
    rw [hright.wrong]
    clear hr
    by_cases ha0 : a < 0
    · go_wp2
      go_ret
      exact ⟨rfl, hw2⟩
    · by_cases hb0 : b < 0
      · go_wp2
        go_ret
        exact ⟨rfl, hw2⟩
      · by_cases han : n ≤ a
        · go_wp2
          go_ret
          exact ⟨rfl, hw2⟩
        · by_cases hbn : n ≤ b
          · go_wp2
            go_ret
            exact ⟨rfl, hw2⟩
          · cases hab : (a == b)
            · have hab' : a ≠ b := by simpa using hab
              have HFN := hidp (fnd_plain hright ⟨by omega, by omega⟩ ⟨by omega, by omega⟩ hab')
              have HSW : Hid (swB n a = true) := swB_true.2 ⟨by omega, by omega⟩
              clear hab'
              go_wp2_with fail
              refine (Reaches_any n a ao len cap ls _ hlen (hl.ext hw2) hx).mono ?_
              rintro e w3 ⟨lo, lc, L, rfl, hL, hrl, E3⟩
              have hs3 : w.heap.size < w3.heap.size := by have := E3.size; omega
              have e0 := (E3.cells.1 _ _ hs2).trans d0
              have e1 := (E3.cells.1 _ _ hs2).trans d1
              have hw3 := hw2.trans E3
              have hLr : ∀ x ∈ L, 0 ≤ x ∧ x < n := fun x hx => rl_in hrl hright hx
              have hL8 : L.length ≤ 8 := by
                refine nodup_le 8 L ?_ (fun x hx => by have := hLr x hx; omega)
                exact hrl.1.imp (fun {a b} h e => by omega)
              have HRL := hidp (hrl.2 b)
              clear d0 d1 hLr hrl
              go_wp2
              go_loopw [7, 47] (fun tv iv wr => ∃ k : Nat, k ≤ L.length ∧ iv = .int .i64 k ∧ tv = .bool (decide (b ∈ L.take k)) ∧ wr = w3) (fun _ iv _ => L.length - (intOf iv).toNat)
              case atStart => exact ⟨0, Nat.zero_le _, rfl, by simp, rfl⟩
              case round =>
                obtain ⟨k, hk, rfl, rfl, rfl⟩ := hrel
                by_cases hlt : k < L.length
                · obtain ⟨bk, off, rfl, hbk, hat⟩ : ∃ bk off, lo = some ⟨bk, off, none⟩ ∧ bk < wr.heap.size ∧ IntsAt wr bk off L := by
                    rcases hL with rfl | h
                    · simp at hlt
                    · exact h
                  have ce := hat k hlt
                  have HT : Hid (decide (b ∈ L.take (k + 1)) = (decide (b ∈ L.take k) || (L.getD k 0 == b))) := by
                    have this : decide (b ∈ L.take (k + 1)) = (decide (b ∈ L.take k) || (L.getD k 0 == b)) := take_next hlt
                    exact hidp this
                  obtain ⟨y, hy⟩ : ∃ y, y = L.getD k 0 := ⟨_, rfl⟩
                  rw [← hy] at ce HT
                  clear hy hat
                  have i1 : (k : Int) < (L.length : Int) := by omega
                  obtain ⟨β, hβ⟩ : ∃ β, β = decide (b ∈ L.take k) := ⟨_, rfl⟩
                  rw [← hβ] at HT ⊢
                  clear hβ
                  cases β
                  · go_wp2
                    go_roundw
                    case rel => exact ⟨k + 1, by omega, by go_num, by rw [HT.out]; rfl, trivial⟩
                    case measure => simp [intOf]; omega
                  · go_wp2
                    go_roundw
                    case rel => exact ⟨k + 1, by omega, by go_num, by rw [HT.out]; rfl, trivial⟩
                    case measure => simp [intOf]; omega
                · have hkk : L.take k = L := List.take_of_length_le (by omega)
                  rw [hkk]
                  clear hkk
                  go_wp2_with fail
                  refine (Find_any n ao len cap ls ⟨a, b, [], []⟩ none none 0 0 _ hlen (hl.ext hw3) hx hI (Or.inl rfl) (Nat.zero_le _) (Nat.le_refl _) (Or.inl rfl) (Nat.zero_le _) (Nat.le_refl _)).mono ?_
                  rintro e w4 ⟨go, gc, rfl, hg, hgl, E4⟩
                  rcases HFN.out with ⟨h1, h2⟩ | ⟨h1, h2⟩
                  · have hm : decide (b ∈ L) = true := by
                      rw [decide_eq_true_eq]
                      exact HRL.out.2 ⟨by rw [hright.wrong], HSW.out, h2⟩
                    rw [h1, hm]
                    clear h2 hm
                    go_wp2
                    go_ret
                    exact ⟨rfl, hw3.trans E4⟩
                  · have hm : decide (b ∈ L) = false := by
                      rw [decide_eq_false_iff_not]
                      exact fun h => h2 (HRL.out.1 h).2.2
                    rw [h1, hm]
                    clear h2 hm
                    go_wp2
                    go_ret
                    exact ⟨rfl, hw3.trans E4⟩
            · go_wp2
              go_ret
              exact ⟨rfl, hw2⟩
  · have hr' : ((wrong n ls).1 != 0) = true := by simpa using hr
    go_wp2
    go_ret
    exact ⟨rfl, hw2⟩

end Go.Proofs.Ytagkbpckflineab
