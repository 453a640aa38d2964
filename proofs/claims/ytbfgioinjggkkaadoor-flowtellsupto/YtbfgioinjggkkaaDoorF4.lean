/- Flows in words: texts, line by line. -/
import Derived.Test.YtbfgioinjggkkaaDoorF3
namespace Stf
open Go.Lib

def pres (s : Bs) : Except (Int × Int) (List Fl) := if 2000 < s.length then .error (4, 0) else match parse s with
  | .error p => .error (2, p)
  | .ok fs => .ok fs

theorem pstep_inv {r : Bs} {f : Fl} {rest : Bs} (h : pstep r = some (f, rest)) : ∃ line, r = line ++ [10] ++ rest ∧ rl line = some f ∧ (cut r [10]).1 = line ∧ (cut r [10]).2.1 = rest ∧ (cut r [10]).2.2 = true := by
  unfold pstep at h
  split at h
  · rename_i ht
    cases hr : rl (cut r [10]).1 with
    | none => rw [hr] at h; cases h
    | some g =>
      rw [hr] at h
      simp only [Option.map_some, Option.some.injEq, Prod.mk.injEq] at h
      obtain ⟨rfl, rfl⟩ := h
      exact ⟨_, cut_true ht, hr, rfl, rfl, ht⟩
  · cases h
theorem idx_append (c : UInt8) (t : Bs) : ∀ r : Bs, 0 ≤ index r [c] → index (r ++ t) [c] = index r [c]
  | [], h => by simp [index] at h
  | b :: l, h => by
    have ih := idx_append c t l
    have hge := index_ge l [c]
    by_cases hb : c = b
    · subst hb
      rw [List.cons_append, index, index]; simp
    · have e : (c == b) = false := by simpa using hb
      rw [index] at h
      simp only [List.isPrefixOf, e, Bool.false_and, Bool.false_eq_true, if_false] at h
      have h0 : index l [c] ≠ -1 := by intro e0; rw [e0] at h; exact absurd h (by decide)
      have h1 := ih (by omega)
      rw [List.cons_append, index, index, h1]
      simp only [List.isPrefixOf, e, Bool.false_and, Bool.false_eq_true, if_false]
theorem cut_append {c : UInt8} {r : Bs} (t : Bs) (h : (cut r [c]).2.2 = true) : cut (r ++ t) [c] = ((cut r [c]).1, (cut r [c]).2.1 ++ t, true) := by
  have h0 : 0 ≤ index r [c] := by
    unfold cut at h
    split at h
    · assumption
    · cases h
  have h1 := idx_append c t r h0
  have h2 := index_room r [c] h0
  simp only [List.length_cons, List.length_nil] at h2
  unfold cut
  rw [h1, if_pos h0]
  simp only [h0, if_true, List.length_cons, List.length_nil]
  rw [List.take_append_of_le_length (by omega), List.drop_append_of_le_length (by omega)]
theorem pstep_append {r : Bs} {f : Fl} {rest : Bs} (t : Bs) (h : pstep r = some (f, rest)) : pstep (r ++ t) = some (f, rest ++ t) := by
  obtain ⟨line, _, hr, h1, h2, h3⟩ := pstep_inv h
  unfold pstep
  rw [cut_append t h3, h1, h2]
  simp [hr]
theorem par_succ (n a : Nat) (r : Bs) : par (n + 1) a r = if r = [] then .ok [] else match pstep r with
    | none => .error a
    | some (f, rest) => match par n (a + (cut r [10]).1.length + 1) rest with
      | .ok l => .ok (f :: l)
      | .error p => .error p := rfl
theorem par_ok_inv {n a : Nat} {r : Bs} {l : List Fl} (h : par (n + 1) a r = .ok l) (hr : r ≠ []) : ∃ f rest l', pstep r = some (f, rest) ∧ l = f :: l' ∧ par n (a + (cut r [10]).1.length + 1) rest = .ok l' := by
  rw [par_succ, if_neg hr] at h
  cases hp : pstep r with
  | none => rw [hp] at h; cases h
  | some q =>
    obtain ⟨f, rest⟩ := q
    rw [hp] at h
    simp only at h
    cases hq : par n (a + (cut r [10]).1.length + 1) rest with
    | error p => rw [hq] at h; cases h
    | ok l' => rw [hq] at h; cases h; exact ⟨f, rest, l', rfl, rfl, hq⟩
theorem pstep_lt {r : Bs} {f : Fl} {rest : Bs} (h : pstep r = some (f, rest)) : rest.length < r.length := by
  obtain ⟨line, h1, _⟩ := pstep_inv h
  rw [h1]; simp; omega
theorem par_two : ∀ (n : Nat) {a : Nat} {r t : Bs} {l b : List Fl}, par n a r = .ok l → r.length ≤ n → (∀ N a', t.length ≤ N → par N a' t = .ok b) → ∀ N a', (r ++ t).length ≤ N → par N a' (r ++ t) = .ok (l ++ b)
  | 0, a, r, t, l, b, h, hn, ht, N, a', hN => by
    have : r = [] := List.eq_nil_of_length_eq_zero (by omega)
    subst this
    cases h
    exact ht N a' (by simpa using hN)
  | n + 1, a, r, t, l, b, h, hn, ht, N, a', hN => by
    by_cases hr : r = []
    · subst hr
      rw [par_succ, if_pos rfl] at h
      cases h
      exact ht N a' (by simpa using hN)
    · obtain ⟨f, rest, l', h1, rfl, h2⟩ := par_ok_inv h hr
      have hlt := pstep_lt h1
      have hl : r.length ≠ 0 := fun e => hr (List.eq_nil_of_length_eq_zero e)
      rw [List.length_append] at hN
      obtain ⟨N, rfl⟩ : ∃ M, N = M + 1 := ⟨N - 1, by omega⟩
      have ih := par_two n h2 (by omega) ht N (a' + (cut (r ++ t) [10]).1.length + 1) (by rw [List.length_append]; omega)
      rw [par_succ, if_neg (by simp [hr]), pstep_append t h1]
      simp only [ih, List.cons_append]
theorem par_any {n a : Nat} {r : Bs} {l : List Fl} (h : par n a r = .ok l) (hn : r.length ≤ n) : ∀ N a', r.length ≤ N → par N a' r = .ok l := by
  have := par_two n (t := []) (b := []) h hn (fun N a' _ => by cases N <;> simp [par])
  simpa using this
theorem pres_ok {s : Bs} {a : List Fl} (h : pres s = .ok a) : s.length ≤ 2000 ∧ parse s = .ok a := by
  unfold pres at h
  split at h
  · cases h
  · rename_i h0
    refine ⟨by omega, ?_⟩
    cases hp : parse s with
    | error p => rw [hp] at h; cases h
    | ok fs => rw [hp] at h; cases h; rfl
theorem pres_mk {s : Bs} {a : List Fl} (h0 : s.length ≤ 2000) (h : parse s = .ok a) : pres s = .ok a := by
  unfold pres; rw [if_neg (by omega), h]
theorem pres_append {s t : Bs} {a b : List Fl} (hs : pres s = .ok a) (ht : pres t = .ok b) (hl : s.length + t.length ≤ 2000) : pres (s ++ t) = .ok (a ++ b) := by
  obtain ⟨s1, s2⟩ := pres_ok hs
  obtain ⟨t1, t2⟩ := pres_ok ht
  refine pres_mk (by rw [List.length_append]; exact hl) ?_
  exact par_two _ s2 (Nat.le_refl _) (par_any t2 (Nat.le_refl _)) _ _ (Nat.le_refl _)
theorem lst_len {there : Bool} {s : Bs} {xs : List Int} (h : lst there s = some xs) : xs.length ≤ s.length + 1 := by
  unfold lst at h
  split at h
  · have h1 := nums_len h
    have h2 := sp_count s
    omega
  · cases h; simp
theorem rl_len {l : Bs} {f : Fl} (h : rl l = some f) : f.via.length ≤ l.length + 1 ∧ f.nt.length ≤ l.length + 1 := by
  unfold rl at h
  split at h
  · rename_i a b v n e1 e2 e3 e4
    cases h
    have h1 := lst_len e3
    have h2 := lst_len e4
    have k1 := cut_len2 (c1 l).1 wVia
    have k2 := cut_len2 l wNot
    have k3 := cut_len l wNot
    unfold c2 at h1
    unfold c1 at h1 h2 k1
    refine ⟨?_, ?_⟩
    · show v.length ≤ _
      omega
    · show n.length ≤ _
      omega
  · cases h
theorem par_lens : ∀ (n : Nat) {a : Nat} {r : Bs} {l : List Fl}, par n a r = .ok l → r.length ≤ n → ∀ f ∈ l, f.via.length ≤ r.length + 1 ∧ f.nt.length ≤ r.length + 1
  | 0, a, r, l, h, hn => by cases h; intro f hf; cases hf
  | n + 1, a, r, l, h, hn => by
    by_cases hr : r = []
    · subst hr
      rw [par_succ, if_pos rfl] at h
      cases h
      intro f hf; cases hf
    · obtain ⟨g, rest, l', h1, rfl, h2⟩ := par_ok_inv h hr
      have hlt := pstep_lt h1
      intro f hf
      rcases List.mem_cons.1 hf with rfl | hf
      · obtain ⟨line, e1, e2, _⟩ := pstep_inv h1
        have := rl_len e2
        have e3 := congrArg List.length e1
        simp only [List.length_append, List.length_cons, List.length_nil] at e3
        omega
      · have := par_lens n h2 (by omega) f hf
        omega

end Stf
