/- Flows in words: the document's own reading of a line is the same. -/
import Derived.Test.YtbfgioinjggkkaaDoorK3
namespace Go.Proofs.YtbfgioinjggkkaaDoor
open Stf

theorem tw_at {d t : Bs} (hd : ∀ c ∈ d, dig c = true) (ht : ∀ c, t.head? = some c → dig c = false) : tw (d ++ t) = d ∧ (d ++ t).drop (tw (d ++ t)).length = t := by
  have h1 : tw (d ++ t) = d := by
    unfold tw
    rw [List.takeWhile_append_of_pos hd]
    cases t with
    | nil => simp
    | cons c r => rw [List.takeWhile_cons_of_neg (by simp [ht c rfl])]; simp
  exact ⟨h1, by rw [h1]; simp⟩
theorem tw_split (r : Bs) : r = tw r ++ r.drop (tw r).length ∧ ∀ c, (r.drop (tw r).length).head? = some c → dig c = false := by
  unfold tw
  have h := List.takeWhile_append_dropWhile (p := dig) (l := r)
  have h2 : r.drop (r.takeWhile dig).length = r.dropWhile dig := by
    have e := congrArg (List.drop (r.takeWhile dig).length) h
    rw [List.drop_left] at e
    exact e.symm
  refine ⟨by rw [h2]; exact h.symm, fun c hc => ?_⟩
  rw [h2] at hc
  have := List.head?_dropWhile_not dig r
  rw [hc] at this
  simpa using this
/-- numbers with commas: read -/
theorem rgo_inv : ∀ (n : Nat) {r : Bs} {xs : List Int} {rest : Bs}, rgo n r = some (xs, rest) → ∃ x xs', xs = x :: xs' ∧ r = Lib.itoa x ++ txtR xs' ++ rest ∧ (∀ y ∈ xs, SmN y) ∧ ∀ c, rest.head? = some c → dig c = false ∧ c ≠ 44
  | 0, r, xs, rest, h => by cases h
  | n + 1, r, xs, rest, h => by
    rw [rgo] at h
    cases hn : num (tw r) with
    | none => rw [hn] at h; cases h
    | some x =>
      rw [hn] at h
      simp only at h
      obtain ⟨hs, hh⟩ := tw_split r
      have hx := num_itoa hn
      cases hd : r.drop (tw r).length with
      | nil =>
        rw [hd] at h hs
        cases h
        exact ⟨x, [], rfl, by rw [hs, ← hx]; simp [txtR], fun y hy => by simp at hy; subst hy; exact num_smN hn, fun c hc => by cases hc⟩
      | cons c t =>
        rw [hd] at h hs hh
        simp only at h
        split at h
        · rename_i h44
          subst h44
          cases hq : rgo n t with
          | none => rw [hq] at h; cases h
          | some q =>
            rw [hq] at h
            cases h
            obtain ⟨y, ys, e1, e2, e3, e4⟩ := rgo_inv n (xs := q.1) (rest := q.2) hq
            refine ⟨x, q.1, rfl, ?_, fun z hz => ?_, e4⟩
            · rw [hs, ← hx, e2, e1]; simp [txtR]
            · rcases List.mem_cons.1 hz with rfl | hz
              · exact num_smN hn
              · exact e3 z hz
        · rename_i h44
          cases h
          exact ⟨x, [], rfl, by rw [hs, ← hx]; simp [txtR], fun y hy => by simp at hy; subst hy; exact num_smN hn, fun c' hc' => by
            cases hc'
            exact ⟨hh _ rfl, h44⟩⟩
/-- numbers with commas: written -/
theorem rgo_mk : ∀ (xs : List Int) (x : Int) (n : Nat) (rest : Bs), xs.length < n → (∀ y ∈ x :: xs, SmN y) → (∀ c, rest.head? = some c → dig c = false ∧ c ≠ 44) → rgo n (Lib.itoa x ++ txtR xs ++ rest) = some (x :: xs, rest)
  | [], x, n, rest, hn, hs, hr => by
    obtain ⟨n, rfl⟩ : ∃ m, n = m + 1 := ⟨n - 1, by simp at hn; omega⟩
    have hx := hs x (by simp)
    obtain ⟨h1, h2⟩ := tw_at (d := Lib.itoa x) (t := rest) (itoa_dig hx.1) (fun c hc => (hr c hc).1)
    rw [show txtR [] = [] from rfl, List.append_nil]
    have h3 := rgo_end (n := n) (r := Lib.itoa x ++ rest) (x := x) (by rw [h1]; exact itoa_num hx) (fun c hc => by
      rw [← head_drop, h2] at hc
      exact (hr c hc).2)
    rw [h3, h2]
  | y :: ys, x, n, rest, hn, hs, hr => by
    obtain ⟨n, rfl⟩ : ∃ m, n = m + 1 := ⟨n - 1, by simp at hn; omega⟩
    have hx := hs x (by simp)
    have e : Lib.itoa x ++ txtR (y :: ys) ++ rest = Lib.itoa x ++ (44 :: (Lib.itoa y ++ txtR ys ++ rest)) := by simp [txtR]
    rw [e]
    obtain ⟨h1, h2⟩ := tw_at (d := Lib.itoa x) (t := 44 :: (Lib.itoa y ++ txtR ys ++ rest)) (itoa_dig hx.1) (fun c hc => by cases hc; decide)
    have h3 := rgo_more (n := n) (r := Lib.itoa x ++ (44 :: (Lib.itoa y ++ txtR ys ++ rest))) (x := x) (by rw [h1]; exact itoa_num hx) (by rw [← head_drop, h2]; rfl)
    rw [h3, ← List.drop_drop, h2]
    simp only [List.drop_succ_cons, List.drop_zero]
    rw [rgo_mk ys y n rest (by simp at hn; omega) (fun z hz => hs z (by simp at hz ⊢; right; exact hz)) hr]
    rfl
theorem rwrd_inv {word : Bs} {N : Nat} {r : Bs} {xs : List Int} {rest : Bs} (h : rwrd word N r = some (xs, rest)) : r = txtL word xs ++ rest ∧ (∀ y ∈ xs, SmN y) ∧ (xs = [] → word.isPrefixOf r = false) ∧ (xs ≠ [] → ∀ c, rest.head? = some c → dig c = false ∧ c ≠ 44) := by
  unfold rwrd at h
  split at h
  · rename_i hp
    obtain ⟨x, xs', rfl, e2, e3, e4⟩ := rgo_inv _ h
    have hp' : word <+: r := by simpa using hp
    obtain ⟨t, rfl⟩ := hp'
    rw [List.drop_left] at e2
    exact ⟨by rw [e2]; simp [txtL], e3, fun e => (by cases e), fun _ => e4⟩
  · rename_i hp
    cases h
    exact ⟨by simp [txtL], fun y hy => (by cases hy), fun _ => Bool.eq_false_iff.2 hp, fun e => absurd rfl e⟩
theorem rwrd_mk {word : Bs} {N : Nat} {xs : List Int} {rest : Bs} (hN : xs.length ≤ N) (hs : ∀ y ∈ xs, SmN y) (h0 : xs = [] → word.isPrefixOf rest = false) (h1 : ∀ c, rest.head? = some c → dig c = false ∧ c ≠ 44) : rwrd word N (txtL word xs ++ rest) = some (xs, rest) := by
  unfold rwrd
  cases xs with
  | nil =>
    rw [show txtL word [] = [] from rfl, List.nil_append, h0 rfl]
    simp
  | cons x r =>
    have e : txtL word (x :: r) ++ rest = word ++ (Lib.itoa x ++ txtR r ++ rest) := by simp [txtL]
    rw [e, if_pos (by simp), List.drop_left]
    exact rgo_mk r x N rest (by simp at hN; omega) hs h1

theorem head_not (Y : List Int) (rest : Bs) : ∀ c, (txtL wNot Y ++ 10 :: rest).head? = some c → dig c = false ∧ c ≠ 44 := by
  intro c hc
  cases Y with
  | nil => cases hc; decide
  | cons y ys => cases hc; decide
theorem head_via (X Y : List Int) (rest : Bs) : ∀ c, (txtL wVia X ++ (txtL wNot Y ++ 10 :: rest)).head? = some c → dig c = false ∧ c ≠ 44 := by
  intro c hc
  cases X with
  | nil => exact head_not Y rest c hc
  | cons y ys => cases hc; decide
theorem via_not (Y : List Int) (rest : Bs) : wVia.isPrefixOf (txtL wNot Y ++ 10 :: rest) = false := by
  cases Y with
  | nil => rfl
  | cons y ys => rfl
theorem rline_mk {f : Fl} (h : SmF f) (rest : Bs) (N : Nat) (h1 : f.via.length ≤ N) (h2 : f.nt.length ≤ N) : rline N (lineT f ++ rest) = some (f, rest) := by
  obtain ⟨x, y, X, Y⟩ := f
  obtain ⟨s1, s2, s3, s4⟩ := h
  have e : lineT ⟨x, y, X, Y⟩ ++ rest = Lib.itoa x ++ (62 :: (Lib.itoa y ++ (txtL wVia X ++ (txtL wNot Y ++ 10 :: rest)))) := by simp [lineT, lineB]
  rw [e]
  obtain ⟨a1, a2⟩ := tw_at (d := Lib.itoa x) (t := 62 :: (Lib.itoa y ++ (txtL wVia X ++ (txtL wNot Y ++ 10 :: rest)))) (itoa_dig s1.1) (fun c hc => by cases hc; decide)
  obtain ⟨b1, b2⟩ := tw_at (d := Lib.itoa y) (t := txtL wVia X ++ (txtL wNot Y ++ 10 :: rest)) (itoa_dig s2.1) (fun c hc => (head_via X Y rest c hc).1)
  have a3 : (Lib.itoa x ++ (62 :: (Lib.itoa y ++ (txtL wVia X ++ (txtL wNot Y ++ 10 :: rest))))).drop ((tw (Lib.itoa x ++ (62 :: (Lib.itoa y ++ (txtL wVia X ++ (txtL wNot Y ++ 10 :: rest)))))).length + 1) = Lib.itoa y ++ (txtL wVia X ++ (txtL wNot Y ++ 10 :: rest)) := by rw [← List.drop_drop, a2]; rfl
  unfold rline
  rw [a3, a2, a1, itoa_num s1]
  simp only [List.head?_cons, if_true]
  rw [b2, b1, itoa_num s2]
  simp only
  unfold rtail
  rw [rwrd_mk h1 s3 (fun _ => via_not Y rest) (head_not Y rest)]
  simp only
  rw [rwrd_mk h2 s4 (fun _ => rfl) (fun c hc => by cases hc; decide)]
  simp
theorem rline_inv {N : Nat} {r : Bs} {f : Fl} {rest : Bs} (h : rline N r = some (f, rest)) : r = lineT f ++ rest ∧ SmF f := by
  unfold rline at h
  cases hn : num (tw r) with
  | none => rw [hn] at h; cases h
  | some x =>
    rw [hn] at h
    simp only at h
    split at h
    · rename_i h62
      obtain ⟨p1, _⟩ := tw_split r
      have hx := num_itoa hn
      cases hd : r.drop (tw r).length with
      | nil => rw [hd] at h62; cases h62
      | cons c t =>
        rw [hd] at h62 p1
        cases h62
        have ht : r.drop ((tw r).length + 1) = t := by rw [← List.drop_drop, hd]; rfl
        rw [ht] at h
        cases hm : num (tw t) with
        | none => rw [hm] at h; cases h
        | some y =>
          rw [hm] at h
          simp only at h
          obtain ⟨q1, _⟩ := tw_split t
          have hy := num_itoa hm
          unfold rtail at h
          cases hv : rwrd wVia N (t.drop (tw t).length) with
          | none => rw [hv] at h; cases h
          | some o =>
            obtain ⟨X, r2⟩ := o
            rw [hv] at h
            simp only at h
            cases hw : rwrd wNot N r2 with
            | none => rw [hw] at h; cases h
            | some o2 =>
              obtain ⟨Y, r3⟩ := o2
              rw [hw] at h
              simp only at h
              split at h
              · rename_i h10
                cases h
                obtain ⟨v1, v2, _⟩ := rwrd_inv hv
                obtain ⟨w1, w2, _⟩ := rwrd_inv hw
                have hr3 : r3 = 10 :: r3.tail := by
                  cases r3 with
                  | nil => cases h10
                  | cons c t => cases h10; rfl
                refine ⟨?_, num_smN hn, num_smN hm, v2, w2⟩
                rw [p1, q1, v1, w1, hr3, ← hx, ← hy]
                simp [lineT, lineB]
              · cases h
    · cases h
theorem txtR_ge (L : List Int) : L.length ≤ (txtR L).length := by
  induction L with
  | nil => simp [txtR]
  | cons x r ih => simp only [txtR, List.flatMap_cons, List.length_append, List.length_cons] at ih ⊢; omega
theorem txtL_ge (word : Bs) (L : List Int) (hw : 1 ≤ word.length) : L.length ≤ (txtL word L).length := by
  cases L with
  | nil => simp [txtL]
  | cons x r =>
    have := txtR_ge r
    simp only [txtL, List.length_append, List.length_cons]
    omega
/-- the two readings of a line are one -/
theorem rline_pstep (r : Bs) (N : Nat) (hN : r.length ≤ N) : rline N r = pstep r := by
  cases hp : pstep r with
  | none =>
    cases hr : rline N r with
    | none => rfl
    | some o =>
      obtain ⟨f, rest⟩ := o
      obtain ⟨h1, h2⟩ := rline_inv hr
      rw [h1, pstep_line h2] at hp
      cases hp
  | some o =>
    obtain ⟨f, rest⟩ := o
    obtain ⟨h1, h2⟩ := pstep_text hp
    have k1 := txtL_ge wVia f.via (by decide)
    have k2 := txtL_ge wNot f.nt (by decide)
    have k3 := congrArg List.length h1
    simp only [lineT, lineB, List.length_append, List.length_cons, List.length_nil] at k3
    rw [h1]
    exact rline_mk h2 rest N (by omega) (by omega)

end Go.Proofs.YtbfgioinjggkkaaDoor
