/- The law RuleWalks answers true for every net, flows, number and tables that can be read, and leaves them as they were: rules lead along the path, and no farther, whatever other rules there are of other versions. -/
import Derived.Test.YtdiknngmepjncacV19
import Derived.Test.YtdiknngmepjncacV21
import Derived.Test.YtdiknngmepjncacP7
import Derived.Test.YtdiknngmepjncacT5
import Derived.Test.YtdiknngmepjncacOpnI
import Derived.Test.YtdiknngmepjncacH0
import Derived.Test.YtdiknngmepjncacH10
import Derived.Test.YtdiknngmepjncacV15
import Derived.Deep.RegionHeld3
/- The closed fact that every law of chapter 4 asks first: it stands. -/
namespace Go.Proofs.Ytdiknngmepjncac.Tb
open Go.RowKit Go.Maps Stw Go.Deep Rul Go.Sort

/-- One table of those that are made. -/
theorem TB.get {w : World} {H n : Nat} {vs : Nat → Value} {ts : Nat → List Ru} (h : TB w H n vs ts) {s : Nat} (hs : s < n) : ∃ ao cap, w.cell? ⟨H, s, none⟩ = some (.slice ao (ts s).length cap) ∧ SlOk w ao (ts s).length cap (ts s) ∧ w.frozen? ⟨H, s, none⟩ = false := by
  obtain ⟨ao, cap, hv, hat, hnil, _, _⟩ := (h.own s hs).form
  refine ⟨ao, cap, by rw [h.row.cell hs, hv], ⟨rfl, hat, fun e => ?_⟩, h.row.frozen s⟩
  obtain ⟨h1, h2⟩ := hnil e
  exact ⟨by rw [h1]; rfl, h2⟩

theorem of0 : rof 3 ((0 : Nat) : Int) [[0, 1, 2]] 1 = [(3, 0, 1)] := by decide +kernel
theorem of1 : rof 3 ((1 : Nat) : Int) [[0, 1, 2]] 1 = [(3, 0, 2)] := by decide +kernel
theorem of2 : rof 3 ((2 : Nat) : Int) [[0, 1, 2]] 1 = [] := by decide +kernel
theorem ad1 : add [(3, 0, 1)] [(2, 5, 7)] = ([(2, 5, 7), (3, 0, 1)], 0) := by decide +kernel
theorem nx1 : nxt 3 0 [(2, 5, 7), (3, 0, 1)] = (1, true) := by decide +kernel

set_option maxRecDepth 100000 in
set_option maxHeartbeats 1600000 in
theorem alive_any (w : World) : Calls Try.prog 23 #[] w fun e w' => e = .returned (.bool true) ∧ Ext w w' := by
  have hps : ∀ W : World, PsAt ((W.alloc (.cells #[.int .i64 0, .int .i64 1, .int .i64 2] 3)).alloc (.cells #[.slice (some ⟨W.heap.size, 0, none⟩) 3 3] 27)) (some ⟨W.heap.size + 1, 0, none⟩) [[0, 1, 2]] := fun W => by
    refine Or.inr ⟨_, 0, rfl, by simp, fun k hk => ?_⟩
    have hk0 : k = 0 := by simpa using hk
    subst hk0
    refine ⟨some ⟨W.heap.size, 0, none⟩, 3, by simp, Or.inr ⟨_, 0, rfl, by simp; omega, fun j hj => ?_⟩⟩
    have hj3 : j < 3 := hj
    match j, hj3 with
    | 0, _ | 1, _ | 2, _ => simp
  go_enter Try.func23, Try.ntmps23
  go_wp2_with fail
  refine (Of_any 3 none (some ⟨w.heap.size + 1, 0, none⟩) 0 0 1 1 3 [[0, 1, 2]] _ rfl (hps w) (by omega) (by decide) (by omega)).mono ?_
  rintro e w1 ⟨vs, rfl, htb, E1⟩
  obtain ⟨ao0, c0, h0, ok0, _⟩ := htb.get (s := 0) (by omega)
  obtain ⟨ao1, c1, h1, _, _⟩ := htb.get (s := 1) (by omega)
  obtain ⟨ao2, c2, h2, _, _⟩ := htb.get (s := 2) (by omega)
  have h0a : _ := h0
  rw [of0] at h0 ok0
  rw [of1] at h1
  rw [of2] at h2
  have hlt := htb.row.lt
  have E0 : Ext w w1 := (((Ext.refl w).alloc _).alloc _).trans E1
  clear htb E1
  obtain ⟨H, hH⟩ : ∃ H, H = ((w.alloc (.cells #[.int .i64 0, .int .i64 1, .int .i64 2] 3)).alloc (.cells #[.slice (some ⟨w.heap.size, 0, none⟩) 3 3] 27)).heap.size + 1 := ⟨_, rfl⟩
  rw [← hH] at h0 h1 h2 hlt ⊢
  clear hH
  go_wp2_with fail
  have okm : ∀ W : World, SlOk (W.alloc (.cells #[.int .i64 2, .int .i64 5, .int .i64 7] 54)) (some ⟨W.heap.size, 0, none⟩) 1 1 [(2, 5, 7)] := fun W =>
    ⟨rfl, Or.inr ⟨_, 0, rfl, by simp, fun k hk => by
      have hk0 : k = 0 := by simpa using hk
      subst hk0
      simp⟩, fun h => by cases h⟩
  refine (Add_any ao0 (some ⟨w1.heap.size, 0, none⟩) 1 c0 1 1 [(3, 0, 1)] [(2, 5, 7)] _ (ok0.ext ((Ext.refl _).alloc _)) (okm w1) (by omega) (by omega)).mono ?_
  rintro e w2 ⟨vo, vc, he, ok2, E2⟩
  rw [ad1] at he ok2
  have he' : e = .returned (.tuple #[.slice vo 2 vc, .int .i64 0]) := he
  subst he'
  clear he
  have ok3 : SlOk w2 vo 2 vc [(2, 5, 7), (3, 0, 1)] := ok2
  have E2' : Ext w1 w2 := ((Ext.refl w1).alloc _).trans E2
  clear ok2 ok0 okm E2
  go_wp2_with fail
  refine (Next_any vo 2 vc [(2, 5, 7), (3, 0, 1)] 3 0 _ rfl ok3.hat (by omega)).mono ?_
  rintro e w3 ⟨he, E3⟩
  rw [nx1] at he
  subst he
  have E3' := E2'.trans E3
  have g1 := (E3'.cells.1 _ _ hlt).trans h1
  have g2 := (E3'.cells.1 _ _ hlt).trans h2
  have hE : Ext w w3 := E0.trans E3'
  clear h0 h1 h2
  simp only [List.length_cons, List.length_nil] at g1 g2
  go_wp2
  go_ret
  exact ⟨rfl, hE⟩

end Go.Proofs.Ytdiknngmepjncac.Tb

/- What the law RuleDrop answers, for every row of rules and numbers: true; nothing that was there is changed. -/
namespace Go.Proofs.Ytdiknngmepjncac.Tb
open Go.RowKit Go.Maps Stw Go.Deep Rul Go.Sort

theorem fldF (a b : Int) (w : World) : (Instr.field 46 (.agg #[.int .i64 a, .int .i64 b]) 0).run Try.prog w = .ok (.int .i64 a) w := by kernel_rfl

set_option maxRecDepth 100000 in
set_option maxHeartbeats 800000 in
theorem ruleDrop_any (ao : Option Addr) (len cap : Nat) (rs : List Ru) (v u f : Int) (w : World) (hok : SlOk w ao len cap rs) (hl : len * 24 ≤ 140737488351232) :
    Calls Try.prog 6 #[.slice ao len cap, .int .i64 v, .int .i64 u, .int .i64 f] w fun e w' => e = .returned (.bool true) ∧ Ext w w' := by
  have hfd := fldF
  go_enter Try.func6, Try.ntmps6
  go_wp2_with fail
  refine (alive_any _).mono ?_
  rintro e w1 ⟨rfl, E1⟩
  go_wp2_with fail
  refine (Wrong_any ao len cap rs _ hok.hlen (hok.hat.ext E1) (by omega)).mono ?_
  rintro e w2 ⟨he, E2⟩
  obtain ⟨x, hx⟩ : ∃ x, x = (Rul.wrong rs).1 := ⟨_, rfl⟩
  obtain ⟨xat, rfl⟩ : ∃ xat, e = .returned (.agg #[.int .i64 x, .int .i64 xat]) := ⟨_, by rw [hx]; exact he⟩
  clear he
  have hE2 := E1.trans E2
  by_cases h0 : x = 0
  · have ht : tab rs := by unfold tab; rw [← hx, h0]
    have HT : Hid (tab rs) := ht
    have hl16 := (tab_iff.1 ht).1
    have hlen := hok.hlen
    clear ht hx
    subst h0
    go_wp2_with fail
    refine (Drop_any ao len cap rs v _ hok.hlen (hok.hat.ext hE2) hl).mono ?_
    rintro e w3 ⟨v3, rfl, ho3, E3⟩
    obtain ⟨mo, mc, rfl, hat3, hnil3, _, _⟩ := ho3.form
    have hml : (drp rs v).length ≤ len := by have := drp_le rs v; omega
    have hE3 := hE2.trans E3
    clear ho3
    obtain ⟨m, hm⟩ : ∃ m, m = drp rs v := ⟨_, rfl⟩
    rw [← hm] at hat3 hml ⊢
    have HM : Hid (m = drp rs v) := hm
    clear hm hnil3
    go_wp2_with fail
    refine (Next_any ao len cap rs u f _ hok.hlen (hok.hat.ext hE3) (by omega)).mono ?_
    rintro e w4 ⟨he4, E4⟩
    obtain ⟨a, x, hax, rfl⟩ : ∃ a x, nxt u f rs = (a, x) ∧ e = .returned (.tuple #[.int .i64 a, .bool x]) := ⟨_, _, rfl, he4⟩
    clear he4
    go_wp2_with fail
    refine (Next_any mo m.length mc m u f _ rfl (hat3.ext E4) (by omega)).mono ?_
    rintro e w5 ⟨he5, E5⟩
    obtain ⟨b, y, hby, rfl⟩ : ∃ a x, nxt u f m = (a, x) ∧ e = .returned (.tuple #[.int .i64 a, .bool x]) := ⟨_, _, rfl, he5⟩
    clear he5
    go_wp2_with fail
    refine (Wrong_any mo m.length mc m _ rfl (hat3.ext (E4.trans E5)) (by omega)).mono ?_
    rintro e w6 ⟨he6, E6⟩
    have hwm : Rul.wrong m = (0, 0) := by rw [HM.out]; exact tab_wrong (drp_tab HT.out)
    rw [hwm] at he6
    subst he6
    have hE6 := ((hE3.trans E4).trans E5).trans E6
    clear hwm E1 E2 E3 E4 E5 E6 hat3
    by_cases huv : u = v
    · have hy : y = false := by
        have := drp_gone (l := rs) (v := v) (f := f)
        rw [← HM.out, ← huv, hby] at this
        exact (Prod.ext_iff.1 this).2
      subst huv
      subst hy
      clear hby hax
      go_wp2
      go_ret
      exact ⟨rfl, hE6⟩
    · have he : (a, x) = (b, y) := by rw [← hax, ← hby, HM.out]; exact (drp_other HT.out huv).symm
      have huv' : (u == v) = false := by simpa using huv
      cases he
      clear hax hby huv
      go_wp2
      go_ret
      exact ⟨by simp, hE6⟩
  · have h0' : (x != 0) = true := by simpa using h0
    clear hx h0
    go_wp2
    go_ret
    exact ⟨rfl, hE2⟩

end Go.Proofs.Ytdiknngmepjncac.Tb

/- A plan's rules in words: how many, in which order, and where they lead. -/
namespace Go.Proofs.Ytdiknngmepjncac.Tb
open Go.RowKit Go.Maps Stw Go.Deep Rul Go.Sort

theorem nd_get {l : List Int} (h : l.Nodup) {i j : Nat} (hi : i < l.length) (hj : j < l.length) (e : l.getD i 0 = l.getD j 0) : i = j := by
  have hi' : l.getD i 0 = l[i] := by simp [List.getD_eq_getElem?_getD, hi]
  have hj' : l.getD j 0 = l[j] := by simp [List.getD_eq_getElem?_getD, hj]
  rw [hi', hj'] at e
  have hp := List.pairwise_iff_getElem.1 h
  rcases Nat.lt_trichotomy i j with hlt | heq | hlt
  · exact absurd e (hp i j hi hj hlt)
  · exact heq
  · exact absurd e.symm (hp j i hj hi hlt)
theorem get_mem {l : List Int} {i : Nat} (hi : i < l.length) : l.getD i 0 ∈ l := by
  have hi' : l.getD i 0 = l[i] := by simp [List.getD_eq_getElem?_getD, hi]
  rw [hi']; exact List.getElem_mem hi

theorem mem_stk {v f s : Int} {path : List Int} {r : Ru} : ∀ {K : Nat}, r ∈ stk v f s path K ↔ ∃ k, k < K ∧ path.getD k 0 = s ∧ k + 1 < path.length ∧ r = (v, f, path.getD (k + 1) 0)
  | 0 => by simp [stk]
  | K + 1 => by
    rw [stk, List.mem_append, mem_stk (K := K)]
    constructor
    · rintro (⟨k, h1, h2⟩ | h)
      · exact ⟨k, by omega, h2⟩
      · split at h
        · rename_i hc
          exact ⟨K, by omega, hc.1, hc.2, by simpa using h⟩
        · simp at h
    · rintro ⟨k, h1, h2, h3, h4⟩
      by_cases e : k < K
      · exact Or.inl ⟨k, e, h2, h3, h4⟩
      · have : k = K := by omega
        subst this
        exact Or.inr (by rw [if_pos ⟨h2, h3⟩]; simp [h4])
theorem mem_rof {v s : Int} {ps : List (List Int)} {r : Ru} : ∀ {K : Nat}, r ∈ rof v s ps K ↔ ∃ i : Nat, i < K ∧ ∃ k, k + 1 < (ps.getD i []).length ∧ (ps.getD i []).getD k 0 = s ∧ r = (v, (i : Int), (ps.getD i []).getD (k + 1) 0)
  | 0 => by simp [rof]
  | K + 1 => by
    rw [rof, List.mem_append, mem_rof (K := K), mem_stk]
    constructor
    · rintro (⟨i, h1, h2⟩ | ⟨k, h1, h2, h3, h4⟩)
      · exact ⟨i, by omega, h2⟩
      · exact ⟨K, by omega, k, h3, h2, h4⟩
    · rintro ⟨i, h1, k, h2, h3, h4⟩
      by_cases e : i < K
      · exact Or.inl ⟨i, e, k, h2, h3, h4⟩
      · have : i = K := by omega
        subst this
        exact Or.inr ⟨k, by omega, h3, h2, h4⟩

/-- Paths of a net of so many switches. -/
def GP (n : Nat) (ps : List (List Int)) : Prop := ∀ i, i < ps.length → ps.getD i [] ≠ [] ∧ (ps.getD i []).Nodup ∧ ∀ x ∈ ps.getD i [], 0 ≤ x ∧ x < (n : Int)

theorem stk_one {v f s : Int} {path : List Int} (hn : path.Nodup) : ∀ K, stk v f s path K = [] ∨ ∃ y, stk v f s path K = [(v, f, y)]
  | 0 => Or.inl rfl
  | K + 1 => by
    rw [stk]
    by_cases hc : path.getD K 0 = s ∧ K + 1 < path.length
    · have h0 : stk v f s path K = [] := by
        refine List.eq_nil_iff_forall_not_mem.2 fun r hr => ?_
        obtain ⟨k, h1, h2, h3, _⟩ := mem_stk.1 hr
        have := nd_get hn (i := k) (j := K) (by omega) (by omega) (h2.trans hc.1.symm)
        omega
      rw [h0, if_pos hc]
      exact Or.inr ⟨_, rfl⟩
    · rw [if_neg hc, List.append_nil]
      exact stk_one hn K
theorem rof_ris {n : Nat} {v s : Int} {ps : List (List Int)} (hg : GP n ps) : ∀ K, K ≤ ps.length → Ris (rof v s ps K)
  | 0, _ => List.Pairwise.nil
  | K + 1, hK => by
    rw [rof]
    refine List.pairwise_append.2 ⟨rof_ris hg K (by omega), ?_, fun a ha b hb => ?_⟩
    · rcases stk_one (v := v) (f := K) (s := s) (hg K (by omega)).2.1 (ps.getD K []).length with h | ⟨y, h⟩
      · rw [h]; exact List.Pairwise.nil
      · rw [h]; simp
    · obtain ⟨i, h1, k, _, _, rfl⟩ := mem_rof.1 ha
      obtain ⟨k', _, _, _, rfl⟩ := mem_stk.1 hb
      rw [lt_true]
      exact Or.inr ⟨rfl, by simp only; omega⟩
theorem rof_short {n : Nat} {v s : Int} {ps : List (List Int)} (hg : GP n ps) : ∀ K, K ≤ ps.length → (rof v s ps K).length ≤ K
  | 0, _ => Nat.le_refl _
  | K + 1, hK => by
    have h1 := rof_short (v := v) (s := s) hg K (by omega)
    rw [rof, List.length_append]
    rcases stk_one (v := v) (f := K) (s := s) (hg K (by omega)).2.1 (ps.getD K []).length with h | ⟨y, h⟩ <;> rw [h] <;> simp <;> omega
theorem rof_tab {n : Nat} {v s : Int} {ps : List (List Int)} (hg : GP n ps) (hn : n ≤ 8) (hp : ps.length ≤ 12) (hv1 : 1 ≤ v) (hv2 : v ≤ 1000) : tab (rof v s ps ps.length) := by
  refine tab_iff.2 ⟨by have := rof_short (v := v) (s := s) hg ps.length (Nat.le_refl _); omega, fun r hr => ?_, rof_ris hg _ (Nat.le_refl _)⟩
  obtain ⟨i, h1, k, h2, _, rfl⟩ := mem_rof.1 hr
  have := (hg i h1).2.2 _ (get_mem (i := k + 1) h2)
  simp only [inR, decide_eq_true_eq]
  omega
/-- From a switch of a path its rule leads to the next one; from its end none does. -/
theorem nxt_path {n : Nat} {v : Int} {ps : List (List Int)} (hg : GP n ps) {i k : Nat} (hi : i < ps.length) (hk : k < (ps.getD i []).length) :
    nxt v i (rof v ((ps.getD i []).getD k 0) ps ps.length) = if k + 1 < (ps.getD i []).length then ((ps.getD i []).getD (k + 1) 0, true) else (0, false) := by
  have hu := (rof_ris (v := v) (s := (ps.getD i []).getD k 0) hg _ (Nat.le_refl _)).uniq
  by_cases hl : k + 1 < (ps.getD i []).length
  · rw [if_pos hl]
    exact nxt_of hu (mem_rof.2 ⟨i, hi, k, hl, rfl, rfl⟩)
  · rw [if_neg hl]
    cases e : (nxt v i (rof v ((ps.getD i []).getD k 0) ps ps.length)).2 with
    | false => exact (nxt_none e).1
    | true =>
      exfalso
      obtain ⟨i', h1, k', h2, h3, h4⟩ := mem_rof.1 (nxt_mem e)
      have hii : i' = i := by
        have := (Prod.ext_iff.1 (Prod.ext_iff.1 h4).2).1
        simp only at this
        omega
      subst hii
      have := nd_get (hg i' hi).2.1 (i := k') (j := k) (by omega) hk h3
      omega

/-! ### how many -/
def sumS (ts : Nat → List Ru) : Nat → Nat
  | 0 => 0
  | s + 1 => sumS ts s + (ts s).length
theorem sumS_append (a b : Nat → List Ru) : ∀ n, sumS (fun s => a s ++ b s) n = sumS a n + sumS b n
  | 0 => rfl
  | n + 1 => by simp only [sumS, sumS_append a b n, List.length_append]; omega
theorem sumS_ind {x : Ru} {c : Nat → Prop} [∀ s, Decidable (c s)] : ∀ n, (∀ s, c s → ¬ s < n) → sumS (fun s => if c s then [x] else []) n = 0
  | 0, _ => rfl
  | n + 1, h => by
    rw [sumS, sumS_ind n (fun s hs => by have := h s hs; omega), if_neg (fun hc => h n hc (by omega))]; rfl
theorem sumS_at {x : Ru} (t : Nat) : ∀ n, t < n → sumS (fun s => if s = t then [x] else []) n = 1
  | 0, h => by omega
  | n + 1, h => by
    rw [sumS]
    by_cases e : n = t
    · subst e
      rw [sumS_ind n (fun s hs => by omega)]; simp
    · rw [sumS_at t n (by omega), if_neg e]; rfl
theorem sumS_congr {a b : Nat → List Ru} : ∀ n, (∀ s, s < n → a s = b s) → sumS a n = sumS b n
  | 0, _ => rfl
  | n + 1, h => by rw [sumS, sumS, sumS_congr n (fun s hs => h s (by omega)), h n (by omega)]
theorem sum_stk {n : Nat} {v f : Int} {path : List Int} (hr : ∀ x ∈ path, 0 ≤ x ∧ x < (n : Int)) : ∀ K, K + 1 ≤ path.length → sumS (fun s => stk v f s path K) n = K
  | 0, _ => by
    have : ∀ m, sumS (fun s => stk v f (s : Int) path 0) m = 0 := fun m => by
      induction m with
      | zero => rfl
      | succ m ih => rw [sumS, ih]; rfl
    exact this n
  | K + 1, hK => by
    have h1 := sum_stk hr (v := v) (f := f) K (by omega)
    have hx := hr _ (get_mem (i := K) (by omega))
    have h2 := sumS_append (fun s => stk v f (s : Int) path K) (fun s => if s = (path.getD K 0).toNat then [(v, f, path.getD (K + 1) 0)] else []) n
    rw [h1, sumS_at _ n (by omega)] at h2
    refine Eq.trans ?_ h2
    refine sumS_congr n (fun s _ => ?_)
    show stk v f s path (K + 1) = stk v f s path K ++ _
    rw [stk]
    congr 1
    by_cases e : s = (path.getD K 0).toNat
    · rw [if_pos e, if_pos ⟨by omega, by omega⟩]
    · rw [if_neg e, if_neg (fun h => e (by omega))]
def stp (ps : List (List Int)) : Nat → Nat
  | 0 => 0
  | k + 1 => stp ps k + ((ps.getD k []).length - 1)
theorem sum_rof {n : Nat} {v : Int} {ps : List (List Int)} (hg : GP n ps) : ∀ K, K ≤ ps.length → sumS (fun s => rof v s ps K) n = stp ps K
  | 0, _ => by
    have : ∀ m, sumS (fun s => rof v (s : Int) ps 0) m = 0 := fun m => by
      induction m with
      | zero => rfl
      | succ m ih => rw [sumS, ih]; rfl
    exact this n
  | K + 1, hK => by
    obtain ⟨hne, _, hr⟩ := hg K (by omega)
    have h2 := sumS_append (fun s => rof v (s : Int) ps K) (fun s => stk v K (s : Int) (ps.getD K []) (ps.getD K []).length) n
    have hl : 0 < (ps.getD K []).length := List.length_pos_iff.2 hne
    obtain ⟨L, hL⟩ : ∃ L, (ps.getD K []).length = L + 1 := ⟨(ps.getD K []).length - 1, by omega⟩
    have h3 := sum_stk (v := v) (f := K) hr L (by omega)
    have h4 : sumS (fun s => stk v K (s : Int) (ps.getD K []) (ps.getD K []).length) n = L := by
      rw [← h3]
      refine sumS_congr n (fun s _ => ?_)
      rw [hL, stk_last (by omega)]
    rw [stp, ← sum_rof hg K (by omega) (v := v), show (ps.getD K []).length - 1 = L by omega, ← h4]
    exact h2

end Go.Proofs.Ytdiknngmepjncac.Tb

/- What Find tells, in plain words. -/
namespace Go.Proofs.Ytdiknngmepjncac
open Go.RowKit Go.Maps Stw Go.Deep Stp

theorem scan_ne {f : Nat → Int} {c : Int} (hc : c ≠ 0) (h : ∀ i, f i ≠ c) : ∀ (m k : Nat), (scan f m k).1 ≠ c
  | 0, _ => by simp only [scan]; exact fun e => hc e.symm
  | m + 1, k => by
    unfold scan
    split
    · exact scan_ne hc h m (k + 1)
    · exact h k
theorem wlink_ne {n a b c : Int} : wlink n a b c ≠ 9 := by
  unfold wlink
  repeat' split
  all_goals omega
theorem ewl_ne {n : Int} {ls : List Lk} {k : Nat} : ewl n ls k ≠ 9 := by
  unfold ewl
  split
  · split <;> omega
  · exact wlink_ne
theorem wrong_ne {n : Int} {ls : List Lk} : (wrong n ls).1 ≠ 9 := by
  unfold wrong
  split
  · simp
  · exact scan_ne (by omega) (fun i => ewl_ne) _ _
theorem wlist_ne {a b n : Int} {L : List Int} : Stf.wlist a b n L ≠ 9 := by
  unfold Stf.wlist
  split
  · unfold Stf.ewl
    repeat' split
    all_goals omega
  · omega
theorem wflow_ne {f : Stf.Fl} {n : Int} : Stf.wflow f n ≠ 9 := by
  unfold Stf.wflow
  repeat' split
  all_goals first | omega | exact wlist_ne

/-- What Find tells. -/
theorem fnd_cases {n : Int} {ls : List Lk} {f : Stf.Fl} : ((fnd n ls f).1 ≠ 0 ∧ (fnd n ls f).1 ≠ 9 ∧ (fnd n ls f).2 = []) ∨ ((fnd n ls f).1 = 9 ∧ (fnd n ls f).2 = [] ∧ Right n ls ∧ RightF n f ∧ ∀ q, ¬ Srv (cost ls) f.fr f.to f.via f.nt q) ∨
    ((fnd n ls f).1 = 0 ∧ Right n ls ∧ RightF n f ∧ IsBest (cost ls) f.fr f.to f.via f.nt (fnd n ls f).2 (pc (cost ls) (fnd n ls f).2)) := by
  unfold fnd
  by_cases hw : (wrong n ls).1 = 0
  · have hr := right_of hw
    have hb := hr.bounds
    rw [if_neg (by simp [hw])]
    by_cases hf : Stf.wflow f n = 0
    · rw [if_neg (by simp [hf])]
      have hF := rightF_of hf
      have hC : ∀ x y, 0 ≤ cost ls x y := fun x y => (hr.cost x y).1
      have hfr : 0 ≤ f.fr ∧ f.fr < 8 := by have := hF.fr; omega
      have hnf : ¬ f.fr ∈ f.nt := fun h => (hF.nt _ h).2.2.1 rfl
      cases hfi : find (cost ls) f.fr f.to f.via f.nt with
      | none => exact Or.inr (Or.inl ⟨rfl, rfl, hr, hF, find_none hC hfr hnf hfi⟩)
      | some y =>
        obtain ⟨p, c⟩ := y
        have hbest := find_some hC hfr hnf hfi
        refine Or.inr (Or.inr ⟨rfl, hr, hF, ?_⟩)
        have := hbest.2.1
        rw [← this]
        exact hbest
    · rw [if_pos hf]
      exact Or.inl ⟨hf, wflow_ne, rfl⟩
  · rw [if_pos hw]
    exact Or.inl ⟨hw, wrong_ne, rfl⟩

end Go.Proofs.Ytdiknngmepjncac

/- What the law RuleCount answers, for every net, flows and number: true; nothing that was there is changed. -/
namespace Go.Proofs.Ytdiknngmepjncac.Tb
open Go.RowKit Go.Maps Stw Go.Deep Rul Go.Sort Stp

theorem PthsAt.ps {w : World} {qo : Option Addr} {ps : List (List Int)} (h : PthsAt w qo ps) : PsAt w qo ps := by
  rcases h with h | ⟨g, off, h1, h2, h3⟩
  · exact Or.inl h
  · refine Or.inr ⟨g, off, h1, h2, fun k hk => ?_⟩
    obtain ⟨v, k1, k2⟩ := h3 k hk
    obtain ⟨o, c, rfl, k3, _⟩ := k2
    exact ⟨o, c, k1, k3⟩

theorem fb_none {e : Nat → Int} {len : Nat} (h : Stf.firstBad e len = none) : ∀ k, k < len → e k = 0 := fun k hk => by
  rw [Stf.firstBad, List.find?_eq_none] at h
  simpa using h k (List.mem_range.2 hk)
theorem fb_some {e : Nat → Int} {len k : Nat} (h : Stf.firstBad e len = some k) : e k ≠ 0 := by
  rw [Stf.firstBad] at h
  simpa using List.find?_some h
/-- What a plan that is made is like. -/
structure GoodPlan (n version : Int) (ls : List Lk) (fs : List Stf.Fl) : Prop where
  n0 : 0 ≤ n
  n8 : n ≤ 8
  v1 : 1 ≤ version
  v2 : version ≤ 1000
  len : (plnP n ls fs).length = fs.length
  few : fs.length ≤ 12
  gp : GP n.toNat (plnP n ls fs)
  short : ∀ i, ((plnP n ls fs).getD i []).length ≤ 8
  head : ∀ i, i < fs.length → ((plnP n ls fs).getD i []).getD 0 0 = (fs.getD i Fw.f0).fr
theorem plan_good {n version : Int} {ls : List Lk} {fs : List Stf.Fl} (h : (plnF n version ls fs).1 = 0) : GoodPlan n version ls fs := by
  have hw : (Stw.wrong n ls).1 = 0 := by
    by_cases e : (Stw.wrong n ls).1 = 0
    · exact e
    · rw [plnF_wrong e] at h; exact absurd h e
  have hr := right_of hw
  have hv : ¬ (version < 1 ∨ 1000 < version) := fun e => by rw [plnF_range hw e] at h; simp at h
  have hf : (Stf.wflows fs n).1 = 0 := by
    by_cases e : (Stf.wflows fs n).1 = 0
    · exact e
    · rw [plnF_flows hw hv e] at h; exact absurd h e
  have hall : ∀ k, k < fs.length → (fnd n ls (fs.getD k Fw.f0)).1 = 0 := by
    intro k hk
    unfold plnF at h
    rw [if_neg (by simp [hw]), if_neg hv, if_neg (by simp [hf])] at h
    cases e : Stf.firstBad (fun k => (fnd n ls (fs.getD k Fw.f0)).1) fs.length with
    | none => exact fb_none e k hk
    | some j =>
      rw [e] at h
      exact absurd h (fb_some (e := fun k => (fnd n ls (fs.getD k Fw.f0)).1) e)
  have hb := hr.bounds
  have hget : ∀ i, i < fs.length → (plnP n ls fs).getD i [] = (fnd n ls (fs.getD i Fw.f0)).2 := fun i hi => by
    simp [plnP, List.getD_eq_getElem?_getD, hi]
  have hbest : ∀ i, i < fs.length → pathB n ls ((plnP n ls fs).getD i []) = true ∧ Pth (cost ls) (fs.getD i Fw.f0).fr (fs.getD i Fw.f0).to ((plnP n ls fs).getD i []) := fun i hi => by
    rw [hget i hi]
    rcases fnd_cases (n := n) (ls := ls) (f := fs.getD i Fw.f0) with h1 | h1 | ⟨_, hr', hF, hbst⟩
    · exact absurd (hall i hi) h1.1
    · have := hall i hi; omega
    · exact ⟨hbst.1.toPth.path hr' hF.fr, hbst.1.toPth⟩
  have hlen : (plnP n ls fs).length = fs.length := by simp [plnP]
  refine ⟨by omega, by omega, by omega, by omega, hlen, wflows_len hf, fun i hi => ?_, fun i => ?_, fun i hi => ?_⟩
  · obtain ⟨hp, _⟩ := hbest i (by omega)
    obtain ⟨p1, p2, p3, _⟩ := (pathB_iff hr).1 hp
    exact ⟨p1, p3, fun x hx => by have := p2 x hx; omega⟩
  · by_cases hi : i < fs.length
    · exact pth_len (hbest i hi).2
    · have : (plnP n ls fs).getD i [] = [] := by simp [List.getD_eq_getElem?_getD, List.getElem?_eq_none (show (plnP n ls fs).length ≤ i by omega)]
      rw [this]; simp
  · obtain ⟨r, hr1⟩ := (hbest i hi).2.head
    rw [hr1]; rfl
theorem tot_le {ps : List (List Int)} (h : ∀ i, (ps.getD i []).length ≤ 8) : ∀ K, tot ps K ≤ 8 * K
  | 0 => Nat.le_refl _
  | K + 1 => by have := tot_le h K; have := h K; rw [tot]; omega

end Go.Proofs.Ytdiknngmepjncac.Tb

/- How a flow that came in is read. -/
namespace Go.Proofs.Ytdiknngmepjncac
open Go.ChangeShapes Go.WideShapes Go.ChangeAt Go.RowKit Go.Deep Go.Joins Stw

theorem Try.cells28 : Try.prog.cellsOf 32 = 4 := by kernel_rfl

section
variable {H : Type} {enc : TypeId × Value → H} {W : World}

set_option maxRecDepth 100000 in
/-- A flow that came in. -/
theorem open_flow {b0 : Nat} {v : Value} {d : DataW H} {p : List MemPlace} (hv : Value.okWide Try.prog W .any b0 32 v) (h : DataW.Trod enc Try.prog W 0 (fun _ => true) true 32 v d p)
    (hw : ∀ m ∈ d.weights Try.prog 32, m ≤ reachBytes) :
    ∃ (f : Stf.Fl) (vo no : Option Addr) (vc nc : Nat), v = .agg #[.int .i64 f.fr, .int .i64 f.to, .slice vo f.via.length vc, .slice no f.nt.length nc] ∧ ListAt W vo f.via ∧ ListAt W no f.nt ∧ f.via.length * 8 ≤ 140737488351232 ∧ f.nt.length * 8 ≤ 140737488351232 ∧ f.via.length ≤ vc ∧ f.nt.length ≤ nc ∧ (∀ y ∈ f.via, I64 y) ∧ (∀ y ∈ f.nt, I64 y) := by
  obtain ⟨c0, c1, c2, c3, y0, y1, y2, y3, m, rfl, rfl, rfl, h0, h1, h2, h3⟩ := open_agg4 Try.underlying32 (by kernel_rfl) Try.cells28 hv h
  obtain ⟨a0, e0, _, w0⟩ := DataW.trod_int Try.underlying3 h0
  obtain ⟨a1, e1, _, w1⟩ := DataW.trod_int Try.underlying3 h1
  obtain ⟨vo, vl, vc, X, e2, hX, hvl, hvi, hvb, hvc, _⟩ := open_list Try.underlying26 h2 (fun m hm => hw m (by simp [DataW.weights, DataW.weightsEach, Try.underlying32]; exact Or.inr (Or.inr (Or.inl hm))))
  obtain ⟨no, nl, nc, Y, e3, hY, hnl, hni, hnb, hnc, _⟩ := open_list Try.underlying26 h3 (fun m hm => hw m (by simp [DataW.weights, DataW.weightsEach, Try.underlying32]; exact Or.inr (Or.inr (Or.inr hm))))
  simp at e0 e1 e2 e3
  subst e0 e1 e2 e3 hX hY
  exact ⟨⟨a0, a1, X, Y⟩, vo, no, vc, nc, rfl, hvl, hnl, hvb, hnb, hvc, hnc, hvi, hni⟩

end

end Go.Proofs.Ytdiknngmepjncac

/- How flows that came in are read. -/
namespace Go.Proofs.Ytdiknngmepjncac
open Go.ChangeShapes Go.WideShapes Go.ChangeAt Go.RowKit Go.Deep Go.Joins Stw

theorem Try.cells26 : Try.prog.cellsOf 26 = 1 := by kernel_rfl
theorem Try.bytes28 : Try.prog.bytesOf 32 = 64 := by kernel_rfl

section
variable {H : Type} {enc : TypeId × Value → H} {W : World}

theorem weights_all {e : TypeId} {d : DataW H} : ∀ {l : List (DataW H)}, d ∈ l → ∀ m ∈ d.weights Try.prog e, m ∈ DataW.weightsAll Try.prog e l
  | [], h, _, _ => by cases h
  | x :: r, h, m, hm => by
    rw [DataW.weightsAll, List.mem_append]
    rcases List.mem_cons.1 h with rfl | h
    · exact Or.inl hm
    · exact Or.inr (weights_all h m hm)

theorem cells4_inv {w : World} {a : Addr} {cs : List Value} {x y z u : Value} (h : w.cells? 0 a 4 = some cs) (e : cs = [x, y, z, u]) : w.cell? a = some x ∧ w.cell? (a.add 1) = some y ∧ w.cell? (a.add 2) = some z ∧ w.cell? (a.add 3) = some u := by
  obtain ⟨_, _, hc⟩ := World.cells?_some h
  subst e
  exact ⟨by simpa [Addr.add] using hc 0 (by omega), hc 1 (by omega), hc 2 (by omega), hc 3 (by omega)⟩
theorem four_of {cs : List Value} (h : cs.length = 4) : ∃ c0 c1 c2 c3, cs = [c0, c1, c2, c3] := by
  match cs, h with
  | [c0, c1, c2, c3], _ => exact ⟨c0, c1, c2, c3, rfl⟩

set_option maxRecDepth 100000 in
theorem open_flow4 {fuel : Nat} {cs : List Value} {x : DataW H × List MemPlace} (h : DataW.trod enc Try.prog W 0 (fun _ => true) true fuel 32 cs = some x) (hw : ∀ m ∈ x.1.weights Try.prog 32, m ≤ reachBytes) :
    ∃ (f : Stf.Fl) (v n : Value), cs = [.int .i64 f.fr, .int .i64 f.to, v, n] ∧ Fw.FV W f.via v ∧ Fw.FV W f.nt n ∧ f.via.length ≤ 4611686018427387904 ∧ f.nt.length ≤ 4611686018427387904 := by
  obtain ⟨y0, y1, y2, y3, n', rfl, hlen, t0, t1, t2, t3⟩ := trod_struct4 Try.underlying32 h
  rw [Try.cells28] at hlen
  obtain ⟨c0, c1, c2, c3, rfl⟩ : ∃ c0 c1 c2 c3, cs = [c0, c1, c2, c3] := four_of hlen
  obtain ⟨a0, e0, _, w0⟩ := DataW.trod_int Try.underlying3 t0
  obtain ⟨a1, e1, _, w1⟩ := DataW.trod_int Try.underlying3 t1
  obtain ⟨vo, vl, vc, X, e2, hX, hvl, hvi, hvb, hvc, _⟩ := open_list Try.underlying26 t2 (fun m hm => hw m (by simp [DataW.weights, DataW.weightsEach, Try.underlying32]; exact Or.inr (Or.inr (Or.inl hm))))
  obtain ⟨no, nl, nc, Y, e3, hY, hnl, hni, hnb, hnc, _⟩ := open_list Try.underlying26 t3 (fun m hm => hw m (by simp [DataW.weights, DataW.weightsEach, Try.underlying32]; exact Or.inr (Or.inr (Or.inr hm))))
  simp [Try.cells3, Try.cells26] at e0 e1 e2 e3
  subst e0 e1 e2 e3 hX hY
  exact ⟨⟨a0, a1, X, Y⟩, _, _, rfl, ⟨vo, vc, rfl, hvl, hvc⟩, ⟨no, nc, rfl, hnl, hnc⟩, by simp only; omega, by simp only; omega⟩

set_option maxRecDepth 100000 in
theorem open_flows {fuel : Nat} {cs : List Value} {x : DataW H × List MemPlace} (h : DataW.trod enc Try.prog W 0 (fun _ => true) true fuel 36 cs = some x) (hw : ∀ m ∈ x.1.weights Try.prog 36, m ≤ reachBytes) :
    ∃ (ao : Option Addr) (len cap : Nat) (fs : List Stf.Fl), cs = [.slice ao len cap] ∧ fs.length = len ∧ Fw.FlowsAt W ao fs ∧ len ≤ 9223372036854775807 ∧ Fw.Sm fs := by
  rcases open_slice Try.underlying36 h with ⟨hcs, _⟩ | ⟨a, len, cap, m, n, D, Pl, hcs, _, hl, hm, hmm, hx, hel⟩
  · exact ⟨none, 0, 0, [], hcs, rfl, Or.inl rfl, by omega, fun k hk => by simp at hk⟩
  · have hmc : m = cap := by simpa using hmm
    have hwD : ∀ i, i < len → ∀ m ∈ (D i).weights Try.prog 32, m ≤ reachBytes := fun i hi m hm => hw m (by
      rw [hx]
      simp only [DataW.weights, Try.underlying36]
      refine List.mem_cons_of_mem _ (List.mem_append_left _ (weights_all (List.mem_map.2 ⟨i, by simpa using hi, rfl⟩) m hm)))
    have hfam : ∀ i, i < len → ∃ q : (Int × Int × List Int × List Int) × Value × Value, (W.cell? (a.add (i * 4)) = some (.int .i64 q.1.1) ∧ W.cell? ((a.add (i * 4)).add 1) = some (.int .i64 q.1.2.1) ∧ W.cell? ((a.add (i * 4)).add 2) = some q.2.1 ∧ W.cell? ((a.add (i * 4)).add 3) = some q.2.2) ∧
        Fw.FV W q.1.2.2.1 q.2.1 ∧ Fw.FV W q.1.2.2.2 q.2.2 ∧ q.1.2.2.1.length ≤ 4611686018427387904 ∧ q.1.2.2.2.length ≤ 4611686018427387904 := by
      intro i hi
      obtain ⟨cs', hcell, htr⟩ := hel i (by omega)
      rw [Try.cells28] at hcell
      obtain ⟨f, v, nv, hc, h1, h2, h3, h4⟩ := open_flow4 htr (hwD i hi)
      exact ⟨((f.fr, f.to, f.via, f.nt), v, nv), cells4_inv hcell hc, h1, h2, h3, h4⟩
    have : Inhabited ((Int × Int × List Int × List Int) × Value × Value) := ⟨((0, 0, [], []), .int .i64 0, .int .i64 0)⟩
    obtain ⟨F, hF⟩ := choose_lt hfam
    have hget : ∀ k (h : k < ((List.range len).map (fun i => (⟨(F i).1.1, (F i).1.2.1, (F i).1.2.2.1, (F i).1.2.2.2⟩ : Stf.Fl))).length), ((List.range len).map (fun i => (⟨(F i).1.1, (F i).1.2.1, (F i).1.2.2.1, (F i).1.2.2.2⟩ : Stf.Fl)))[k] = ⟨(F k).1.1, (F k).1.2.1, (F k).1.2.2.1, (F k).1.2.2.2⟩ := fun k h => by simp
    refine ⟨some a, len, cap, (List.range len).map (fun i => ⟨(F i).1.1, (F i).1.2.1, (F i).1.2.2.1, (F i).1.2.2.2⟩), hcs, by simp, ?_, by unfold maxLen at hm; omega, fun k hk => ?_⟩
    · by_cases h0 : len = 0
      · exact Or.inl (by simp [h0])
      · obtain ⟨b, off, spot⟩ := a
        have hc := (hF 0 (by omega)).1.1
        have hspot : spot = none := by simpa [Addr.add] using World.cell?_spot hc
        subst hspot
        refine Or.inr ⟨b, off, rfl, by have := cell_lt hc; simpa [Addr.add] using this, fun k hk => ?_⟩
        have hk' : k < len := by simpa using hk
        obtain ⟨⟨g0, g1, g2, g3⟩, hv, hn, _⟩ := hF k hk'
        have e0 : (⟨b, off, none⟩ : Addr).add (k * 4) = ⟨b, off + k * 4, none⟩ := by
          unfold Addr.add
          split
          · simp_all
          · rfl
        rw [e0] at g0 g1 g2 g3
        rw [hget k hk]
        exact ⟨_, _, g0, by simpa [Addr.add] using g1, by simpa [Addr.add] using g2, by simpa [Addr.add] using g3, hv, hn⟩
    · have hk' : k < len := by simpa using hk
      rw [hget k hk]
      exact (hF k hk').2.2.2

end

end Go.Proofs.Ytdiknngmepjncac

/- How rules that came in are read. -/
namespace Go.Proofs.Ytdiknngmepjncac
open Go.ChangeShapes Go.WideShapes Go.ChangeAt Go.RowKit Go.Deep Go.Joins Stw

theorem Try.cellsRu : Try.prog.cellsOf 54 = 3 := by kernel_rfl
theorem Try.bytesRu : Try.prog.bytesOf 54 = 24 := by kernel_rfl

section
variable {H : Type} {enc : TypeId × Value → H} {W : World}

set_option maxRecDepth 100000 in
theorem open_rules0 {fuel : Nat} {cs : List Value} {x : DataW H × List MemPlace} (h : DataW.trod enc Try.prog W 0 (fun _ => true) true fuel 40 cs = some x) :
    ∃ (ao : Option Addr) (len cap : Nat) (rs : List Rul.Ru), cs = [.slice ao len cap] ∧ Tb.SlOk W ao len cap rs ∧ len ≤ 9223372036854775807 ∧ (ao = none ∨ ∃ m, len + (m - len) = cap ∧ (len + (m - len)) * 24 ∈ x.1.weights Try.prog 40) := by
  rcases open_slice Try.underlying40 h with ⟨hcs, _⟩ | ⟨a, len, cap, m, n, D, Pl, hcs, _, hl, hm, hmm, hx, hel⟩
  · exact ⟨none, 0, 0, [], hcs, ⟨rfl, Or.inl rfl, fun _ => ⟨rfl, rfl⟩⟩, by omega, Or.inl rfl⟩
  · have hmc : m = cap := by simpa using hmm
    have hfam : ∀ i, i < len → ∃ l : Int × Int × Int, W.cell? (a.add (i * 3)) = some (.int .i64 l.1) ∧ W.cell? ((a.add (i * 3)).add 1) = some (.int .i64 l.2.1) ∧ W.cell? ((a.add (i * 3)).add 2) = some (.int .i64 l.2.2) := by
      intro i hi
      obtain ⟨cs', hcell, htr⟩ := hel i (by omega)
      rw [Try.cellsRu] at hcell
      obtain ⟨y0, y1, y2, n', _, hlen, t0, t1, t2⟩ := trod_struct3 Try.underlying54 htr
      rw [Try.cellsRu] at hlen
      match cs', hlen with
      | [c0, c1, c2], _ =>
        obtain ⟨a0, e0, _, w0⟩ := DataW.trod_int Try.underlying3 t0
        obtain ⟨a1, e1, _, w1⟩ := DataW.trod_int Try.underlying3 t1
        obtain ⟨a2, e2, _, w2⟩ := DataW.trod_int Try.underlying3 t2
        simp [Try.cells3] at e0 e1 e2
        subst e0 e1 e2
        exact ⟨(a0, a1, a2), cells3_inv hcell rfl⟩
    obtain ⟨F, hF⟩ := choose_lt hfam
    refine ⟨some a, len, cap, (List.range len).map F, hcs, ⟨by simp, ?_, fun h => by cases h⟩, by unfold maxLen at hm; omega, Or.inr ⟨m, by omega, ?_⟩⟩
    · by_cases h0 : len = 0
      · exact Or.inl (by simp [h0])
      · obtain ⟨b, off, spot⟩ := a
        have hc := (hF 0 (by omega)).1
        have hspot : spot = none := by simpa [Addr.add] using World.cell?_spot hc
        subst hspot
        refine Or.inr ⟨b, off, rfl, by have := cell_lt hc; simpa [Addr.add] using this, fun k hk => ?_⟩
        simp only [List.length_map, List.length_range] at hk
        obtain ⟨g0, g1, g2⟩ := hF k hk
        have e0 : (⟨b, off, none⟩ : Addr).add (k * 3) = ⟨b, off + k * 3, none⟩ := by
          unfold Addr.add
          split
          · simp_all
          · rfl
        rw [e0] at g0 g1 g2
        have e1 : ((List.range len).map F).getD k (0, 0, 0) = F k := by simp [List.getD_eq_getElem?_getD, hk]
        rw [e1]
        exact ⟨g0, by simpa [Addr.add] using g1, by simpa [Addr.add] using g2⟩
    · subst hx
      simp [DataW.weights, Try.underlying40, Try.bytesRu]
theorem open_rules {fuel : Nat} {cs : List Value} {x : DataW H × List MemPlace} (h : DataW.trod enc Try.prog W 0 (fun _ => true) true fuel 40 cs = some x) (hw : ∀ m ∈ x.1.weights Try.prog 40, m ≤ reachBytes) :
    ∃ (ao : Option Addr) (len cap : Nat) (rs : List Rul.Ru), cs = [.slice ao len cap] ∧ Tb.SlOk W ao len cap rs ∧ len * 24 ≤ 140737488351232 := by
  obtain ⟨ao, len, cap, rs, h1, h2, _, h4⟩ := open_rules0 h
  refine ⟨ao, len, cap, rs, h1, h2, ?_⟩
  rcases h4 with h4 | ⟨m, _, h4⟩
  · have := (h2.hnil h4).1; omega
  · have := hw _ h4
    simp [reachBytes] at this
    omega

end

end Go.Proofs.Ytdiknngmepjncac

/- How tables that came in are read. -/
namespace Go.Proofs.Ytdiknngmepjncac
open Go.ChangeShapes Go.WideShapes Go.ChangeAt Go.RowKit Go.Deep Go.Joins Stw

/-- Tables lie where a slice says. -/
def Tb.OsAt (w : World) (oo : Option Addr) (oss : List (List Rul.Ru)) : Prop := oss = [] ∨ ∃ g off, oo = some ⟨g, off, none⟩ ∧ g < w.heap.size ∧ ∀ k, k < oss.length → ∃ ao len cap, w.cell? ⟨g, off + k, none⟩ = some (.slice ao len cap) ∧ Tb.SlOk w ao len cap (oss.getD k []) ∧ len * 24 ≤ 140737488351232
theorem Tb.OsAt.ext {w w' : World} {oo : Option Addr} {oss : List (List Rul.Ru)} (h : Tb.OsAt w oo oss) (E : Ext w w') : Tb.OsAt w' oo oss := by
  rcases h with h | ⟨g, off, h1, h2, h3⟩
  · exact Or.inl h
  · refine Or.inr ⟨g, off, h1, Nat.lt_of_lt_of_le h2 E.size, fun k hk => ?_⟩
    obtain ⟨ao, len, cap, c, l, b⟩ := h3 k hk
    exact ⟨ao, len, cap, (E.cells.1 _ _ h2).trans c, l.ext E, b⟩
theorem Try.cellsSl : Try.prog.cellsOf 40 = 1 := by kernel_rfl

section
variable {H : Type} {enc : TypeId × Value → H} {W : World}

theorem cells1_inv {w : World} {a : Addr} {cs : List Value} {x : Value} (h : w.cells? 0 a 1 = some cs) (e : cs = [x]) : w.cell? a = some x := by
  obtain ⟨_, _, hc⟩ := World.cells?_some h
  subst e
  simpa [Addr.add] using hc 0 (by omega)

set_option maxRecDepth 100000 in
theorem open_tables {fuel : Nat} {cs : List Value} {x : DataW H × List MemPlace} (h : DataW.trod enc Try.prog W 0 (fun _ => true) true fuel 41 cs = some x) (hw : ∀ m ∈ x.1.weights Try.prog 41, m ≤ reachBytes) :
    ∃ (ao : Option Addr) (len cap : Nat) (oss : List (List Rul.Ru)), cs = [.slice ao len cap] ∧ (oss.length = len ∧ Tb.OsAt W ao oss) ∧ len ≤ 9223372036854775807 := by
  rcases open_slice Try.underlying41 h with ⟨hcs, _⟩ | ⟨a, len, cap, m, n, D, Pl, hcs, _, hl, hm, hmm, hx, hel⟩
  · exact ⟨none, 0, 0, [], hcs, ⟨rfl, Or.inl rfl⟩, by omega⟩
  · have hmc : m = cap := by simpa using hmm
    have hwD : ∀ i, i < len → ∀ m ∈ (D i).weights Try.prog 40, m ≤ reachBytes := fun i hi m hm => hw m (by
      rw [hx]
      simp only [DataW.weights, Try.underlying41]
      refine List.mem_cons_of_mem _ (List.mem_append_left _ (weights_all (List.mem_map.2 ⟨i, by simpa using hi, rfl⟩) m hm)))
    have hfam : ∀ i, i < len → ∃ rs : List (Int × Int × Int), ∃ ao len cap, W.cell? (a.add (i * 1)) = some (.slice ao len cap) ∧ Tb.SlOk W ao len cap rs ∧ len * 24 ≤ 140737488351232 := by
      intro i hi
      obtain ⟨cs', hcell, htr⟩ := hel i (by omega)
      rw [Try.cellsSl] at hcell
      obtain ⟨ao, l', c', rs, h1, h2, h3⟩ := open_rules htr (hwD i hi)
      exact ⟨rs, ao, l', c', cells1_inv hcell h1, h2, h3⟩
    obtain ⟨F, hF⟩ := choose_lt hfam
    refine ⟨some a, len, cap, (List.range len).map F, hcs, ⟨by simp, ?_⟩, by unfold maxLen at hm; omega⟩
    by_cases h0 : len = 0
    · exact Or.inl (by simp [h0])
    · obtain ⟨b, off, spot⟩ := a
      obtain ⟨ao0, l0, c0, hc, _⟩ := hF 0 (by omega)
      have hspot : spot = none := by simpa [Addr.add] using World.cell?_spot hc
      subst hspot
      refine Or.inr ⟨b, off, rfl, by have := cell_lt hc; simpa [Addr.add] using this, fun k hk => ?_⟩
      simp only [List.length_map, List.length_range] at hk
      obtain ⟨ao, l', c', g0, g1, g2⟩ := hF k hk
      have e0 : (⟨b, off, none⟩ : Addr).add (k * 1) = ⟨b, off + k, none⟩ := by
        unfold Addr.add
        split
        · simp_all
        · simp
      rw [e0] at g0
      have e1 : ((List.range len).map F).getD k [] = F k := by simp [List.getD_eq_getElem?_getD, hk]
      rw [e1]
      exact ⟨ao, l', c', g0, g1, g2⟩

end

end Go.Proofs.Ytdiknngmepjncac

/- Tables with other versions' rules beside a plan's: what is found of its version stays. -/
namespace Go.Proofs.Ytdiknngmepjncac.Tb
open Go.RowKit Go.Maps Stw Go.Deep Rul Go.Sort Stp

/-- A row of slices, each of them of rules of which something holds. -/
def HT (w : World) (H n : Nat) (G : Nat → List Ru → Prop) : Prop :=
  ∃ vs, w.rowIs H 40 n vs ∧ ∀ s, s < n → ∃ ao cap rs, vs s = .slice ao rs.length cap ∧ RsAt w ao rs ∧ (ao = none → rs.length = 0 ∧ cap = 0) ∧ G s rs
theorem HT.ext {w w' : World} {H n : Nat} {G : Nat → List Ru → Prop} (h : HT w H n G) (E : Ext w w') : HT w' H n G := by
  obtain ⟨vs, h1, h2⟩ := h
  refine ⟨vs, h1.of_block (Below.block E _ h1.lt), fun s hs => ?_⟩
  obtain ⟨ao, cap, rs, k1, k2, k3, k4⟩ := h2 s hs
  exact ⟨ao, cap, rs, k1, k2.ext E, k3, k4⟩
theorem HT.mono {w : World} {H n : Nat} {G G' : Nat → List Ru → Prop} (h : HT w H n G) (e : ∀ s rs, s < n → G s rs → G' s rs) : HT w H n G' := by
  obtain ⟨vs, h1, h2⟩ := h
  refine ⟨vs, h1, fun s hs => ?_⟩
  obtain ⟨ao, cap, rs, k1, k2, k3, k4⟩ := h2 s hs
  exact ⟨ao, cap, rs, k1, k2, k3, e s rs hs k4⟩
theorem HT.get {w : World} {H n : Nat} {G : Nat → List Ru → Prop} (h : HT w H n G) {s : Nat} (hs : s < n) : ∃ ao cap rs, w.cell? ⟨H, s, none⟩ = some (.slice ao rs.length cap) ∧ w.frozen? ⟨H, s, none⟩ = false ∧ SlOk w ao rs.length cap rs ∧ G s rs := by
  obtain ⟨vs, h1, h2⟩ := h
  obtain ⟨ao, cap, rs, k1, k2, k3, k4⟩ := h2 s hs
  exact ⟨ao, cap, rs, by rw [h1.cell hs, k1], h1.frozen s, ⟨rfl, k2, k3⟩, k4⟩
theorem HT.lt {w : World} {H n : Nat} {G : Nat → List Ru → Prop} (h : HT w H n G) : H < w.heap.size := by obtain ⟨vs, h1, _⟩ := h; exact h1.lt
theorem TB.ht {w : World} {H n : Nat} {vs : Nat → Value} {ts : Nat → List Ru} (h : TB w H n vs ts) : HT w H n (fun s rs => rs = ts s) := by
  refine ⟨vs, h.row, fun s hs => ?_⟩
  obtain ⟨ao, cap, hv, hat, hnil, _, _⟩ := (h.own s hs).form
  exact ⟨ao, cap, ts s, hv, hat, fun e => ⟨by rw [(hnil e).1]; rfl, (hnil e).2⟩, rfl⟩
/-- Rules don't lie in the row of slices: so a slice that is kept there leaves them. -/
theorem rs_set {w : World} {H n : Nat} {vs : Nat → Value} (h : w.rowIs H 40 n vs) (hv : ∀ s, s < n → ∃ ao l c, vs s = .slice ao l c) {ao : Option Addr} {rs : List Ru} (hr : RsAt w ao rs) (s : Nat) (u : Value) : RsAt (w.setCell ⟨H, s, none⟩ u) ao rs := by
  by_cases h0 : rs = []
  · exact Or.inl h0
  rcases hr with h0' | ⟨g, off, h1, h2, h3⟩
  · exact Or.inl h0'
  have hpos : 0 < rs.length := List.length_pos_iff.2 h0
  have hg : g ≠ H := by
    intro e
    subst e
    have hc := (h3 0 hpos).1
    rw [show off + 0 * 3 = off by omega] at hc
    by_cases hi : off < n
    · obtain ⟨a', l', c', hvs⟩ := hv _ hi
      rw [h.cell hi, hvs] at hc
      injection hc with hc
      cases hc
    · obtain ⟨c, hb, hn, hcs⟩ := h
      have hnone : c[off]? = none := Array.getElem?_eq_none (by omega)
      simp [World.cell?, hb, hnone] at hc
  refine Or.inr ⟨g, off, h1, by simpa using h2, fun k hk => ?_⟩
  obtain ⟨c0, c1, c2⟩ := h3 k hk
  have ho : ∀ o, (w.setCell ⟨H, s, none⟩ u).cell? ⟨g, o, none⟩ = w.cell? ⟨g, o, none⟩ := fun o => World.cell?_of_block (a := ⟨g, o, none⟩) (blk_setCell_other _ _ _ _ hg)
  rw [ho, ho, ho]
  exact ⟨c0, c1, c2⟩
theorem HT.set {w : World} {H n s0 : Nat} {G : Nat → List Ru → Prop} (h : HT w H n G) {vo : Option Addr} {vc : Nat} {m : List Ru} (hok : SlOk w vo m.length vc m) (hG : G s0 m) : HT (w.setCell ⟨H, s0, none⟩ (.slice vo m.length vc)) H n G := by
  obtain ⟨vs, h1, h2⟩ := h
  have hv : ∀ s, s < n → ∃ ao l c, vs s = .slice ao l c := fun s hs => by
    obtain ⟨ao, cap, rs, k1, _⟩ := h2 s hs
    exact ⟨ao, _, cap, k1⟩
  refine ⟨_, h1.set s0 _, fun s hs => ?_⟩
  by_cases e : s = s0
  · subst e
    exact ⟨vo, vc, m, by simp, rs_set h1 hv hok.hat _ _, hok.hnil, hG⟩
  · obtain ⟨ao, cap, rs, k1, k2, k3, k4⟩ := h2 s hs
    exact ⟨ao, cap, rs, by simp [e, k1], rs_set h1 hv k2 _ _, k3, k4⟩

/-- What a table is like while others' rules are laid beside: of the version nothing else is found; from k on it is as it was. -/
def Gk (version : Int) (T : Nat → List Ru) (k s : Nat) (rs : List Ru) : Prop := (∀ i : Int, nxt version i rs = nxt version i (T s)) ∧ (k ≤ s → rs = T s) ∧ rs.length ≤ 16
theorem add_other {version : Int} {o T : List Ru} (h : (add (drp o version) T).2 = 0) (i : Int) : nxt version i (add (drp o version) T).1 = nxt version i T := by
  obtain ⟨_, t2, e⟩ := add_zero h
  refine nxt_same (tab_iff.1 t2).2.2.uniq fun n => ?_
  rw [e, add_mem, drp_mem]
  exact ⟨fun h => h.elim (fun h => absurd rfl h.2) id, Or.inr⟩

end Go.Proofs.Ytdiknngmepjncac.Tb

/- The walk of the law RuleWalks: true for every net, flows, number and tables; nothing that was there is changed. -/
namespace Go.Proofs.Ytdiknngmepjncac.Tb
open Go.RowKit Go.Maps Stw Go.Deep Rul Go.Sort Stp

set_option maxRecDepth 100000 in
set_option maxHeartbeats 800000 in
theorem ruleWalks_any (n version : Int) (ao : Option Addr) (len cap : Nat) (ls : List Lk) (lo : Option Addr) (ll lc : Nat) (fs : List Stf.Fl) (oo : Option Addr) (ol oc : Nat) (oss : List (List Ru)) (w : World) (hlen : ls.length = len) (hl : NetAt w ao ls) (hx : len ≤ 9223372036854775807) (hI : I64 n)
    (hll : fs.length = ll) (hf : Fw.FlowsAt w lo fs) (hS : Fw.Sm fs) (hlx : ll ≤ 9223372036854775807) (hol : oss.length = ol) (hos : OsAt w oo oss) (hox : ol ≤ 9223372036854775807) :
    Calls Try.prog 7 #[.agg #[.int .i64 n, .slice ao len cap], .slice lo ll lc, .int .i64 version, .slice oo ol oc] w fun e w' => e = .returned (.bool true) ∧ Ext w w' := by
  have hfd := fldF
  go_enter Try.func7, Try.ntmps7
  go_wp2_with fail
  refine (alive_any _).mono ?_
  rintro e w1 ⟨rfl, E1⟩
  have hE1 : Ext w w1 := ((Ext.refl w).alloc _).trans E1
  have b0 : w1.cell? ⟨w.heap.size, 0, none⟩ = some (.int .i64 n) := (E1.cells.1 _ _ (by simp)).trans (by simp)
  have b1 : w1.cell? ⟨w.heap.size, 1, none⟩ = some (.slice ao len cap) := (E1.cells.1 _ _ (by simp)).trans (by simp)
  have hs1 : w.heap.size < w1.heap.size := by have := E1.size; simp at this; omega
  go_wp2_with fail
  refine (Plan_any n version ao len cap ls lo ll lc fs _ hlen (hl.ext hE1) hx hI hll (hf.ext hE1) hS hlx).mono ?_
  rintro e w2 ⟨pv, fo, fl, fc, qo, ql, qc, rfl, E2, hout⟩
  obtain ⟨x, hxx⟩ : ∃ x, x = (plnF n version ls fs).1 := ⟨_, rfl⟩
  obtain ⟨xa, hxa⟩ : ∃ x, x = (plnF n version ls fs).2 := ⟨_, rfl⟩
  rw [← hxx] at hout ⊢
  rw [← hxa]
  clear hxa
  have c0 := (E2.cells.1 _ _ hs1).trans b0
  have hs2 : w.heap.size < w2.heap.size := by have := E2.size; omega
  have hE2 := hE1.trans E2
  clear b0 b1
  rcases hout with ⟨h0, rfl, rfl, rfl⟩ | ⟨h0, hpv, rfl, _, rfl, hps⟩
  · have h0' : (x != 0) = true := by simpa using h0
    clear hxx h0
    go_wp2
    go_ret
    exact ⟨rfl, (hE2.alloc _).alloc _⟩
  · obtain rfl : version = pv := hpv.symm
    have hg := plan_good (hxx.symm.trans h0)
    subst h0
    obtain ⟨nn, rfl⟩ : ∃ nn : Nat, n = (nn : Int) := ⟨n.toNat, by have := hg.n0; omega⟩
    obtain ⟨ps, hpe⟩ : ∃ ps, ps = plnP (nn : Int) ls fs := ⟨_, rfl⟩
    have hpl : ps.length = ll := by rw [hpe, hg.len]; exact hll
    have hshort : ∀ i, (ps.getD i []).length ≤ 8 := fun i => by rw [hpe]; exact hg.short i
    have hhead : ∀ i, i < ll → (ps.getD i []).getD 0 0 = (fs.getD i Fw.f0).fr := fun i hi => by rw [hpe]; exact hg.head i (by omega)
    have hgp : GP nn ps := by rw [hpe]; simpa using hg.gp
    rw [← hpe] at hps ⊢
    rw [hpl, hll]
    have hn8 : nn ≤ 8 := by have := hg.n8; omega
    have hfew := hg.few
    have htab : ∀ s : Nat, tab (rof version s ps ll) := fun s => by rw [← hpl]; exact rof_tab hgp hn8 (by omega) hg.v1 hg.v2
    have HTAB : Hid _ := htab
    have HGP : Hid (GP nn ps) := hgp
    have HSH : Hid _ := hshort
    have HHD : Hid _ := hhead
    have htot := tot_le hshort ll
    have hll12 : ll ≤ 12 := by omega
    have HPL : Hid (ps.length = ll) := hpl
    have HLL : Hid (fs.length = ll) := hll
    have hTO : tot ps ps.length * 24 ≤ 140737488351232 := by rw [hpl]; omega
    clear htab hgp hshort hhead hxx hg hpe hpl hll hfew
    go_wp2_with fail
    refine (Of_any version fo qo ll fc ll qc nn ps _ HPL.out ((PthsAt.ps hps).ext (((Ext.refl w2).alloc _).alloc _)) (by omega) hTO (by omega)).mono ?_
    rintro e w3 ⟨vs, rfl, htb, E3⟩
    obtain ⟨W3, hW3⟩ : ∃ W3, W3 = (w2.alloc (.cells #[.int .i64 version, .slice fo ll fc, .slice qo ll qc] 39)).alloc (.cells #[.int .i64 0, .int .i64 xa] 46) := ⟨_, rfl⟩
    have hEW : Ext w2 W3 := by rw [hW3]; exact ((Ext.refl w2).alloc _).alloc _
    have e2 : W3.cell? ⟨w2.heap.size, 2, none⟩ = some (.slice qo ll qc) := by rw [hW3]; simp
    have hsW : w2.heap.size < W3.heap.size := by rw [hW3]; simp; omega
    rw [← hW3] at htb E3 ⊢
    clear hW3
    obtain ⟨H, hH⟩ : ∃ H, H = W3.heap.size + 1 := ⟨_, rfl⟩
    rw [← hH] at htb ⊢
    have hHW : W3.heap.size < H := by omega
    clear hH
    have HT0 : Hid (HT w3 H nn (fun s rs => Gk version (fun s => rof version s ps ll) 0 s rs)) := htb.ht.mono (fun s rs _ h => ⟨fun i => by rw [h], fun _ => h, by rw [h]; exact (tab_iff.1 (HTAB.out s)).1⟩)
    clear htb c0
    have hw2s := hs2
    go_wp2
    go_loopw [40] (fun sv wd => ∃ s : Nat, s ≤ nn ∧ sv = .int .i64 s ∧ Hid (HT wd H nn (fun t rs => Gk version (fun s => rof version s ps ll) s t rs)) ∧ Ext W3 wd) (fun sv _ => nn - (intOf sv).toNat)
    case atStart => exact ⟨0, Nat.zero_le _, rfl, HT0, E3⟩
    case round => as_aux_lemma =>
      clear HT0 E3
      obtain ⟨s, hs, rfl, HTs, hE⟩ := hrel
      by_cases hlt : s < nn
      · have i1 : (s : Int) < (nn : Int) := by omega
        have HTn : Hid (HT wr H nn (fun t rs => Gk version (fun s => rof version s ps ll) (s + 1) t rs)) := HTs.out.mono (fun t rs _ h => ⟨h.1, fun ht => h.2.1 (by omega), h.2.2⟩)
        by_cases hso : s < ol
        · have i2 : (s : Int) < (ol : Int) := by omega
          have hEall : Ext w wr := hE2.trans (hEW.trans hE)
          rcases hos.ext hEall with h0 | ⟨g, off, rfl, hgl, hcs⟩
          · exfalso; rw [h0] at hol; simp at hol; omega
          obtain ⟨xo, xl, xc, cx, okx, hxl⟩ := hcs s (by omega)
          obtain ⟨O, hO⟩ : ∃ O, oss.getD s [] = O := ⟨_, rfl⟩
          rw [hO] at okx
          clear hO hcs
          go_wp2_with fail
          refine (Wrong_any xo xl xc O _ okx.hlen okx.hat (by omega)).mono ?_
          rintro e w4 ⟨he, E4⟩
          obtain ⟨x, hx1⟩ : ∃ x, x = (Rul.wrong O).1 := ⟨_, rfl⟩
          obtain ⟨xat, rfl⟩ : ∃ xat, e = .returned (.agg #[.int .i64 x, .int .i64 xat]) := ⟨_, by rw [hx1]; exact he⟩
          clear he
          have hE4 := hE.trans E4
          have cx4 := (E4.cells.1 _ _ hgl).trans cx
          clear cx
          by_cases h0 : x = 0
          · subst h0
            have htO : tab O := hx1.symm
            have hO16 := (tab_iff.1 htO).1
            have hOl := okx.hlen
            obtain ⟨tto, tc, T, ct, ft, okT, hGT⟩ := (HTs.out.ext E4).get hlt
            have hT : T = rof version s ps ll := hGT.2.1 (Nat.le_refl _)
            have hT16 := hGT.2.2
            have HTT : Hid _ := hT
            have HT4 := HTn.out.ext E4
            have HHT : Hid _ := HT4
            have hHl := HT4.lt
            have HKP : Hid (∀ W : World, Ext w4 W → W.cell? ⟨g, off + s, none⟩ = some (.slice xo xl xc) ∧ W.cell? ⟨H, s, none⟩ = some (.slice tto T.length tc)) := fun W h => ⟨(h.cells.1 _ _ (Nat.lt_of_lt_of_le hgl E4.size)).trans cx4, (h.cells.1 _ _ hHl).trans ct⟩
            have okx4 := okx.ext E4
            have hdl := drp_le O version
            have hR0 := Ext.refl w4
            obtain ⟨D, hD⟩ : ∃ D, D = drp O version := ⟨_, rfl⟩
            rw [← hD] at hdl
            have HD : Hid (D = drp O version) := hD
            clear hT hGT hx1 HTs HTn HT4 hD okx
            go_wp2
            go_region_held3 (fun W => W.cell? ⟨g, off + s, none⟩ = some (.slice xo xl xc) ∧ W.cell? ⟨H, s, none⟩ = some (.slice tto T.length tc))
              (first | exact HKP.out _ hR0.drew | exact HKP.out _ mk5 | exact HKP.out _ (mk5.trans E6))
              (first
                | (go_at_call 21; refine (Drop_any xo xl xc O version _ okx4.hlen (okx4.hat.ext hR0.drew) hxl).mono ?_; rintro e w5 ⟨v5, rfl, ho5, E5⟩; rw [← HD.out] at ho5; obtain ⟨mo, mc, rfl, hat5, hnil5, _, _⟩ := RO.form ho5; have mk5 : Ext w4 w5 := hR0.drew.trans E5; have okD : SlOk w5 mo D.length mc D := ⟨rfl, hat5, fun h => ⟨by rw [(hnil5 h).1]; rfl, (hnil5 h).2⟩⟩; clear ho5 hat5 hnil5 E5)
                | (go_at_call 17; refine (Add_any mo tto D.length mc T.length tc D T _ okD (okT.ext mk5) ?_ ?_).mono ?_; omega; omega; rintro e w6 ⟨vo, vc, he, ok6, E6⟩; obtain ⟨m, y, hmy, rfl⟩ : ∃ m y, add D T = (m, y) ∧ e = .returned (.tuple #[.slice vo m.length vc, .int .i64 y]) := ⟨_, _, rfl, he⟩; rw [hmy] at ok6; clear he))
            have hE6 := hE4.trans (mk5.trans E6)
            have hT6 := HT.ext HHT.out (mk5.trans E6)
            have hc6 := (HKP.out _ (mk5.trans E6)).2
            have hf6 : w6.frozen? ⟨H, s, none⟩ = false := ((mk5.trans E6).cells.2 _ _ hHl).trans ft
            by_cases hy : y = 0
            · have hz : (add (drp O version) T).2 = 0 := by rw [← HD.out, hmy]; exact hy
              have hm1 : (add (drp O version) T).1 = m := by rw [← HD.out, hmy]
              have hGm : Gk version (fun s => rof version s ps ll) (s + 1) s m := ⟨fun i => by rw [← hm1, add_other hz i, HTT.out], fun h => absurd h (by omega), by rw [← hm1]; exact (tab_iff.1 (add_zero hz).2.1).1⟩
              have hT7 := HT.set hT6 (s0 := s) (vo := vo) (vc := vc) (m := m) ok6 hGm
              have HT7 : Hid _ := hT7
              subst hy
              clear hz hm1 hGm hT7 hT6 HHT hmy ok6 okD okT
              go_wp2
              exact ⟨⟨s + 1, by omega, by go_num, HT7, hE6.setCell (by simp; omega) _⟩, by simp [intOf]; omega⟩
            · have hy' : (y == 0) = false := by simpa using hy
              have HT7 : Hid _ := hT6
              clear hy hT6 HHT hmy ok6 okD okT
              go_wp2
              exact ⟨⟨s + 1, by omega, by go_num, HT7, hE6⟩, by simp [intOf]; omega⟩
          · have h0' : (x == 0) = false := by simpa using h0
            have HT5 : Hid (HT w4 H nn (fun t rs => Gk version (fun s => rof version s ps ll) (s + 1) t rs)) := HTn.out.ext E4
            clear HTs HTn hx1 h0
            go_wp2
            exact ⟨⟨s + 1, by omega, by go_num, HT5, hE4⟩, by simp [intOf]; omega⟩
        · have i2 : ¬ (s : Int) < (ol : Int) := by omega
          clear HTs
          go_wp2
          exact ⟨⟨s + 1, by omega, by go_num, HTn, hE⟩, by simp [intOf]; omega⟩
      · have hsn : s = nn := by omega
        have HTf : Hid (HT wr H nn (fun t rs => (∀ i : Int, nxt version i rs = nxt version i (rof version t ps ll)) ∧ rs.length ≤ 16)) := HTs.out.mono (fun t rs _ h => ⟨h.1, h.2.2⟩)
        have hHl := HTf.out.lt
        have f2 := (hE.cells.1 _ _ hsW).trans e2
        have hEf : Ext w wr := hE2.trans (hEW.trans hE)
        have hps0 := (PthsAt.ps hps).ext (hEW.trans hE)
        have hfl0 := hf.ext hEf
        have i1 : ¬ (s : Int) < (nn : Int) := by omega
        clear HTs e2
        obtain ⟨wf, hwf⟩ : ∃ wf, wf = wr := ⟨_, rfl⟩
        subst hwf
        go_wp2
        go_loopw [80] (fun iv wd => ∃ i : Nat, i ≤ ll ∧ iv = .int .i64 i ∧ Ext wf wd) (fun iv _ => ll - (intOf iv).toNat)
        case atStart => exact ⟨0, Nat.zero_le _, rfl, Ext.refl wf⟩
        case round => as_aux_lemma =>
          obtain ⟨i, hi, rfl, hEi⟩ := hrel
          by_cases hil : i < ll
          · have i2 : (i : Int) < (ll : Int) := by omega
            rcases hps0 with h0 | ⟨g, off, rfl, hgl, hcs⟩
            · exfalso; have := HPL.out; rw [h0] at this; simp at this; omega
            obtain ⟨xo, xc, cx0, lx0⟩ := hcs i (by rw [HPL.out]; exact hil)
            have cx := (hEi.cells.1 _ _ hgl).trans cx0
            obtain ⟨fb, foff, vo, vc, no, nc, fa, ft, X, Y, rfl, hfb, hfe, q0, _⟩ := hfl0.get (k := i) (by rw [HLL.out]; exact hil)
            have q := (hEi.cells.1 _ _ hfb).trans q0
            have hfa : (ps.getD i []).getD 0 0 = fa := by rw [HHD.out i hil, hfe]
            obtain ⟨hne, hnd, hrg⟩ := HGP.out i (by rw [HPL.out]; exact hil)
            have hnxt : ∀ k, k < (ps.getD i []).length → nxt version i (rof version ((ps.getD i []).getD k 0) ps ll) = if k + 1 < (ps.getD i []).length then ((ps.getD i []).getD (k + 1) 0, true) else (0, false) := fun k hk => by
              have := nxt_path (v := version) HGP.out (i := i) (k := k) (by rw [HPL.out]; exact hil) hk
              rwa [HPL.out] at this
            have h8 := HSH.out i
            obtain ⟨path, hpath⟩ : ∃ p, p = ps.getD i [] := ⟨_, rfl⟩
            rw [← hpath] at cx lx0 hfa hne hrg hnxt h8
            obtain ⟨L, hL⟩ : ∃ L, path.length = L := ⟨_, rfl⟩
            rw [hL] at cx h8 hnxt
            have hpos : 0 < L := by rw [← hL]; exact List.length_pos_iff.2 hne
            have HNX : Hid _ := hnxt
            have HRG : Hid _ := hrg
            have HLn : Hid (path.length = L) := hL
            have HFA : Hid _ := hfa
            clear hpath hL hnxt hrg hfa hcs cx0 q0 hfe hnd hne
            rcases lx0 with h0 | ⟨pb, po, rfl, hpb, hin⟩
            · exfalso; have := HLn.out; rw [h0] at this; simp at this; omega
            have HIN : Hid (IntsAt wf pb po path) := hin
            go_wp2
            go_loopw [17, 92] (fun av kv wd => ∃ k : Nat, k ≤ L ∧ kv = .int .i64 k ∧ av = .int .i64 (path.getD k 0) ∧ Ext wf wd) (fun _ kv _ => L - (intOf kv).toNat)
            case atStart => exact ⟨0, Nat.zero_le _, rfl, by rw [HFA.out], hEi⟩
            case round => as_aux_lemma =>
              clear hin cx q
              obtain ⟨k, hk, rfl, rfl, hEk⟩ := hrel
              by_cases hkl : k < L
              · have i3 : (k : Int) < (L : Int) := by omega
                have hxk := HRG.out _ (get_mem (i := k) (by rw [HLn.out]; exact hkl))
                have ck := (hEk.cells.1 _ _ hpb).trans (HIN.out k (by rw [HLn.out]; exact hkl))
                have hnx := HNX.out k hkl
                obtain ⟨a, ha⟩ : ∃ a, path.getD k 0 = a := ⟨_, rfl⟩
                rw [ha] at hxk ck hnx ⊢
                obtain ⟨t, rfl⟩ : ∃ t : Nat, a = (t : Int) := ⟨a.toNat, by omega⟩
                have htn : t < nn := by omega
                obtain ⟨tto, tc, rs, ct, _, okT, hGT, hr16⟩ := (HT.ext HTf.out hEk).get htn
                have hnx2 : nxt version i rs = _ := (hGT i).trans hnx
                have HN2 : Hid _ := hnx2
                have i4 : (t : Int) < (nn : Int) := by omega
                clear hnx hnx2 hGT ha hxk
                go_wp2_with fail
                refine (Next_any tto rs.length tc rs version i _ rfl okT.hat (by omega)).mono ?_
                rintro e w5 ⟨he, E5⟩
                rw [HN2.out] at he
                by_cases hk1 : k + 1 < L
                · rw [if_pos hk1] at he
                  subst he
                  have i5 : (k : Int) < (L : Int) - 1 := by omega
                  go_wp2
                  exact ⟨⟨k + 1, by omega, by go_num, rfl, hEk.trans E5⟩, by simp [intOf]; omega⟩
                · rw [if_neg hk1] at he
                  subst he
                  have i5 : ¬ (k : Int) < (L : Int) - 1 := by omega
                  have hz : path.getD (k + 1) 0 = 0 := by simp [List.getD_eq_getElem?_getD, List.getElem?_eq_none (show path.length ≤ k + 1 by have := HLn.out; omega)]
                  have HZ : Hid _ := hz
                  clear hz
                  go_wp2
                  exact ⟨⟨k + 1, by omega, by go_num, by rw [HZ.out], hEk.trans E5⟩, by simp [intOf]; omega⟩
              · have i3 : ¬ (k : Int) < (L : Int) := by omega
                go_wp2
                exact ⟨⟨i + 1, by omega, by go_num, hEk⟩, by simp [intOf]; omega⟩
          · have i2 : ¬ (i : Int) < (ll : Int) := by omega
            go_wp2
            go_ret
            exact ⟨rfl, hEf.trans hEi⟩

end Go.Proofs.Ytdiknngmepjncac.Tb

namespace Go.Proofs.Ytdiknngmepjncac
open Go.ChangeShapes Go.WideShapes Go.ChangeAt Go.RowKit Go.Deep Go.Joins Stw

set_option maxRecDepth 100000 in
theorem ruleWalks_lifted (os : Os) (started : os.Started) (H : Type) (enc : TypeId × Value → H) :
    ReturnsInHanded {} Try.checked os 7 .any (Rows.ruleWalksSpec.pre6 enc Try.prog Try.f7 Rows.ruleWalksRow.domain false) (Rows.ruleWalksSpec.post enc Try.prog Try.f7 false true false false) := by
  refine returnsInHanded_of_change_sized (C := Try.checked) Try.own started (by kernel_rfl) Try.func7
    (ChangeSpec.witness6 (enc := enc) (C := Try.checked) false ⟨#[], #[.agg #[.int .i64 0, .slice none 0 0], .slice none 0 0, .int .i64 0, .slice none 0 0], []⟩ 8 (by kernel_rfl) (by kernel_rfl) (by kernel_rfl) (by kernel_rfl)) ?_
  intro W base args ds gs before hval0 hW hcnd hsz0 _
  have hval : ∀ (j : Nat) t v, Try.f7.params[j]? = some t → args[j]? = some v → Value.okWide Try.prog W .any base t v := hval0
  have hsz : (DataW.weightsEach Try.prog (Try.f7.params.toList ++ Rows.ruleWalksSpec.plain.varTypes Try.prog) (ds ++ gs)).all (· ≤ reachBytes) = true := hsz0
  have hW' := hW
  obtain ⟨p, q, hA0, hV, rfl, hfz, hnd⟩ := hW
  have hA : DataW.TrodAll enc Try.prog W 0 (fun _ => true) true Try.f7.params.toList args.toList ds p := hA0
  rw [Try.params7] at hA hval hsz
  obtain ⟨v0, vs0, d0, ds0, p0, q0, hargs, rfl, rfl, h0, r0⟩ := trodAll_cons hA
  obtain ⟨v1, vs1, d1, ds1, p1, q1, rfl, rfl, rfl, h1, r1⟩ := trodAll_cons r0
  obtain ⟨v2, vs2, d2, ds2, p2, q2, rfl, rfl, rfl, h2, r2⟩ := trodAll_cons r1
  obtain ⟨v3, vs3, d3, ds3, p3, q3, rfl, rfl, rfl, h3, r3⟩ := trodAll_cons r2
  obtain ⟨rfl, rfl, rfl⟩ := trodAll_nil r3
  obtain rfl : args = #[v0, v1, v2, v3] := by cases args; simp_all
  obtain ⟨rfl, rfl⟩ := trodVars_none hV
  have k0 := h0
  have lt0 : ∀ x ∈ p0, x.block < W.heap.size := by obtain ⟨m, hm⟩ := k0; exact DataW.trod_lt m _ _ _ hm
  have k1 := h1
  have lt1 : ∀ x ∈ p1, x.block < W.heap.size := by obtain ⟨m, hm⟩ := k1; exact DataW.trod_lt m _ _ _ hm
  have k3 := h3
  have lt3 : ∀ x ∈ p3, x.block < W.heap.size := by obtain ⟨m, hm⟩ := k3; exact DataW.trod_lt m _ _ _ hm
  obtain ⟨n0, ao0, len0, cap0, ls0, rfl, hn0, hlen0, hnet0, hlw0, hreach0, hcap0, hcm0⟩ := open_topo (hval 0 24 v0 rfl rfl) h0 (weights_arg hsz (j := 0) rfl rfl)
  obtain ⟨po1, pl1, pc1, rfl⟩ := okWide_slice Try.underlying36 (hval 1 36 v1 rfl rfl)
  obtain ⟨fuel1, hf1⟩ := h1
  obtain ⟨po1', pl1', pc1', fs1, ecs1, hfl1, hfa1, hfx1, hfs1⟩ := open_flows hf1 (weights_arg hsz (j := 1) rfl rfl)
  simp [Value.cells] at ecs1
  obtain ⟨rfl, rfl, rfl⟩ := ecs1
  obtain ⟨a2, rfl, rfl, rfl, w2⟩ := open_int Try.underlying3 (hval 2 3 v2 rfl rfl) h2
  obtain ⟨po3, pl3, pc3, rfl⟩ := okWide_slice Try.underlying41 (hval 3 41 v3 rfl rfl)
  obtain ⟨fuel3, hf3⟩ := h3
  obtain ⟨po3', pl3', pc3', rs3, ecs3, hok3, hlb3⟩ := open_tables hf3 (weights_arg hsz (j := 3) rfl rfl)
  simp [Value.cells] at ecs3
  obtain ⟨rfl, rfl, rfl⟩ := ecs3
  clear hA0 hval0 hsz0
  refine (Tb.ruleWalks_any n0 a2 ao0 len0 cap0 ls0 po1 pl1 pc1 fs1 po3 pl3 pc3 rs3 W hlen0 hnet0 (by omega) hn0 hfl1 hfa1 hfs1 hfx1 hok3.1 hok3.2 hlb3).mono fun e W' ⟨he, bel0⟩ => ?_
  subst he
  have bel : Below W.heap.size W W' := bel0
  exact ⟨_, rfl, _, _, _, [], _, [], hW', trodAll_mk1 (shut_bool Try.underlying4 _), (trodAll_cons_mk (Below.trod Try.laidOut (by kernel_rfl) (of_decide_eq_true (by kernel_rfl)) k0 bel lt0) (trodAll_cons_mk (Below.trod Try.laidOut (by kernel_rfl) (of_decide_eq_true (by kernel_rfl)) k1 bel lt1) (trodAll_cons_mk (shut_int Try.underlying3 w2) (trodAll_cons_mk (Below.trod Try.laidOut (by kernel_rfl) (of_decide_eq_true (by kernel_rfl)) k3 bel lt3) trodAll_mk0)))), rfl, bel.frame _, fun h => by cases h⟩

theorem ruleWalks_holds : Rows.RuleWalksSaid :=
  OpenClaim.holds_of_wide 7 Try.f7 rfl rfl rfl rfl rfl rfl rfl ⟨rfl, rfl, rfl, rfl, rfl⟩ rfl rfl rfl rfl rfl (by kernel_rfl) Try.func7 (by kernel_rfl)
    (of_decide_eq_true (by kernel_rfl)) (by unfold Func.isWrapper; first | (rw [if_pos (by decide +kernel)]; kernel_rfl) | (rw [if_neg (by decide +kernel)]; exact ⟨rfl, rfl⟩))
    (fun os started H enc _ => ruleWalks_lifted os started H enc)

#print axioms ruleWalks_holds
end Go.Proofs.Ytdiknngmepjncac
