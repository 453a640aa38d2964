/- What one link more does to who is reached; the closed function that looks for a number in a list; the links of a net as cells. -/
import Derived.Test.YtbfgioinjggkkaaW7
namespace Stw

theorem cost_more {n : Int} {ls : List Lk} {l : Lk} (hr : Right n ls) (hr2 : Right n (ls ++ [l])) (x y : Int) : 0 < cost (ls ++ [l]) x y ↔ 0 < cost ls x y ∨ jn l x y = true := by
  rw [cost_snoc]
  have hl := (hr2.mem (l := l) (by simp)).2.2.2.2.2.1
  cases ha : anyJ ls x y
  · have h0 := cost_none ha
    cases hj : jn l x y
    · simp [h0]
    · simp [h0]; omega
  · have h1 := cost_some (fun m hm => (hr.mem hm).2.2.2.2.2.1) ha
    simp only [if_true]
    constructor
    · intro h; exact Or.inl h
    · intro _; omega

theorem rch_more {n : Int} {ls : List Lk} {l : Lk} (hr : Right n ls) (hr2 : Right n (ls ++ [l])) (a b : Int) :
    Rch (ls ++ [l]) a b ↔ Rch ls a b ∨ (Rch ls a l.a ∧ Rch ls l.b b) ∨ (Rch ls a l.b ∧ Rch ls l.a b) := by
  have hc := cost_more hr hr2
  have up : ∀ {x y}, Rch ls x y → Rch (ls ++ [l]) x y := fun {x y} h S h0 h1 => h S h0 (fun u v hu huv => h1 u v hu ((hc u v).2 (Or.inl huv)))
  have e1 : 0 < cost (ls ++ [l]) l.a l.b := (hc _ _).2 (Or.inr (jn_iff.2 (Or.inl ⟨rfl, rfl⟩)))
  have e2 : 0 < cost (ls ++ [l]) l.b l.a := (hc _ _).2 (Or.inr (jn_iff.2 (Or.inr ⟨rfl, rfl⟩)))
  constructor
  · intro h
    refine h (fun z => Rch ls a z ∨ (Rch ls a l.a ∧ Rch ls l.b z) ∨ (Rch ls a l.b ∧ Rch ls l.a z)) (Or.inl (Rch.refl _ _)) (fun x y hx hxy => ?_)
    rcases (hc x y).1 hxy with h1 | h1
    · rcases hx with hx | ⟨hx1, hx2⟩ | ⟨hx1, hx2⟩
      · exact Or.inl (hx.step h1)
      · exact Or.inr (Or.inl ⟨hx1, hx2.step h1⟩)
      · exact Or.inr (Or.inr ⟨hx1, hx2.step h1⟩)
    · rcases jn_iff.1 h1 with ⟨rfl, rfl⟩ | ⟨rfl, rfl⟩
      · rcases hx with hx | ⟨hx1, _⟩ | ⟨hx1, _⟩
        · exact Or.inr (Or.inl ⟨hx, Rch.refl _ _⟩)
        · exact Or.inr (Or.inl ⟨hx1, Rch.refl _ _⟩)
        · exact Or.inl hx1
      · rcases hx with hx | ⟨hx1, _⟩ | ⟨hx1, _⟩
        · exact Or.inr (Or.inr ⟨hx, Rch.refl _ _⟩)
        · exact Or.inl hx1
        · exact Or.inr (Or.inr ⟨hx1, Rch.refl _ _⟩)
  · rintro (h | ⟨h1, h2⟩ | ⟨h1, h2⟩)
    · exact up h
    · exact ((up h1).step e1).trans (up h2)
    · exact ((up h1).step e2).trans (up h2)

end Stw
namespace Go.Proofs.Ytbfgioinjggkkaa
open Go.RowKit Go.Maps Stw

set_option maxHeartbeats 1000000 in
theorem in_some (b off n c : Nat) (L : List Int) (s : Int) (w : World) (hn : L.length = n) (h8 : n ≤ 8) (hL : IntsAt w b off L) :
    Calls Try.prog 17 #[.slice (some ⟨b, off, none⟩) n c, .int .i64 s] w fun e w' => e = .returned (.bool (decide (s ∈ L))) ∧ w' = w := by
  go_enter Try.func17, Try.ntmps17
  go_wp2
  go_loop [9] (fun i => ∃ k : Nat, k ≤ n ∧ i = .int .i64 k ∧ (∀ j, j < k → (L.getD j 0 == s) = false)) (fun i => n - (intOf i).toNat)
  case atStart => exact ⟨0, Nat.zero_le _, rfl, fun j hj => by omega⟩
  case round =>
    obtain ⟨k, hk, rfl, hno⟩ := hrel
    have HNO : Hid (∀ j, j < k → (L.getD j 0 == s) = false) := hno
    clear hno
    by_cases hlt : k < n
    · have ce := hL k (by omega)
      have hmem := getD_mem (L := L) (i := k) (by omega)
      obtain ⟨x, hx⟩ : ∃ x, x = L.getD k 0 := ⟨_, rfl⟩
      rw [← hx] at ce hmem
      have HX : Hid (x = L.getD k 0) := hx
      have HM : Hid (x ∈ L) := hmem
      clear hx hmem
      cases hxs : (x == s)
      · have HXS : Hid ((x == s) = false) := hxs
        go_wp2
        go_round
        case rel =>
          refine ⟨k + 1, by omega, by go_num, fun j hj => ?_⟩
          by_cases e : j = k
          · subst e; rw [← HX.out]; exact HXS.out
          · exact HNO.out j (by omega)
        case measure => simp [intOf]; omega
      · have hin : decide (s ∈ L) = true := by
          have : x = s := by simpa using hxs
          rw [← this]; simpa using HM.out
        have HIN : Hid (decide (s ∈ L) = true) := hin
        clear hin
        go_wp2
        go_ret
        exact ⟨by rw [HIN.out]; rfl, rfl⟩
    · go_wp2
      go_ret
      have hin : decide (s ∈ L) = false := by
        simp only [decide_eq_false_iff_not]
        intro hm
        obtain ⟨i, hi, e⟩ := List.getElem_of_mem hm
        have := HNO.out i (by omega)
        rw [getD_at hi, e] at this
        simp at this
      exact ⟨by rw [hin]; rfl, rfl⟩

set_option maxHeartbeats 400000 in
theorem in_none (ao : Option Addr) (c : Nat) (s : Int) (w : World) :
    Calls Try.prog 17 #[.slice ao 0 c, .int .i64 s] w fun e w' => e = .returned (.bool false) ∧ w' = w := by
  go_enter Try.func17, Try.ntmps17
  go_wp2
  refine wp_loop_rounds 1 ?_
  rw [rounds_succ]
  go_wp2
  go_ret
  exact ⟨rfl, rfl⟩

theorem in_any (lo : Option Addr) (c : Nat) (L : List Int) (s : Int) (w : World) (h8 : L.length ≤ 8) (hL : ListAt w lo L) :
    Calls Try.prog 17 #[.slice lo L.length c, .int .i64 s] w fun e w' => e = .returned (.bool (decide (s ∈ L))) ∧ w' = w := by
  rcases hL with rfl | ⟨b, off, rfl, _, hL⟩
  · simpa using in_none lo c s w
  · exact in_some b off L.length c L s w rfl h8 hL

/-- Links, as cells. -/
def linkCells (ls : List Lk) : List Value := ls.flatMap (fun l => [.int .i64 l.a, .int .i64 l.b, .int .i64 l.c])
theorem linkCells_len : ∀ ls : List Lk, (linkCells ls).length = ls.length * 3
  | [] => rfl
  | l :: r => by
    have ih := linkCells_len r
    have e : linkCells (l :: r) = [Value.int .i64 l.a, .int .i64 l.b, .int .i64 l.c] ++ linkCells r := by simp [linkCells]
    rw [e, List.length_append, ih]
    simp
    omega
theorem linkCells_snoc (ls : List Lk) (l : Lk) : linkCells (ls ++ [l]) = linkCells ls ++ [.int .i64 l.a, .int .i64 l.b, .int .i64 l.c] := by simp [linkCells]
theorem linkCells_one (ls : List Lk) : ∀ u ∈ linkCells ls, u.oneCell' = true := by
  intro u hu
  simp only [linkCells, List.mem_flatMap, List.mem_cons, List.not_mem_nil, or_false] at hu
  obtain ⟨l, _, rfl | rfl | rfl⟩ := hu <;> rfl
theorem linkCells_at : ∀ (ls : List Lk) (k : Nat), k < ls.length → (linkCells ls)[k * 3]? = some (.int .i64 (ls.getD k lk0).a) ∧ (linkCells ls)[k * 3 + 1]? = some (.int .i64 (ls.getD k lk0).b) ∧ (linkCells ls)[k * 3 + 2]? = some (.int .i64 (ls.getD k lk0).c)
  | [], _, h => by simp at h
  | l :: r, 0, _ => by simp [linkCells]
  | l :: r, k + 1, h => by
    have ih := linkCells_at r k (by simpa using h)
    have e : linkCells (l :: r) = [Value.int .i64 l.a, .int .i64 l.b, .int .i64 l.c] ++ linkCells r := by simp [linkCells]
    rw [e, show (k + 1) * 3 = 3 + k * 3 by omega]
    simp only [List.getElem?_append, List.length_cons, List.length_nil]
    rw [if_neg (by omega), if_neg (by omega), if_neg (by omega)]
    simpa [show 3 + k * 3 - 3 = k * 3 by omega, show 3 + k * 3 + 1 - 3 = k * 3 + 1 by omega, show 3 + k * 3 + 2 - 3 = k * 3 + 2 by omega] using ih
theorem links_cells {w : World} {b off : Nat} {ls : List Lk} (h : LinksAt w b off ls) : ∀ j u, (linkCells ls)[j]? = some u → w.cell? ((⟨b, off, none⟩ : Addr).add j) = some u := by
  intro j u hu
  have hj : j < ls.length * 3 := by
    rw [← linkCells_len]
    exact (List.getElem?_eq_some_iff.1 hu).1
  have hadd : (⟨b, off, none⟩ : Addr).add j = ⟨b, off + j, none⟩ := by unfold Addr.add; split <;> simp_all
  rw [hadd]
  have hk : j / 3 < ls.length := by omega
  obtain ⟨h0, h1, h2⟩ := h (j / 3) hk
  obtain ⟨c0, c1, c2⟩ := linkCells_at ls (j / 3) hk
  rcases (show j = j / 3 * 3 ∨ j = j / 3 * 3 + 1 ∨ j = j / 3 * 3 + 2 by omega) with e | e | e
  · rw [e] at hu ⊢
    rw [c0] at hu; rw [h0]; exact hu
  · rw [e] at hu ⊢
    rw [c1] at hu; rw [← Nat.add_assoc, h1]; exact hu
  · rw [e] at hu ⊢
    rw [c2] at hu; rw [← Nat.add_assoc, h2]; exact hu
/-- What the call has appended are links of a net. -/
theorem links_own {w : World} {base g cap : Nat} {ls : List Lk} (h : w.ownsRow base 43 3 (.slice (some ⟨g, 0, none⟩) ls.length cap) ls.length (linkCells ls)) : LinksAt w g 0 ls := by
  intro k hk
  obtain ⟨c0, c1, c2⟩ := linkCells_at ls k hk
  rw [Nat.zero_add]
  exact ⟨(h.cellAt _ (by omega)).trans c0, (h.cellAt _ (by omega)).trans c1, (h.cellAt _ (by omega)).trans c2⟩

end Go.Proofs.Ytbfgioinjggkkaa
