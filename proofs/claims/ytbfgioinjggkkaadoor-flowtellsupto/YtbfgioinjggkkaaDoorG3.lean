/- What readList answers, for every text; nothing that was there is changed. -/
import Derived.Test.YtbfgioinjggkkaaDoorG2
namespace Go.Proofs.YtbfgioinjggkkaaDoor
open Go.RowKit Stf

theorem parts_take {P : List ByteArray} {L : List Bs} (h : P.map (·.data.toList) = L) {k : Nat} (hk : k < P.length) : L.take (k + 1) = L.take k ++ [P[k].data.toList] := by
  subst h
  rw [List.take_add_one, List.getElem?_map, List.getElem?_eq_getElem hk]; rfl
theorem parts_mem {P : List ByteArray} {L : List Bs} (h : P.map (·.data.toList) = L) {k : Nat} (hk : k < P.length) : P[k].data.toList ∈ L := by
  subst h; exact List.mem_map.2 ⟨_, List.getElem_mem hk, rfl⟩

/-- A block of numbers. -/
def IB (w : World) (b : Nat) : Prop := ∃ c z, w.heap[b]? = some (.cells c 3 z)
theorem IB.lt {w : World} {b : Nat} (h : IB w b) : b < w.heap.size := by
  obtain ⟨c, z, h⟩ := h
  exact (Array.getElem?_eq_some_iff.1 h).1
theorem IB.ext {w w' : World} {b : Nat} (h : IB w b) (k : Ext w w') : IB w' b := by
  have hl := h.lt
  obtain ⟨c, z, h⟩ := h
  exact ⟨c, z, (Below.block k b hl).trans h⟩
theorem IB.setCell {w : World} {b : Nat} (h : IB w b) {p : Addr} (hp : p.block ≠ b) (u : Value) : IB (w.setCell p u) b := by
  obtain ⟨c, z, h⟩ := h
  refine ⟨c, z, ?_⟩
  rw [← h]
  simp [World.setCell, Array.getElem?_modify, hp]
/-- A value that is a list of numbers that the call has made. -/
def LB (B : Nat) (w : World) (xs : List Int) (v : Value) : Prop := ∃ o c, v = .slice o xs.length c ∧ xs.length ≤ c ∧ (xs = [] ∨ ∃ b, o = some ⟨b, 0, none⟩ ∧ B ≤ b ∧ IB w b ∧ IntsAt w b 0 xs)
theorem LB.fv {B : Nat} {w : World} {xs : List Int} {v : Value} (h : LB B w xs v) : FV w xs v := by
  obtain ⟨o, c, h1, h2, h3⟩ := h
  refine ⟨o, c, h1, ?_, h2⟩
  rcases h3 with h3 | ⟨b, h4, _, h6, h7⟩
  · exact Or.inl h3
  · exact Or.inr ⟨b, 0, h4, h6.lt, h7⟩
theorem LB.ext {B : Nat} {w w' : World} {xs : List Int} {v : Value} (h : LB B w xs v) (k : Ext w w') : LB B w' xs v := by
  obtain ⟨o, c, h1, h2, h3⟩ := h
  refine ⟨o, c, h1, h2, ?_⟩
  rcases h3 with h3 | ⟨b, h4, h5, h6, h7⟩
  · exact Or.inl h3
  · exact Or.inr ⟨b, h4, h5, h6.ext k, fun i hi => (k.cells.1 _ _ h6.lt).trans (h7 i hi)⟩
theorem LB.setCell {B : Nat} {w : World} {xs : List Int} {v : Value} (h : LB B w xs v) {p : Addr} (hp : p.block < B) (u : Value) : LB B (w.setCell p u) xs v := by
  obtain ⟨o, c, h1, h2, h3⟩ := h
  refine ⟨o, c, h1, h2, ?_⟩
  rcases h3 with h3 | ⟨b, h4, h5, h6, h7⟩
  · exact Or.inl h3
  · refine Or.inr ⟨b, h4, h5, h6.setCell (by omega) _, fun i hi => (show (w.setCell p u).cell? ⟨b, 0 + i, none⟩ = w.cell? ⟨b, 0 + i, none⟩ from by rw [World.cell?_setCell_other]; intro e; rw [e] at hp; simp at hp; omega).trans (h7 i hi)⟩
/-- A row of something else that grows leaves it as it is. -/
theorem LB.grown {B : Nat} {w w' : World} {xs : List Int} {v : Value} (h : LB B w xs v) {g : Option Nat} (hg : w.grownBy w' g) (hne : ∀ b, g = some b → ¬ IB w b) : LB B w' xs v := by
  obtain ⟨o, c, h1, h2, h3⟩ := h
  refine ⟨o, c, h1, h2, ?_⟩
  rcases h3 with h3 | ⟨b, h4, h5, h6, h7⟩
  · exact Or.inl h3
  · have hb : w'.heap[b]? = w.heap[b]? := hg.block b h6.lt (fun e => hne b e.symm h6)
    obtain ⟨cs, z, h8⟩ := h6
    refine Or.inr ⟨b, h4, h5, ⟨cs, z, hb.trans h8⟩, fun i hi => ?_⟩
    rw [← h7 i hi]
    simp only [World.cell?, hb]
theorem LB.mono {B B' : Nat} {w : World} {xs : List Int} {v : Value} (h : LB B w xs v) (k : B' ≤ B) : LB B' w xs v := by
  obtain ⟨o, c, h1, h2, h3⟩ := h
  refine ⟨o, c, h1, h2, ?_⟩
  rcases h3 with h3 | ⟨b, h4, h5, h6, h7⟩
  · exact Or.inl h3
  · exact Or.inr ⟨b, h4, by omega, h6, h7⟩
theorem lb_of_own {w : World} {B base g n cap : Nat} {L : List Int} (h : w.ownsRow base 3 1 (.slice (some ⟨g, 0, none⟩) n cap) n (L.map (Value.int .i64))) (hB : B ≤ base) (hL : L.length = n) (hc : n ≤ cap) : LB B w L (.slice (some ⟨g, 0, none⟩) n cap) := by
  have hib : IB w g := by
    rcases h.2 with ⟨hnil, _⟩ | ⟨g', cap', cur, hv, hbase, hb, _⟩
    · cases hnil
    · cases hv
      exact ⟨cur, _, hb⟩
  refine ⟨_, _, by rw [hL], by omega, Or.inr ⟨g, rfl, by have := (h.lt g rfl).1; omega, hib, fun k hk => ?_⟩⟩
  rw [Nat.zero_add, h.cellAt k (by omega), List.getElem?_map, List.getElem?_eq_getElem hk]
  simp [List.getD_eq_getElem?_getD, hk]

set_option maxHeartbeats 1000000 in
theorem readList_not (s : ByteArray) (w : World) :
    Calls Tryd.prog 26 #[.string s, .bool false] w fun e w' => e = .returned (.tuple #[.slice none 0 0, .bool true]) ∧ w' = w := by
  go_enter Tryd.func26, Tryd.ntmps26
  go_wp2
  go_ret2
  exact ⟨rfl, rfl⟩

set_option maxHeartbeats 1000000 in
theorem readList_yes (s : ByteArray) (w : World) (hs : s.size ≤ 1000000) (hm : MaxAt w) :
    Calls Tryd.prog 26 #[.string s, .bool true] w fun e w' => Ext w w' ∧ ∃ v, e = .returned (.tuple #[v, .bool (nums (sp s.data.toList)).isSome]) ∧ LB w.heap.size w' ((nums (sp s.data.toList)).getD []) v := by
  obtain ⟨i3, hi3, hz0, hz1, hz2⟩ := info_parts Tryd.info3
  go_enter Tryd.func26, Tryd.ntmps26
  go_wp2_with (go_at_call 34; refine (split_parts s _ hs hm).mono ?_; rintro e w1 ⟨b, n, P, rfl, hn, hP, hb, hcell, hE⟩)
  have hlen : n ≤ 1000001 := by
    have h1 := sp_count s.data.toList
    rw [← hP, List.length_map, hn] at h1
    have h2 := (Lib.size_eq s).symm
    omega
  have hpl : ∀ k (h : k < P.length), P[k].size ≤ 1000000 := fun k h => by
    have h1 := sp_len (parts_mem hP h)
    have h2 := Lib.size_eq s
    have h3 := Lib.size_eq P[k]
    omega
  have HP := hid hP
  have HPL := hid hpl
  have HC := hid hcell
  clear hP hpl hcell
  go_loopw [6, 16] (fun v iv wr => ∃ (k : Nat) (xs : List Int), k ≤ n ∧ iv = .int .i64 k ∧ nums ((sp s.data.toList).take k) = some xs ∧ xs.length = k ∧ wr.ownsRow w1.heap.size 3 1 v k (xs.map (Value.int .i64)) ∧ Ext w1 wr) (fun _ iv _ => n - (intOf iv).toNat)
  case atStart => exact ⟨0, [], Nat.zero_le _, rfl, rfl, rfl, World.ownsRow_nil _ _ _ _, Ext.refl _⟩
  case round =>
    obtain ⟨k, xs, hk, rfl, hxs, hxl, hown, hext⟩ := hrel
    by_cases hlt : k < n
    · have hlt' : k < P.length := by omega
      have ce := (hext.cells.1 _ _ hb).trans (HC.out k hlt')
      have hps := HPL.out k hlt'
      have ht := parts_take HP.out hlt'
      have hmem := parts_mem HP.out hlt'
      have hbr : b < wr.heap.size := by have := hext.size; omega
      generalize P[k] = p at ce hps ht hmem
      have HT := hid ht
      have HM := hid hmem
      have HX := hid hxs
      clear ht hmem hxs
      cases hnp : num p.data.toList with
      | none =>
        have HN := hid hnp
        have e1 : numV p.data.toList = 0 := by simp [numV, hnp]
        clear hnp
        go_wp2_with (go_at_call 25; refine (readNumber_any p _ hps).mono ?_; rintro e w2 ⟨rfl, rfl⟩; rw [e1, HN.out])
        go_ret2
        have hz := nums_none HN.out HM.out
        exact ⟨hE.trans hext, _, by rw [hz]; rfl, none, 0, by rw [hz]; rfl, by rw [hz]; simp, Or.inl (by rw [hz]; rfl)⟩
      | some x =>
        have HN := hid (nums_snoc hnp HX.out)
        have e1 : numV p.data.toList = x := by simp [numV, hnp]
        have E2 := hid hnp
        clear hnp
        go_wp2_with (first | (go_at_call 25; refine (readNumber_any p _ hps).mono ?_; rintro e w2 ⟨rfl, rfl⟩; rw [e1, E2.out]) | (at_builtin; refine wpList_append_own _ rfl _ _ 36 rfl w1.heap.size 3 i3 (.int .i64 0) 1 8 Tryd.underlying36 hi3 hz0 hz1 hz2 rfl (by decide) _ _ _ rfl (hown.alloc _) ⟨w2.heap.size, 0, none⟩ 1 1 [.int .i64 x] rfl rfl ?c1 ?c2 ?c3 ?c4 ?c5 ?_) | go_in)
        case c1 =>
          intro i u hu
          match i, hu with
          | 0, hu => simp at hu; subst hu; exact cell_at rfl _ _
        case c2 => intro u hu; simp at hu; subst hu; rfl
        case c3 => unfold maxLen; omega
        case c4 => omega
        case c5 => have := hext.size; simp; omega
        · intro v' w5 hown5 hg5 _
          clear ce
          go_wp2
          go_roundw
          case rel =>
            refine ⟨k + 1, xs ++ [x], by omega, by go_num, by rw [HT.out]; exact HN.out, by simp [hxl], by rw [List.map_append]; simpa using hown5, ?_⟩
            exact Below.grown ((hext).alloc _) hg5 (by have := hext.size; simp; omega) (fun j hj => (hown.lt j hj).1)
          case measure => simp [intOf]; omega
    · have hkn : k = n := by omega
      have hall : (sp s.data.toList).take k = sp s.data.toList := List.take_of_length_le (by rw [← HP.out, List.length_map]; omega)
      rw [hall] at hxs
      have HX := hid hxs
      clear hxs hall
      have hq := hown.2
      rcases hq with ⟨rfl, hl0⟩ | ⟨g, gc, cur, rfl, _, _, hcap, _⟩
      · have he0 : xs = [] := List.eq_nil_of_length_eq_zero (by omega)
        subst he0
        go_wp2
        go_ret2
        exact ⟨hE.trans hext, _, by rw [HX.out]; rfl, none, 0, by rw [HX.out]; rfl, by rw [HX.out]; simp, Or.inl (by rw [HX.out]; rfl)⟩
      · have hlo := lb_of_own hown hE.size hxl (by omega)
        go_wp2
        go_ret2
        exact ⟨hE.trans hext, _, by rw [HX.out]; rfl, by rw [HX.out]; exact hlo⟩

theorem readList_any (s : ByteArray) (there : Bool) (w : World) (hs : s.size ≤ 1000000) (hm : MaxAt w) :
    Calls Tryd.prog 26 #[.string s, .bool there] w fun e w' => Ext w w' ∧ ∃ v, e = .returned (.tuple #[v, .bool (lst there s.data.toList).isSome]) ∧ LB w.heap.size w' ((lst there s.data.toList).getD []) v := by
  cases there
  · refine (readList_not s w).mono ?_
    rintro e w' ⟨rfl, rfl⟩
    exact ⟨Ext.refl _, _, rfl, none, 0, rfl, Nat.le_refl _, Or.inl rfl⟩
  · exact readList_yes s w hs hm

end Go.Proofs.YtbfgioinjggkkaaDoor
