/- What the law WireSpoilt answers, for every order, place and byte: true; nothing that was there is changed. -/
import Derived.Test.YtiepbdgjhfkceadWS
import Derived.Lib.AppendZeros
namespace Go.Proofs.Ytiepbdgjhfkcead.Wi
open Go.RowKit Go.Maps Go.Deep Go.Sort Tb Rul

theorem own_emptyB {W : World} {base g : Nat} (hb : base ≤ g) (h : W.heap[g]? = some (.cells #[] 5 (0, 0))) : BO W base (.slice (some ⟨g, 0, none⟩) 0 0) [] :=
  ⟨by simp [bcs], Or.inr ⟨g, 0, #[], rfl, hb, h, Nat.le_refl _, Nat.zero_le _, rfl, rfl⟩⟩
/-- One byte of one's own is changed. -/
theorem BO.poke {w : World} {base n : Nat} {v : Value} {bs : List Nat} (h : BO w base v bs) (hn : bs.length = n) {i : Nat} (hi : i < n) :
    ∃ g cap, v = .slice (some ⟨g, 0, none⟩) n cap ∧ base ≤ g ∧ g < w.heap.size ∧ n ≤ cap ∧ cap ≤ 9223372036854775807 ∧ w.cell? ⟨g, i, none⟩ = some (.int .u8 ((bs.getD i 0 : Nat) : Int)) ∧ w.frozen? ⟨g, i, none⟩ = false ∧ ∀ x : Nat, ByAt (w.setCell ⟨g, i, none⟩ (.int .u8 (x : Int))) (some ⟨g, 0, none⟩) (bs.set i x) := by
  rcases h.2 with ⟨hv, h0⟩ | ⟨g, cap, cur, hv, hb, hg, hle, hm, hc, ht⟩
  · omega
  · have hlt := (Array.getElem?_eq_some_iff.1 hg).1
    have hcell : ∀ k, k < bs.length → w.cell? ⟨g, k, none⟩ = some (.int .u8 ((bs.getD k 0 : Nat) : Int)) := fun k hk => by
      have hu : (bcs bs)[k]? = some (.int .u8 ((bs.getD k 0 : Nat) : Int)) := by simp [bcs, List.getD_eq_getElem?_getD, hk]
      rw [← ht, List.getElem?_take_of_lt (by omega)] at hu
      simp [World.cell?, hg]
      simpa using hu
    refine ⟨g, cap, by rw [← hn]; exact hv, hb, hlt, by omega, by unfold maxLen at hm; omega, hcell i (by omega), by simp [World.frozen?, hg], fun x => ?_⟩
    have hsz : (w.setCell ⟨g, i, none⟩ (.int .u8 (x : Int))).heap.size = w.heap.size := by simp [World.setCell]
    refine Or.inr ⟨g, 0, rfl, by rw [hsz]; exact hlt, fun k hk => ?_⟩
    rw [List.length_set] at hk
    rw [Nat.zero_add]
    by_cases hki : k = i
    · subst hki
      rw [World.cell?_setCell_same _ _ _ (hcell k hk)]
      simp [List.getD_eq_getElem?_getD, hk]
    · rw [World.cell?_setCell_other _ _ _ _ (fun he => hki (by injection he with _ h2; exact h2.symm)), hcell k hk]
      simp [List.getD_eq_getElem?_getD, List.getElem?_set_ne (Ne.symm hki)]
theorem byte_nat {a : Int} (h : (Lit.int .u8 a).wf = true) : ∃ y : Nat, a = (y : Int) ∧ y < 256 := by
  simp only [Lit.wf, Bool.and_eq_true, decide_eq_true_eq] at h
  have e1 : IntKind.u8.min = 0 := by decide
  have e2 : IntKind.u8.max = 255 := by decide
  rw [e1, e2] at h
  exact ⟨a.toNat, by omega, by omega⟩
theorem xor_ne {b y : Nat} (hy : y ≠ 0) : b ^^^ y ≠ b := fun h => hy (by
  have h2 : b ^^^ (b ^^^ y) = b ^^^ b := by rw [h]
  rwa [← Nat.xor_assoc, Nat.xor_self, Nat.zero_xor] at h2)
theorem spoilt_at {o : Wir.Od} (h : Wir.wrong o = 0) {i y : Nat} (hi : i < (Wir.full o).length) (hy8 : y < 256) (hy : y ≠ 0) : Wir.parse ((Wir.full o).set i ((Wir.full o).getD i 0 ^^^ y)) = (Wir.od0, 2) := by
  have e : (Wir.full o).getD i 0 = (Wir.full o)[i] := by simp [List.getD_eq_getElem?_getD, hi]
  have h8 := Wir.full_lt h _ (List.getElem_mem hi)
  rw [e]
  exact Wir.spoilt h hi (Nat.xor_lt_two_pow (n := 8) h8 hy8) (xor_ne hy)

set_option maxRecDepth 100000 in
set_option maxHeartbeats 1600000 in
theorem wireSpoilt_any (o : Wir.Od) (ro fo : Option Addr) (rc fc : Nat) (at' : Int) (y : Nat) (hy8 : y < 256) (w : World) (h : OAt w o ro fo) :
    Calls Try.prog 5 #[ovl o ro fo rc fc, .int .i64 at', .int .u8 (y : Int)] w fun e w' => e = .returned (.bool true) ∧ Ext w w' := by
  have HY : Hid _ := Bytes_any o ro fo rc fc
  obtain ⟨B, hB⟩ : ∃ B, B = w.alloc (.cells #[.int .i64 o.k, .int .i64 o.n, .int .i64 o.v, .slice ro o.rs.length rc, .slice fo o.fs.length fc] 25) := ⟨_, rfl⟩
  have hE0 : Ext w B := by rw [hB]; exact (Ext.refl w).alloc _
  obtain ⟨bs, hbs⟩ : ∃ bs, bs = (Wir.bts o).1 := ⟨_, rfl⟩
  rw [← hbs] at HY
  obtain ⟨x, hx⟩ : ∃ x, x = Wir.wrong o := ⟨_, rfl⟩
  rw [← hx] at HY
  have HSP : Hid (x = 0 → bs.length ≤ 1000 ∧ (∀ z ∈ bs, z < 256) ∧ ∀ i, i < bs.length → y ≠ 0 → Wir.parse (bs.set i (bs.getD i 0 ^^^ y)) = (Wir.od0, 2)) := fun h0 => by
    have hw : Wir.wrong o = 0 := by rw [← hx]; exact h0
    rw [hbs, bts_right hw]
    refine ⟨?_, Wir.full_lt hw, fun i hi hy => spoilt_at hw hi hy8 hy⟩
    obtain ⟨_, hk⟩ := Wir.right_cases hw
    rw [Wir.full_len]
    rcases hk with ⟨e, h1, _⟩ | ⟨e, h1, _⟩ | e
    · rw [if_pos e]; omega
    · rw [if_neg (by omega), if_pos e]; omega
    · rw [if_neg (by omega), if_neg (by omega)]; omega
  have HO : Hid _ := h
  clear hbs hx h
  obtain ⟨k, n, v, rs, fs⟩ := o
  unfold ovl at HY ⊢
  have HK : Hid (∀ W, Ext B W → BoxAt w.heap.size W k n v (.slice ro rs.length rc) (.slice fo fs.length fc)) := fun W hW => box_kept hB hW
  simp only at hB
  go_enter Try.func5, Try.ntmps5
  go_wp2_with fail
  rw [← hB]
  refine (alive_any _).mono ?_
  rintro e w1 ⟨rfl, E1⟩
  obtain ⟨b0, b1, b2, b3, b4⟩ := HK.out _ E1
  clear hB
  go_wp2_with fail
  refine (HY.out _ (HO.out.ext (hE0.trans E1))).mono ?_
  rintro e w2 ⟨v', rfl, hBO, E2⟩
  obtain ⟨L, hL⟩ : ∃ L, bs.length = L := ⟨_, rfl⟩
  obtain ⟨bo, bc, rfl, hat, hnil, _, _⟩ := BO.slice hBO hL
  have HL : Hid _ := hL
  have hE2 := hE0.trans (E1.trans E2)
  clear b0 b1 b2 b3 b4 hL hBO HY HO HK
  by_cases hx0 : x = 0
  · obtain ⟨hl1, hb8, hsp⟩ := HSP.out hx0
    subst hx0
    rw [HL.out] at hl1 hsp
    have HB8 : Hid (∀ z ∈ bs, z < 256) := hb8
    have HPS : Hid (∀ i, i < L → y ≠ 0 → Wir.parse (bs.set i (bs.getD i 0 ^^^ y)) = (Wir.od0, 2)) := hsp
    clear HSP hb8 hsp
    by_cases ha0 : at' < 0
    · go_wp2
      go_ret
      exact ⟨rfl, hE2⟩
    · obtain ⟨i, rfl⟩ : ∃ i : Nat, at' = (i : Int) := ⟨at'.toNat, by omega⟩
      by_cases hiL : i < L
      · have i1 : (i : Int) < (L : Int) := by omega
        have i2 : ¬ (L : Int) ≤ (i : Int) := by omega
        have d1 : decide ((i : Int) < 0) = false := decide_eq_false (by omega)
        have d2 : decide (L ≤ i) = false := decide_eq_false (by omega)
        by_cases hy0 : y = 0
        · subst hy0
          go_wp2
          go_ret
          exact ⟨rfl, hE2⟩
        · have hy1 : ((y : Int) == 0) = false := by simp; omega
          have HP : Hid _ := HPS.out i hiL hy0
          have hbo : ∃ ad, bo = some ad := by
            cases bo with
            | none => have := (hnil rfl).1; rw [← HL.out, this] at hiL; simp at hiL
            | some ad => exact ⟨ad, rfl⟩
          obtain ⟨ad, rfl⟩ := hbo
          have hO0 : BO (w2.alloc (.cells #[] 5)) w2.heap.size (.slice (some ⟨w2.heap.size, 0, none⟩) 0 0) [] := own_emptyB (Nat.le_refl _) (heap_alloc_new w2 _)
          obtain ⟨v3, w3, hrun3, hO3, hg3⟩ := append_bytes (cb := bc) hO0 (hat.ext ((Ext.refl w2).alloc _)) HL.out (by simp) (by simp; omega)
          have hE3 : Ext w2 w3 := Below.grown ((Ext.refl w2).alloc _) hg3 (by simp) (fun j hj => (BO.block hO0 j hj).1)
          rw [List.nil_append] at hO3
          obtain ⟨g, gc, rfl, hgb, hgl, hgc, hgm, hcell, hfrz, hset⟩ := BO.poke hO3 HL.out hiL
          have hb1 : bs.getD i 0 < 256 := getD_lt HB8.out i
          obtain ⟨b, hbe⟩ : ∃ b, b = bs.getD i 0 := ⟨_, rfl⟩
          rw [← hbe] at hcell HP hb1
          have hxor : bits BinOp.xor IntKind.u8 (b : Int) (y : Int) = ((b ^^^ y : Nat) : Int) := u8_xor_nat b y hb1 hy8
          have hz8 : b ^^^ y < 256 := Nat.xor_lt_two_pow (n := 8) hb1 hy8
          obtain ⟨z, hz⟩ : ∃ z, z = b ^^^ y := ⟨_, rfl⟩
          rw [← hz] at hxor HP hz8
          have HST : Hid _ := hset z
          have HG : Hid (w2.heap.size ≤ g) := hgb
          clear hO0 hg3 hO3 hset hbe hz hy0 hb1 hnil hat hgb
          go_wp2_with (first | (at_builtin; refine Lib.wpList_append_run _ rfl (.tmp 33) (.tmp 34) _ _ rfl _ _ rfl rfl _ _ (hrun3 _) ?_) | fail)
          clear hrun3
          have hlen : (bs.set i z).length = L := by rw [List.length_set, HL.out]
          refine (Parse_any (some ⟨g, 0, none⟩) L gc (bs.set i z) _ hlen HST.out (fun q hq => ?_) (by omega) hgc hgm).mono ?_
          · rcases List.mem_or_eq_of_mem_set hq with hq | hq
            · exact HB8.out q hq
            · omega
          intro e w4 h4
          rw [HP.out] at h4
          obtain ⟨ro4, fo4, rc4, fc4, he, _, E4⟩ := h4
          have he' : e = .returned (.tuple #[.agg #[.int .i64 0, .int .i64 0, .int .i64 0, .slice ro4 0 rc4, .slice fo4 0 fc4], .int .i64 2]) := he
          subst he'
          have hE4 : Ext w w4 := (hE2.trans (hE3.setCell HG.out _)).trans E4
          clear he HST HP
          go_wp2
          go_ret
          exact ⟨rfl, hE4⟩
      · have i2 : (L : Int) ≤ (i : Int) := by omega
        go_wp2
        go_ret
        exact ⟨rfl, hE2⟩
  · have hx1 : (x != 0) = true := by simpa using hx0
    clear HSP hx0
    go_wp2
    go_ret
    exact ⟨rfl, hE2⟩

end Go.Proofs.Ytiepbdgjhfkcead.Wi
