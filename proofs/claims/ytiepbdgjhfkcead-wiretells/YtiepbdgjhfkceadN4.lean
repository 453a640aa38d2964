/- Bytes in memory; what the sum of bytes is. -/
import Derived.Test.YtiepbdgjhfkceadN3
import Derived.Laws.BitsAllLaws
namespace Go.Proofs.Ytiepbdgjhfkcead.Wi
open Go.RowKit Go.Maps Go.Deep Tb Rul

/-- Bytes lie where a slice says. -/
def ByAt (w : World) (ao : Option Addr) (bs : List Nat) : Prop :=
  bs = [] ∨ ∃ g off, ao = some ⟨g, off, none⟩ ∧ g < w.heap.size ∧ ∀ k, k < bs.length → w.cell? ⟨g, off + k, none⟩ = some (.int .u8 ((bs.getD k 0 : Nat) : Int))
theorem ByAt.ext {w w' : World} {ao : Option Addr} {bs : List Nat} (h : ByAt w ao bs) (E : Ext w w') : ByAt w' ao bs := by
  rcases h with h | ⟨g, off, h1, h2, h3⟩
  · exact Or.inl h
  · exact Or.inr ⟨g, off, h1, Nat.lt_of_lt_of_le h2 E.size, fun k hk => (E.cells.1 _ _ h2).trans (h3 k hk)⟩
theorem ByAt.get {w : World} {ao : Option Addr} {bs : List Nat} (h : ByAt w ao bs) (hk : 0 < bs.length) : ∃ g off, ao = some ⟨g, off, none⟩ ∧ g < w.heap.size ∧ ∀ k, k < bs.length → w.cell? ⟨g, off + k, none⟩ = some (.int .u8 ((bs.getD k 0 : Nat) : Int)) := by
  rcases h with h | h
  · rw [h] at hk; simp at hk
  · exact h
/-- A part of them. -/
theorem ByAt.part {w : World} {g off : Nat} {bs : List Nat} (h : ∀ k, k < bs.length → w.cell? ⟨g, off + k, none⟩ = some (.int .u8 ((bs.getD k 0 : Nat) : Int))) (hg : g < w.heap.size) (lo hi : Nat) (hh : hi ≤ bs.length) : ByAt w (some ⟨g, off + lo, none⟩) ((bs.take hi).drop lo) := by
  refine Or.inr ⟨g, off + lo, rfl, hg, fun k hk => ?_⟩
  simp only [List.length_drop, List.length_take] at hk
  rw [Nat.add_assoc, h (lo + k) (by omega)]
  have : ((bs.take hi).drop lo).getD k 0 = bs.getD (lo + k) 0 := by
    simp only [List.getD_eq_getElem?_getD, List.getElem?_drop, List.getElem?_take]
    rw [if_pos (by omega)]
  rw [this]
def bcs (bs : List Nat) : List Value := bs.map (fun n : Nat => Value.int .u8 (n : Int))
theorem bcs_append (x y : List Nat) : bcs (x ++ y) = bcs x ++ bcs y := by simp [bcs]
theorem bcs_len (x : List Nat) : (bcs x).length = x.length := by simp [bcs]
theorem bcs_one (bs : List Nat) : ∀ u ∈ bcs bs, u.oneCell' = true := by
  intro u hu
  simp only [bcs, List.mem_map] at hu
  obtain ⟨n, _, rfl⟩ := hu
  rfl
/-- Bytes of one's own, in a row of one's own. -/
def BO (w : World) (base : Nat) (v : Value) (bs : List Nat) : Prop := w.ownsRow base 5 1 v bs.length (bcs bs)
theorem BO.form {w : World} {base : Nat} {v : Value} {bs : List Nat} (h : BO w base v bs) : ∃ ao cap, v = .slice ao bs.length cap ∧ ByAt w ao bs ∧ (ao = none → bs = [] ∧ cap = 0) ∧ bs.length ≤ cap ∧ cap ≤ maxLen := by
  rcases h.2 with ⟨hv, h0⟩ | ⟨g, cap, cur, hv, hb, hg, hn, hm, hc, ht⟩
  · exact ⟨none, 0, by rw [h0]; exact hv, Or.inl (List.eq_nil_of_length_eq_zero h0), fun _ => ⟨List.eq_nil_of_length_eq_zero h0, rfl⟩, by omega, Nat.zero_le _⟩
  · refine ⟨some ⟨g, 0, none⟩, cap, hv, Or.inr ⟨g, 0, rfl, (Array.getElem?_eq_some_iff.1 hg).1, fun k hk => ?_⟩, (fun h => by cases h), hn, hm⟩
    have hu : (bcs bs)[k]? = some (.int .u8 ((bs.getD k 0 : Nat) : Int)) := by simp [bcs, List.getD_eq_getElem?_getD, hk]
    rw [← ht, List.getElem?_take_of_lt (by omega)] at hu
    simp [World.cell?, hg]
    simpa using hu
theorem BO.ext {w w' : World} {base : Nat} {v : Value} {bs : List Nat} (h : BO w base v bs) (k : Ext w w') : BO w' base v bs := by
  refine ⟨h.1, ?_⟩
  rcases h.2 with h2 | ⟨g, cap, cur, h1, h2, h3, h4⟩
  · exact Or.inl h2
  · exact Or.inr ⟨g, cap, cur, h1, h2, (Below.block k g (Array.getElem?_eq_some_iff.1 h3).1).trans h3, h4⟩
theorem BO.block {w : World} {base : Nat} {v : Value} {bs : List Nat} (h : BO w base v bs) : ∀ k, v.ownBlock = some k → base ≤ k ∧ k < w.heap.size := h.lt
theorem infoB : (Try.prog.info? 5).map (fun i => (i.zero, i.size, i.bytes)) = some (some (.int .u8 0), 1, 1) := by kernel_rfl
theorem infoB' : ∃ i, Try.prog.info? 5 = some i ∧ i.zero = some (.int .u8 0) ∧ i.size = 1 ∧ i.bytes = 1 := by
  have h := infoB
  cases e : Try.prog.info? 5 with
  | none => rw [e] at h; simp at h
  | some i => rw [e] at h; simp at h; exact ⟨i, rfl, h.1, h.2.1, h.2.2⟩
theorem ByAt.news {w : World} {a : Addr} {bs : List Nat} (h : ByAt w (some a) bs) : ∀ j u, (bcs bs)[j]? = some u → w.cell? (a.add j) = some u := by
  rcases h with h0 | ⟨g, off, h1, h2, h3⟩
  · intro j u hu; rw [h0] at hu; simp [bcs] at hu
  · cases h1
    intro j u hu
    have hj : j < bs.length := by have := (List.getElem?_eq_some_iff.1 hu).1; rwa [bcs_len] at this
    rw [add_none, h3 j hj]
    have : (bcs bs)[j]? = some (.int .u8 ((bs.getD j 0 : Nat) : Int)) := by simp [bcs, List.getD_eq_getElem?_getD, hj]
    rw [← this, hu]
/-- Bytes appended to a row of one's own. -/
theorem append_bytes {W : World} {base : Nat} {v : Value} {bs ns : List Nat} {ad : Addr} {lb cb : Nat} (ho : BO W base v bs) (hb : ByAt W (some ad) ns) (hl : ns.length = lb) (hbase : base ≤ W.heap.size) (hn : bs.length + lb ≤ 140737488355328) :
    ∃ v' W', (∀ ty, (Builtin.append_ #[26, 26] ty #[v, .slice (some ad) lb cb]).run Try.prog W = .ok v' W') ∧ BO W' base v' (bs ++ ns) ∧ W.grownBy W' v.ownBlock := by
  obtain ⟨i3, hi3, hz0, hz1, hz2⟩ := infoB'
  obtain ⟨v', W', hr, h2, h3, _⟩ := run_append_own (P := Try.prog) W base 26 26 5 i3 (.int .u8 0) 1 1 Try.underlying26 hi3 hz0 hz1 hz2 rfl (by decide) v bs.length (bcs bs) ho ad lb cb (bcs ns) (by rw [bcs_len, hl]; omega) hb.news (bcs_one ns) (by unfold maxLen; omega) (by omega) hbase
  refine ⟨v', W', fun ty => hr, ?_, h3⟩
  unfold BO
  rw [bcs_append, List.length_append, hl]
  exact h2
theorem BO.grown {w W W' : World} {base : Nat} {v : Value} {bs : List Nat} (E : Ext w W) (ho : BO W base v bs) (hb : w.heap.size ≤ base) (hg : W.grownBy W' v.ownBlock) : Ext w W' :=
  Below.grown E hg E.size (fun j hj => Nat.le_trans hb (ho.block j hj).1)

theorem rot_all : ∀ f : Fin 256, (f.val * 2 % 256 ||| f.val / 128) = 2 * f.val % 256 + f.val / 128 := by decide +kernel
theorem rot_bits (s : Nat) (hs : s < 256) : bits BinOp.or IntKind.u8 ((s : Int) * 2 % 256) ((s : Int) / 128) = ((2 * s % 256 + s / 128 : Nat) : Int) := by
  have e1 : (s : Int) * 2 % 256 = ((s * 2 % 256 : Nat) : Int) := by omega
  have e2 : (s : Int) / 128 = ((s / 128 : Nat) : Int) := by omega
  rw [e1, e2, u8_or_nat _ _ (by omega) (by omega)]
  exact congrArg _ (rot_all ⟨s, hs⟩)

set_option maxHeartbeats 1000000 in
theorem rot_any (s : Nat) (hs : s < 256) (w : World) :
    Calls Try.prog 26 #[.int .u8 (s : Int), .int .i64 1] w fun e w' => e = .returned (.int .u8 ((2 * s % 256 + s / 128 : Nat) : Int)) ∧ w' = w := by
  have hb : bits BinOp.and IntKind.u64 1 7 = 1 := by decide
  go_enter Try.func26, Try.ntmps26
  go_wp2
  go_ret
  exact ⟨by rw [← rot_bits s hs]; rfl, rfl⟩

theorem sum_step {bs : List Nat} {k : Nat} (hk : k < bs.length) : Wir.sum (bs.take (k + 1)) = (2 * Wir.sum (bs.take k) % 256 + Wir.sum (bs.take k) / 128 + bs.getD k 0) % 256 := by
  have e : bs.getD k 0 = bs[k] := by simp [List.getD_eq_getElem?_getD, hk]
  rw [List.take_succ_eq_append_getElem hk, e, Wir.sum, Wir.sumFrom_append]
  rfl

set_option maxRecDepth 100000 in
set_option maxHeartbeats 1000000 in
theorem sum_any (ao : Option Addr) (len cap : Nat) (bs : List Nat) (w : World) (hlen : bs.length = len) (hf : ByAt w ao bs) (hb : ∀ x ∈ bs, x < 256) (hl : len ≤ 4611686018427387904) :
    Calls Try.prog 20 #[.slice ao len cap] w fun e w' => e = .returned (.int .u8 ((Wir.sum bs : Nat) : Int)) ∧ w' = w := by
  go_enter Try.func20, Try.ntmps20
  go_wp2
  go_loop [3, 8] (fun sv iv => ∃ k s : Nat, k ≤ len ∧ iv = .int .i64 k ∧ sv = .int .u8 (s : Int) ∧ Hid (s = Wir.sum (bs.take k))) (fun _ iv => len - (intOf iv).toNat)
  case atStart => exact ⟨0, 0, Nat.zero_le _, rfl, rfl, rfl⟩
  case round =>
    obtain ⟨k, s, hk, rfl, rfl, HS⟩ := hrel
    have hs : s < 256 := by rw [HS.out]; exact Wir.sum_lt _
    by_cases hlt : k < len
    · obtain ⟨g, off, rfl, hg, hcs⟩ := hf.get (by omega)
      have i1 : (k : Int) < (len : Int) := by omega
      have HST : Hid _ := sum_step (bs := bs) (k := k) (by omega)
      have c0 := hcs k (by omega)
      have hc : bs.getD k 0 < 256 := hb _ (by simp only [List.getD_eq_getElem?_getD, List.getElem?_eq_getElem (show k < bs.length by omega), Option.getD_some]; exact List.getElem_mem _)
      obtain ⟨c, hce⟩ : ∃ c, bs.getD k 0 = c := ⟨_, rfl⟩
      rw [hce] at c0 HST hc
      rw [← HS.out] at HST
      clear hce hcs HS
      go_wp2_with (go_at_call 26; refine (rot_any _ hs _).mono ?_; rintro e w1 ⟨rfl, rfl⟩)
      exact ⟨⟨k + 1, (2 * s % 256 + s / 128 + c) % 256, by omega, by go_num, by go_num, HST.out.symm⟩, by simp [intOf]; omega⟩
    · have hfin : s = Wir.sum bs := by have := HS.out; rwa [List.take_of_length_le (by omega)] at this
      clear HS
      have HF : Hid _ := hfin
      clear hfin
      go_wp2
      go_ret
      exact ⟨by rw [← HF.out]; first | done | rfl, rfl⟩

end Go.Proofs.Ytiepbdgjhfkcead.Wi
