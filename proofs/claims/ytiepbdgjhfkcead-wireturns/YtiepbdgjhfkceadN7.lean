/- The order of bytes, in words and in memory while it is made. -/
import Derived.Test.YtiepbdgjhfkceadN6
namespace Go.Proofs.Ytiepbdgjhfkcead.Wi
open Go.RowKit Go.Maps Go.Deep Tb Rul

theorem ofInt_i64 (a : Nat) (ha : a < 2147483648) : (BitVec.ofInt 64 (a : Int)).toNat = a := by
  rw [BitVec.ofInt_natCast, BitVec.toNat_ofNat]; exact Nat.mod_eq_of_lt (by omega)
theorem i64_or_nat (a b : Nat) (ha : a < 2147483648) (hb : b < 2147483648) : bits .or .i64 (a : Int) (b : Int) = ((a ||| b : Nat) : Int) := by
  have hx : a ||| b < 2 ^ 31 := Nat.or_lt_two_pow (by omega) (by omega)
  show IntKind.i64.wrap ((BitVec.ofInt 64 (a : Int) ||| BitVec.ofInt 64 (b : Int)).toNat : Int) = _
  rw [BitVec.toNat_or, ofInt_i64 a ha, ofInt_i64 b hb, IntKind.wrap_i64]
  omega
theorem or_mul (a b i m : Nat) (hm : m = 2 ^ i) (h : a < m) : (b * m) ||| a = b * m + a := by
  subst hm
  rw [← Nat.shiftLeft_eq, Nat.shiftLeft_add_eq_or_of_lt h]
theorem num_or (n0 n1 n2 : Nat) (h0 : n0 < 256) (h1 : n1 < 256) (h2 : n2 < 256) : bits .or .i64 (bits .or .i64 ((n0 : Int) * 65536) ((n1 : Int) * 256)) (n2 : Int) = ((65536 * n0 + 256 * n1 + n2 : Nat) : Int) := by
  have e0 : ((n0 : Int) * 65536) = ((n0 * 65536 : Nat) : Int) := by omega
  have e1 : ((n1 : Int) * 256) = ((n1 * 256 : Nat) : Int) := by omega
  rw [e0, e1, i64_or_nat _ _ (by omega) (by omega), or_mul (n1 * 256) n0 16 65536 (by simp) (by omega), i64_or_nat _ _ (by omega) (by omega)]
  have e2 : n0 * 65536 + n1 * 256 = (n0 * 256 + n1) * 256 := by rw [Nat.add_mul, Nat.mul_assoc]
  have e3 : (n0 * 256 + n1) * 256 + n2 = 65536 * n0 + 256 * n1 + n2 := by rw [← e2, Nat.mul_comm n0, Nat.mul_comm n1]
  rw [e2, or_mul n2 (n0 * 256 + n1) 8 256 (by simp) (by omega), e3]
theorem ver_or (v0 v1 : Nat) (h0 : v0 < 256) (h1 : v1 < 256) : bits .or .i64 ((v0 : Int) * 256) (v1 : Int) = ((256 * v0 + v1 : Nat) : Int) := by
  have e0 : ((v0 : Int) * 256) = ((v0 * 256 : Nat) : Int) := by omega
  have e3 : v0 * 256 + v1 = 256 * v0 + v1 := by omega
  rw [e0, i64_or_nat _ _ (by omega) (by omega), or_mul v1 v0 8 256 (by simp) (by omega), e3]

/-- The order of bytes, by their places. -/
def rdo (k n0 n1 n2 v0 v1 : Nat) (r : List Nat) : Wir.Od :=
  ⟨k, ((65536 * n0 + 256 * n1 + n2 : Nat) : Int), ((256 * v0 + v1 : Nat) : Int), if k = 1 then Wir.prs ((256 * v0 + v1 : Nat) : Int) (r.drop 1) else [], if k = 2 then Wir.ints (r.drop 1) else []⟩
theorem form_isb {k n0 n1 n2 v0 v1 : Nat} {r : List Nat} : Wir.form (k :: n0 :: n1 :: n2 :: v0 :: v1 :: r) = if isb k r = true then some (rdo k n0 n1 n2 v0 v1 r) else none := by
  have en : (65536 * (n0 : Int) + 256 * n1 + n2) = ((65536 * n0 + 256 * n1 + n2 : Nat) : Int) := by omega
  have ev : (256 * (v0 : Int) + v1) = ((256 * v0 + v1 : Nat) : Int) := by omega
  unfold Wir.form isb rdo
  by_cases h1 : k = 1
  · subst h1
    cases r with
    | nil => simp
    | cons c t =>
      by_cases h : t.length = 2 * c
      · simp only [if_true, h, en, ev, List.length_cons, List.getD_cons_zero, List.drop_succ_cons, List.drop_zero]
        rw [if_pos (decide_eq_true (by omega))]
        rfl
      · simp only [if_true, if_neg h, List.length_cons, List.getD_cons_zero]
        rw [if_neg (by rw [decide_eq_true_eq]; omega)]
  · by_cases h2 : k = 2
    · subst h2
      cases r with
      | nil => simp
      | cons c t =>
        by_cases h : t.length = c
        · simp only [if_true, if_neg h1, h, en, ev, List.length_cons, List.getD_cons_zero, List.drop_succ_cons, List.drop_zero]
          rw [if_pos (decide_eq_true (by omega))]
          rfl
        · simp only [if_true, if_neg h1, if_neg h, List.length_cons, List.getD_cons_zero]
          rw [if_neg (by rw [decide_eq_true_eq]; omega)]
    · cases r with
      | nil => simp only [if_neg h1, if_neg h2, en, ev, List.length_nil, decide_true, if_true]
      | cons c t => simp [h1, h2]
theorem prs_snoc {V : Int} {t : List Nat} : ∀ {j : Nat}, 2 * j + 1 < t.length → Wir.prs V (t.take (2 * (j + 1))) = Wir.prs V (t.take (2 * j)) ++ [(V, ((t.getD (2 * j) 0 : Nat) : Int), ((t.getD (2 * j + 1) 0 : Nat) : Int))]
  | 0, h => by
    match t, h with
    | a :: b :: t, _ => simp [Wir.prs]
  | j + 1, h => by
    match t, h with
    | a :: b :: t, h =>
      have ih := prs_snoc (V := V) (t := t) (j := j) (by simp at h; omega)
      have e1 : 2 * (j + 1 + 1) = 2 * (j + 1) + 1 + 1 := by omega
      have e2 : 2 * (j + 1) = 2 * j + 1 + 1 := by omega
      rw [e1, List.take_succ_cons, List.take_succ_cons, Wir.prs, ih, e2, List.take_succ_cons, List.take_succ_cons, Wir.prs]
      simp
theorem prs_le {V : Int} (j : Nat) {t : List Nat} (h : t.length = 2 * j) : (Wir.prs V t).length = j := (Wir.two_prs j h).2
theorem ints_snoc {t : List Nat} {j : Nat} (hj : j < t.length) : Wir.ints (t.take (j + 1)) = Wir.ints (t.take j) ++ [((t.getD j 0 : Nat) : Int)] := by
  rw [List.take_succ_eq_append_getElem hj, Wir.ints, List.map_append]
  have e : t.getD j 0 = t[j] := by simp [List.getD_eq_getElem?_getD, hj]
  rw [e]
  rfl

/-- An order's own cells, while it is made. -/
def OBk (w : World) (ob : Nat) (k n v : Int) (rv fv : Value) : Prop := w.heap[ob]? = some (.cells #[.int .i64 k, .int .i64 n, .int .i64 v, rv, fv] 25 (0, 0))
theorem OBk.lt {w : World} {ob : Nat} {k n v : Int} {rv fv : Value} (h : OBk w ob k n v rv fv) : ob < w.heap.size := (Array.getElem?_eq_some_iff.1 h).1
theorem OBk.cells {w : World} {ob : Nat} {k n v : Int} {rv fv : Value} (h : OBk w ob k n v rv fv) : w.cell? ⟨ob, 0, none⟩ = some (.int .i64 k) ∧ w.cell? ⟨ob, 1, none⟩ = some (.int .i64 n) ∧ w.cell? ⟨ob, 2, none⟩ = some (.int .i64 v) ∧ w.cell? ⟨ob, 3, none⟩ = some rv ∧ w.cell? ⟨ob, 4, none⟩ = some fv ∧ w.frozen? ⟨ob, 3, none⟩ = false ∧ w.frozen? ⟨ob, 4, none⟩ = false := by
  unfold OBk at h
  refine ⟨?_, ?_, ?_, ?_, ?_, ?_, ?_⟩ <;> simp [World.cell?, World.frozen?, h]
theorem OBk.frz {w : World} {ob : Nat} {k n v : Int} {rv fv : Value} (h : OBk w ob k n v rv fv) (i : Nat) : w.frozen? ⟨ob, i, none⟩ = false := by
  unfold OBk at h
  simp [World.frozen?, h]
theorem OBk.made (w : World) (k n v : Int) (rv fv : Value) : OBk (w.alloc (.cells #[.int .i64 k, .int .i64 n, .int .i64 v, rv, fv] 25)) w.heap.size k n v rv fv := heap_alloc_new w _
theorem OBk.ext {w w' : World} {ob : Nat} {k n v : Int} {rv fv : Value} (h : OBk w ob k n v rv fv) (E : Ext w w') : OBk w' ob k n v rv fv := (Below.block E ob h.lt).trans h
theorem OBk.grown {w w' : World} {ob : Nat} {k n v : Int} {rv fv : Value} (h : OBk w ob k n v rv fv) {b : Option Nat} (hg : w.grownBy w' b) (hb : some ob ≠ b) : OBk w' ob k n v rv fv := (hg.block ob h.lt hb).trans h
theorem OBk.set3 {w : World} {ob : Nat} {k n v : Int} {rv fv : Value} (h : OBk w ob k n v rv fv) (x : Value) : OBk (w.setCell ⟨ob, 3, none⟩ x) ob k n v x fv := by
  unfold OBk at h ⊢
  simp [World.setCell, Array.getElem?_modify, h]
theorem OBk.set4 {w : World} {ob : Nat} {k n v : Int} {rv fv : Value} (h : OBk w ob k n v rv fv) (x : Value) : OBk (w.setCell ⟨ob, 4, none⟩ x) ob k n v rv x := by
  unfold OBk at h ⊢
  simp [World.setCell, Array.getElem?_modify, h]
theorem RO.set {w : World} {base : Nat} {v : Value} {rs : List Ru} (h : RO w base v rs) {p : Addr} (hp : p.block < base) (u : Value) : RO (w.setCell p u) base v rs := by
  refine ⟨h.1, ?_⟩
  rcases h.2 with h2 | ⟨g, cap, cur, h1, h2, h3, h4⟩
  · exact Or.inl h2
  · exact Or.inr ⟨g, cap, cur, h1, h2, by rw [Below.heap_setCell _ _ _ _ (by omega)]; exact h3, h4⟩
/-- Numbers of one's own, in a row of one's own. -/
def JO (w : World) (base : Nat) (v : Value) (fs : List Int) : Prop := w.ownsRow base 3 1 v fs.length (fs.map (Value.int .i64))
theorem JO.nil (w : World) (base : Nat) : JO w base (.slice none 0 0) [] := World.ownsRow_nil _ _ _ _
theorem JO.ext {w w' : World} {base : Nat} {v : Value} {fs : List Int} (h : JO w base v fs) (k : Ext w w') : JO w' base v fs := by
  refine ⟨h.1, ?_⟩
  rcases h.2 with h2 | ⟨g, cap, cur, h1, h2, h3, h4⟩
  · exact Or.inl h2
  · exact Or.inr ⟨g, cap, cur, h1, h2, (Below.block k g (Array.getElem?_eq_some_iff.1 h3).1).trans h3, h4⟩
theorem JO.block {w : World} {base : Nat} {v : Value} {fs : List Int} (h : JO w base v fs) : ∀ k, v.ownBlock = some k → base ≤ k ∧ k < w.heap.size := h.lt
theorem JO.set {w : World} {base : Nat} {v : Value} {fs : List Int} (h : JO w base v fs) {p : Addr} (hp : p.block < base) (u : Value) : JO (w.setCell p u) base v fs := by
  refine ⟨h.1, ?_⟩
  rcases h.2 with h2 | ⟨g, cap, cur, h1, h2, h3, h4⟩
  · exact Or.inl h2
  · exact Or.inr ⟨g, cap, cur, h1, h2, by rw [Below.heap_setCell _ _ _ _ (by omega)]; exact h3, h4⟩
theorem JO.form {w : World} {base : Nat} {v : Value} {fs : List Int} (h : JO w base v fs) : ∃ ao cap, v = .slice ao fs.length cap ∧ ListAt w ao fs ∧ (ao = none → fs = [] ∧ cap = 0) := by
  rcases h.2 with ⟨hv, h0⟩ | ⟨g, cap, cur, hv, hb, hg, hn, hm, hc, ht⟩
  · exact ⟨none, 0, by rw [h0]; exact hv, Or.inl (List.eq_nil_of_length_eq_zero h0), fun _ => ⟨List.eq_nil_of_length_eq_zero h0, rfl⟩⟩
  · refine ⟨some ⟨g, 0, none⟩, cap, hv, Or.inr ⟨g, 0, rfl, (Array.getElem?_eq_some_iff.1 hg).1, fun k hk => ?_⟩, (fun h => by cases h)⟩
    have hu : (fs.map (Value.int .i64))[k]? = some (.int .i64 (fs.getD k 0)) := by simp [List.getD_eq_getElem?_getD, hk]
    rw [← ht, List.getElem?_take_of_lt (by omega)] at hu
    simp [World.cell?, hg]
    simpa using hu
theorem infoI : (Try.prog.info? 3).map (fun i => (i.zero, i.size, i.bytes)) = some (some (.int .i64 0), 1, 8) := by kernel_rfl
theorem infoI' : ∃ i, Try.prog.info? 3 = some i ∧ i.zero = some (.int .i64 0) ∧ i.size = 1 ∧ i.bytes = 8 := by
  have h := infoI
  cases e : Try.prog.info? 3 with
  | none => rw [e] at h; simp at h
  | some i => rw [e] at h; simp at h; exact ⟨i, rfl, h.1, h.2.1, h.2.2⟩

/-- An order that is laid down, cell by cell. -/
def set5 (w : World) (b : Nat) (x0 x1 x2 x3 x4 : Value) : World := ((((w.setCell ⟨b, 0, none⟩ x0).setCell ⟨b, 1, none⟩ x1).setCell ⟨b, 2, none⟩ x2).setCell ⟨b, 3, none⟩ x3).setCell ⟨b, 4, none⟩ x4
theorem set5_ext {w W : World} {b : Nat} (h : Ext w W) (hb : w.heap.size ≤ b) (x0 x1 x2 x3 x4 : Value) : Ext w (set5 W b x0 x1 x2 x3 x4) :=
  ((((h.setCell hb _).setCell hb _).setCell hb _).setCell hb _).setCell hb _
theorem RO.five {W : World} {b base base' : Nat} {rv : Value} {rs : List Ru} (h : RO W base rv rs) (hb : b < base) (hB : base' ≤ base) (x0 x1 x2 x3 x4 : Value) : RO (set5 W b x0 x1 x2 x3 x4) base' rv rs := by
  have h5 : RO (set5 W b x0 x1 x2 x3 x4) base rv rs := RO.set (RO.set (RO.set (RO.set (RO.set h hb _) hb _) hb _) hb _) hb _
  refine ⟨h5.1, ?_⟩
  rcases h5.2 with h2 | ⟨g, cap, cur, h1, h2, h3⟩
  · exact Or.inl h2
  · exact Or.inr ⟨g, cap, cur, h1, Nat.le_trans hB h2, h3⟩
theorem JO.five {W : World} {b base base' : Nat} {fv : Value} {fs : List Int} (h : JO W base fv fs) (hb : b < base) (hB : base' ≤ base) (x0 x1 x2 x3 x4 : Value) : JO (set5 W b x0 x1 x2 x3 x4) base' fv fs := by
  have h5 : JO (set5 W b x0 x1 x2 x3 x4) base fv fs := JO.set (JO.set (JO.set (JO.set (JO.set h hb _) hb _) hb _) hb _) hb _
  refine ⟨h5.1, ?_⟩
  rcases h5.2 with h2 | ⟨g, cap, cur, h1, h2, h3⟩
  · exact Or.inl h2
  · exact Or.inr ⟨g, cap, cur, h1, Nat.le_trans hB h2, h3⟩
/-- An order that is done. -/
theorem order_done {W : World} {b base : Nat} {k n v : Int} {rv fv : Value} {rs : List Ru} {fs : List Int} (hr : RO W base rv rs) (hf : JO W base fv fs) (hb : b < base) (hk : I64 k) (h1 : rs.length ≤ 1000) (h2 : fs.length ≤ 1000) :
    ∃ ro fo rc fc, rv = .slice ro rs.length rc ∧ fv = .slice fo fs.length fc ∧ OAt (set5 W b (.int .i64 k) (.int .i64 n) (.int .i64 v) rv fv) ⟨k, n, v, rs, fs⟩ ro fo := by
  have hr5 : RO (set5 W b (.int .i64 k) (.int .i64 n) (.int .i64 v) rv fv) base rv rs := RO.set (RO.set (RO.set (RO.set (RO.set hr hb _) hb _) hb _) hb _) hb _
  have hf5 : JO (set5 W b (.int .i64 k) (.int .i64 n) (.int .i64 v) rv fv) base fv fs := ((((hf.set hb _).set hb _).set hb _).set hb _).set hb _
  obtain ⟨ro, rc, e1, a1, _⟩ := hr5.form
  obtain ⟨fo, fc, e2, a2, _⟩ := hf5.form
  exact ⟨ro, fo, rc, fc, e1, e2, ⟨a1, a2, hk, by show rs.length ≤ _; omega, by show fs.length ≤ _; omega⟩⟩

end Go.Proofs.Ytiepbdgjhfkcead.Wi
