/- What read answers: the order of bytes that are as many as they must be. -/
import Derived.Test.YtiepbdgjhfkceadN7
import Derived.Test.YtiepbdgjhfkceadLs
namespace Go.Proofs.Ytiepbdgjhfkcead.Wi
open Go.RowKit Go.Maps Go.Deep Tb Rul

theorem wrap_small (x : Int) (h0 : 0 ≤ x) (h1 : x < 2147483648) : IntKind.i64.wrap x = x := by
  rw [IntKind.wrap_i64]
  omega

theorem one_rule (W : World) (v f n : Int) : SlOk (W.alloc (.cells #[.int .i64 v, .int .i64 f, .int .i64 n] 48)) (some ⟨W.heap.size, 0, none⟩) 1 1 [(v, f, n)] :=
  ⟨rfl, Or.inr ⟨_, 0, rfl, by simp, fun k hk => by
    have hk0 : k = 0 := by simpa using hk
    subst hk0
    simp⟩, fun h => by cases h⟩

/-- A rule more, at a step of a region that draws its order. -/
theorem step_rule {ops : Array Oper} {o : Oper} {a : Act} {W : World} {K : Act → World → Prop} {Q : Exit → Act → World → Prop} {E : Prop} (hgd : o.guard = none) (s x : Operand)
    (ho : o.op = .call { callee := .builtin .append, args := #[s, x], argTypes := #[22, 22] }) {base : Nat} {v : Value} {rs rb : List Ru} {bo : Option Addr} {lb cb m : Nat}
    (hs : a.eval s = v) (hx : a.eval x = .slice bo lb cb) (hro : RO W base v rs) (hb : SlOk W bo lb cb rb) (hbase : base ≤ W.heap.size) (hn : (rs.length + lb) * 24 ≤ 140737488355328) (hm : (rs ++ rb).length = m)
    (h : ∀ so sc W', RO W' base (.slice so m sc) (rs ++ rb) → W.grownBy W' v.ownBlock → K (a.put o.dst (.slice so m sc)) W') :
    if Region.wanted o (yielded ops a.tmps) = true then Oper.wp Try.prog o a W K Q else E := by
  refine step_append_rules hgd s x ho hs hx hro hb hbase hn (fun v' W' h1 h2 => ?_)
  obtain ⟨so, sc, rfl, _⟩ := h1.form
  rw [hm] at h1 ⊢
  exact h so sc W' h1 h2
theorem getD_lt {t : List Nat} (h : ∀ x ∈ t, x < 256) (i : Nat) : t.getD i 0 < 256 := by
  rw [List.getD_eq_getElem?_getD]
  cases e : t[i]? with
  | none => simp
  | some x => exact h x (List.mem_of_getElem? e)

/-- An order is told, whose rules and flows lie in rows of their own; nothing that was there is changed. -/
def RdOut (w : World) (o : Wir.Od) (e : Ending) (w' : World) : Prop := ∃ rv fv, e = .returned (.agg #[.int .i64 o.k, .int .i64 o.n, .int .i64 o.v, rv, fv]) ∧ RO w' w.heap.size rv o.rs ∧ JO w' w.heap.size fv o.fs ∧ I64 o.k ∧ o.rs.length ≤ 1000 ∧ o.fs.length ≤ 1000 ∧ Ext w w'
theorem rd_out {w F : World} {o : Wir.Od} {k n v : Int} {rs : List Ru} {fs : List Int} {rv fv : Value} (e : o = ⟨k, n, v, rs, fs⟩) (hr : RO F w.heap.size rv rs) (hf : JO F w.heap.size fv fs) (hk : I64 k) (h1 : rs.length ≤ 1000) (h2 : fs.length ≤ 1000) (hE : Ext w F) : RdOut w o (.returned (.agg #[.int .i64 k, .int .i64 n, .int .i64 v, rv, fv])) F := by
  subst e; exact ⟨rv, fv, rfl, hr, hf, hk, h1, h2, hE⟩

set_option maxRecDepth 100000 in
set_option maxHeartbeats 1600000 in
theorem read_any (g off len cap k n0 n1 n2 v0 v1 : Nat) (r : List Nat) (w : World) (hlen : 6 + r.length = len) (hl : len ≤ 4611686018427387904) (hcap : len ≤ cap) (hcm : cap ≤ 9223372036854775807) (hg : g < w.heap.size)
    (hat : ∀ i, i < (k :: n0 :: n1 :: n2 :: v0 :: v1 :: r).length → w.cell? ⟨g, off + i, none⟩ = some (.int .u8 (((k :: n0 :: n1 :: n2 :: v0 :: v1 :: r).getD i 0 : Nat) : Int)))
    (hk : k < 256) (hn0 : n0 < 256) (hn1 : n1 < 256) (hn2 : n2 < 256) (hv0 : v0 < 256) (hv1 : v1 < 256) (hr : ∀ x ∈ r, x < 256) (hi : isb k r = true) :
    Calls Try.prog 23 #[.slice (some ⟨g, off, none⟩) len cap] w fun e w' => RdOut w (rdo k n0 n1 n2 v0 v1 r) e w' := by
  have c0 := hat 0 (by simp)
  have c1 := hat 1 (by simp)
  have c2 := hat 2 (by simp)
  have c3 := hat 3 (by simp)
  have c4 := hat 4 (by simp)
  have c5 := hat 5 (by simp)
  simp only [Nat.add_zero, List.getD_cons_zero, List.getD_cons_succ] at c0 c1 c2 c3 c4 c5
  have HT : Hid (∀ W, Ext w W → ∀ i, i < r.length → W.cell? ⟨g, off + (6 + i), none⟩ = some (.int .u8 ((r.getD i 0 : Nat) : Int))) := fun W hW i hi => by
    rw [hW.cells.1 _ _ hg, hat (6 + i) (by simp only [List.length_cons]; omega), Nat.add_comm 6 i]
    simp only [List.getD_cons_succ]
  have HS : Hid (∀ W, Ext w W → W.cell? ⟨g, off, none⟩ = some (.int .u8 (k : Int)) ∧ W.cell? ⟨g, off + 1, none⟩ = some (.int .u8 (n0 : Int)) ∧ W.cell? ⟨g, off + 2, none⟩ = some (.int .u8 (n1 : Int)) ∧ W.cell? ⟨g, off + 3, none⟩ = some (.int .u8 (n2 : Int)) ∧ W.cell? ⟨g, off + 4, none⟩ = some (.int .u8 (v0 : Int)) ∧ W.cell? ⟨g, off + 5, none⟩ = some (.int .u8 (v1 : Int))) := fun W hW =>
    ⟨(hW.cells.1 _ _ hg).trans c0, (hW.cells.1 _ _ hg).trans c1, (hW.cells.1 _ _ hg).trans c2, (hW.cells.1 _ _ hg).trans c3, (hW.cells.1 _ _ hg).trans c4, (hW.cells.1 _ _ hg).trans c5⟩
  have i1 : (5 : Int) < (len : Int) := by omega
  have i2 : 0 < len := by omega
  have i3 : (1 : Int) < (len : Int) := by omega
  have i4 : (2 : Int) < (len : Int) := by omega
  have i5 : (3 : Int) < (len : Int) := by omega
  have i6 : (4 : Int) < (len : Int) := by omega
  have ik : (k : Int) ≤ 255 := by omega
  have ik' : (0 : Int) ≤ k := by omega
  have HI : Hid (isb k r = true) := hi
  have HR : Hid (∀ x ∈ r, x < 256) := hr
  clear hat hi hr
  go_enter Try.func23, Try.ntmps23
  go_upto_region 1 with fail
  obtain ⟨B, hB⟩ : ∃ B, B = w.alloc (.cells #[.int .i64 0, .int .i64 0, .int .i64 0, .slice none 0 0, .slice none 0 0] 25) := ⟨_, rfl⟩
  have hE0 : Ext w B := by rw [hB]; exact (Ext.refl w).alloc _
  have HRB : Hid (OBk B w.heap.size 0 0 0 (.slice none 0 0) (.slice none 0 0)) := by rw [hB]; exact OBk.made w _ _ _ _ _
  rw [← hB]
  clear hB c0 c1 c2 c3 c4 c5
  go_region_held3 (fun W => W.cell? ⟨g, off, none⟩ = some (.int .u8 (k : Int)) ∧ W.cell? ⟨g, off + 1, none⟩ = some (.int .u8 (n0 : Int)) ∧ W.cell? ⟨g, off + 2, none⟩ = some (.int .u8 (n1 : Int)) ∧ W.cell? ⟨g, off + 3, none⟩ = some (.int .u8 (n2 : Int)) ∧ W.cell? ⟨g, off + 4, none⟩ = some (.int .u8 (v0 : Int)) ∧ W.cell? ⟨g, off + 5, none⟩ = some (.int .u8 (v1 : Int)))
    (first | exact HS.out _ hE0.drew | exact HS.out _ (hE0.alloc _).drew)
    (fail)
  rw [wrap_small k (by omega) (by omega), wrap_small n0 (by omega) (by omega), wrap_small n1 (by omega) (by omega), wrap_small n2 (by omega) (by omega), wrap_small v0 (by omega) (by omega), wrap_small v1 (by omega) (by omega), wrap_small ((n0 : Int) * 65536) (by omega) (by omega), wrap_small ((n1 : Int) * 256) (by omega) (by omega), wrap_small ((v0 : Int) * 256) (by omega) (by omega), num_or n0 n1 n2 hn0 hn1 hn2, ver_or v0 v1 hv0 hv1]
  obtain ⟨N, hN⟩ : ∃ N : Nat, N = 65536 * n0 + 256 * n1 + n2 := ⟨_, rfl⟩
  obtain ⟨V, hV⟩ : ∃ V : Nat, V = 256 * v0 + v1 := ⟨_, rfl⟩
  rw [← hN, ← hV]
  have HO : Hid (rdo k n0 n1 n2 v0 v1 r = ⟨k, N, V, if k = 1 then Wir.prs V (r.drop 1) else [], if k = 2 then Wir.ints (r.drop 1) else []⟩) := by rw [hN, hV]; rfl
  clear hN hV HS
  obtain ⟨W1, hW1⟩ : ∃ W1, W1 = (B.alloc (.cells #[.int .i64 (k : Int), .int .i64 (N : Int), .int .i64 (V : Int), .slice none 0 0, .slice none 0 0] 25)).drew := ⟨_, rfl⟩
  have hE1 : Ext B W1 := by rw [hW1]; exact ((Ext.refl B).alloc _).drew
  have HB1 : Hid (OBk W1 B.heap.size k N V (.slice none 0 0) (.slice none 0 0)) := by rw [hW1]; exact OBk.made B _ _ _ _ _
  rw [← hW1]
  clear hW1
  obtain ⟨ob, hob⟩ : ∃ ob, ob = B.heap.size := ⟨_, rfl⟩
  rw [← hob] at HB1 ⊢
  have HOB : Hid (ob = B.heap.size) := hob
  clear hob
  obtain ⟨a0, a1, a2, a3, a4, f3, f4⟩ := HB1.out.cells
  by_cases hk1 : k = 1
  · subst hk1
    obtain ⟨c, t, rfl, hct⟩ : ∃ c t, r = c :: t ∧ t.length = 2 * c := by
      have := HI.out
      rw [isb, if_pos rfl, decide_eq_true_eq] at this
      cases r with
      | nil => simp at this
      | cons c t => exact ⟨c, t, rfl, by simp only [List.length_cons, List.getD_cons_zero] at this; omega⟩
    have hc256 : c < 256 := HR.out c List.mem_cons_self
    have HTT : Hid (∀ W, Ext B W → ∀ j, j < 2 * c → W.cell? ⟨g, off + (7 + j), none⟩ = some (.int .u8 ((t.getD j 0 : Nat) : Int))) := fun W hW j hj => by
      have := HT.out W (hE0.trans hW) (1 + j) (by simp only [List.length_cons]; omega)
      rw [show 7 + j = 6 + (1 + j) by omega, this, Nat.add_comm 1 j, List.getD_cons_succ]
    have hlc : len = 7 + 2 * c := by simp only [List.length_cons] at hlen; omega
    have HLC : Hid (len = 7 + 2 * c) := hlc
    have HR : Hid (∀ x ∈ t, x < 256) := fun x hx => HR.out x (List.mem_cons_of_mem _ hx)
    clear hlc HT hlen HI
    go_wp2
    go_loopw [4] (fun av wd => ∃ (j A : Nat) (rv : Value), j ≤ c ∧ av = .int .i64 A ∧ Hid (A = 7 + 2 * j) ∧ Hid (OBk wd ob 1 N V rv (.slice none 0 0)) ∧ Hid (RO wd (ob + 1) rv (Wir.prs V (t.take (2 * j)))) ∧ Ext B wd) (fun av _ => len - (intOf av).toNat)
    case atStart => exact ⟨0, 7, _, Nat.zero_le _, rfl, rfl, HB1, RO.nil _ _, hE1⟩
    case round =>
      obtain ⟨j, A, rv, hj, rfl, HA, HBJ, HRJ, hEw⟩ := hrel
      clear a0 a1 a2 a3 a4 f3 f4 HB1 hE1
      obtain ⟨a0, a1, a2, a3, a4, f3, f4⟩ := HBJ.out.cells
      have hobl := HBJ.out.lt
      have hgw : g < wr.heap.size := Nat.lt_of_lt_of_le hg (hE0.trans hEw).size
      by_cases hlt : j < c
      · have j1 : (A : Int) < (len : Int) := by have := HA.out; have := HLC.out; omega
        have j2 : (A : Int) + 1 < (len : Int) := by have := HA.out; have := HLC.out; omega
        have t0 := HTT.out wr hEw (2 * j) (by omega)
        have t1 := HTT.out wr hEw (2 * j + 1) (by omega)
        rw [show 7 + 2 * j = A from HA.out.symm] at t0
        rw [show 7 + (2 * j + 1) = A + 1 by have := HA.out; omega] at t1
        have HSN : Hid _ := prs_snoc (V := V) (t := t) (j := j) (by omega)
        obtain ⟨f, hf⟩ : ∃ f, f = t.getD (2 * j) 0 := ⟨_, rfl⟩
        obtain ⟨nx, hnx⟩ : ∃ nx, nx = t.getD (2 * j + 1) 0 := ⟨_, rfl⟩
        rw [← hf] at t0 HSN
        rw [← hnx] at t1 HSN
        have hpl : (Wir.prs V (t.take (2 * j))).length = j := prs_le j (by rw [List.length_take]; omega)
        have hf8 : f < 256 := by rw [hf]; exact getD_lt HR.out _
        have hn8 : nx < 256 := by rw [hnx]; exact getD_lt HR.out _
        have HFE : Hid (f = t.getD (2 * j) 0) := hf
        have HNE : Hid (nx = t.getD (2 * j + 1) 0) := hnx
        clear hf hnx
        have hA1 : A + 1 < 2147483648 := by have := HA.out; omega
        have hwA : IntKind.i64.wrap ((A : Int) + 1) = (A : Int) + 1 := wrap_small _ (by omega) (by omega)
        have j3 : (0 : Int) ≤ (A : Int) + 1 := by omega
        have hwf : IntKind.i64.wrap (f : Int) = (f : Int) := wrap_small _ (by omega) (by omega)
        have hwn : IntKind.i64.wrap (nx : Int) = (nx : Int) := wrap_small _ (by omega) (by omega)
        have HOBJ : Hid (RO (wr.alloc (.cells #[.int .i64 (V : Int), .int .i64 (f : Int), .int .i64 (nx : Int)] 48)) (ob + 1) rv (Wir.prs V (t.take (2 * j)))) := HRJ.out.ext ((Ext.refl wr).alloc _)
        have hne : some ob ≠ rv.ownBlock := fun e => by have := (HRJ.out.block ob e.symm).1; omega
        go_wp2
        refine Last.LH.start (m := 19) (S := fun W => W.cell? ⟨ob, 3, none⟩ = some rv ∧ W.cell? ⟨ob, 2, none⟩ = some (.int .i64 (V : Int)) ∧ W.cell? ⟨g, off + A, none⟩ = some (.int .u8 (f : Int)) ∧ W.cell? ⟨g, off + (A + 1), none⟩ = some (.int .u8 (nx : Int))) (by kernel_rfl) ?_
        have HSX : Hid (∀ W, Ext wr W → W.cell? ⟨ob, 3, none⟩ = some rv ∧ W.cell? ⟨ob, 2, none⟩ = some (.int .i64 (V : Int)) ∧ W.cell? ⟨g, off + A, none⟩ = some (.int .u8 (f : Int)) ∧ W.cell? ⟨g, off + (A + 1), none⟩ = some (.int .u8 (nx : Int))) := fun W hW => ⟨(hW.cells.1 _ _ hobl).trans a3, (hW.cells.1 _ _ hobl).trans a2, (hW.cells.1 _ _ hgw).trans t0, (hW.cells.1 _ _ hgw).trans t1⟩
        have hHeld : (fun W : World => W.cell? ⟨ob, 3, none⟩ = some rv ∧ W.cell? ⟨ob, 2, none⟩ = some (.int .i64 (V : Int)) ∧ W.cell? ⟨g, off + A, none⟩ = some (.int .u8 (f : Int)) ∧ W.cell? ⟨g, off + (A + 1), none⟩ = some (.int .u8 (nx : Int))) wr.drew := ⟨a3, a2, t0, t1⟩
        refine Last.LH.take (i := 0) (v := ?v0) rfl (by kernel_rfl) (by kernel_rfl) (by kernel_rfl) (by kernel_rfl) (fun _ _ _ h => h) (by rfl) ?hy0 hHeld ?rest0
        case hy0 => intro W hSW; (try dsimp only at hSW); go_simp; with_reducible rfl
        refine Last.LH.take (i := 1) (v := ?v1) rfl (by kernel_rfl) (by kernel_rfl) (by kernel_rfl) (by kernel_rfl) (fun _ _ _ h => h) (by rfl) ?hy1 hHeld ?rest1
        case hy1 => intro W hSW; (try dsimp only at hSW); go_simp; with_reducible rfl
        refine Last.LH.take (i := 2) (v := ?v2) rfl (by kernel_rfl) (by kernel_rfl) (by kernel_rfl) (by kernel_rfl) (fun _ _ _ h => h) (by rfl) ?hy2 hHeld ?rest2
        case hy2 => intro W hSW; (try dsimp only at hSW); go_simp; with_reducible rfl
        refine Last.LH.take (i := 3) (v := ?v3) rfl (by kernel_rfl) (by kernel_rfl) (by kernel_rfl) (by kernel_rfl) (fun _ _ _ h => h) (by rfl) ?hy3 hHeld ?rest3
        case hy3 => intro W hSW; (try dsimp only at hSW); go_simp; with_reducible rfl
        refine Last.LH.take (i := 4) (v := ?v4) rfl (by kernel_rfl) (by kernel_rfl) (by kernel_rfl) (by kernel_rfl) (fun _ _ _ h => h) (by rfl) ?hy4 hHeld ?rest4
        case hy4 => intro W hSW; (try dsimp only at hSW); go_simp; with_reducible rfl
        refine Last.LH.take (i := 5) (v := ?v5) rfl (by kernel_rfl) (by kernel_rfl) (by kernel_rfl) (by kernel_rfl) (fun _ _ _ h => h) (by rfl) ?hy5 hHeld ?rest5
        case hy5 => intro W hSW; (try dsimp only at hSW); go_simp; with_reducible rfl
        refine Last.LH.take (i := 6) (v := ?v6) rfl (by kernel_rfl) (by kernel_rfl) (by kernel_rfl) (by kernel_rfl) (fun _ _ _ h => h) (by rfl) ?hy6 hHeld ?rest6
        case hy6 => intro W hSW; (try dsimp only at hSW); go_simp; with_reducible rfl
        refine Last.LH.take (i := 7) (v := ?v7) rfl (by kernel_rfl) (by kernel_rfl) (by kernel_rfl) (by kernel_rfl) (fun _ _ _ h => h) (by rfl) ?hy7 hHeld ?rest7
        case hy7 => intro W hSW; (try dsimp only at hSW); go_simp; with_reducible rfl
        refine Last.LH.take (i := 8) (v := ?v8) rfl (by kernel_rfl) (by kernel_rfl) (by kernel_rfl) (by kernel_rfl) (fun _ _ _ h => h) (by rfl) ?hy8 hHeld ?rest8
        case hy8 => intro W hSW; (try dsimp only at hSW); go_simp; with_reducible rfl
        refine Last.LH.take (i := 9) (v := ?v9) rfl (by kernel_rfl) (by kernel_rfl) (by kernel_rfl) (by kernel_rfl) (fun _ _ _ h => h) (by rfl) ?hy9 hHeld ?rest9
        case hy9 => intro W hSW; (try dsimp only at hSW); go_simp; with_reducible rfl
        refine Last.LH.take (i := 10) (v := ?v10) rfl (by kernel_rfl) (by kernel_rfl) (by kernel_rfl) (by kernel_rfl) (fun _ _ _ h => h) (by rfl) ?hy10 hHeld ?rest10
        case hy10 => intro W hSW; (try dsimp only at hSW); go_simp; with_reducible rfl
        refine Last.LH.take (i := 11) (v := ?v11) rfl (by kernel_rfl) (by kernel_rfl) (by kernel_rfl) (by kernel_rfl) (fun _ _ _ h => h) (by rfl) ?hy11 hHeld ?rest11
        case hy11 => intro W hSW; (try dsimp only at hSW); go_simp; with_reducible rfl
        refine Last.LH.take (i := 12) (v := ?v12) rfl (by kernel_rfl) (by kernel_rfl) (by kernel_rfl) (by kernel_rfl) (fun _ _ _ h => h) (by rfl) ?hy12 hHeld ?rest12
        case hy12 => intro W hSW; (try dsimp only at hSW); go_simp; with_reducible rfl
        refine Last.LH.take (i := 13) (v := ?v13) rfl (by kernel_rfl) (by kernel_rfl) (by kernel_rfl) (by kernel_rfl) (fun _ _ _ h => h) (by rfl) ?hy13 hHeld ?rest13
        case hy13 => intro W hSW; (try dsimp only at hSW); go_simp; with_reducible rfl
        refine Last.LH.take (i := 14) (v := ?v14) rfl (by kernel_rfl) (by kernel_rfl) (by kernel_rfl) (by kernel_rfl) (fun _ _ _ h => h) (by rfl) ?hy14 hHeld ?rest14
        case hy14 => intro W hSW; (try dsimp only at hSW); go_simp; with_reducible rfl
        refine Last.LH.take (i := 15) (v := ?v15) rfl (by kernel_rfl) (by kernel_rfl) (by kernel_rfl) (by kernel_rfl) (fun _ _ _ h => h) (by rfl) ?hy15 hHeld ?rest15
        case hy15 => intro W hSW; (try dsimp only at hSW); go_simp; with_reducible rfl
        refine Last.LH.one (i := 16) (by kernel_rfl) rfl (fun K hK => ?_)
        go_simp
        refine hK _ _ (fun _ => HSX.out _ ((Ext.refl wr).alloc _).drew) ?_
        clear hK K
        refine Last.LH.one (i := 17) (by kernel_rfl) rfl (fun K hK => ?_)
        refine step_rule (m := j + 1) (v := rv) (bo := some ⟨wr.heap.size, 0, none⟩) (lb := 1) (cb := 1) (base := ob + 1) (rs := Wir.prs V (t.take (2 * j))) (rb := [((V : Int), (f : Int), (nx : Int))]) rfl (.tmp 49) (.tmp 64) rfl rfl rfl ?_ ?_ ?_ ?_ ?_ ?_
        · with_reducible exact HOBJ.out.ext (Ext.refl _).drew
        · with_reducible exact (one_rule wr _ _ _).ext (Ext.refl _).drew
        · simp; omega
        · omega
        · simp [hpl]
        intro so5 sc5 w5 hO5 hg5
        have hB5 : OBk w5 ob 1 N V rv (.slice none 0 0) := OBk.grown (HBJ.out.ext ((Ext.refl wr).alloc _).drew) hg5 hne
        have hE5 : Ext B w5 := Below.grown ((hEw.alloc _).drew) hg5 (by simp; have := hEw.size; omega) (fun i hi => by have := (HRJ.out.block i hi).1; have := HOB.out; omega)
        have HB5 : Hid _ := hB5
        have HO5 : Hid _ := hO5
        obtain ⟨_, _, d2, d3, _, e3, _⟩ := hB5.cells
        have u0 := HTT.out w5 hE5 (2 * j) (by omega)
        have u1 := HTT.out w5 hE5 (2 * j + 1) (by omega)
        rw [show 7 + 2 * j = A from HA.out.symm, ← HFE.out] at u0
        rw [show 7 + (2 * j + 1) = A + 1 by have := HA.out; omega, ← HNE.out] at u1
        refine hK _ _ (fun _ => ⟨d3, d2, u0, u1⟩) ?_
        clear hK K hB5 hO5 hg5
        refine Last.LH.take (i := 18) (v := ?v18) rfl (by kernel_rfl) (by kernel_rfl) (by kernel_rfl) (by kernel_rfl) (fun _ _ _ h => h) (by rfl) ?hy18 ⟨d3, d2, u0, u1⟩ ?rest18
        case hy18 => intro W hSW; (try dsimp only at hSW); go_simp; with_reducible rfl
        refine Last.LH.one (i := 19) (by kernel_rfl) rfl (fun K hK => ?_)
        go_simp
        refine hK _ _ (fun h => absurd rfl h) ?_
        clear hK K
        refine Last.LH.done (by kernel_rfl) ?_
        have HO6 : Hid (RO (w5.setCell ⟨ob, 3, none⟩ (.slice so5 (j + 1) sc5)) (ob + 1) (.slice so5 (j + 1) sc5) (Wir.prs V (t.take (2 * (j + 1))))) := by
          show RO _ _ _ _
          rw [HSN.out]
          exact RO.set HO5.out (Nat.lt_succ_self _) _
        have HB6 : Hid (OBk (w5.setCell ⟨ob, 3, none⟩ (.slice so5 (j + 1) sc5)) ob 1 N V (.slice so5 (j + 1) sc5) (.slice none 0 0)) := OBk.set3 HB5.out _
        have hE6 : Ext B (w5.setCell ⟨ob, 3, none⟩ (.slice so5 (j + 1) sc5)) := hE5.setCell (by rw [← HOB.out]; exact Nat.le_refl _) _
        go_wp2
        exact ⟨⟨j + 1, A + 2, _, by omega, by go_num, (by have := HA.out; show A + 2 = _; omega), HB6, HO6, hE6⟩, by simp [intOf]; omega⟩
      · have hjc : j = c := by omega
        have j1 : ¬ (A : Int) < (len : Int) := by have := HA.out; have := HLC.out; omega
        subst hjc
        have hRJ := HRJ.out
        rw [List.take_of_length_le (by omega)] at hRJ
        have HRF : Hid (RO wr (ob + 1) rv (Wir.prs V t)) := hRJ
        have hwb : w.heap.size < B.heap.size := HRB.out.lt
        obtain ⟨p0, p1, p2, p3, p4, _, _⟩ := (HRB.out.ext hEw).cells
        have HFZ : Hid _ := (HRB.out.ext hEw).frz
        have z0 := HFZ.out 0
        have z1 := HFZ.out 1
        have z2 := HFZ.out 2
        have z3 := HFZ.out 3
        have z4 := HFZ.out 4
        clear HRJ hRJ
        obtain ⟨ro0, rc0, rfl, _⟩ := RO.form HRF.out
        go_wp2
        have HRD : Hid (rdo 1 n0 n1 n2 v0 v1 (j :: t) = ⟨((1 : Nat) : Int), (N : Int), (V : Int), Wir.prs V t, []⟩) := HO.out
        refine bodyPost_ret (v := .agg #[.int .i64 ((1 : Nat) : Int), .int .i64 (N : Int), .int .i64 (V : Int), .slice ro0 (Wir.prs V t).length rc0, .slice none 0 0]) (by simp [results, Try.results23, go_sem, p0, p1, p2, p3, p4]) rfl (rd_out HRD.out (RO.five HRF.out (by have := HOB.out; omega) (by have := HOB.out; have := hE0.size; omega) _ _ _ _ _) (JO.five (JO.nil wr (ob + 1)) (by have := HOB.out; omega) (by have := HOB.out; have := hE0.size; omega) _ _ _ _ _) (i64_small (by omega) (by omega)) (by rw [prs_le j hct]; omega) (by simp) (set5_ext (hE0.trans hEw) (Nat.le_refl _) _ _ _ _ _))
  · by_cases hk2 : k = 2
    · subst hk2
      obtain ⟨c, t, rfl, hct⟩ : ∃ c t, r = c :: t ∧ t.length = c := by
        have := HI.out
        rw [isb, if_neg (by decide), if_pos rfl, decide_eq_true_eq] at this
        cases r with
        | nil => simp at this
        | cons c t => exact ⟨c, t, rfl, by simp only [List.length_cons, List.getD_cons_zero] at this; omega⟩
      have hc256 : c < 256 := HR.out c List.mem_cons_self
      have HTT : Hid (∀ W, Ext B W → ∀ j, j < c → W.cell? ⟨g, off + 7 + j, none⟩ = some (.int .u8 ((t.getD j 0 : Nat) : Int))) := fun W hW j hj => by
        have := HT.out W (hE0.trans hW) (1 + j) (by simp only [List.length_cons]; omega)
        rw [show off + 7 + j = off + (6 + (1 + j)) by omega, this, Nat.add_comm 1 j, List.getD_cons_succ]
      have hlc : len = 7 + c := by simp only [List.length_cons] at hlen; omega
      have HR : Hid (∀ x ∈ t, x < 256) := fun x hx => HR.out x (List.mem_cons_of_mem _ hx)
      have HCT : Hid (t.length = c) := hct
      have HO2 : Hid (rdo 2 n0 n1 n2 v0 v1 (c :: t) = ⟨((2 : Nat) : Int), (N : Int), (V : Int), [], Wir.ints t⟩) := HO.out
      clear HT hlen HI hk1 hct HO
      subst hlc
      rcases Nat.eq_zero_or_pos c with hc0 | hc0
      · subst hc0
        have htn : t = [] := List.eq_nil_of_length_eq_zero HCT.out
        subst htn
        have HRD : Hid (rdo 2 n0 n1 n2 v0 v1 [0] = ⟨((2 : Nat) : Int), (N : Int), (V : Int), [], []⟩) := HO2.out
        have hEw := hE1
        have hwb : w.heap.size < B.heap.size := HRB.out.lt
        obtain ⟨p0, p1, p2, p3, p4, _, _⟩ := (HRB.out.ext hEw).cells
        have HFZ : Hid _ := (HRB.out.ext hEw).frz
        have z0 := HFZ.out 0
        have z1 := HFZ.out 1
        have z2 := HFZ.out 2
        have z3 := HFZ.out 3
        have z4 := HFZ.out 4
        clear HO2 HTT HR HCT
        go_wp2
        all_goals (
          refine wp_loop_rounds 1 ?_
          rw [rounds_succ]
          go_wp2
          refine bodyPost_ret (v := .agg #[.int .i64 ((2 : Nat) : Int), .int .i64 (N : Int), .int .i64 (V : Int), .slice none 0 0, .slice none 0 0]) (by simp [results, Try.results23, go_sem, p0, p1, p2, p3, p4]) rfl (rd_out HRD.out (RO.five (RO.nil W1 (ob + 1)) (by have := HOB.out; omega) (by have := HOB.out; have := hE0.size; omega) _ _ _ _ _) (JO.five (JO.nil W1 (ob + 1)) (by have := HOB.out; omega) (by have := HOB.out; have := hE0.size; omega) _ _ _ _ _) (i64_small (by omega) (by omega)) (by simp) (by simp) (set5_ext (hE0.trans hEw) (Nat.le_refl _) _ _ _ _ _)))
      · have i9 : (7 : Int) < (cap : Int) := by omega
        have i10 : 7 < cap := by omega
        have i7 : (7 : Int) ≤ 7 + (c : Int) := by omega
        obtain ⟨i8, hi8, hy0, hy1, hy2⟩ := infoI'
        go_wp2
        go_loopw [72] (fun iv wd => ∃ (j : Nat) (fv : Value), j ≤ c ∧ iv = .int .i64 j ∧ Hid (OBk wd ob 2 N V (.slice none 0 0) fv) ∧ Hid (JO wd (ob + 1) fv (Wir.ints (t.take j))) ∧ Ext B wd) (fun iv _ => c - (intOf iv).toNat)
        case atStart => exact ⟨0, _, Nat.zero_le _, rfl, HB1, JO.nil _ _, hE1⟩
        case round =>
          obtain ⟨j, fv, hj, rfl, HBJ, HIJ, hEw⟩ := hrel
          clear a0 a1 a2 a3 a4 f3 f4 HB1 hE1
          obtain ⟨a0, a1, a2, a3, a4, f3, f4⟩ := HBJ.out.cells
          have hobl := HBJ.out.lt
          by_cases hlt : j < c
          · have j1 : (j : Int) < (c : Int) := by omega
            have t0 := HTT.out wr hEw j hlt
            have HSN : Hid _ := ints_snoc (t := t) (j := j) (by have := HCT.out; omega)
            have hf8 := getD_lt HR.out j
            obtain ⟨f, hf⟩ : ∃ f, f = t.getD j 0 := ⟨_, rfl⟩
            rw [← hf] at t0 HSN hf8
            clear hf
            have hil : (Wir.ints (t.take j)).length = j := by rw [Wir.ints, List.length_map, List.length_take]; have := HCT.out; omega
            have hne : some ob ≠ fv.ownBlock := fun e => by have := (HIJ.out.block ob e.symm).1; omega
            have hOJ := JO.ext HIJ.out ((Ext.refl wr).alloc (.cells #[.int .i64 (f : Int)] 3))
            unfold JO at hOJ
            rw [hil] at hOJ
            go_wp2_with (first | (at_builtin; refine wpList_append_own _ rfl _ _ 23 rfl (ob + 1) 3 i8 (.int .i64 0) 1 8 Try.underlying23 hi8 hy0 hy1 hy2 rfl (by decide) _ _ _ rfl hOJ ⟨wr.heap.size, 0, none⟩ 1 1 [.int .i64 (f : Int)] rfl rfl (by exact cells1n rfl _ _) (by intro u hu; simp only [List.mem_cons, List.not_mem_nil, or_false] at hu; subst hu; rfl) (by unfold maxLen; omega) (by omega) (by simp; omega) ?_) | go_in)
            intro v5 w5 hown5 hg5 _
            have hB5 : OBk w5 ob 2 N V (.slice none 0 0) fv := OBk.grown (HBJ.out.ext ((Ext.refl wr).alloc _)) hg5 hne
            have hE5 : Ext B w5 := Below.grown (hEw.alloc _) hg5 (by simp; have := hEw.size; omega) (fun i hi => by have := (HIJ.out.block i hi).1; have := HOB.out; omega)
            have hO5 : JO w5 (ob + 1) v5 (Wir.ints (t.take (j + 1))) := by
              rw [HSN.out]
              unfold JO
              rw [List.map_append, List.length_append, hil]
              exact hown5
            have HB5 : Hid _ := hB5
            have HO5 : Hid (JO w5 (ob + 1) v5 (Wir.ints (t.take (j + 1)))) := hO5
            obtain ⟨_, _, _, _, d4, _, e4⟩ := hB5.cells
            have hobl5 := hB5.lt
            obtain ⟨fo5, fc5, rfl, _⟩ := JO.form hO5
            clear hown5 hg5 hOJ hO5 hB5
            go_wp2
            exact ⟨⟨j + 1, _, by omega, by go_num, OBk.set4 HB5.out _, JO.set HO5.out (Nat.lt_succ_self _) _, hE5.setCell (by rw [← HOB.out]; exact Nat.le_refl _) _⟩, by simp [intOf]; omega⟩
          · have hjc : j = c := by omega
            have j1 : ¬ (j : Int) < (c : Int) := by omega
            subst hjc
            have hIJ := HIJ.out
            rw [List.take_of_length_le (by have := HCT.out; omega)] at hIJ
            have HIF : Hid (JO wr (ob + 1) fv (Wir.ints t)) := hIJ
            have hwb : w.heap.size < B.heap.size := HRB.out.lt
            obtain ⟨p0, p1, p2, p3, p4, _, _⟩ := (HRB.out.ext hEw).cells
            have HFZ : Hid _ := (HRB.out.ext hEw).frz
            have z0 := HFZ.out 0
            have z1 := HFZ.out 1
            have z2 := HFZ.out 2
            have z3 := HFZ.out 3
            have z4 := HFZ.out 4
            clear HIJ hIJ
            obtain ⟨fo0, fc0, rfl, _⟩ := JO.form HIF.out
            have HRD : Hid (rdo 2 n0 n1 n2 v0 v1 (j :: t) = ⟨((2 : Nat) : Int), (N : Int), (V : Int), [], Wir.ints t⟩) := HO2.out
            clear HO2
            go_wp2
            refine bodyPost_ret (v := .agg #[.int .i64 ((2 : Nat) : Int), .int .i64 (N : Int), .int .i64 (V : Int), .slice none 0 0, .slice fo0 (Wir.ints t).length fc0]) (by simp [results, Try.results23, go_sem, p0, p1, p2, p3, p4]) rfl (rd_out HRD.out (RO.five (RO.nil wr (ob + 1)) (by have := HOB.out; omega) (by have := HOB.out; have := hE0.size; omega) _ _ _ _ _) (JO.five HIF.out (by have := HOB.out; omega) (by have := HOB.out; have := hE0.size; omega) _ _ _ _ _) (i64_small (by omega) (by omega)) (by simp) (by rw [Wir.ints, List.length_map]; have := HCT.out; omega) (set5_ext (hE0.trans hEw) (Nat.le_refl _) _ _ _ _ _))
    · have hrn : r = [] := by
        have := HI.out
        rw [isb, if_neg hk1, if_neg hk2, decide_eq_true_eq] at this
        exact List.eq_nil_of_length_eq_zero this
      have HRD : Hid (rdo k n0 n1 n2 v0 v1 r = ⟨(k : Int), (N : Int), (V : Int), [], []⟩) := HO.out.trans (by rw [if_neg hk1, if_neg hk2])
      have b1 : ((k : Int) == 1) = false := by simp; omega
      have b2 : ((k : Int) == 2) = false := by simp; omega
      have hEw := hE1
      have hwb : w.heap.size < B.heap.size := HRB.out.lt
      obtain ⟨p0, p1, p2, p3, p4, _, _⟩ := (HRB.out.ext hEw).cells
      have HFZ : Hid _ := (HRB.out.ext hEw).frz
      have z0 := HFZ.out 0
      have z1 := HFZ.out 1
      have z2 := HFZ.out 2
      have z3 := HFZ.out 3
      have z4 := HFZ.out 4
      clear HT HI HR HO hk1 hk2 hrn
      go_wp2
      refine bodyPost_ret (v := .agg #[.int .i64 (k : Int), .int .i64 (N : Int), .int .i64 (V : Int), .slice none 0 0, .slice none 0 0]) (by simp [results, Try.results23, go_sem, p0, p1, p2, p3, p4]) rfl (rd_out HRD.out (RO.five (RO.nil W1 (ob + 1)) (by have := HOB.out; omega) (by have := HOB.out; have := hE0.size; omega) _ _ _ _ _) (JO.five (JO.nil W1 (ob + 1)) (by have := HOB.out; omega) (by have := HOB.out; have := hE0.size; omega) _ _ _ _ _) (i64_small (by omega) (by omega)) (by simp) (by simp) (set5_ext (hE0.trans hEw) (Nat.le_refl _) _ _ _ _ _))

end Go.Proofs.Ytiepbdgjhfkcead.Wi
