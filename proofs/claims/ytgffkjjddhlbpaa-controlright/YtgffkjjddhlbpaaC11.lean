/- What changeOf makes: a change that shares no memory with the control that was handed in. -/
import Derived.Test.YtgffkjjddhlbpaaC10
import Derived.Test.YtgffkjjddhlbpaaC3
namespace Go.Proofs.Ytgffkjjddhlbpaa.Ct
open Go.RowKit Go.Deep Stw Stp Tb Rul

theorem cloneOwn_any (o : Option Addr) (c : Nat) (ps : List Int) (w : World) (hb : ps.length * 8 ≤ 140737488351232) (hp : ListAt w o ps) :
    Calls Try.prog 50 #[.slice o ps.length c] w fun e w' => ∃ v', e = .returned v' ∧ w'.ownsRow w.heap.size 3 1 v' ps.length (ps.map (Value.int .i64)) ∧ Ext w w' := by
  cases o with
  | none =>
    have he : ps = [] := by
      rcases hp with h | ⟨b, off, h, _⟩
      · exact h
      · cases h
    refine (cloneInts_nil ps.length c w).mono ?_
    rintro e w' ⟨rfl, rfl⟩
    refine ⟨_, rfl, ?_, Ext.refl _⟩
    rw [he]
    exact World.ownsRow_nil _ _ _ _
  | some ad =>
    refine (cloneInts_some ad ps.length c ps w rfl hb (fun j u hj => ?_)).mono ?_
    · have hjn : j < ps.length := by have := (List.getElem?_eq_some_iff.1 hj).1; simpa using this
      rcases hp with rfl | ⟨b, off, h, hlt, hat⟩
      · simp at hjn
      · cases h
        rw [Addr.add_mid, World.cell?_alloc_past _ _ _ hlt, hat j hjn]
        rw [List.getElem?_map, List.getElem?_eq_getElem hjn] at hj
        simp at hj
        rw [← hj]
        simp [List.getD_eq_getElem?_getD, hjn]
    · rintro e w' ⟨v', rfl, hown, hE⟩
      exact ⟨v', rfl, hown, hE⟩

/-- A control's box. -/
def coL (c : Co) (a : CA) : List Value := [.int .i64 c.st, .int .i64 c.now.v, .slice a.n.fo c.now.fs.length a.n.fc, .slice a.n.qo c.now.ps.length a.n.qc, .int .i64 c.nxt.v, .slice a.x.fo c.nxt.fs.length a.x.fc, .slice a.x.qo c.nxt.ps.length a.x.qc, .int .i64 c.num, .slice a.wo c.wts.length a.wc]
abbrev BX (V : World) (b : Nat) (l : List Value) : Prop := V.rowIs b 28 9 (fun j => l.getD j vd)
theorem BX.set {b i : Nat} {w : World} {l : List Value} (h : BX w b l) (hi : i < l.length) (v : Value) : BX (w.setCell ⟨b, i, none⟩ v) b (l.set i v) :=
  (World.rowIs.set h i v).congr (fun j _ => getD_put hi j)
theorem box_row {W : World} {b : Nat} {T : TypeId} (h : W.heap.size = b) (x0 x1 x2 x3 x4 x5 x6 x7 x8 : Value) : (W.alloc (.cells #[x0, x1, x2, x3, x4, x5, x6, x7, x8] T)).rowIs b T 9 (fun j => [x0, x1, x2, x3, x4, x5, x6, x7, x8].getD j vd) := by
  subst h
  exact World.rowIs_alloc W #[x0, x1, x2, x3, x4, x5, x6, x7, x8] T _ (fun i hi => by
    have hi' : i < 9 := hi
    match i, hi' with
    | 0, _ | 1, _ | 2, _ | 3, _ | 4, _ | 5, _ | 6, _ | 7, _ | 8, _ => simp)
theorem chg_row {W : World} {b : Nat} {T : TypeId} (h : W.heap.size = b) (x0 x1 x2 x3 x4 x5 x6 x7 x8 x9 x10 : Value) : (W.alloc (.cells #[x0, x1, x2, x3, x4, x5, x6, x7, x8, x9, x10] T)).rowIs b T 11 (fun j => [x0, x1, x2, x3, x4, x5, x6, x7, x8, x9, x10].getD j vd) := by
  subst h
  exact World.rowIs_alloc W #[x0, x1, x2, x3, x4, x5, x6, x7, x8, x9, x10] T _ (fun i hi => by
    have hi' : i < 11 := hi
    match i, hi' with
    | 0, _ | 1, _ | 2, _ | 3, _ | 4, _ | 5, _ | 6, _ | 7, _ | 8, _ | 9, _ | 10, _ => simp)
theorem setCell_block {a b : World} {k : Nat} (p : Addr) (u : Value) (h : b.heap[k]? = a.heap[k]?) : (b.setCell p u).heap[k]? = (a.setCell p u).heap[k]? := by
  unfold World.setCell
  simp only [Array.getElem?_modify, h]
theorem ext_set {a b : World} (h : Ext a b) (p : Addr) (u : Value) : Ext (a.setCell p u) (b.setCell p u) :=
  ⟨(show b.os = a.os from Below.os h), (show b.tape = a.tape from Below.tape h), (show b.output = a.output from Below.output h), by simpa using Below.size h, fun k hk => setCell_block p u (Below.block h k (by simpa using hk))⟩

/-- Behind changeOf. -/
def ChOut (w : World) (c : Co) (n : Nat) (e : Ending) (w' : World) : Prop := ∃ P w0 a' wv, e = .returned (.pointer (some ⟨P, 0, none⟩)) ∧ CSt w.heap.size (fun _ => True) P w0 w' ⟨c, []⟩ a' n wv (.slice none 0 0) [] ∧ Ext w w0

set_option maxRecDepth 100000 in
set_option maxHeartbeats 4000000 in
theorem changeOf_any (c : Co) (a : CA) (n : Nat) (ao : Option Addr) (len cap : Nat) (w : World) (h : CoAt w c a) (hok : CoOk c) :
    Calls Try.prog 23 #[cvl c a, .agg #[.int .i64 n, .slice ao len cap]] w fun e w' => ChOut w c n e w' := by
  obtain ⟨st, now, nxt, num, wts⟩ := c
  obtain ⟨an, ax, wo, wc⟩ := a
  obtain ⟨hn, hx, hw⟩ := h
  simp only at hn hx hw
  obtain ⟨hnk, hxk, hwl⟩ := hok
  simp only at hnk hxk hwl
  unfold cvl
  simp only
  go_enter Try.func23, Try.ntmps23
  go_wp2_with fail
  obtain ⟨W1, hW1⟩ : ∃ W1, W1 = (w.alloc (.cells #[.int .i64 st, .int .i64 now.v, .slice an.fo now.fs.length an.fc, .slice an.qo now.ps.length an.qc, .int .i64 nxt.v, .slice ax.fo nxt.fs.length ax.fc, .slice ax.qo nxt.ps.length ax.qc, .int .i64 num, .slice wo wts.length wc] 28)).alloc (.cells #[.int .i64 n, .slice ao len cap] 31) := ⟨_, rfl⟩
  have E1 : Ext w W1 := by rw [hW1]; exact ((Ext.refl w).alloc _).alloc _
  have b1 : BX W1 w.heap.size (coL ⟨st, now, nxt, num, wts⟩ ⟨an, ax, wo, wc⟩) := by rw [hW1]; exact (box_row rfl _ _ _ _ _ _ _ _ _).alloc _
  have t1 : W1.cell? ⟨w.heap.size + 1, 0, none⟩ = some (.int .i64 n) := by rw [hW1]; simp
  have s1 : W1.heap.size = w.heap.size + 1 + 1 := by rw [hW1]; simp
  rw [← hW1]
  have HB1 := hidp b1
  have HT1 := hidp t1
  have HS1 := hidp s1
  clear hW1 b1 t1 s1
  refine (Copy_any now an W1 (hn.ext E1) hnk).mono ?_
  rintro e w2 ⟨a1, he, hN1, E2⟩
  have he' : e = .returned (.agg #[.int .i64 now.v, .slice a1.fo now.fs.length a1.fc, .slice a1.qo now.ps.length a1.qc]) := he
  subst he'
  have HN1 := hidp hN1
  have hl2 : w.heap.size < w2.heap.size := by have := HS1.out; have := E2.size; omega
  have hl2' : w.heap.size + 1 < w2.heap.size := by have := HS1.out; have := E2.size; omega
  have HB2 : Hid (BX w2 w.heap.size (coL ⟨st, now, nxt, num, wts⟩ ⟨an, ax, wo, wc⟩)) := World.rowIs.of_block HB1.out (Below.block E2 _ (World.rowIs.lt HB1.out))
  have c1 : w2.cell? ⟨w.heap.size, 1, none⟩ = some (.int .i64 now.v) := World.rowIs.cell HB2.out (i := 1) (by omega)
  have c2 : w2.cell? ⟨w.heap.size, 2, none⟩ = some (.slice an.fo now.fs.length an.fc) := World.rowIs.cell HB2.out (i := 2) (by omega)
  have c3 : w2.cell? ⟨w.heap.size, 3, none⟩ = some (.slice an.qo now.ps.length an.qc) := World.rowIs.cell HB2.out (i := 3) (by omega)
  have c4 : w2.cell? ⟨w.heap.size, 4, none⟩ = some (.int .i64 nxt.v) := World.rowIs.cell HB2.out (i := 4) (by omega)
  have c5 : w2.cell? ⟨w.heap.size, 5, none⟩ = some (.slice ax.fo nxt.fs.length ax.fc) := World.rowIs.cell HB2.out (i := 5) (by omega)
  have c6 : w2.cell? ⟨w.heap.size, 6, none⟩ = some (.slice ax.qo nxt.ps.length ax.qc) := World.rowIs.cell HB2.out (i := 6) (by omega)
  have z1 := World.rowIs.frozen HB2.out 1
  have z2 := World.rowIs.frozen HB2.out 2
  have z3 := World.rowIs.frozen HB2.out 3
  clear he hN1
  go_wp2_with fail
  obtain ⟨W3, hW3⟩ : ∃ W3, W3 = ((w2.setCell ⟨w.heap.size, 1, none⟩ (.int .i64 now.v)).setCell ⟨w.heap.size, 2, none⟩ (.slice a1.fo now.fs.length a1.fc)).setCell ⟨w.heap.size, 3, none⟩ (.slice a1.qo now.ps.length a1.qc) := ⟨_, rfl⟩
  have E3 : Ext w W3 := by rw [hW3]; exact (((E1.trans E2).setCell (Nat.le_refl _) _).setCell (Nat.le_refl _) _).setCell (Nat.le_refl _) _
  have HB3 : Hid (BX W3 w.heap.size (coL ⟨st, now, nxt, num, wts⟩ ⟨a1, ax, wo, wc⟩)) := by rw [hW3]; exact BX.set (BX.set (BX.set HB2.out (i := 1) (by simp [coL]) _) (i := 2) (by simp [coL]) _) (i := 3) (by simp [coL]) _
  have HK3 : Hid (W3.heap.size = w2.heap.size ∧ ∀ b, b ≠ w.heap.size → W3.heap[b]? = w2.heap[b]?) := by
    refine ⟨by rw [hW3]; simp, fun b hb => ?_⟩
    rw [hW3, blk_setCell_other _ _ _ _ hb, blk_setCell_other _ _ _ _ hb, blk_setCell_other _ _ _ _ hb]
  rw [← hW3]
  clear hW3 HB1 HB2 c1 c2 c3 c4 c5 c6 z1 z2 z3
  refine Calls.mono (Copy_any nxt ax W3 (hx.ext E3) hxk) ?_
  rintro e w4 ⟨a2, he, hN2, E4⟩
  have he' : e = .returned (.agg #[.int .i64 nxt.v, .slice a2.fo nxt.fs.length a2.fc, .slice a2.qo nxt.ps.length a2.qc]) := he
  subst he'
  have HN2 := hidp hN2
  have hl4 : w.heap.size < w4.heap.size := by have := HK3.out.1; have := E4.size; omega
  have hl4' : w.heap.size + 1 < w4.heap.size := by have := HK3.out.1; have := E4.size; omega
  have HB4 : Hid (BX w4 w.heap.size (coL ⟨st, now, nxt, num, wts⟩ ⟨a1, ax, wo, wc⟩)) := World.rowIs.of_block HB3.out (Below.block E4 _ (World.rowIs.lt HB3.out))
  have c4 : w4.cell? ⟨w.heap.size, 4, none⟩ = some (.int .i64 nxt.v) := World.rowIs.cell HB4.out (i := 4) (by omega)
  have c5 : w4.cell? ⟨w.heap.size, 5, none⟩ = some (.slice ax.fo nxt.fs.length ax.fc) := World.rowIs.cell HB4.out (i := 5) (by omega)
  have c6 : w4.cell? ⟨w.heap.size, 6, none⟩ = some (.slice ax.qo nxt.ps.length ax.qc) := World.rowIs.cell HB4.out (i := 6) (by omega)
  have c8 : w4.cell? ⟨w.heap.size, 8, none⟩ = some (.slice wo wts.length wc) := World.rowIs.cell HB4.out (i := 8) (by omega)
  have z4 := World.rowIs.frozen HB4.out 4
  have z5 := World.rowIs.frozen HB4.out 5
  have z6 := World.rowIs.frozen HB4.out 6
  clear he hN2
  go_wp2_with fail
  obtain ⟨W5, hW5⟩ : ∃ W5, W5 = ((w4.setCell ⟨w.heap.size, 4, none⟩ (.int .i64 nxt.v)).setCell ⟨w.heap.size, 5, none⟩ (.slice a2.fo nxt.fs.length a2.fc)).setCell ⟨w.heap.size, 6, none⟩ (.slice a2.qo nxt.ps.length a2.qc) := ⟨_, rfl⟩
  have E5 : Ext w W5 := by rw [hW5]; exact (((E3.trans E4).setCell (Nat.le_refl _) _).setCell (Nat.le_refl _) _).setCell (Nat.le_refl _) _
  have HB5 : Hid (BX W5 w.heap.size (coL ⟨st, now, nxt, num, wts⟩ ⟨a1, a2, wo, wc⟩)) := by rw [hW5]; exact BX.set (BX.set (BX.set HB4.out (i := 4) (by simp [coL]) _) (i := 5) (by simp [coL]) _) (i := 6) (by simp [coL]) _
  have HK5 : Hid (W5.heap.size = w4.heap.size ∧ ∀ b, b ≠ w.heap.size → W5.heap[b]? = w4.heap[b]?) := by
    refine ⟨by rw [hW5]; simp, fun b hb => ?_⟩
    rw [hW5, blk_setCell_other _ _ _ _ hb, blk_setCell_other _ _ _ _ hb, blk_setCell_other _ _ _ _ hb]
  rw [← hW5]
  clear hW5 HB3 HB4 c4 c5 c6 c8 z4 z5 z6
  refine Calls.mono (cloneOwn_any wo wc wts W5 (by omega) (hw.ext E5)) ?_
  rintro e w6 ⟨wv, rfl, hown, E6⟩
  obtain ⟨vo, vc, hwv, _⟩ := fn_own hown
  subst hwv
  have HOW := hidp hown
  have hl6 : w.heap.size < w6.heap.size := by have := HK5.out.1; have := E6.size; omega
  have hl6' : w.heap.size + 1 < w6.heap.size := by have := HK5.out.1; have := E6.size; omega
  have HB6 : Hid (BX w6 w.heap.size (coL ⟨st, now, nxt, num, wts⟩ ⟨a1, a2, wo, wc⟩)) := World.rowIs.of_block HB5.out (Below.block E6 _ (World.rowIs.lt HB5.out))
  have t6 : w6.cell? ⟨w.heap.size + 1, 0, none⟩ = some (.int .i64 n) := by
    have hne : w.heap.size + 1 ≠ w.heap.size := by omega
    have s1 := HS1.out
    have q1 := Below.block E2 (w.heap.size + 1) (by omega)
    have q2 := HK3.out.2 _ hne
    have q3 := Below.block E4 (w.heap.size + 1) (by have := HK3.out.1; omega)
    have q4 := HK5.out.2 _ hne
    have q5 := Below.block E6 (w.heap.size + 1) (by have := HK5.out.1; omega)
    exact (World.cell?_of_block (a := ⟨w.heap.size + 1, 0, none⟩) (q5.trans (q4.trans (q3.trans (q2.trans q1))))).trans HT1.out
  have c0 : w6.cell? ⟨w.heap.size, 0, none⟩ = some (.int .i64 st) := World.rowIs.cell HB6.out (i := 0) (by omega)
  have c1 : w6.cell? ⟨w.heap.size, 1, none⟩ = some (.int .i64 now.v) := World.rowIs.cell HB6.out (i := 1) (by omega)
  have c2 : w6.cell? ⟨w.heap.size, 2, none⟩ = some (.slice a1.fo now.fs.length a1.fc) := World.rowIs.cell HB6.out (i := 2) (by omega)
  have c3 : w6.cell? ⟨w.heap.size, 3, none⟩ = some (.slice a1.qo now.ps.length a1.qc) := World.rowIs.cell HB6.out (i := 3) (by omega)
  have c4 : w6.cell? ⟨w.heap.size, 4, none⟩ = some (.int .i64 nxt.v) := World.rowIs.cell HB6.out (i := 4) (by omega)
  have c5 : w6.cell? ⟨w.heap.size, 5, none⟩ = some (.slice a2.fo nxt.fs.length a2.fc) := World.rowIs.cell HB6.out (i := 5) (by omega)
  have c6 : w6.cell? ⟨w.heap.size, 6, none⟩ = some (.slice a2.qo nxt.ps.length a2.qc) := World.rowIs.cell HB6.out (i := 6) (by omega)
  have c7 : w6.cell? ⟨w.heap.size, 7, none⟩ = some (.int .i64 num) := World.rowIs.cell HB6.out (i := 7) (by omega)
  have c8 : w6.cell? ⟨w.heap.size, 8, none⟩ = some (.slice wo wts.length wc) := World.rowIs.cell HB6.out (i := 8) (by omega)
  have z8 := World.rowIs.frozen HB6.out 8
  clear hown
  go_wp2
  go_ret
  have s1 := HS1.out
  have s3 := HK3.out
  have s5 := HK5.out
  have z2 := E2.size
  have z4' := E4.size
  have z6' := E6.size
  have hb8 : ∀ b', b' ≠ w.heap.size → (W5.setCell ⟨w.heap.size, 8, none⟩ (.slice vo wts.length vc)).heap[b']? = W5.heap[b']? := fun b' hb' => blk_setCell_other _ _ _ _ hb'
  refine ⟨w6.heap.size, W5.setCell ⟨w.heap.size, 8, none⟩ (.slice vo wts.length vc), ⟨a1, a2, vo, vc⟩, .slice vo wts.length vc, rfl, ⟨?_, ?_, World.ownsRow_nil _ _ _ _, fun e => ?_, fun b' _ e => ?_, trivial, (ext_set E6 _ _).alloc _, by simpa using z6', by simp; omega, ?_, ?_⟩, E5.setCell (Nat.le_refl _) _⟩
  · exact chg_row (by simp) _ _ _ _ _ _ _ _ _ _ _
  · have h1 := ownsRow_setCell_below HOW.out (a := ⟨w.heap.size, 8, none⟩) (by show w.heap.size < _; omega) (.slice vo wts.length vc)
    have h2 := h1.alloc (.cells #[.int .i64 st, .int .i64 now.v, .slice a1.fo now.fs.length a1.fc, .slice a1.qo now.ps.length a1.qc, .int .i64 nxt.v, .slice a2.fo nxt.fs.length a2.fc, .slice a2.qo nxt.ps.length a2.qc, .int .i64 num, .slice vo wts.length vc, .int .i64 n, .slice none 0 0] 71)
    rw [show (W5.setCell ⟨w.heap.size, 8, none⟩ (.slice vo wts.length vc)).heap.size = W5.heap.size by simp]
    exact h2
  · have := (HOW.out.lt _ e).2; omega
  · simp [Value.ownBlock] at e
  · intro V hV1 hV2
    refine HN1.out V (by simp at hV1; omega) (fun b' hb' hlt => ?_)
    rw [hV2 b' (by omega) (by simp; omega), hb8 b' (by omega), s5.2 b' (by omega), Below.block E4 b' (by omega), s3.2 b' (by omega)]
  · intro V hV1 hV2
    refine HN2.out V (by simp at hV1; omega) (fun b' hb' hlt => ?_)
    rw [hV2 b' (by omega) (by simp; omega), hb8 b' (by omega), s5.2 b' (by omega)]

end Go.Proofs.Ytgffkjjddhlbpaa.Ct
