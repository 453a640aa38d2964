/- What refused answers, and what Copy answers: the same plan, in lists of its own. -/
import Derived.Test.YtgffkjjddhlbpaaC1
import Derived.Test.YtgffkjjddhlbpaaU1
namespace Go.Proofs.Ytgffkjjddhlbpaa.Ct
open Go.RowKit Go.Deep Stw Stp Tb Rul

set_option maxRecDepth 100000 in
set_option maxHeartbeats 800000 in
theorem refused_any (k : Int) (w : World) :
    Calls Try.prog 20 #[.int .i64 k] w fun e w' => e = .returned (.tuple #[cvl co0 ca0, .slice none 0 0, .int .i64 k]) ∧ Ext w w' := by
  go_enter Try.func20, Try.ntmps20
  go_wp2
  refine bodyPost_ret (v := .tuple #[cvl co0 ca0, .slice none 0 0, .int .i64 k]) (by simp [results, Try.results20, go_sem, cvl, co0, ca0, pl0, pa0]) rfl ⟨rfl, (Ext.refl w).alloc _⟩

set_option maxHeartbeats 1000000 in
theorem clonePt_nil (n c : Nat) (w : World) :
    Calls Try.prog 63 #[.slice none n c] w fun e w' => e = .returned (.slice none 0 0) ∧ w' = w := by
  have hq : ∀ (w : World) (a : Option Addr) (n c : Nat), (binOp .eql 105 (.slice a n c) (.slice none 0 0)).run Try.prog w = .ok (.bool a.isNone) w := fun w a n c => Lib.run_eql_slice_nil w _ _ a n c 0 0 Try.underlying105
  go_enter Try.func63, Try.ntmps63
  go_wp2
  go_ret
  exact ⟨rfl, rfl⟩

set_option maxHeartbeats 1000000 in
theorem clonePt_some (ad : Addr) (n c : Nat) (ps : List Int) (w : World) (hn : ps.length = n) (hb : n * 8 ≤ 140737488351232) (hp : ∀ j u, (ps.map (Value.int .i64))[j]? = some u → (w.alloc (.cells #[] 3)).cell? (ad.add j) = some u) :
    Calls Try.prog 63 #[.slice (some ad) n c] w fun e w' => ∃ v', e = .returned v' ∧ w'.ownsRow w.heap.size 3 1 v' n (ps.map (Value.int .i64)) ∧ Ext w w' := by
  obtain ⟨i0, hi, hz0, hz1, hz2⟩ := info_parts infoI
  have hq : ∀ (w : World) (a : Option Addr) (n c : Nat), (binOp .eql 105 (.slice a n c) (.slice none 0 0)).run Try.prog w = .ok (.bool a.isNone) w := fun w a n c => Lib.run_eql_slice_nil w _ _ a n c 0 0 Try.underlying105
  have A := hidp hp
  clear hp
  go_enter Try.func63, Try.ntmps63
  go_wp2_with (at_builtin; refine wpList_append_own _ rfl _ _ 105 rfl w.heap.size 3 i0 (.int .i64 0) 1 8 Try.underlying105 hi hz0 hz1 hz2 rfl (by decide) _ _ _ rfl (World.ownsRow_made w #[] 0 (Nat.le_refl _) (Nat.zero_le _) rfl) ad n c (ps.map (Value.int .i64)) rfl ?qc1 ?qc2 ?qc3 ?qc4 ?qc5 ?qc6 ?_)
  case qc1 => simp; omega
  case qc2 => exact A.out
  case qc3 => intro u hu; obtain ⟨x, _, rfl⟩ := List.mem_map.1 hu; rfl
  case qc4 => unfold maxLen; omega
  case qc5 => omega
  case qc6 => simp
  intro v' w1 hown hgrow hnil
  go_wp2
  go_ret
  refine ⟨v', rfl, by simpa using hown, ?_⟩
  exact ((Below.refl _ w).alloc (Nat.le_refl _) _).grown hgrow (by simp) (by intro k hk; simp [Value.ownBlock] at hk; omega)

/-- A path's copy: the same numbers. -/
theorem clonePt_any (o : Option Addr) (c : Nat) (ps : List Int) (w : World) (hb : ps.length * 8 ≤ 140737488351232) (hp : ListAt w o ps) :
    Calls Try.prog 63 #[.slice o ps.length c] w fun e w' => ∃ v', e = .returned v' ∧ FN w.heap.size w' ps v' ∧ Ext w w' := by
  cases o with
  | none =>
    have he : ps = [] := by
      rcases hp with h | ⟨b, off, h, _⟩
      · exact h
      · cases h
    refine (clonePt_nil ps.length c w).mono ?_
    rintro e w' ⟨rfl, rfl⟩
    exact ⟨_, rfl, ⟨none, 0, by rw [he]; rfl, Or.inl he, by rw [he]; exact Nat.le_refl _⟩, Ext.refl _⟩
  | some ad =>
    refine (clonePt_some ad ps.length c ps w rfl hb (fun j u hj => ?_)).mono ?_
    · have hjn : j < ps.length := by have := (List.getElem?_eq_some_iff.1 hj).1; simpa using this
      rcases hp with rfl | ⟨b, off, h, hlt, hat⟩
      · simp at hjn
      · cases h
        rw [Addr.add_mid, World.cell?_alloc_past _ _ _ hlt, hat j hjn]
        rw [List.getElem?_map, List.getElem?_eq_getElem hjn] at hj
        simp at hj
        rw [← hj]
        simp [List.getD_eq_getElem?_getD, hjn]
    · rintro e w' ⟨v', rfl, hown, hE⟩
      exact ⟨v', rfl, fn_own hown, hE⟩

/-- A flow more, in a plan. -/
theorem copy7 {P : Nat} {w0 w w' : World} {o : Obj} {v0 fv qv v n : Value} {kf kq g c : Nat} {FV V : List Value} {fs : List Stf.Fl} {ps : List (List Int)} {f : Stf.Fl} (h : PSt P w0 w v0 fv qv kf kq FV V fs ps) (kv : LQ w (Qn P fv qv) f.via v) (kn : LQ w (Qn P fv qv) f.nt n)
    (hown : w'.ownsRow (P + 1) 91 4 (.slice (some ⟨g, 0, none⟩) (kf + 1) c) (kf + 1) (FV ++ [.int .i64 f.fr, .int .i64 f.to, v, n])) (hg : (w.alloc o).grownBy w' fv.ownBlock) (hat : fv.ownBlock = some g ∨ g = w.heap.size + 1) :
    w'.cell? ⟨P, 1, none⟩ = some fv ∧ w'.frozen? ⟨P, 1, none⟩ = false ∧ PSt P w0 (w'.setCell ⟨P, 1, none⟩ (.slice (some ⟨g, 0, none⟩) (kf + 1) c)) v0 (.slice (some ⟨g, 0, none⟩) (kf + 1) c) qv (kf + 1) kq (FV ++ [.int .i64 f.fr, .int .i64 f.to, v, n]) V (fs ++ [f]) ps := by
  have hP := h.row.lt
  have hneP : some P ≠ fv.ownBlock := fun e => by have := (h.ownF.lt P e.symm).1; omega
  have hr := h.row.of_block ((hg.block P (by simp; omega) hneP).trans (blk_alloc_lt _ _ _ hP))
  exact ⟨hr.cell (i := 1) (by omega), hr.frozen 1, h.pushF kv kn hown hg hat⟩
/-- A path more, in a plan. -/
theorem copy9 {P : Nat} {w0 w w' : World} {o : Obj} {v0 fv qv v : Value} {kf kq g c : Nat} {FV V : List Value} {fs : List Stf.Fl} {ps : List (List Int)} {p : List Int} (h : PSt P w0 w v0 fv qv kf kq FV V fs ps) (kv : LQ w (Qn P fv qv) p v)
    (hown : w'.ownsRow (P + 1) 105 1 (.slice (some ⟨g, 0, none⟩) (kq + 1) c) (kq + 1) (V ++ [v])) (hg : (w.alloc o).grownBy w' qv.ownBlock) (hat : qv.ownBlock = some g ∨ g = w.heap.size + 1) :
    w'.cell? ⟨P, 2, none⟩ = some qv ∧ w'.frozen? ⟨P, 2, none⟩ = false ∧ PSt P w0 (w'.setCell ⟨P, 2, none⟩ (.slice (some ⟨g, 0, none⟩) (kq + 1) c)) v0 fv (.slice (some ⟨g, 0, none⟩) (kq + 1) c) kf (kq + 1) FV (V ++ [v]) fs (ps ++ [p]) := by
  have hP := h.row.lt
  have hneP : some P ≠ qv.ownBlock := fun e => by have := (h.ownQ.lt P e.symm).1; omega
  have hr := h.row.of_block ((hg.block P (by simp; omega) hneP).trans (blk_alloc_lt _ _ _ hP))
  exact ⟨hr.cell (i := 2) (by omega), hr.frozen 2, h.pushQ kv hown hg hat⟩
theorem take_fl {fs : List Stf.Fl} {k : Nat} (h : k < fs.length) : fs.take (k + 1) = fs.take k ++ [fs.getD k Fw.f0] := by
  rw [List.take_succ_eq_append_getElem h]
  simp [List.getD_eq_getElem?_getD, h]
theorem take_pt {ps : List (List Int)} {k : Nat} (h : k < ps.length) : ps.take (k + 1) = ps.take k ++ [ps.getD k []] := by
  rw [List.take_succ_eq_append_getElem h]
  simp [List.getD_eq_getElem?_getD, h]
theorem mem_fl {fs : List Stf.Fl} {k : Nat} (h : k < fs.length) : fs.getD k Fw.f0 ∈ fs := by
  simp [List.getD_eq_getElem?_getD, h]

/-- The box of the plan that came in, and of the answer. -/
structure CB (W : World) (b : Nat) (v : Int) (fv qv : Value) : Prop where
  all : W.cell? ⟨b, 0, none⟩ = some (.int .i64 v) ∧ W.cell? ⟨b, 1, none⟩ = some fv ∧ W.cell? ⟨b, 2, none⟩ = some qv ∧ W.cell? ⟨b + 1, 0, none⟩ = some (.int .i64 0) ∧ W.cell? ⟨b + 1, 1, none⟩ = some (.slice none 0 0) ∧ W.cell? ⟨b + 1, 2, none⟩ = some (.slice none 0 0) ∧ (∀ i, W.frozen? ⟨b + 1, i, none⟩ = false) ∧ b + 1 < W.heap.size
def Cw (w : World) (v : Int) (fv qv : Value) : World := (w.alloc (.cells #[.int .i64 v, fv, qv] 25)).alloc (.cells #[.int .i64 0, .slice none 0 0, .slice none 0 0] 25)
theorem Cw_size (w : World) (v : Int) (fv qv : Value) : (Cw w v fv qv).heap.size = w.heap.size + 1 + 1 := by unfold Cw; simp
theorem Cw_ext (w : World) (v : Int) (fv qv : Value) : Ext w (Cw w v fv qv) := ((Ext.refl w).alloc _).alloc _
theorem CB.of {w W : World} {v : Int} {fv qv : Value} (E : Ext (Cw w v fv qv) W) : CB W w.heap.size v fv qv := by
  have l0 : w.heap.size < (Cw w v fv qv).heap.size := by rw [Cw_size]; omega
  have l1 : w.heap.size + 1 < (Cw w v fv qv).heap.size := by rw [Cw_size]; omega
  obtain ⟨hc, hf⟩ := E.cells
  refine ⟨?_, ?_, ?_, ?_, ?_, ?_, fun i => ?_, Nat.lt_of_lt_of_le l1 E.size⟩
  · rw [hc _ _ l0]; unfold Cw; first | (simp; done) | (simp [go_sem]; done)
  · rw [hc _ _ l0]; unfold Cw; first | (simp; done) | (simp [go_sem]; done)
  · rw [hc _ _ l0]; unfold Cw; first | (simp; done) | (simp [go_sem]; done)
  · rw [hc _ _ l1]; unfold Cw; first | (simp; done) | (simp [go_sem]; done)
  · rw [hc _ _ l1]; unfold Cw; first | (simp; done) | (simp [go_sem]; done)
  · rw [hc _ _ l1]; unfold Cw; first | (simp; done) | (simp [go_sem]; done)
  · rw [hf _ _ l1]; unfold Cw; first | (simp; done) | (simp [go_sem]; done)

end Go.Proofs.Ytgffkjjddhlbpaa.Ct
