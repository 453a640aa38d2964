/- The step of a change that stamps: which flows begin at a switch. -/
import Derived.Test.YtgffkjjddhlbpaaC6
namespace Go.Proofs.Ytgffkjjddhlbpaa.Ct
open Go.RowKit Go.Deep Stw Stp Tb Rul

set_option maxHeartbeats 400000 in
theorem begins_any (f : Stf.Fl) (vv nv : Value) (s : Int) (p : Nat) (w : World) (hp : w.cell? ⟨p, 0, none⟩ = some (.int .i64 s)) (hl : p < w.heap.size) :
    Calls Try.prog 76 #[.agg #[.int .i64 f.fr, .int .i64 f.to, vv, nv], .pointer (some ⟨p, 0, none⟩)] w fun e w' => e = .returned (.bool (f.fr == s)) ∧ Ext w w' := by
  go_enter Try.func76, Try.ntmps76
  go_wp2
  go_ret
  exact ⟨rfl, (Ext.refl w).alloc _⟩

theorem beg_none {s : Int} {fs : List Stf.Fl} : ∀ {k : Nat}, (∀ j, j < k → (fs.getD j Fw.f0).fr ≠ s) → beg s fs k = []
  | 0, _ => rfl
  | k + 1, h => by rw [beg, beg_none (fun j hj => h j (by omega)), if_neg (h k (by omega))]; rfl
theorem beg_mono {s : Int} {fs : List Stf.Fl} {j : Nat} : ∀ {k : Nat}, j ≤ k → beg s fs k = [] → beg s fs j = []
  | 0, h, e => by rw [show j = 0 by omega]; rfl
  | k + 1, h, e => by
    rcases Nat.lt_or_ge j (k + 1) with h1 | h1
    · rw [beg, List.append_eq_nil_iff] at e
      exact beg_mono (by omega) e.1
    · rw [show j = k + 1 by omega]; exact e
theorem beg_some {s : Int} {fs : List Stf.Fl} {j k : Nat} (hj : j < k) (h : (fs.getD j Fw.f0).fr = s) : beg s fs k ≠ [] := fun e => by
  have := beg_mono (j := j + 1) (by omega) e
  rw [beg, if_pos h] at this
  simp at this
theorem beg_len {s : Int} {fs : List Stf.Fl} : ∀ k, (beg s fs k).length ≤ k
  | 0 => Nat.le_refl _
  | k + 1 => by
    have := beg_len (s := s) (fs := fs) k
    rw [beg, List.length_append]
    split
    · simp; omega
    · simp; omega

def IxOut (s : Int) (fs : List Stf.Fl) (r : Int) : Prop := (r = -1 ∧ beg s fs fs.length = []) ∨ (0 ≤ r ∧ beg s fs fs.length ≠ [])
set_option maxRecDepth 100000 in
set_option maxHeartbeats 800000 in
theorem IndexFunc_any (fo : Option Addr) (fc : Nat) (fs : List Stf.Fl) (s : Int) (p : Nat) (w : World) (hf : Fw.FlowsAt w fo fs) (hfl : fs.length ≤ 16777216) (hp0 : w.cell? ⟨p, 0, none⟩ = some (.int .i64 s)) (hl0 : p < w.heap.size) :
    Calls Try.prog 80 #[.slice fo fs.length fc, .func (.func 76) #[] #[.pointer (some ⟨p, 0, none⟩)]] w fun e w' => ∃ r, e = .returned (.int .i64 r) ∧ Hid (IxOut s fs r) ∧ Ext w w' := by
  have HP : Hid (∀ W, Ext w W → W.cell? ⟨p, 0, none⟩ = some (.int .i64 s) ∧ p < W.heap.size) := fun W hW => ⟨(hW.cells.1 _ _ hl0).trans hp0, Nat.lt_of_lt_of_le hl0 hW.size⟩
  clear hp0 hl0
  go_enter Try.func80, Try.ntmps80
  go_wp2
  go_loopw [8] (fun iv wd => ∃ k : Nat, k ≤ fs.length ∧ iv = .int .i64 k ∧ Hid (∀ j, j < k → (fs.getD j Fw.f0).fr ≠ s) ∧ Ext w wd) (fun iv _ => fs.length - (intOf iv).toNat)
  case atStart => exact ⟨0, Nat.zero_le _, rfl, hidp (fun j hj => by omega), Ext.refl w⟩
  case round =>
    obtain ⟨k, hk, rfl, HW, hE⟩ := hrel
    by_cases hlt : k < fs.length
    · obtain ⟨b, off, vo, vc, no, nc, a, t, X, Y, rfl, hb, hg, c0, c1, c2, c3, ⟨_, _, e1, hv, hvc⟩, ⟨_, _, e2, hn, hnc⟩⟩ := (hf.ext hE).get (k := k) (by omega)
      cases e1
      cases e2
      have i1 : (k : Int) < (fs.length : Int) := by omega
      have HG := hidp hg
      clear hg
      obtain ⟨p0, pl⟩ := HP.out _ hE
      go_wp2_with fail
      refine (begins_any ⟨a, t, X, Y⟩ _ _ s p _ p0 pl).mono ?_
      rintro e w1 ⟨rfl, E1⟩
      clear p0 pl c0 c1 c2 c3
      by_cases h1 : a = s
      · have HF : Hid (IxOut s fs k) := Or.inr ⟨by omega, beg_some hlt (by rw [HG.out]; exact h1)⟩
        have b1 : (a == s) = true := by simpa using h1
        rw [show ((⟨a, t, X, Y⟩ : Stf.Fl).fr == s) = true from b1]
        clear h1 b1
        go_wp2
        go_ret
        exact ⟨_, rfl, HF, hE.trans E1⟩
      · have HW2 : Hid (∀ j, j < k + 1 → (fs.getD j Fw.f0).fr ≠ s) := hidp (fun j hj => by
          by_cases e : j = k
          · subst e; rw [HG.out]; exact h1
          · exact HW.out j (by omega))
        have b1 : (a == s) = false := by simpa using h1
        rw [show ((⟨a, t, X, Y⟩ : Stf.Fl).fr == s) = false from b1]
        clear h1 b1
        go_wp2
        exact ⟨⟨k + 1, by omega, by go_num, HW2, hE.trans E1⟩, by simp [intOf]; omega⟩
    · have HF : Hid (IxOut s fs (-1)) := Or.inl ⟨rfl, beg_none (fun j hj => HW.out j (by omega))⟩
      have i1 : ¬ (k : Int) < (fs.length : Int) := by omega
      clear HW
      go_wp2
      go_ret
      exact ⟨_, rfl, HF, hE⟩

set_option maxRecDepth 100000 in
set_option maxHeartbeats 800000 in
theorem ContainsFunc_any (fo : Option Addr) (fc : Nat) (fs : List Stf.Fl) (s : Int) (p : Nat) (w : World) (hf : Fw.FlowsAt w fo fs) (hfl : fs.length ≤ 16777216) (hp0 : w.cell? ⟨p, 0, none⟩ = some (.int .i64 s)) (hl0 : p < w.heap.size) :
    Calls Try.prog 77 #[.slice fo fs.length fc, .func (.func 76) #[] #[.pointer (some ⟨p, 0, none⟩)]] w fun e w' => e = .returned (.bool (decide (beg s fs fs.length ≠ []))) ∧ Ext w w' := by
  have HA := hidp (IndexFunc_any fo fc fs s p w hf hfl hp0 hl0)
  clear hf hfl hp0 hl0
  go_enter Try.func77, Try.ntmps77
  go_wp2_with fail
  refine Calls.mono HA.out ?_
  rintro e w1 ⟨r, rfl, HI, E1⟩
  clear HA
  rcases HI.out with ⟨rfl, hv⟩ | ⟨h0, hv⟩
  · have HV : Hid (decide (beg s fs fs.length ≠ []) = false) := by show _ = _; simpa using hv
    clear hv HI
    go_wp2
    go_ret
    exact ⟨by rw [HV.out]; first | done | rfl, E1⟩
  · have HV : Hid (decide (beg s fs fs.length ≠ []) = true) := by show _ = _; simpa using hv
    clear hv HI
    go_wp2
    go_ret
    exact ⟨by rw [HV.out]; first | done | rfl, E1⟩

/-- An order of stamps that is made. -/
structure OSt (P : Nat) (w0 w : World) (v : Int) (fv : Value) (L : List Int) : Prop where
  row : w.rowIs P 56 5 (fun j => ([.int .i64 2, .int .i64 0, .int .i64 v, .slice none 0 0, fv] : List Value).getD j vd)
  own : w.ownsRow (P + 1) 3 1 fv L.length (L.map (Value.int .i64))
  bel : Below P w0 w
theorem OSt.ext {P : Nat} {w0 w w' : World} {v : Int} {fv : Value} {L : List Int} (h : OSt P w0 w v fv L) (E : Ext w w') : OSt P w0 w' v fv L :=
  ⟨h.row.of_block (Below.block E _ h.row.lt), own_extU h.own E, below_ext h.bel E (by have := h.row.lt; omega)⟩
theorem OSt.push {P g c : Nat} {w0 w w' : World} {v x : Int} {fv : Value} {L : List Int} {o : Obj} (h : OSt P w0 w v fv L)
    (hown : w'.ownsRow (P + 1) 3 1 (.slice (some ⟨g, 0, none⟩) (L.length + 1) c) (L.length + 1) (L.map (Value.int .i64) ++ [.int .i64 x])) (hg : (w.alloc o).grownBy w' fv.ownBlock) :
    w'.cell? ⟨P, 4, none⟩ = some fv ∧ w'.frozen? ⟨P, 4, none⟩ = false ∧ OSt P w0 (w'.setCell ⟨P, 4, none⟩ (.slice (some ⟨g, 0, none⟩) (L.length + 1) c)) v (.slice (some ⟨g, 0, none⟩) (L.length + 1) c) (L ++ [x]) := by
  have hP := h.row.lt
  have hneP : some P ≠ fv.ownBlock := fun e => by have := (h.own.lt P e.symm).1; omega
  have hr := h.row.of_block ((hg.block P (by simp; omega) hneP).trans (blk_alloc_lt _ _ _ hP))
  refine ⟨hr.cell (i := 4) (by omega), hr.frozen 4, ((hr.set 4 _).congr (fun j _ => (getD_put (by simp) j).trans rfl)), ?_, ?_⟩
  · have := ownsRow_setCell_below hown (a := ⟨P, 4, none⟩) (by simp) (.slice (some ⟨g, 0, none⟩) (L.length + 1) c)
    simpa using this
  · exact (Below.grown (h.bel.alloc (by omega) o) hg (by simp; omega) (fun j hj => by have := (h.own.lt j hj).1; omega)).setCell (by simp) _

end Go.Proofs.Ytgffkjjddhlbpaa.Ct
