/- What Version answers: the version of the first stamp of the flow. -/
import Derived.Test.YtmjddnnjjmnddadY1
namespace Go.Proofs.Ytmjddnnjjmnddad.Ag
open Go.RowKit Go.Deep Tb Rul

set_option maxHeartbeats 400000 in
theorem isFlow_any (x1 x2 f : Int) (p : Nat) (w : World) (hp : w.cell? ⟨p, 0, none⟩ = some (.int .i64 f)) (hl : p < w.heap.size) :
    Calls Try.prog 40 #[.agg #[.int .i64 x1, .int .i64 x2], .pointer (some ⟨p, 0, none⟩)] w fun e w' => e = .returned (.bool (x1 == f)) ∧ Ext w w' := by
  go_enter Try.func40, Try.ntmps40
  go_wp2
  go_ret
  exact ⟨rfl, (Ext.refl w).alloc _⟩

/-- Where the first stamp of a flow is. -/
def IxOut (st : List (Int × Int)) (f r : Int) : Prop := (r = -1 ∧ Agt.ver st f = 0) ∨ ∃ k : Nat, k < st.length ∧ r = k ∧ Agt.ver st f = (st.getD k s0).2

set_option maxRecDepth 100000 in
set_option maxHeartbeats 800000 in
theorem IndexFunc_any (so : Option Addr) (sc : Nat) (st : List (Int × Int)) (f : Int) (p : Nat) (w : World) (HS0 : StAt w so st) (hsl : st.length * 16 ≤ 140737488351232) (hp0 : w.cell? ⟨p, 0, none⟩ = some (.int .i64 f)) (hl0 : p < w.heap.size) :
    Calls Try.prog 39 #[.slice so st.length sc, .func (.func 40) #[] #[.pointer (some ⟨p, 0, none⟩)]] w fun e w' => ∃ r, e = .returned (.int .i64 r) ∧ Hid (IxOut st f r) ∧ Ext w w' := by
  have HS : Hid (StAt w so st) := HS0
  have HP : Hid (∀ W, Ext w W → W.cell? ⟨p, 0, none⟩ = some (.int .i64 f) ∧ p < W.heap.size) := fun W hW => ⟨(hW.cells.1 _ _ hl0).trans hp0, Nat.lt_of_lt_of_le hl0 hW.size⟩
  have HX : Hid (Agt.ver st f = Agt.ver (st.drop 0) f) := by show _ = _; rw [List.drop_zero]
  clear HS0 hp0 hl0
  go_enter Try.func39, Try.ntmps39
  go_wp2
  go_loopw [8] (fun iv wd => ∃ k : Nat, k ≤ st.length ∧ iv = .int .i64 k ∧ Hid (Agt.ver st f = Agt.ver (st.drop k) f) ∧ Ext w wd) (fun iv _ => st.length - (intOf iv).toNat)
  case atStart => exact ⟨0, Nat.zero_le _, rfl, HX, Ext.refl w⟩
  case round =>
    obtain ⟨k, hk, rfl, HW, hE⟩ := hrel
    clear HX
    by_cases hlt : k < st.length
    · obtain ⟨g, off, rfl, hg, hcs⟩ := (StAt.ext HS.out hE).get hlt
      have i1 : (k : Int) < (st.length : Int) := by omega
      have HST : Hid _ := HW.out.trans (ver_step (st := st) (f := f) (k := k) hlt)
      obtain ⟨c0, c1⟩ := hcs k hlt
      have HV : Hid ((st.getD k s0).1 = f → IxOut st f k) := fun h => Or.inr ⟨k, hlt, rfl, HST.out.trans (if_pos h)⟩
      obtain ⟨x, hx⟩ : ∃ x, st.getD k s0 = x := ⟨_, rfl⟩
      rw [hx] at c0 c1 HST HV
      obtain ⟨x1, x2⟩ := x
      simp only at c0 c1
      clear hx hcs HW
      obtain ⟨p0, pl⟩ := HP.out _ hE
      go_wp2_with fail
      refine (isFlow_any x1 x2 f p _ p0 pl).mono ?_
      rintro e w1 ⟨rfl, E1⟩
      clear p0 pl
      by_cases h1 : x1 = f
      · have HF : Hid (IxOut st f k) := HV.out h1
        have b1 : (x1 == f) = true := by simpa using h1
        rw [b1]
        clear h1 HST HV b1
        go_wp2
        go_ret
        exact ⟨_, rfl, HF, hE.trans E1⟩
      · have HW2 : Hid (Agt.ver st f = Agt.ver (st.drop (k + 1)) f) := HST.out.trans (if_neg h1)
        have b1 : (x1 == f) = false := by simpa using h1
        rw [b1]
        clear h1 HST HV b1
        go_wp2
        exact ⟨⟨k + 1, by omega, by go_num, HW2, hE.trans E1⟩, by simp [intOf]; omega⟩
    · have HF : Hid (IxOut st f (-1)) := Or.inl ⟨rfl, by rw [HW.out, List.drop_eq_nil_of_le (by omega)]; rfl⟩
      have i1 : ¬ (k : Int) < (st.length : Int) := by omega
      clear HW
      go_wp2
      go_ret
      exact ⟨_, rfl, HF, hE⟩

set_option maxRecDepth 100000 in
set_option maxHeartbeats 800000 in
theorem Version_any (s : Agt.Sw) (ro so : Option Addr) (rc sc : Nat) (f : Int) (w : World) (h : SwAt w s ro so rc) :
    Calls Try.prog 20 #[svl s ro so rc sc, .int .i64 f] w fun e w' => e = .returned (.int .i64 (Agt.ver s.st f)) ∧ Ext w w' := by
  obtain ⟨rs, st⟩ := s
  unfold svl
  have hsl : st.length * 16 ≤ 140737488351232 := h.sl
  have HS : Hid (StAt w so st) := h.hs
  clear h
  show Calls _ _ _ _ fun e w' => e = .returned (.int .i64 (Agt.ver st f)) ∧ Ext w w'
  go_enter Try.func20, Try.ntmps20
  go_wp2_with fail
  obtain ⟨B, hB⟩ : ∃ B, B = (w.alloc (.cells #[.slice ro rs.length rc, .slice so st.length sc] 41)).alloc (.cells #[.int .i64 f] 3) := ⟨_, rfl⟩
  have hE0 : Ext w B := by rw [hB]; exact ((Ext.refl w).alloc _).alloc _
  have HK : Hid (∀ W, Ext B W → W.cell? ⟨w.heap.size, 1, none⟩ = some (.slice so st.length sc)) := fun W hW => by
    have l0 : w.heap.size < B.heap.size := by rw [hB]; simp; omega
    exact (hW.cells.1 _ _ l0).trans (by rw [hB]; simp)
  have p0 : B.cell? ⟨w.heap.size + 1, 0, none⟩ = some (.int .i64 f) := by rw [hB]; simp
  have pl : w.heap.size + 1 < B.heap.size := by rw [hB]; simp
  rw [← hB]
  clear hB
  refine (IndexFunc_any so sc st f (w.heap.size + 1) _ (StAt.ext HS.out hE0) hsl p0 pl).mono ?_
  rintro e w1 ⟨r, rfl, HI, E1⟩
  clear p0 pl
  rcases HI.out with ⟨rfl, hv⟩ | ⟨k, hk, rfl, hv⟩
  · have HF : Hid _ := hv
    clear hv HI
    go_wp2
    go_ret
    exact ⟨by rw [HF.out]; first | done | rfl, hE0.trans E1⟩
  · have HF : Hid _ := hv
    clear hv HI
    obtain ⟨g, off, rfl, hg, hcs⟩ := (StAt.ext HS.out (hE0.trans E1)).get hk
    have i1 : (k : Int) < (st.length : Int) := by omega
    obtain ⟨c0, c1⟩ := hcs k hk
    obtain ⟨x, hx⟩ : ∃ x, st.getD k s0 = x := ⟨_, rfl⟩
    rw [hx] at c0 c1 HF
    clear hx hcs
    have q0 := HK.out _ E1
    go_wp2
    go_ret
    exact ⟨by rw [HF.out]; first | done | rfl, hE0.trans E1⟩

end Go.Proofs.Ytmjddnnjjmnddad.Ag
