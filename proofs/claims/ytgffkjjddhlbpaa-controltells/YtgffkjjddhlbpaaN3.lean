/- What Wrong answers, for every order; nothing that was there is changed. -/
import Derived.Test.YtgffkjjddhlbpaaN2
import Derived.Deep.RegionHeld3
import Derived.Deep.DeepCutAuto
namespace Go.Proofs.Ytgffkjjddhlbpaa.Wi
open Go.RowKit Go.Maps Go.Deep Tb Rul

/-- An order, as a value: where its rules and its flows lie. -/
def ovl (o : Wir.Od) (ro fo : Option Addr) (rc fc : Nat) : Value := .agg #[.int .i64 o.k, .int .i64 o.n, .int .i64 o.v, .slice ro o.rs.length rc, .slice fo o.fs.length fc]
structure OAt (w : World) (o : Wir.Od) (ro fo : Option Addr) : Prop where
  hr : RsAt w ro o.rs
  hf : ListAt w fo o.fs
  hk : I64 o.k
  rl : o.rs.length ≤ 4611686018427387904
  fl : o.fs.length ≤ 4611686018427387904
theorem OAt.ext {w w' : World} {o : Wir.Od} {ro fo : Option Addr} (h : OAt w o ro fo) (E : Ext w w') : OAt w' o ro fo := ⟨h.hr.ext E, h.hf.ext E, h.hk, h.rl, h.fl⟩

theorem wrong_range {o : Wir.Od} (h : inB o.n 1 100000 = false ∨ inB o.v 1 1000 = false) : Wir.wrong o = 3 := by
  rw [inB_false, inB_false] at h
  rw [Wir.wrong, if_pos (by omega)]
theorem wrong_rest {o : Wir.Od} (h1 : inB o.n 1 100000 = true) (h2 : inB o.v 1 1000 = true) : Wir.wrong o = if o.k = 1 then wrR o.v 16 o.rs else if o.k = 2 then wrF 12 o.fs else if o.k = 3 then 0 else 1 := by
  rw [inB_true] at h1 h2
  rw [Wir.wrong, if_neg (by omega), wrR, wrF]
  by_cases k1 : o.k = 1
  · rw [if_pos k1, if_pos k1]
    by_cases h : 16 < o.rs.length
    · rw [if_pos h, if_pos (show (16 : Int) < (o.rs.length : Int) by omega)]
    · rw [if_neg h, if_neg (show ¬ (16 : Int) < (o.rs.length : Int) by omega)]
  · rw [if_neg k1, if_neg k1]
    by_cases h : 12 < o.fs.length
    · rw [if_pos h, if_pos (show (12 : Int) < (o.fs.length : Int) by omega)]
    · rw [if_neg h, if_neg (show ¬ (12 : Int) < (o.fs.length : Int) by omega)]

theorem set_two {w1 : World} {b : Nat} {x y u : Value} (q : w1.cell? ⟨b, 0, none⟩ = some u) : ((w1.setCell ⟨b, 0, none⟩ x).setCell ⟨b, 1, none⟩ y).cell? ⟨b, 0, none⟩ = some x := by
  rw [World.cell?_setCell_other _ _ _ _ (by simp), World.cell?_setCell_same _ _ _ q]

set_option maxRecDepth 100000 in
set_option maxHeartbeats 1000000 in
theorem Wrong_any (o : Wir.Od) (ro fo : Option Addr) (rc fc : Nat) (w : World) (h : OAt w o ro fo) :
    Calls Try.prog 19 #[ovl o ro fo rc fc] w fun e w' => e = .returned (.int .i64 (Wir.wrong o)) ∧ Ext w w' := by
  obtain ⟨k, n, v, rs, fs⟩ := o
  unfold ovl
  cases b1 : inB n 1 100000
  · have HF : Hid _ := wrong_range (o := ⟨k, n, v, rs, fs⟩) (Or.inl b1)
    go_enter Try.func19, Try.ntmps19
    go_wp2_with (go_at_call 40; refine (within_any _ _ _ _).mono ?_; rintro e w1 ⟨rfl, rfl⟩)
    go_ret
    exact ⟨by rw [HF.out]; first | done | rfl, (Ext.refl _).alloc _⟩
  · cases b2 : inB v 1 1000
    · have HF : Hid _ := wrong_range (o := ⟨k, n, v, rs, fs⟩) (Or.inr b2)
      go_enter Try.func19, Try.ntmps19
      go_wp2_with (go_at_call 40; refine (within_any _ _ _ _).mono ?_; rintro e w1 ⟨rfl, rfl⟩)
      go_ret
      exact ⟨by rw [HF.out]; first | done | rfl, (Ext.refl _).alloc _⟩
    · have HF : Hid _ := wrong_rest (o := ⟨k, n, v, rs, fs⟩) b1 b2
      have hk : I64 k := h.hk
      go_enter Try.func19, Try.ntmps19
      go_upto_region 3 with (go_at_call 40; refine (within_any _ _ _ _).mono ?_; rintro e w1 ⟨rfl, rfl⟩)
      obtain ⟨B, hB⟩ : ∃ B, B = w.alloc (.cells #[.int .i64 k, .int .i64 n, .int .i64 v, .slice ro rs.length rc, .slice fo fs.length fc] 56) := ⟨_, rfl⟩
      have HS : Hid (∀ W, Ext B W → W.cell? ⟨w.heap.size, 0, none⟩ = some (.int .i64 k) ∧ W.cell? ⟨w.heap.size, 2, none⟩ = some (.int .i64 v) ∧ W.cell? ⟨w.heap.size, 3, none⟩ = some (.slice ro rs.length rc) ∧ W.cell? ⟨w.heap.size, 4, none⟩ = some (.slice fo fs.length fc)) := fun W hW => by
        have hlt : w.heap.size < B.heap.size := by rw [hB]; simp
        refine ⟨(hW.cells.1 _ _ hlt).trans ?_, (hW.cells.1 _ _ hlt).trans ?_, (hW.cells.1 _ _ hlt).trans ?_, (hW.cells.1 _ _ hlt).trans ?_⟩ <;> (rw [hB]; simp)
      have hE0 : Ext w B := by rw [hB]; exact (Ext.refl w).alloc _
      rw [← hB]
      clear hB
      have hR0 := Ext.refl B
      go_cut [3, 4] (fun pv tv wc => ∃ bs : Nat, pv = .pointer (some ⟨bs, 0, none⟩) ∧ tv = .bool (isK k) ∧ wc.cell? ⟨bs, 0, none⟩ = some (.int .i64 (most k)) ∧ Ext B wc)
      case first => as_aux_lemma =>
        go_region_held3 (fun W => W.cell? ⟨w.heap.size, 0, none⟩ = some (.int .i64 k))
          (first | exact (HS.out _ hR0.drew).1 | exact (HS.out _ (hR0.alloc _).drew).1 | exact (HS.out _ mk).1 | exact (HS.out _ (mk.alloc _)).1 | exact (HS.out _ ((mk.setCell (Nat.le_refl _) _).setCell (Nat.le_refl _) _)).1 | exact (HS.out _ (((mk.alloc _).setCell mk.size _).setCell mk.size _)).1 | exact (HS.out _ (mk.alloc _)).1)
          (first
            | (go_at_call 41; refine (shapes_any _).mono ?_; rintro e w1 ⟨m, rfl, hS, E1⟩
               have mk : Ext B w1 := (by first | exact hR0.drew.trans E1 | exact (hR0.alloc _).drew.trans E1)
               have q0 := fun h => E1.cells.1 B.heap.size 0 h
               have q1 := fun h => E1.cells.1 B.heap.size 1 h
               have f0 := fun h => E1.cells.2 B.heap.size 0 h
               have f1 := fun h => E1.cells.2 B.heap.size 1 h
               simp at q0 q1 f0 f1
               have r1 := (hS.look hk).1; have r2 := ((hS.ext ((Ext.refl _).alloc (.cells #[.int .i64 0, .int .i64 0] 94))).look hk).1))
        all_goals (
          go_wp2
          go_meet
          case rel => exact ⟨_, rfl, rfl, by first | (simp; done) | exact set_two q0, by first | exact mk.alloc _ | exact (mk.setCell (Nat.le_refl _) _).setCell (Nat.le_refl _) _ | exact ((mk.alloc _).setCell mk.size _).setCell mk.size _⟩)
      case rest =>
        obtain ⟨bs, rfl, rfl, hc0, hW⟩ := hcut
        have hE := hE0.trans hW
        have hor := h.hr.ext hE
        have hof := h.hf.ext hE
        obtain ⟨p0, p2, p3, p4⟩ := HS.out _ hW
        clear HS hk
        by_cases h1 : k = 1
        · subst h1
          have HF1 : Hid (Wir.wrong ⟨1, n, v, rs, fs⟩ = wrR v 16 rs) := HF.out
          rw [show isK 1 = true from rfl]
          rw [show most 1 = 16 from rfl] at hc0
          clear HF
          go_wp2_with fail
          refine (wrongRules_any ro rs.length rc rs v 16 _ rfl hor h.rl).mono ?_
          rintro e w2 ⟨rfl, E2⟩
          go_wp2
          go_ret
          exact ⟨by rw [HF1.out]; first | done | rfl, hE.trans E2⟩
        · by_cases h2 : k = 2
          · subst h2
            have HF1 : Hid (Wir.wrong ⟨2, n, v, rs, fs⟩ = wrF 12 fs) := HF.out
            rw [show isK 2 = true from rfl]
            rw [show most 2 = 12 from rfl] at hc0
            clear HF h1
            go_wp2_with fail
            refine (wrongFlows_any fo fs.length fc fs 12 _ rfl hof h.fl).mono ?_
            rintro e w2 ⟨rfl, E2⟩
            go_wp2
            go_ret
            exact ⟨by rw [HF1.out]; first | done | rfl, hE.trans E2⟩
          · by_cases h3 : k = 3
            · subst h3
              have HF1 : Hid (Wir.wrong ⟨3, n, v, rs, fs⟩ = 0) := HF.out
              rw [show isK 3 = true from rfl]
              clear HF h1 h2
              go_wp2
              go_ret
              exact ⟨by rw [HF1.out]; first | done | rfl, hE⟩
            · have HF1 : Hid (Wir.wrong ⟨k, n, v, rs, fs⟩ = 1) := HF.out.trans (by rw [if_neg h1, if_neg h2, if_neg h3])
              rw [show isK k = false by simp [isK, h1, h2, h3]]
              clear HF h1 h2 h3
              go_wp2
              go_ret
              exact ⟨by rw [HF1.out]; first | done | rfl, hE⟩

end Go.Proofs.Ytgffkjjddhlbpaa.Wi
