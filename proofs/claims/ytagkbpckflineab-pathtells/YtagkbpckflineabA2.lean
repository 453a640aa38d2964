/- What the document's own All answers, for every right net, path and end: all paths on from there, in order; nothing that was there is changed. -/
import Derived.Test.YtagkbpckflineabA1
namespace Go.Proofs.Ytagkbpckflineab
open Go.RowKit Go.Maps Stw Go.Deep Stp

/-- All does what it should, with so many switches left. -/
def AllOk (nn : Nat) (ls : List Lk) (ao : Option Addr) (len cap : Nat) (to : Int) (k : Nat) : Prop :=
  ∀ (p : List Int) (b off pc : Nat) (w : World), p.length + k = 9 → p.Nodup → (∀ y ∈ p, 0 ≤ y ∧ y < (nn : Int)) → p ≠ [] → b < w.heap.size → IntsAt w b off p → p.length ≤ pc → NetAt w ao ls →
    Calls Try.prog 24 #[.agg #[.int .i64 nn, .slice ao len cap], .slice (some ⟨b, off, none⟩) p.length pc, .int .i64 to] w fun e w' => ∃ ro rcap vs, e = .returned (.slice ro vs.length rcap) ∧ Ext w w' ∧ RowAt w' ro vs ∧ (ro = none → rcap = 0) ∧ PVs w' (fun c => c = b ∨ w.heap.size ≤ c) (all (cost ls) nn to k p) vs

theorem lst_last {w : World} {b off : Nat} {p : List Int} (h : IntsAt w b off p) (hp : p ≠ []) : w.cell? ⟨b, off + (p.length - 1), none⟩ = some (.int .i64 (lst p)) := by
  have h0 : 0 < p.length := List.length_pos_iff.2 hp
  rw [h (p.length - 1) (by omega), lst_getD hp]
theorem row_one {W : World} {g : Nat} (h : W.heap.size = g) (v : Value) (T : TypeId) : RowAt (W.alloc (.cells #[v] T)) (some ⟨g, 0, none⟩) [v] := by
  subst h
  refine Or.inr ⟨_, 0, rfl, by simp, fun i u hu => ?_⟩
  match i, hu with
  | 0, hu => simp at hu; subst hu; simp

/-- One switch more of those that are gone to next. -/
def allF (C : Int → Int → Int) (n : Nat) (to : Int) (k : Nat) (p : List Int) (s : Nat) : List (List Int) := if ¬ (s : Int) ∈ p ∧ 0 < C (lst p) (s : Int) then all C n to k (p ++ [(s : Int)]) else []
theorem allF_len {C : Int → Int → Int} {n : Nat} {to : Int} {k : Nat} {p : List Int} (hn : n ≤ 8) (hk : k ≤ 8) (s : Nat) (hs : s ≤ n) : ((List.range s).flatMap (allF C n to k p)).length ≤ 134217728 := by
  have h1 := flat_len (allF C n to k p) (8 ^ k) (List.range s) (fun x _ => by
    unfold allF
    split
    · exact all_len hn k _
    · simp)
  have h2 : 8 ^ k ≤ 8 ^ 8 := Nat.pow_le_pow_right (by omega) hk
  have h3 : (List.range s).length * 8 ^ k ≤ 8 * 8 ^ 8 := Nat.mul_le_mul (by simp; omega) h2
  have h4 : 8 * 8 ^ 8 = 134217728 := by decide
  omega

theorem Ext.grown_own {a b b' c : World} {e : TypeId} {size n : Nat} {v : Value} {xs : List Value} (h : Ext a b) (ho : b'.ownsRow a.heap.size e size v n xs) (hg : b.grownBy c v.ownBlock) : Ext a c := Below.grown h hg h.size (fun k hk => (ho.lt k hk).1)
theorem one1' (x : Int) : ∀ u ∈ [Value.int .i64 x], u.oneCell' = true := by intro u hu; simp at hu; subst hu; rfl
theorem own_zero {w : World} {base : Nat} {e : TypeId} {size n c : Nat} {ro : Option Addr} {xs : List Value} (h : w.ownsRow base e size (.slice ro n c) n xs) : ro = none → c = 0 := by
  intro h0
  subst h0
  rcases h.2 with ⟨h1, _⟩ | ⟨g, c, cur, hv, _⟩
  · cases h1; rfl
  · cases hv
theorem own_ints' {w : World} {base g c : Nat} {p : List Int} {s : Int} (h : w.ownsRow base 3 1 (.slice (some ⟨g, 0, none⟩) (p.length + 1) c) (p.length + 1) (p.map (Value.int .i64) ++ [.int .i64 s])) : IntsAt w g 0 (p ++ [s]) := by
  intro i hi
  have hi' : i < p.length + 1 := by simpa using hi
  have e : p.map (Value.int .i64) ++ [.int .i64 s] = (p ++ [s]).map (Value.int .i64) := by simp
  rw [Nat.zero_add, h.cellAt i (by omega), e, List.getElem?_map, List.getElem?_eq_getElem hi]
  simp [List.getD_eq_getElem?_getD, List.getElem?_eq_getElem hi]
theorem own_cap' {w : World} {base g c : Nat} {p : List Int} {s : Int} (h : w.ownsRow base 3 1 (.slice (some ⟨g, 0, none⟩) (p.length + 1) c) (p.length + 1) (p.map (Value.int .i64) ++ [.int .i64 s])) : (p ++ [s]).length ≤ c := by
  rcases h.2 with ⟨h0, _⟩ | ⟨g', cap', cur, hv, _, _, h1, h2, _⟩
  · cases h0
  · cases hv; simpa using h1

/-- What is kept when the paths on from one switch more are appended. -/
theorem all_rel {w wq w3 w4 w5 : World} {o : Obj} {B g : Nat} {ov v5 : Value} {L vs : List Value} {ps qs : List (List Int)} (hownq : wq.ownsRow B 26 1 ov L.length L) (hpvq : PVs wq (fun c => B ≤ c ∧ ov.ownBlock ≠ some c) ps L) (hbelq : Below B (w.alloc o) wq) (hszq : B ≤ wq.heap.size) (mk4 : Ext wq w4)
    (hown5 : w5.ownsRow B 26 1 v5 (L.length + vs.length) (L ++ vs)) (hgr5 : w4.grownBy w5 ov.ownBlock) (hat5 : v5.ownBlock = ov.ownBlock ∨ v5.ownBlock = some w4.heap.size) (hg : wq.heap.size ≤ g) (h3 : wq.heap.size ≤ w3.heap.size) (hpv4 : PVs w4 (fun c => c = g ∨ w3.heap.size ≤ c) qs vs) :
    w5.ownsRow B 26 1 v5 (L ++ vs).length (L ++ vs) ∧ PVs w5 (fun c => B ≤ c ∧ v5.ownBlock ≠ some c) (ps ++ qs) (L ++ vs) ∧ Below B (w.alloc o) w5 := by
  have hs4 := mk4.size
  have hs5 := hgr5.size
  have hov : ∀ c, ov.ownBlock = some c → c < wq.heap.size := fun c hc => (hownq.lt c hc).2
  have hv5 : ∀ c, ov.ownBlock ≠ some c → c < w4.heap.size → v5.ownBlock ≠ some c := fun c hc hl e => by
    rcases hat5 with h | h
    · exact hc (h.symm.trans e)
    · rw [h] at e
      injection e with e
      omega
  refine ⟨by rw [List.length_append]; exact hown5, ?_, ?_⟩
  · refine PVs.app (hpvq.mono (fun c hc hl => ⟨⟨hc.1, hv5 c hc.2 (by omega)⟩, by omega, ?_⟩)) (hpv4.mono (fun c hc hl => ?_))
    · exact (hgr5.block c (by omega) (fun e => hc.2 e.symm)).trans (Below.block mk4 c hl)
    · have hcq : wq.heap.size ≤ c := by rcases hc with rfl | hc <;> omega
      have hne : ov.ownBlock ≠ some c := fun e => by have := hov c e; omega
      exact ⟨⟨by omega, hv5 c hne hl⟩, by omega, hgr5.block c hl (fun e => hne e.symm)⟩
  · exact Below.grown (below_ext hbelq mk4 hszq) hgr5 (by omega) (fun j hj => (hownq.lt j hj).1)

set_option maxRecDepth 100000 in
set_option maxHeartbeats 4000000 in
theorem all_step {nn : Nat} {ls : List Lk} {ao : Option Addr} {len cap : Nat} {to : Int} (hlen : ls.length = len) (hx : len ≤ 9223372036854775807) (hr : Right (nn : Int) ls) {k : Nat} (IH : AllOk nn ls ao len cap to k) : AllOk nn ls ao len cap to (k + 1) := by
  intro p b off pc w hpk hnd hrg hne hb hat hpc hl
  have hbd := hr.bounds
  have hp0 : 0 < p.length := List.length_pos_iff.2 hne
  have cl := lst_last hat hne
  have i0 : 0 < p.length := hp0
  have i8 : p.length ≤ 8 := by omega
  by_cases ht : lst p = to
  · have HA : Hid (all (cost ls) nn to (k + 1) p = [p]) := by unfold all; rw [if_pos ht]; exact hidp rfl
    have ht' : (lst p == to) = true := by simpa using ht
    clear ht
    go_enter Try.func24, Try.ntmps24
    go_wp2
    go_ret
    refine ⟨some ⟨w.heap.size + 1, 0, none⟩, 1, [.slice (some ⟨b, off, none⟩) p.length pc], rfl, ((Ext.refl w).alloc _).alloc _, row_one (by simp) _ _, fun h => (by cases h), ?_⟩
    rw [HA.out]
    exact ⟨⟨b, off, pc, rfl, Or.inl rfl, by simp; omega, fun i hi => ((((Ext.refl w).alloc _).alloc _).cells.1 _ _ hb).trans (hat i hi), hpc⟩, trivial⟩
  · have HA : Hid (all (cost ls) nn to (k + 1) p = (List.range nn).flatMap (allF (cost ls) nn to k p)) := by unfold all; rw [if_neg ht]; exact hidp rfl
    have ht' : (lst p == to) = false := by simpa using ht
    have hlm : 0 ≤ lst p ∧ lst p < (nn : Int) := hrg _ (lst_mem hne)
    obtain ⟨z, hz⟩ : ∃ z, z = lst p := ⟨_, rfl⟩
    rw [← hz] at cl ht' hlm
    have HZ := hidp hz
    clear ht hz
    go_enter Try.func24, Try.ntmps24
    go_wp2
    go_loopw [8, 9] (fun v iv wr => ∃ (s : Nat) (ov : Value) (L : List Value), ov = v ∧ s ≤ nn ∧ iv = .int .i64 s ∧ wr.ownsRow (w.heap.size + 1) 26 1 ov L.length L ∧ PVs wr (fun c => w.heap.size + 1 ≤ c ∧ ov.ownBlock ≠ some c) ((List.range s).flatMap (allF (cost ls) nn to k p)) L ∧ Below (w.heap.size + 1) (w.alloc (.cells #[.int .i64 nn, .slice ao len cap] 24)) wr) (fun _ iv _ => nn - (intOf iv).toNat)
    case atStart => exact ⟨0, _, [], rfl, Nat.zero_le _, rfl, World.ownsRow_nil _ _ _ _, trivial, Below.refl _ _⟩
    case round =>
      obtain ⟨s, ov, L, hov, hs, rfl, hown, hpv, hbel⟩ := hrel
      subst hov
      obtain ⟨wo, rfl⟩ : ∃ wo : World, wo = wr := ⟨_, rfl⟩
      have hE : Ext w wo := Below.trans ((Ext.refl w).alloc _) (hbel.mono (by omega))
      have hsz : w.heap.size + 1 ≤ wo.heap.size := by have := hbel.size; simp at this; omega
      have hsz' : w.heap.size < wo.heap.size := by omega
      have k0 : w.heap.size < w.heap.size + 1 := by omega
      have c0 : wo.cell? ⟨w.heap.size, 0, none⟩ = some (.int .i64 nn) := (hbel.cell (p := ⟨w.heap.size, 0, none⟩) k0).trans (by simp)
      have c1 : wo.cell? ⟨w.heap.size, 1, none⟩ = some (.slice ao len cap) := (hbel.cell (p := ⟨w.heap.size, 1, none⟩) k0).trans (by simp)
      have hpl : ListAt wo (some ⟨b, off, none⟩) p := Or.inr ⟨b, off, rfl, by omega, fun i hi => (hE.cells.1 _ _ hb).trans (hat i hi)⟩
      have HFl : Hid ((List.range (s + 1)).flatMap (allF (cost ls) nn to k p) = (List.range s).flatMap (allF (cost ls) nn to k p) ++ allF (cost ls) nn to k p s) := by
        have : (List.range (s + 1)).flatMap (allF (cost ls) nn to k p) = (List.range s).flatMap (allF (cost ls) nn to k p) ++ allF (cost ls) nn to k p s := by rw [List.range_succ, List.flatMap_append]; simp
        exact hidp this
      have HB : Hid (∀ W : World, Ext wo W → W.cell? ⟨w.heap.size, 0, none⟩ = some (.int .i64 nn) ∧ W.cell? ⟨w.heap.size, 1, none⟩ = some (.slice ao len cap)) := fun W h => ⟨(h.cells.1 _ _ hsz').trans c0, (h.cells.1 _ _ hsz').trans c1⟩
      by_cases hlt : s < nn
      · cases hin : decide ((s : Int) ∈ p)
        · have hin' : ¬ (s : Int) ∈ p := of_decide_eq_false hin
          by_cases hc : 0 < cost ls z (s : Int)
          · have HF : Hid (allF (cost ls) nn to k p s = all (cost ls) nn to k (p ++ [(s : Int)])) := by unfold allF; rw [← HZ.out, if_pos ⟨hin', hc⟩]; exact hidp rfl
            have HND : Hid ((p ++ [(s : Int)]).Nodup) := by
              rw [List.nodup_append]
              refine ⟨hnd, by simp, fun a ha b hb => ?_⟩
              simp at hb
              subst hb
              intro e
              subst e
              exact hin' ha
            have HRG : Hid (∀ y ∈ p ++ [(s : Int)], 0 ≤ y ∧ y < (nn : Int)) := fun y hy => by
              rcases List.mem_append.1 hy with hy | hy
              · exact hrg y hy
              · simp at hy; subst hy; omega
            have HLn : Hid (∀ vs : List Value, vs.length = (all (cost ls) nn to k (p ++ [(s : Int)])).length → L.length + vs.length ≤ 134217728) := fun vs hvs => by
              have h1 := allF_len (C := cost ls) (n := nn) (to := to) (k := k) (p := p) (by omega) (by omega) (s + 1) (by omega)
              rw [HFl.out, List.length_append, ← hpv.len, HF.out] at h1
              omega
            have HI : Hid (∀ (g gc : Nat) (W : World), g < W.heap.size → IntsAt W g 0 (p ++ [(s : Int)]) → (p ++ [(s : Int)]).length ≤ gc → NetAt W ao ls →
                Calls Try.prog 24 #[.agg #[.int .i64 nn, .slice ao len cap], .slice (some ⟨g, 0, none⟩) (p.length + 1) gc, .int .i64 to] W fun e w' => ∃ ro rcap vs, e = .returned (.slice ro vs.length rcap) ∧ Ext W w' ∧ RowAt w' ro vs ∧ (ro = none → rcap = 0) ∧ PVs w' (fun c => c = g ∨ W.heap.size ≤ c) (all (cost ls) nn to k (p ++ [(s : Int)])) vs) := fun g gc W h1 h2 h3 h4 => by
              have h5 := IH (p ++ [(s : Int)]) g 0 gc W (by simp; omega) HND.out HRG.out (by simp) h1 h2 h3 h4
              have e5 : (p ++ [(s : Int)]).length = p.length + 1 := by simp
              rw [e5] at h5
              exact h5
            obtain ⟨j0, hj0, hy0, hy1, hy2⟩ := info_parts infoI
            obtain ⟨l0, hl0, hm0, hm1, hm2⟩ := info_parts infoL
            clear hin'
            go_wp2_with fail
            refine (in_any (some ⟨b, off, none⟩) pc p.length p (s : Int) _ rfl hpl (by omega)).mono ?_
            rintro e w2 ⟨he, hw2⟩
            obtain rfl := hw2.symm
            rw [hin] at he
            subst he
            go_wp2_with fail
            refine (refCost_any nn z (s : Int) ao len cap ls _ hlen (hl.ext hE) hx).mono ?_
            rintro e wq ⟨rfl, Eq⟩
            have hEq := hE.trans Eq
            have hownq := own_ext hown Eq
            have hpvq := hpv.ext Eq
            have hbelq : Below (w.heap.size + 1) (w.alloc (.cells #[.int .i64 nn, .slice ao len cap] 24)) wq := below_ext hbel Eq hsz
            have hszq : w.heap.size + 1 ≤ wq.heap.size := by have := Eq.size; omega
            have hszq' : w.heap.size < wq.heap.size := by omega
            have hbq : b < wq.heap.size := by have := hEq.size; omega
            clear HB
            have HB : Hid (∀ W : World, Ext wq W → W.cell? ⟨w.heap.size, 0, none⟩ = some (.int .i64 nn) ∧ W.cell? ⟨w.heap.size, 1, none⟩ = some (.slice ao len cap)) := fun W h => ⟨((Eq.trans h).cells.1 _ _ hsz').trans c0, ((Eq.trans h).cells.1 _ _ hsz').trans c1⟩
            have HY : Hid (∀ w4 w5 : World, Ext wq w4 → w4.grownBy w5 ov.ownBlock → w5.cell? ⟨w.heap.size, 0, none⟩ = some (.int .i64 nn) ∧ w5.cell? ⟨w.heap.size, 1, none⟩ = some (.slice ao len cap)) := fun w4 w5 h hg => by
              have hne : some w.heap.size ≠ ov.ownBlock := fun e => by have := (hownq.lt w.heap.size e.symm).1; omega
              have hlt4 : w.heap.size < w4.heap.size := by have := h.size; omega
              obtain ⟨h1, h2⟩ := HB.out w4 h
              exact ⟨(hg.cell_far ⟨w.heap.size, 0, none⟩ hlt4 hne).trans h1, (hg.cell_far ⟨w.heap.size, 1, none⟩ hlt4 hne).trans h2⟩
            obtain ⟨c0q, c1q⟩ := HB.out wq (Ext.refl _)
            clear c0 c1 hown hpv hbel hsz hsz' hpl hin
            have hnews : ∀ W, Ext wq W → RowAt W (some ⟨b, off, none⟩) (p.map (Value.int .i64)) := fun W hW => Or.inr ⟨b, off, rfl, by have := hW.size; omega, fun i u hu => by
              have hi : i < p.length := by have := (List.getElem?_eq_some_iff.1 hu).1; simpa using this
              rw [List.getElem?_map, List.getElem?_eq_getElem hi] at hu
              simp at hu
              rw [(hEq.trans hW).cells.1 _ _ hb, hat i hi, ← hu, getD_eq hi]⟩
            have hone : ∀ u ∈ p.map (Value.int .i64), u.oneCell' = true := fun u hu => by
              obtain ⟨x, _, rfl⟩ := List.mem_map.1 hu
              rfl
            have HA1 := hidp (And.intro (show ((wq.alloc (Obj.cells #[] 3)).drew).ownsRow wq.heap.size 3 1 (.slice (some ⟨wq.heap.size, 0, none⟩) 0 0) 0 [] from own_none (Nat.le_refl _) (heap_new wq _)) (And.intro (hnews ((wq.alloc (Obj.cells #[] 3)).drew) ((Ext.refl wq).alloc _).drew) (And.intro (show wq.heap.size ≤ ((wq.alloc (Obj.cells #[] 3)).drew).heap.size by simp) (fun w2 (h : ((wq.alloc (Obj.cells #[] 3)).drew).grownBy w2 (some wq.heap.size)) => (show Ext wq w2 from Below.grown ((Below.refl _ _).alloc (Nat.le_refl _) _).drew h (by simp) (fun j hj => by cases hj; exact Nat.le_refl _))))))
            have HB1 := hidp (And.intro (show (((wq.alloc (Obj.cells #[] 3)).alloc (Obj.cells #[.int .i64 s] 3)).drew).ownsRow wq.heap.size 3 1 (.slice (some ⟨wq.heap.size, 0, none⟩) 0 0) 0 [] from own_none (Nat.le_refl _) ((blk_alloc_lt _ _ _ (by simp)).trans (heap_new wq _))) (And.intro (hnews (((wq.alloc (Obj.cells #[] 3)).alloc (Obj.cells #[.int .i64 s] 3)).drew) (((Ext.refl wq).alloc _).alloc _).drew) (And.intro (show wq.heap.size ≤ (((wq.alloc (Obj.cells #[] 3)).alloc (Obj.cells #[.int .i64 s] 3)).drew).heap.size by simp; omega) (fun w2 (h : (((wq.alloc (Obj.cells #[] 3)).alloc (Obj.cells #[.int .i64 s] 3)).drew).grownBy w2 (some wq.heap.size)) => (show Ext wq w2 from Below.grown (((Below.refl _ _).alloc (Nat.le_refl _) _).alloc (by simp) _).drew h (by simp; omega) (fun j hj => by cases hj; exact Nat.le_refl _))))))
            have HC1 := hidp (And.intro (show (((wq.alloc (Obj.cells #[.int .i64 s] 3)).alloc (Obj.cells #[] 3)).drew).ownsRow wq.heap.size 3 1 (.slice (some ⟨wq.heap.size + 1, 0, none⟩) 0 0) 0 [] from own_none (by omega) (by have := heap_new (wq.alloc (Obj.cells #[.int .i64 s] 3)) (Obj.cells #[] 3); rwa [World.size_alloc] at this)) (And.intro (hnews (((wq.alloc (Obj.cells #[.int .i64 s] 3)).alloc (Obj.cells #[] 3)).drew) (((Ext.refl wq).alloc _).alloc _).drew) (And.intro (show wq.heap.size ≤ (((wq.alloc (Obj.cells #[.int .i64 s] 3)).alloc (Obj.cells #[] 3)).drew).heap.size by simp; omega) (fun w2 (h : (((wq.alloc (Obj.cells #[.int .i64 s] 3)).alloc (Obj.cells #[] 3)).drew).grownBy w2 (some (wq.heap.size + 1))) => (show Ext wq w2 from Below.grown (((Below.refl _ _).alloc (Nat.le_refl _) _).alloc (by simp) _).drew h (by simp; omega) (fun j hj => by cases hj; omega))))))
            have HNB : Hid (∀ w2, (((wq.alloc (Obj.cells #[] 3)).alloc (Obj.cells #[.int .i64 s] 3)).drew).grownBy w2 (some wq.heap.size) → w2.heap[wq.heap.size + 1]? = some (.cells #[.int .i64 s] 3 (0, 0))) := fun w2 h => by
              rw [h.block (wq.heap.size + 1) (by simp) (by simp)]
              have := heap_new (wq.alloc (Obj.cells #[] 3)) (Obj.cells #[.int .i64 s] 3)
              rwa [World.size_alloc] at this
            have HNC : Hid (∀ w2, (((wq.alloc (Obj.cells #[.int .i64 s] 3)).alloc (Obj.cells #[] 3)).drew).grownBy w2 (some (wq.heap.size + 1)) → w2.heap[wq.heap.size]? = some (.cells #[.int .i64 s] 3 (0, 0))) := fun w2 h => by
              rw [h.block wq.heap.size (by simp; omega) (by simp)]
              exact (blk_alloc_lt _ _ _ (by simp)).trans (heap_new wq _)
            go_wp2
            go_region_held3 (fun W => W.cell? ⟨w.heap.size, 0, none⟩ = some (.int .i64 nn) ∧ W.cell? ⟨w.heap.size, 1, none⟩ = some (.slice ao len cap))
              (first | exact HB.out _ (Ext.refl wq).drew | exact HB.out _ ((Ext.refl wq).alloc _).drew | exact HB.out _ (((Ext.refl wq).alloc _).alloc _).drew | exact HB.out _ hX2 | exact HB.out _ (hX2.alloc _) | exact HB.out _ mk3 | exact HB.out _ mk4 | exact HY.out _ _ mk4 hgr5)
              (first
              | (have _t := mk4
                 refine step_append_row _ ?_ (.tmp 38) (.tmp 47) 60 ?_ (w.heap.size + 1) 26 l0 (.slice none 0 0) 24 Try.underlying60 hl0 hm0 hm1 hm2 rfl ov L.length L ?_ ?_ ro vs.length rcap vs ?_ rfl hrc ?_ hpv4.one ?_ ?_ ?_ ?_
                 · rfl
                 · rfl
                 · rfl
                 · with_reducible exact own_ext hownq mk4
                 · rfl
                 · with_reducible exact hrow
                 · have := HLn.out vs hpv4.len; unfold maxLen; omega
                 · have := HLn.out vs hpv4.len; omega
                 · have := mk4.size; omega
                 intro v5 w5 hown5 hgr5 hat5)
              | (have _t := mk3
                 go_at_call 24
                 refine (HI.out g gc _ hlt3 (own_ints' hown3) (own_cap' hown3) (hl.ext (hEq.trans mk3))).mono ?_
                 rintro e w4 ⟨ro, rcap, vs, rfl, hE4, hrow, hrc, hpv4⟩
                 have mk4 := mk3.trans hE4)
              | (have _t := hX2
                 refine step_append_lies _ ?_ (.tmp 42) (.tmp 44) 26 ?_ wq.heap.size 3 j0 (.int .i64 0) 1 8 Try.underlying26 hj0 hy0 hy1 hy2 rfl (by decide) (.slice (some ⟨g1, 0, none⟩) p.length gc1) p.length (p.map (Value.int .i64)) ?_ ?_ ⟨w2.heap.size, 0, none⟩ 1 1 [.int .i64 s] ?_ ?_ ?_ (one1' _) ?_ ?_ ?_ ?_ _ rfl ?_
                 · rfl
                 · rfl
                 · rfl
                 · with_reducible exact hown2.alloc _
                 · rfl
                 · rfl
                 · exact World.news_of_block (cs := #[.int .i64 s]) (heap_new w2 _)
                 · omega
                 · unfold maxLen; omega
                 · omega
                 · have := hX2.size; simp; omega
                 intro g gc w3 hown3 hgr3 hat3 hlt3
                 have hX3 : Ext wq w3 := Ext.grown_own (hX2.alloc _) hown2 hgr3
                 have mk3 := hX3)
              | (have _t := hX2
                 refine step_append_lies _ ?_ (.tmp 42) (.tmp 44) 26 ?_ wq.heap.size 3 j0 (.int .i64 0) 1 8 Try.underlying26 hj0 hy0 hy1 hy2 rfl (by decide) (.slice (some ⟨g1, 0, none⟩) p.length gc1) p.length (p.map (Value.int .i64)) ?_ ?_ ⟨wq.heap.size + 1, 0, none⟩ 1 1 [.int .i64 s] ?_ ?_ ?_ (one1' _) ?_ ?_ ?_ ?_ _ rfl ?_
                 · rfl
                 · rfl
                 · rfl
                 · with_reducible exact hown2
                 · rfl
                 · rfl
                 · exact World.news_of_block (cs := #[.int .i64 s]) (HNB.out w2 hgr2)
                 · omega
                 · unfold maxLen; omega
                 · omega
                 · have := hX2.size; omega
                 intro g gc w3 hown3 hgr3 hat3 hlt3
                 have hX3 : Ext wq w3 := Ext.grown_own hX2 hown2 hgr3
                 have mk3 := hX3)
              | (have _t := hX2
                 refine step_append_lies _ ?_ (.tmp 42) (.tmp 44) 26 ?_ wq.heap.size 3 j0 (.int .i64 0) 1 8 Try.underlying26 hj0 hy0 hy1 hy2 rfl (by decide) (.slice (some ⟨g1, 0, none⟩) p.length gc1) p.length (p.map (Value.int .i64)) ?_ ?_ ⟨wq.heap.size, 0, none⟩ 1 1 [.int .i64 s] ?_ ?_ ?_ (one1' _) ?_ ?_ ?_ ?_ _ rfl ?_
                 · rfl
                 · rfl
                 · rfl
                 · with_reducible exact hown2
                 · rfl
                 · rfl
                 · exact World.news_of_block (cs := #[.int .i64 s]) (HNC.out w2 hgr2)
                 · omega
                 · unfold maxLen; omega
                 · omega
                 · have := hX2.size; omega
                 intro g gc w3 hown3 hgr3 hat3 hlt3
                 have hX3 : Ext wq w3 := Ext.grown_own hX2 hown2 hgr3
                 have mk3 := hX3)
              | (refine step_append_row _ ?_ (.tmp 40) (.tmp 41) 26 ?_ wq.heap.size 3 j0 (.int .i64 0) 8 Try.underlying26 hj0 hy0 hy1 hy2 rfl (.slice (some ⟨wq.heap.size, 0, none⟩) 0 0) 0 [] ?_ ?_ (some ⟨b, off, none⟩) p.length pc (p.map (Value.int .i64)) ?_ ?_ ?_ ?_ hone ?_ ?_ ?_ ?_
                 · rfl
                 · rfl
                 · rfl
                 · with_reducible exact HA1.out.1
                 · rfl
                 · simp
                 · intro h; cases h
                 · with_reducible exact HA1.out.2.1
                 · unfold maxLen; omega
                 · omega
                 · with_reducible exact HA1.out.2.2.1
                 intro v2 w2 hown2 hgr2 _
                 have hX2 := HA1.out.2.2.2 w2 hgr2
                 obtain ⟨g1, gc1, hv2, hg1a, hg1b⟩ := hown2.form (by omega)
                 rw [Nat.zero_add] at hv2
                 subst hv2
                 rw [Nat.zero_add, List.nil_append] at hown2)
              | (refine step_append_row _ ?_ (.tmp 40) (.tmp 41) 26 ?_ wq.heap.size 3 j0 (.int .i64 0) 8 Try.underlying26 hj0 hy0 hy1 hy2 rfl (.slice (some ⟨wq.heap.size, 0, none⟩) 0 0) 0 [] ?_ ?_ (some ⟨b, off, none⟩) p.length pc (p.map (Value.int .i64)) ?_ ?_ ?_ ?_ hone ?_ ?_ ?_ ?_
                 · rfl
                 · rfl
                 · rfl
                 · with_reducible exact HB1.out.1
                 · rfl
                 · simp
                 · intro h; cases h
                 · with_reducible exact HB1.out.2.1
                 · unfold maxLen; omega
                 · omega
                 · with_reducible exact HB1.out.2.2.1
                 intro v2 w2 hown2 hgr2 _
                 have hX2 := HB1.out.2.2.2 w2 hgr2
                 obtain ⟨g1, gc1, hv2, hg1a, hg1b⟩ := hown2.form (by omega)
                 rw [Nat.zero_add] at hv2
                 subst hv2
                 rw [Nat.zero_add, List.nil_append] at hown2)
              | (refine step_append_row _ ?_ (.tmp 40) (.tmp 41) 26 ?_ wq.heap.size 3 j0 (.int .i64 0) 8 Try.underlying26 hj0 hy0 hy1 hy2 rfl (.slice (some ⟨wq.heap.size + 1, 0, none⟩) 0 0) 0 [] ?_ ?_ (some ⟨b, off, none⟩) p.length pc (p.map (Value.int .i64)) ?_ ?_ ?_ ?_ hone ?_ ?_ ?_ ?_
                 · rfl
                 · rfl
                 · rfl
                 · with_reducible exact HC1.out.1
                 · rfl
                 · simp
                 · intro h; cases h
                 · with_reducible exact HC1.out.2.1
                 · unfold maxLen; omega
                 · omega
                 · with_reducible exact HC1.out.2.2.1
                 intro v2 w2 hown2 hgr2 _
                 have hX2 := HC1.out.2.2.2 w2 hgr2
                 obtain ⟨g1, gc1, hv2, hg1a, hg1b⟩ := hown2.form (by omega)
                 rw [Nat.zero_add] at hv2
                 subst hv2
                 rw [Nat.zero_add, List.nil_append] at hown2)
              | fail)
            all_goals
              go_wp2
              go_roundw
              case rel =>
                obtain ⟨r1, r2, r3⟩ := all_rel hownq hpvq hbelq hszq mk4 hown5 hgr5 hat5 (hown3.lt g rfl).1 mk3.size hpv4
                exact ⟨s + 1, v5, L ++ vs, rfl, by omega, by go_num, r1, by rw [HFl.out, HF.out]; exact r2, r3⟩
              case measure => simp [intOf]; omega
          · have HF : Hid (allF (cost ls) nn to k p s = []) := by unfold allF; rw [← HZ.out, if_neg (fun h => hc h.2)]; exact hidp rfl
            clear hin'
            go_wp2_with fail
            refine (in_any (some ⟨b, off, none⟩) pc p.length p (s : Int) _ rfl hpl (by omega)).mono ?_
            rintro e w2 ⟨he, hw2⟩
            obtain rfl := hw2.symm
            rw [hin] at he
            subst he
            go_wp2_with fail
            refine (refCost_any nn z (s : Int) ao len cap ls _ hlen (hl.ext hE) hx).mono ?_
            rintro e wq ⟨rfl, Eq⟩
            go_wp2
            go_roundw
            case rel => exact ⟨s + 1, ov, L, rfl, by omega, by go_num, own_ext hown Eq, by rw [HFl.out, HF.out, List.append_nil]; exact hpv.ext Eq, below_ext hbel Eq hsz⟩
            case measure => simp [intOf]; omega
        · have HF : Hid (allF (cost ls) nn to k p s = []) := by unfold allF; rw [if_neg (fun h => h.1 (of_decide_eq_true hin))]; exact hidp rfl
          go_wp2_with fail
          refine (in_any (some ⟨b, off, none⟩) pc p.length p (s : Int) _ rfl hpl (by omega)).mono ?_
          rintro e w2 ⟨he, hw2⟩
          obtain rfl := hw2.symm
          rw [hin] at he
          subst he
          go_wp2
          go_roundw
          case rel => exact ⟨s + 1, ov, L, rfl, by omega, by go_num, hown, by rw [HFl.out, HF.out, List.append_nil]; exact hpv, hbel⟩
          case measure => simp [intOf]; omega
      · obtain rfl : s = nn := by omega
        obtain ⟨ro, rcap, rfl, hrow⟩ := rowAt_own hown
        have hrc : ro = none → rcap = 0 := own_zero hown
        go_wp2
        go_ret
        refine ⟨ro, rcap, L, rfl, hE, hrow, hrc, ?_⟩
        rw [HA.out]
        exact hpv.mono (fun c hc hl => ⟨Or.inr (by omega), hl, rfl⟩)

end Go.Proofs.Ytagkbpckflineab
