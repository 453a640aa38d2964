/- What costsOf answers, for every right net: what each link costs; nothing that was there is changed. -/
import Derived.Test.YtgffkjjddhlbpaaI1
import Derived.Test.YtgffkjjddhlbpaaQ3
import Derived.Deep.OwnRows
import Derived.Deep.MidRow
import Derived.Laws.CopyOwn
namespace Go.Proofs.Ytgffkjjddhlbpaa
open Go.RowKit Go.Maps Stw Go.Deep

theorem hidp {p : Prop} (h : p) : Hid p := h

/-- Which places of the table are filled. -/
def dn (a b x y : Nat) : Bool := decide ((x < a ∧ y < a) ∨ (x = a ∧ y < b) ∨ (y = a ∧ x < b))
def cf (ls : List Lk) (a b j : Nat) : Value := .int .i64 (if dn a b (j / 8) (j % 8) = true then cost ls ((j / 8 : Nat) : Int) ((j % 8 : Nat) : Int) else 0)
theorem cf_zero (ls : List Lk) (j : Nat) : cf ls 0 0 j = .int .i64 0 := by
  have : dn 0 0 (j / 8) (j % 8) = false := by simp [dn]
  simp [cf, this]
theorem rep_get {n i : Nat} {x : Value} (h : i < n) : (List.replicate n x).toArray[i]? = some x := by simp [h]
theorem cf_step {ls : List Lk} {a b j : Nat} (hb : b < 8) (ha : a < 8) (hba : b < a) : (if j = b * 8 + a then Value.int .i64 (cost ls a b) else if j = a * 8 + b then Value.int .i64 (cost ls a b) else cf ls a b j) = cf ls a (b + 1) j := by
  by_cases h1 : j = b * 8 + a
  · have e1 : j / 8 = b := by omega
    have e2 : j % 8 = a := by omega
    have : dn a (b + 1) b a = true := by simp [dn]
    rw [if_pos h1, cf, e1, e2, this, if_pos rfl, cost_comm]
  · rw [if_neg h1]
    by_cases h2 : j = a * 8 + b
    · have e1 : j / 8 = a := by omega
      have e2 : j % 8 = b := by omega
      have : dn a (b + 1) a b = true := by simp [dn]
      rw [if_pos h2, cf, e1, e2, this, if_pos rfl]
    · rw [if_neg h2, cf, cf]
      have : dn a b (j / 8) (j % 8) = dn a (b + 1) (j / 8) (j % 8) := by
        unfold dn
        rw [decide_eq_decide]
        omega
      rw [this]
theorem cf_next {n : Int} {ls : List Lk} (hr : Right n ls) {a j : Nat} : cf ls a a j = cf ls (a + 1) 0 j := by
  unfold cf
  congr 1
  by_cases h : j / 8 = a ∧ j % 8 = a
  · have : cost ls ((j / 8 : Nat) : Int) ((j % 8 : Nat) : Int) = 0 := by
      have h3 := (hr.cost ((j / 8 : Nat) : Int) ((j % 8 : Nat) : Int)).2.2
      by_cases e : cost ls ((j / 8 : Nat) : Int) ((j % 8 : Nat) : Int) = 0
      · exact e
      · have := h3 e; omega
    rw [this]; simp
  · have : dn a a (j / 8) (j % 8) = dn (a + 1) 0 (j / 8) (j % 8) := by
      unfold dn
      rw [decide_eq_decide]
      omega
    rw [this]
theorem cf_all {nn : Nat} {ls : List Lk} (hr : Right (nn : Int) ls) {j : Nat} : cf ls nn 0 j = .int .i64 (cost ls ((j / 8 : Nat) : Int) ((j % 8 : Nat) : Int)) := by
  unfold cf
  congr 1
  split
  · rfl
  · rename_i h
    have h3 := (hr.cost ((j / 8 : Nat) : Int) ((j % 8 : Nat) : Int)).2.2
    by_cases e : cost ls ((j / 8 : Nat) : Int) ((j % 8 : Nat) : Int) = 0
    · exact e.symm
    · have := h3 e
      exact absurd (by simp [dn]; omega) h

/-- The block of the answer. -/
def RB (w : World) (g : Nat) : Prop := ∃ rs, w.heap[g]? = some (.cells rs 103 (0, 0)) ∧ rs.size = 64
theorem RB.of_block {w w' : World} {g : Nat} (h : RB w g) (e : w'.heap[g]? = w.heap[g]?) : RB w' g := by
  obtain ⟨rs, h1, h2⟩ := h
  exact ⟨rs, e.trans h1, h2⟩
theorem RB.made (w : World) (cs : Array Value) (h : cs.size = 64) : RB (w.alloc (.cells cs 103)) w.heap.size := ⟨cs, blk_alloc_new _ _, h⟩
theorem RB.lt {w : World} {g : Nat} (h : RB w g) : g < w.heap.size := by
  obtain ⟨rs, h1, h2⟩ := h
  exact (Array.getElem?_eq_some_iff.1 h1).1
theorem RB.set {w : World} {g : Nat} (h : RB w g) {a : Addr} (ha : g ≠ a.block) (v : Value) : RB (w.setCell a v) g := h.of_block (blk_setCell_other _ _ _ _ ha)

set_option maxRecDepth 100000 in
set_option maxHeartbeats 2000000 in
theorem costsOf_right (nn : Nat) (ao : Option Addr) (len cap : Nat) (ls : List Lk) (w : World) (hlen : ls.length = len) (hl : NetAt w ao ls) (hx : len ≤ 9223372036854775807) (hr : wrong (nn : Int) ls = (0, 0)) :
    Calls Try.prog 45 #[.agg #[.int .i64 nn, .slice ao len cap]] w fun e w' => ∃ cs : Array Value, e = .returned (.agg cs) ∧ cs.size = 64 ∧ (∀ a b : Nat, a < 8 → b < 8 → cs[a * 8 + b]? = some (.int .i64 (cost ls a b))) ∧ Ext w w' := by
  have HR := hidp hr
  have hright := right_of (by rw [hr] : (wrong (nn : Int) ls).1 = 0)
  have hbd := hright.bounds
  clear hr
  go_enter Try.func45, Try.ntmps45
  go_wp2
  go_loopw [9] (fun iv wr => ∃ a : Nat, a ≤ nn ∧ iv = .int .i64 a ∧ wr.rowIs (w.heap.size + 1 + 1) 103 64 (cf ls a 0) ∧ Below (w.heap.size + 1) (w.alloc (.cells #[.int .i64 nn, .slice ao len cap] 31)) wr ∧ RB wr (w.heap.size + 1)) (fun iv _ => nn - (intOf iv).toNat)
  case atStart =>
    refine ⟨0, Nat.zero_le _, rfl, ?_, ?_, ?_⟩
    · have := World.rowIs_alloc ((w.alloc (.cells #[.int .i64 nn, .slice ao len cap] 31)).alloc (.cells (List.replicate 64 (Value.int .i64 0)).toArray 103)) (List.replicate 64 (Value.int .i64 0)).toArray 103 (cf ls 0 0) (fun i hi => by rw [cf_zero]; exact rep_get (by rw [List.size_toArray, List.length_replicate] at hi; exact hi))
      simpa using this
    · exact ((Below.refl _ _).alloc (by simp) _).alloc (by simp) _
    · have := (RB.made (w.alloc (.cells #[.int .i64 nn, .slice ao len cap] 31)) (List.replicate 64 (Value.int .i64 0)).toArray (by rw [List.size_toArray, List.length_replicate])).of_block (blk_alloc_lt _ (.cells (List.replicate 64 (Value.int .i64 0)).toArray 103) _ (by simp))
      simpa using this
  case round =>
    obtain ⟨a, ha, rfl, hrow, hbel, hRB⟩ := hrel
    by_cases hlt : a < nn
    · go_wp2
      go_loopw [13] (fun iv wr => ∃ b : Nat, b ≤ a ∧ iv = .int .i64 b ∧ wr.rowIs (w.heap.size + 1 + 1) 103 64 (cf ls a b) ∧ Below (w.heap.size + 1) (w.alloc (.cells #[.int .i64 nn, .slice ao len cap] 31)) wr ∧ RB wr (w.heap.size + 1)) (fun iv _ => a - (intOf iv).toNat)
      case atStart => exact ⟨0, Nat.zero_le _, rfl, hrow, hbel, hRB⟩
      case round =>
        clear hrow hbel hRB
        obtain ⟨b, hb, rfl, hrow, hbel, hRB⟩ := hrel
        have hEw : Ext w wr := Below.trans ((Ext.refl w).alloc _) (hbel.mono (by omega))
        have k0 : w.heap.size < w.heap.size + 1 := by omega
        have c0 : wr.cell? ⟨w.heap.size, 0, none⟩ = some (.int .i64 nn) := (hbel.cell (p := ⟨w.heap.size, 0, none⟩) k0).trans (by simp)
        have c1 : wr.cell? ⟨w.heap.size, 1, none⟩ = some (.slice ao len cap) := (hbel.cell (p := ⟨w.heap.size, 1, none⟩) k0).trans (by simp)
        by_cases hlb : b < a
        · go_wp2_with fail
          refine (Cost_any nn a b ao len cap ls _ hlen (hl.ext hEw) hx (i64_small (by omega) (by omega)) (i64_small (by omega) (by omega)) HR.out).mono ?_
          rintro e w1 ⟨rfl, E1⟩
          have hrow1 := hrow.of_block (Below.block E1 _ hrow.lt)
          have q1 := hrow1.cell (i := a * 8 + b) (by omega)
          have q2 := hrow1.cell (i := b * 8 + a) (by omega)
          have f1 := hrow1.frozen (a * 8 + b)
          have f2 := hrow1.frozen (b * 8 + a)
          go_wp2
          go_region
          go_wp2
          go_roundw
          case rel =>
            refine ⟨b + 1, by omega, by go_num, ((hrow1.set _ _).set _ _).drew.congr (fun j hj => cf_step (by omega) (by omega) hlb), ?_, ((hRB.of_block (Below.block E1 _ hRB.lt)).set (by simp) _).set (by simp) _⟩
            exact (((hbel.trans (Below.mono E1 (by have := hrow.lt; omega))).setCell (by simp) _).setCell (by simp) _).drew
          case measure => simp [intOf]; omega
        · go_wp2
          go_roundw
          case rel =>
            obtain rfl : b = a := by omega
            exact ⟨b + 1, by omega, by go_num, hrow.congr (fun j _ => cf_next hright), hbel, hRB⟩
          case measure => simp [intOf]; omega
    · obtain ⟨cs, hcs, hsz, hget⟩ := hrow
      obtain ⟨rs, hrs, hrz⟩ := hRB
      have h1 : cs.all (·.oneCell') = true := by
        rw [Array.all_eq_true]
        intro i hi
        have := hget i (by omega)
        rw [Array.getElem?_eq_getElem hi] at this
        injection this with this
        rw [this]; rfl
      go_wp2_with (first
        | (refine wpList_load_row rfl 103 (.tmp 3) rfl (w.heap.size + 1 + 1) rfl 103 cs (0, 0) _ hcs Try.underlying103 rfl ?i1 ?_)
        | (refine wpList_store_row rfl 103 (.tmp 2) (.tmp 32) rfl (w.heap.size + 1) cs rfl rfl 103 rs hrs ?i2 ?i3 h1 ?_))
      case i1 => rw [hsz]; kernel_rfl
      case i2 => rw [hsz]; kernel_rfl
      case i3 => omega
      refine bodyPost_ret_by (results_cell_row Try.results45 _ _ (w.heap.size + 1) 103 cs (0, 0) _ rfl (setRow_heap _ _ rs cs _ _ hrs) Try.underlying103 rfl (by rw [hsz]; kernel_rfl)) rfl ⟨cs, rfl, hsz, fun x y hx hy => ?_, ?_⟩
      · obtain rfl : a = nn := by omega
        rw [hget (x * 8 + y) (by omega), cf_all hright, show (x * 8 + y) / 8 = x by omega, show (x * 8 + y) % 8 = y by omega]
      · exact below_setRow (Below.trans ((Ext.refl w).alloc _) (hbel.mono (by omega))) (by omega) _

end Go.Proofs.Ytgffkjjddhlbpaa
