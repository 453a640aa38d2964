/- What cheapest answers: the first of the cheapest paths that serve a flow, or that there is none. -/
import Derived.Test.YtgffkjjddhlbpaaP5
import Derived.Test.YtgffkjjddhlbpaaM3
namespace Go.Proofs.Ytgffkjjddhlbpaa
open Go.RowKit Go.Maps Stw Go.Deep Stp

theorem enter_ok {S : Nat} {C : Int → Int → Int} {fr to : Int} {vo : Option Addr} {vc : Nat} {nv : Value} {via : List Int} (hC : ∀ a b, 0 ≤ C a b ∧ C a b ≤ 1000) (hvl : via.length ≤ 4611686018427387904) : ∀ k, EnterOk S C fr to vo vc nv via k
  | 0 => by
    intro cl way x c m best w hwk hnd hrg hcl hx hxc
    have h := nodup_le 8 (way ++ [(x : Int)]) (nd_snoc hnd (fun h => hxc (hcl _ h))) (rg_snoc hrg hx)
    simp at h
    omega
  | k + 1 => enter_step hC hvl (enter_ok hC hvl k)

def matA (C : Int → Int → Int) : Array Value := ((List.range 64).map fun (i : Nat) => Value.int .i64 (C ((i / 8 : Nat) : Int) ((i % 8 : Nat) : Int))).toArray
def srcA (C : Int → Int → Int) (fr to : Int) (vv nv : Value) : Array Value := ((List.range 79).map (sF C fr to vv nv [] (.slice none 0 0) (.slice none 0 0) 0)).toArray
theorem built_s (C : Int → Int → Int) (fr to : Int) (vv nv : Value) : Try.prog.built 129 [(0, .agg (matA C)), (1, .agg #[.int .i64 fr, .int .i64 to, vv, nv])] = some (srcA C fr to vv nv) := by kernel_rfl
theorem mat_eq {C : Int → Int → Int} {cs : Array Value} (hs : cs.size = 64) (h : ∀ a b : Nat, a < 8 → b < 8 → cs[a * 8 + b]? = some (.int .i64 (C a b))) : cs = matA C := by
  apply Array.ext
  · rw [hs]; simp [matA]
  · intro i h1 h2
    have := h (i / 8) (i % 8) (by omega) (by omega)
    rw [show i / 8 * 8 + i % 8 = i by omega, Array.getElem?_eq_getElem h1] at this
    injection this with this
    rw [this]
    simp [matA]

theorem wpList_build2 {P : Program} {ops : Array Oper} {rest : List Oper} {o : Oper} {a : Act} {w : World} {Q : Exit → Act → World → Prop} (hg : o.guard = none) (t : TypeId) (i1 i2 : Nat) (x1 x2 : Operand) (ho : o.op = .build t #[(i1, x1), (i2, x2)]) (v1 v2 : Value) (h1 : a.eval x1 = v1) (h2 : a.eval x2 = v2) (cells : Array Value)
    (hb : P.built t [(i1, v1), (i2, v2)] = some cells) (h : wpList P ops Q rest (a.put o.dst (.agg cells)) w) : wpList P ops Q (o :: rest) a w := by
  have hb' : P.built t ((#[(i1, x1), (i2, x2)] : Array (Nat × Operand)).map fun (i, x) => (i, a.eval x)).toList = some cells := by simpa [h1, h2] using hb
  refine wpList_build hg t _ ho (by rw [hb']; rfl) ?_
  rw [hb']; exact h

/-- What comes of a search. -/
def FOut (w w' : World) (e : Ending) : Option (List Int × Int) → Prop
  | none => e = .returned (.tuple #[.slice none 0 0, .int .i64 9])
  | some (p, _) => ∃ g cap, e = .returned (.tuple #[.slice (some ⟨g, 0, none⟩) p.length cap, .int .i64 0]) ∧ w.heap.size ≤ g ∧ g < w'.heap.size ∧ IntsAt w' g 0 p ∧ p.length ≤ cap

theorem sF_congr {C : Int → Int → Int} {fr to l : Int} {vv nv wv bv : Value} {cl cl' : List Int} (h : ∀ y, y ∈ cl ↔ y ∈ cl') (j : Nat) : sF C fr to vv nv cl wv bv l j = sF C fr to vv nv cl' wv bv l j := by
  unfold sF
  have : decide (((j - 68 : Nat) : Int) ∈ cl) = decide (((j - 68 : Nat) : Int) ∈ cl') := by rw [decide_eq_decide]; exact h _
  rw [this]
theorem srcA_row {C : Int → Int → Int} {fr to : Int} {vv nv : Value} {i : Nat} (h : i < 79) : (srcA C fr to vv nv)[i]? = some (sF C fr to vv nv [] (.slice none 0 0) (.slice none 0 0) 0 i) := by simp [srcA, h]
theorem srcA_size {C : Int → Int → Int} {fr to : Int} {vv nv : Value} : (srcA C fr to vv nv).size = 79 := by simp [srcA]
theorem sF_one {C : Int → Int → Int} {fr to l : Int} {vo no wo bo : Option Addr} {v1 v2 n1 n2 w1 w2 b1 b2 : Nat} {cl : List Int} (j : Nat) : (sF C fr to (.slice vo v1 v2) (.slice no n1 n2) cl (.slice wo w1 w2) (.slice bo b1 b2) l j).oneCell' = true := by
  unfold sF
  repeat' split
  all_goals rfl
theorem srcA_one {C : Int → Int → Int} {fr to : Int} {vo no : Option Addr} {v1 v2 n1 n2 : Nat} : (srcA C fr to (.slice vo v1 v2) (.slice no n1 n2)).all (·.oneCell') = true := by
  rw [Array.all_eq_true]
  intro i hi
  have hi' : i < 79 := by rw [srcA_size] at hi; exact hi
  have := srcA_row (C := C) (fr := fr) (to := to) (vv := .slice vo v1 v2) (nv := .slice no n1 n2) hi'
  rw [Array.getElem?_eq_getElem hi] at this
  injection this with this
  rw [this]
  exact sF_one i

set_option maxRecDepth 100000 in
set_option maxHeartbeats 2000000 in
theorem cheapest_core {C : Int → Int → Int} (hC : ∀ a b, 0 ≤ C a b ∧ C a b ≤ 1000) (frn : Nat) (to : Int) (vo no : Option Addr) (vc nc : Nat) (via nt : List Int) (w : World) (hfr : frn < 8) (hvl : via.length ≤ 4611686018427387904) (hnl : nt.length ≤ 4611686018427387904)
    (hv : ListAt w vo via) (hn : ListAt w no nt) (hnr : ∀ x ∈ nt, 0 ≤ x ∧ x < 8) (hfn : ¬ (frn : Int) ∈ nt) (cs ss : Array Value) (hcs : cs.size = 64) (hss : ss.size = 79) (hone : ss.all (·.oneCell') = true)
    (hbt : Try.prog.built 129 [(0, .agg cs), (1, .agg #[.int .i64 frn, .int .i64 to, .slice vo via.length vc, .slice no nt.length nc])] = some ss) (hsrc : ∀ i, i < 79 → ss[i]? = some (sF C frn to (.slice vo via.length vc) (.slice no nt.length nc) [] (.slice none 0 0) (.slice none 0 0) 0 i)) :
    Calls Try.prog 46 #[.agg cs, .agg #[.int .i64 frn, .int .i64 to, .slice vo via.length vc, .slice no nt.length nc]] w fun e w' => Ext w w' ∧ FOut w w' e (find C frn to via nt) := by
  have hl1 : ((w.alloc (.cells cs 103)).alloc (.cells #[.int .i64 frn, .int .i64 to, .slice vo via.length vc, .slice no nt.length nc] 91)).heap[w.heap.size]? = some (.cells cs 103 (0, 0)) := (blk_alloc_lt _ _ _ (by simp)).trans (blk_alloc_new _ _)
  have hi1 : (Try.prog.info? 103).map (·.size) = some cs.size := by rw [hcs]; kernel_rfl
  have hl2 : (((w.alloc (.cells cs 103)).alloc (.cells #[.int .i64 frn, .int .i64 to, .slice vo via.length vc, .slice no nt.length nc] 91)).alloc (.cells Try.zeroCells129 129)).heap[w.heap.size + 1 + 1]? = some (.cells Try.zeroCells129 129 (0, 0)) := by
    have := blk_alloc_new ((w.alloc (.cells cs 103)).alloc (.cells #[.int .i64 frn, .int .i64 to, .slice vo via.length vc, .slice no nt.length nc] 91)) (.cells Try.zeroCells129 129)
    simpa using this
  have hi2 : (Try.prog.info? 129).map (·.size) = some ss.size := by rw [hss]; kernel_rfl
  have hz2 : Try.zeroCells129.size = ss.size := by rw [hss]; kernel_rfl
  have hrow3 : ((((w.alloc (.cells cs 103)).alloc (.cells #[.int .i64 frn, .int .i64 to, .slice vo via.length vc, .slice no nt.length nc] 91)).alloc (.cells Try.zeroCells129 129)).setRow (w.heap.size + 1 + 1) ss).rowIs (w.heap.size + 1 + 1) 129 79 (sF C frn to (.slice vo via.length vc) (.slice no nt.length nc) [] (.slice none 0 0) (.slice none 0 0) 0) := ⟨ss, setRow_heap _ _ _ ss _ _ hl2, hss, hsrc⟩
  have hbel3 : Below (w.heap.size + 1 + 1) ((w.alloc (.cells cs 103)).alloc (.cells #[.int .i64 frn, .int .i64 to, .slice vo via.length vc, .slice no nt.length nc] 91)) ((((w.alloc (.cells cs 103)).alloc (.cells #[.int .i64 frn, .int .i64 to, .slice vo via.length vc, .slice no nt.length nc] 91)).alloc (.cells Try.zeroCells129 129)).setRow (w.heap.size + 1 + 1) ss) := below_setRow ((Below.refl _ _).alloc (by simp) _) (Nat.le_refl _) _
  have hc3 : ∀ wr, Below (w.heap.size + 1 + 1) ((w.alloc (.cells cs 103)).alloc (.cells #[.int .i64 frn, .int .i64 to, .slice vo via.length vc, .slice no nt.length nc] 91)) wr → wr.cell? ⟨w.heap.size + 1, 3, none⟩ = some (.slice no nt.length nc) ∧ wr.cell? ⟨w.heap.size + 1, 0, none⟩ = some (.int .i64 frn) ∧ Ext w wr := fun wr h =>
    ⟨(h.cell (p := ⟨w.heap.size + 1, 3, none⟩) (by simp)).trans (by simp), (h.cell (p := ⟨w.heap.size + 1, 0, none⟩) (by simp)).trans (by simp), Below.trans (((Ext.refl w).alloc _).alloc _) (h.mono (by omega))⟩
  obtain ⟨c3, c0, hE3⟩ := hc3 _ hbel3
  have HC3 := hidp hc3
  clear hc3
  go_enter Try.func46, Try.ntmps46
  go_wp2_with (first
    | (refine wpList_load_row rfl 103 (.tmp 2) rfl w.heap.size rfl 103 cs (0, 0) _ hl1 Try.underlying103 rfl hi1 ?_)
    | (refine wpList_build2 rfl 129 0 1 (.tmp 9) (.tmp 10) rfl _ _ rfl rfl ss hbt ?_)
    | (refine wpList_store_row rfl 129 (.tmp 6) (.tmp 11) rfl (w.heap.size + 1 + 1) ss rfl rfl 129 Try.zeroCells129 hl2 hi2 hz2 hone ?_))
  go_loopw [15] (fun iv wr => ∃ k : Nat, k ≤ nt.length ∧ iv = .int .i64 k ∧ Below (w.heap.size + 1 + 1) ((w.alloc (.cells cs 103)).alloc (.cells #[.int .i64 frn, .int .i64 to, .slice vo via.length vc, .slice no nt.length nc] 91)) wr ∧ wr.rowIs (w.heap.size + 1 + 1) 129 79 (sF C frn to (.slice vo via.length vc) (.slice no nt.length nc) (nt.take k) (.slice none 0 0) (.slice none 0 0) 0)) (fun iv _ => nt.length - (intOf iv).toNat)
  case atStart => exact ⟨0, Nat.zero_le _, rfl, hbel3, hrow3⟩
  case round =>
    clear hl1 hl2 hrow3 hbel3 c3 c0 hE3
    obtain ⟨k, hk, rfl, hbel, hrow⟩ := hrel
    obtain ⟨c3, c0, hE⟩ := HC3.out _ hbel
    by_cases hlt : k < nt.length
    · obtain ⟨b, off, rfl, hb, hat⟩ : ∃ b off, no = some ⟨b, off, none⟩ ∧ b < w.heap.size ∧ IntsAt w b off nt := by
        rcases hn with rfl | h
        · simp at hlt
        · exact h
      have ce := (hE.cells.1 _ _ hb).trans (hat k hlt)
      have hmem : nt.getD k 0 ∈ nt := getD_mem hlt
      have hr := hnr _ hmem
      obtain ⟨x, hx⟩ := Int.eq_ofNat_of_zero_le hr.1
      have HX := hidp hx
      rw [hx] at ce hr
      clear hx hmem hat
      have hx8 : x < 8 := by omega
      have ecc := closed_at hx8 hrow
      have efz := hrow.frozen (68 + x)
      have hbr : b < wr.heap.size := by have := hE.size; omega
      go_wp2
      go_roundw
      case rel =>
        refine ⟨k + 1, by omega, by go_num, hbel.setCell (by simp) _, ((hrow.set _ _).congr (fun j _ => sF_close hx8 j)).congr (fun j _ => sF_congr (fun y => ?_) j)⟩
        rw [List.take_succ_eq_append_getElem hlt, List.mem_append, List.mem_cons]
        have e : nt[k] = (x : Int) := by rw [← getD_at hlt]; exact HX.out
        rw [e]
        simp
        exact Or.comm
      case measure => simp [intOf]; omega
    · have hkk : nt.take k = nt := List.take_of_length_le (by omega)
      rw [hkk] at hrow
      clear hkk
      go_wp2_with fail
      refine (enter_ok hC hvl 8 nt [] frn 0 0 none _ (by simp) (by simp) (by simp) (by simp) hfr hfn (by omega) (by simp) (Nat.zero_le _) ?_ ⟨_, _, _, hrow, World.ownsRow_nil _ _ _ _, rfl⟩).mono ?_
      · rcases hv with h | ⟨b, off, h1, h2, h3⟩
        · exact Or.inl h
        · exact Or.inr ⟨b, off, h1, by omega, fun i hi => (hE.cells.1 _ _ h2).trans (h3 i hi)⟩
      · rintro e w4 ⟨rfl, hbl4, wv4, bv4, l4, hsa4⟩
        obtain ⟨e65, e66, e76, e77, e78, efz⟩ := flow_cells hsa4.row
        have hE4 : Ext w w4 := Below.trans hE (hbl4.mono (by have := hE.size; omega))
        have heql : ∀ (w : World) (a : Option Addr) (n c : Nat), (binOp .eql 105 (.slice a n c) (.slice none 0 0)).run Try.prog w = .ok (.bool a.isNone) w := fun w a n c => Lib.run_eql_slice_nil w _ _ a n c 0 0 Try.underlying105
        have hbest := hsa4.best
        have hfd : ent C to via 8 nt [] (frn : Int) 0 0 none = find C frn to via nt := rfl
        rw [hfd] at hbest
        clear hsa4 hfd c3 c0
        cases hfi : find C frn to via nt with
        | none =>
          rw [hfi] at hbest
          have HF := hidp hfi
          clear hfi
          have hbv : bv4 = .slice none 0 0 := hbest
          subst hbv
          go_wp2
          go_ret2
          refine ⟨hE4, ?_⟩
          rw [HF.out]
          rfl
        | some y =>
          obtain ⟨p, c⟩ := y
          rw [hfi] at hbest
          have HF := hidp hfi
          clear hfi
          obtain ⟨g, cap, rfl, h2, h3, h4, _, _, h7⟩ := hbest
          go_wp2
          go_ret2
          refine ⟨hE4, ?_⟩
          rw [HF.out]
          exact ⟨g, cap, rfl, by omega, h3, h4, h7⟩

theorem cheapest_any {C : Int → Int → Int} (hC : ∀ a b, 0 ≤ C a b ∧ C a b ≤ 1000) (frn : Nat) (to : Int) (vo no : Option Addr) (vc nc : Nat) (via nt : List Int) (w : World) (hfr : frn < 8) (hvl : via.length ≤ 4611686018427387904) (hnl : nt.length ≤ 4611686018427387904)
    (hv : ListAt w vo via) (hn : ListAt w no nt) (hnr : ∀ x ∈ nt, 0 ≤ x ∧ x < 8) (hfn : ¬ (frn : Int) ∈ nt) (cs : Array Value) (hcs : cs.size = 64) (hcc : ∀ a b : Nat, a < 8 → b < 8 → cs[a * 8 + b]? = some (.int .i64 (C a b))) :
    Calls Try.prog 46 #[.agg cs, .agg #[.int .i64 frn, .int .i64 to, .slice vo via.length vc, .slice no nt.length nc]] w fun e w' => Ext w w' ∧ FOut w w' e (find C frn to via nt) := by
  obtain rfl := mat_eq hcs hcc
  exact cheapest_core hC frn to vo no vc nc via nt w hfr hvl hnl hv hn hnr hfn _ _ hcs srcA_size srcA_one (built_s _ _ _ _ _) (fun i hi => srcA_row hi)

end Go.Proofs.Ytgffkjjddhlbpaa
