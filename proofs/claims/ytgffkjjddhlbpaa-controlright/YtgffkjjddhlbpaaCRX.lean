/- The law ControlRight answers true for every net, flows and picks that can be read, and leaves them as they were: each order that is told, while a change goes on, is one that can be written, with a number of its own. -/
import Derived.Test.YtgffkjjddhlbpaaCRM
import Derived.Test.YtgffkjjddhlbpaaN0a
import Derived.Maps.OwnOps
import Derived.Maps.OwnSet
import Derived.ProofKit
import Derived.OpenShut
import Derived.ChangeOld
import Derived.SizedLaws
import Derived.Deep.Slices
import Derived.Deep.Strs
import Derived.Lib.SmallJoins
import Derived.Test.YtgffkjjddhlbpaaI1
import Derived.Test.YtgffkjjddhlbpaaH0
import Derived.Test.YtgffkjjddhlbpaaH10
/- What settle and Drop answer, by letters; a control at rest, in its box. -/
namespace Go.Proofs.Ytgffkjjddhlbpaa.Ct
open Go.RowKit Go.Deep Stw Stp Tb Rul

/-- A control that is at rest, in its box. -/
structure Rest (wr : World) (bc : Nat) (c : Co) (a : CA) : Prop where
  st : c.st = 0
  wts : c.wts = []
  ok : CoOk c
  box : BX wr bc (coL c a)
  at_ : Stb (fun b => b ≠ bc) wr (fun U => CoAt U c a)
theorem Rest.ext {wr wx : World} {bc : Nat} {c : Co} {a : CA} (h : Rest wr bc c a) (E : Ext wr wx) : Rest wx bc c a :=
  ⟨h.st, h.wts, h.ok, World.rowIs.of_block h.box (Below.block E _ (World.rowIs.lt h.box)), h.at_.ext E⟩

/-- Where all answers have come, by letters. -/
def SeLt (Y : Nat → Prop) (w : World) (nn : Nat) (ls : List Lk) (c : Co) (e : Ending) (w' : World) : Prop := ∃ (k0 k1 : Int) (o2 : Option Addr) (l2 q2 : Nat) (o3 : Option Addr) (l3 q3 : Nat) (k4 : Int) (o5 : Option Addr) (l5 q5 : Nat) (o6 : Option Addr) (l6 q6 : Nat) (k7 : Int) (o8 : Option Addr) (l8 q8 : Nat) (oo : Option Addr) (ol oc : Nat), e = .returned (.tuple #[.agg #[.int .i64 k0, .int .i64 k1, .slice o2 l2 q2, .slice o3 l3 q3, .int .i64 k4, .slice o5 l5 q5, .slice o6 l6 q6, .int .i64 k7, .slice o8 l8 q8], .slice oo ol oc, .bool true]) ∧ Ext w w' ∧ Hid (∃ c' a' outs VS, [.int .i64 k0, .int .i64 k1, .slice o2 l2 q2, .slice o3 l3 q3, .int .i64 k4, .slice o5 l5 q5, .slice o6 l6 q6, .int .i64 k7, .slice o8 l8 q8] = coL c' a' ∧ ol = outs.length ∧ Bks nn ls c c' outs ∧ c'.wts = [] ∧ CoOk c' ∧ Stb (fun b => (Y b ∨ w.heap.size ≤ b) ∧ b ≠ w.heap.size ∧ b ≠ w.heap.size + 1 + 1 ∧ (Value.slice oo outs.length oc).ownBlock ≠ some b) w' (fun U => CoAt U c' a' ∧ TossAt U VS outs) ∧ w'.ownsRow (w.heap.size + 1 + 1 + 1) 32 1 (.slice oo outs.length oc) outs.length VS ∧ (outs = [] → oo = none ∧ oc = 0))
theorem SeOut.letters {Y : Nat → Prop} {w w' : World} {nn : Nat} {ls : List Lk} {c : Co} {e : Ending} (h : SeOut Y w nn ls c e w') : SeLt Y w nn ls c e w' := by
  obtain ⟨c', a', outs, oo, oc, VS, h1, h2, h3⟩ := h
  exact ⟨_, _, _, _, _, _, _, _, _, _, _, _, _, _, _, _, _, _, _, oo, _, oc, h1, h3, c', a', outs, VS, rfl, rfl, h2.out.1, h2.out.2.1, h2.out.2.2.1, h2.out.2.2.2⟩
theorem settle_lt (Y : Nat → Prop) (c : Co) (a : CA) {k0 k1 : Int} {o2 : Option Addr} {l2 q2 : Nat} {o3 : Option Addr} {l3 q3 : Nat} {k4 : Int} {o5 : Option Addr} {l5 q5 : Nat} {o6 : Option Addr} {l6 q6 : Nat} {k7 : Int} {o8 : Option Addr} {l8 q8 : Nat} (hc : [.int .i64 k0, .int .i64 k1, .slice o2 l2 q2, .slice o3 l3 q3, .int .i64 k4, .slice o5 l5 q5, .slice o6 l6 q6, .int .i64 k7, .slice o8 l8 q8] = coL c a) (nn : Nat) (ao : Option Addr) (len cap : Nat) (ls : List Lk) (po : Option Addr) (pc : Nat) (ps : List Int) (w : World) (h : Stb Y w (fun U => CoAt U c a)) (hok : CoOk c) (hlen : ls.length = len) (hl : NetAt w ao ls) (hx : len ≤ 9223372036854775807) (hw : (wrong nn ls).1 = 0) (hn8 : nn ≤ 8) (hpt : pot c ≤ 200)
    (hp : ListAt w po ps) (hpi : ∀ x ∈ ps, I64 x) (hpl : ps.length ≤ 9223372036854775807) :
    Calls Try.prog 17 #[.agg #[.int .i64 k0, .int .i64 k1, .slice o2 l2 q2, .slice o3 l3 q3, .int .i64 k4, .slice o5 l5 q5, .slice o6 l6 q6, .int .i64 k7, .slice o8 l8 q8], .agg #[.int .i64 nn, .slice ao len cap], .slice po ps.length pc] w fun e w' => SeLt Y w nn ls c e w' := by
  have e : Value.agg #[.int .i64 k0, .int .i64 k1, .slice o2 l2 q2, .slice o3 l3 q3, .int .i64 k4, .slice o5 l5 q5, .slice o6 l6 q6, .int .i64 k7, .slice o8 l8 q8] = cvl c a := by
    have : cvl c a = .agg (coL c a).toArray := rfl
    rw [this, ← hc]
  rw [e]
  exact (settle_any Y c a nn ao len cap ls po pc ps w h hok hlen hl hx hw hn8 hpt hp hpi hpl).mono (fun _ _ h => h.letters)
theorem drop_lt (c : Co) (a : CA) {k0 k1 : Int} {o2 : Option Addr} {l2 q2 : Nat} {o3 : Option Addr} {l3 q3 : Nat} {k4 : Int} {o5 : Option Addr} {l5 q5 : Nat} {o6 : Option Addr} {l6 q6 : Nat} {k7 : Int} {o8 : Option Addr} {l8 q8 : Nat} (hc : [.int .i64 k0, .int .i64 k1, .slice o2 l2 q2, .slice o3 l3 q3, .int .i64 k4, .slice o5 l5 q5, .slice o6 l6 q6, .int .i64 k7, .slice o8 l8 q8] = coL c a) (nn : Nat) (ao : Option Addr) (len cap : Nat) (ls : List Lk) (w : World) (h : CoAt w c a) (hok : CoOk c) (hlen : ls.length = len) (hl : NetAt w ao ls) (hx : len ≤ 9223372036854775807) (hw : (wrong nn ls).1 = 0) (hst : c.st = 3) :
    Calls Try.prog 14 #[.agg #[.int .i64 k0, .int .i64 k1, .slice o2 l2 q2, .slice o3 l3 q3, .int .i64 k4, .slice o5 l5 q5, .slice o6 l6 q6, .int .i64 k7, .slice o8 l8 q8], .agg #[.int .i64 nn, .slice ao len cap]] w fun e w' => LtOut w.heap.size w (dropS c nn ls).1 0 e w' := by
  have e : Value.agg #[.int .i64 k0, .int .i64 k1, .slice o2 l2 q2, .slice o3 l3 q3, .int .i64 k4, .slice o5 l5 q5, .slice o6 l6 q6, .int .i64 k7, .slice o8 l8 q8] = cvl c a := by
    have : cvl c a = .agg (coL c a).toArray := rfl
    rw [this, ← hc]
  rw [e]
  have := Drop_any c a nn ao len cap ls w h hok hlen hl hx
  rw [show (dropS c nn ls).2 = 0 by rw [drop_calm hw hst]] at this
  exact this.mono (fun _ _ h => h.letters)
theorem coL_vals {c : Co} {a : CA} {k0 k1 : Int} {o2 : Option Addr} {l2 q2 : Nat} {o3 : Option Addr} {l3 q3 : Nat} {k4 : Int} {o5 : Option Addr} {l5 q5 : Nat} {o6 : Option Addr} {l6 q6 : Nat} {k7 : Int} {o8 : Option Addr} {l8 q8 : Nat} (h : [.int .i64 k0, .int .i64 k1, .slice o2 l2 q2, .slice o3 l3 q3, .int .i64 k4, .slice o5 l5 q5, .slice o6 l6 q6, .int .i64 k7, .slice o8 l8 q8] = coL c a) : k0 = c.st ∧ k1 = c.now.v ∧ k4 = c.nxt.v ∧ l8 = c.wts.length := by
  unfold coL at h
  simp at h
  exact ⟨h.1, h.2.1, h.2.2.2.2.1, h.2.2.2.2.2.2.2.2.2.1⟩
/-- A control at rest again. -/
theorem rest_put {wx : World} {bc : Nat} {c : Co} {a : CA} {k0 k1 : Int} {o2 : Option Addr} {l2 q2 : Nat} {o3 : Option Addr} {l3 q3 : Nat} {k4 : Int} {o5 : Option Addr} {l5 q5 : Nat} {o6 : Option Addr} {l6 q6 : Nat} {k7 : Int} {o8 : Option Addr} {l8 q8 : Nat} {l : List Value} {Z : Nat → Prop} (hb : BX wx bc l) (hl : l.length = 9) (hc : [.int .i64 k0, .int .i64 k1, .slice o2 l2 q2, .slice o3 l3 q3, .int .i64 k4, .slice o5 l5 q5, .slice o6 l6 q6, .int .i64 k7, .slice o8 l8 q8] = coL c a) (h0 : c.st = 0) (h1 : c.wts = []) (hok : CoOk c) (hz : ∀ b, Z b → b ≠ bc) (hs : Stb Z wx (fun U => CoAt U c a)) : Rest (W9 wx bc (.int .i64 k0) (.int .i64 k1) (.slice o2 l2 q2) (.slice o3 l3 q3) (.int .i64 k4) (.slice o5 l5 q5) (.slice o6 l6 q6) (.int .i64 k7) (.slice o8 l8 q8)) bc c a := by
  refine ⟨h0, h1, hok, by rw [← hc]; exact box_put hb _ _ _ _ _ _ _ _ _ hl, ?_⟩
  exact (hs.step (by rw [W9_size0]; exact Nat.le_refl _) (fun b hb _ => W9_block0 b (hz b hb))).more (fun b hb _ => hz b hb)

end Go.Proofs.Ytgffkjjddhlbpaa.Ct

/- Stamps come behind all rules, in words. -/
namespace Go.Proofs.Ytgffkjjddhlbpaa.Ct
open Go.RowKit Go.Deep Stw Stp Tb Rul

theorem told_mem {ord : Nat → Option Wir.Od} {g : Cg} {x : Nat × Wir.Od} : ∀ {m : Nat}, x ∈ (told m ord g).out → x ∈ g.out ∨ ∃ o, x.1 < m ∧ ord x.1 = some o ∧ x.2.k = o.k ∧ x.2.v = o.v ∧ x.2.rs = o.rs ∧ x.2.fs = o.fs
  | 0, h => Or.inl h
  | m + 1, h => by
    cases ho : ord m with
    | none =>
      rw [told_none ho] at h
      rcases told_mem h with h | ⟨o, h1, h2⟩
      · exact Or.inl h
      · exact Or.inr ⟨o, by omega, h2⟩
    | some o =>
      rw [told_some ho] at h
      rcases List.mem_append.1 h with h | h
      · rcases told_mem h with h | ⟨o, h1, h2⟩
        · exact Or.inl h
        · exact Or.inr ⟨o, by omega, h2⟩
      · rw [List.mem_singleton] at h
        subst h
        exact Or.inr ⟨o, Nat.lt_succ_self m, ho, rfl, rfl, rfl, rfl⟩
theorem told_same {ord : Nat → Option Wir.Od} {g : Cg} : ∀ m, (told m ord g).c.wts.length + g.out.length = (told m ord g).out.length + g.c.wts.length
  | 0 => Nat.add_comm _ _
  | m + 1 => by
    have ih := told_same (ord := ord) (g := g) m
    cases h : ord m with
    | none => rw [told_none h]; exact ih
    | some x => rw [told_some h]; simp only [List.length_append, List.length_cons, List.length_nil]; omega
theorem addO_k {p : Pl} {s : Nat} {o : Wir.Od} (h : addO p s = some o) : o.k = 1 := by
  unfold addO at h
  split at h
  · cases h
  · cases h; rfl
theorem stpO_k {a b : Pl} {s : Nat} {o : Wir.Od} (h : stpO a b s = some o) : o.k = 2 := by
  unfold stpO at h
  split at h
  · cases h
  · cases h; rfl
def cnt (l : List (Nat × Wir.Od)) : Nat := (l.filter (fun x => x.2.k == 1)).length
def stm (l : List (Nat × Wir.Od)) : Bool := l.any (fun x => x.2.k == 2)
theorem cnt_all {l : List (Nat × Wir.Od)} (h : ∀ x ∈ l, x.2.k = 1) : cnt l = l.length ∧ stm l = false := by
  refine ⟨?_, ?_⟩
  · unfold cnt
    rw [List.filter_eq_self.2 (fun x hx => by simp [h x hx])]
  · unfold stm
    rw [List.any_eq_false]
    intro x hx
    simp [h x hx]
theorem cnt_none {l : List (Nat × Wir.Od)} (h : ∀ x ∈ l, x.2.k = 2) : cnt l = 0 := by
  unfold cnt
  rw [List.length_eq_zero_iff, List.filter_eq_nil_iff]
  intro x hx
  simp [h x hx]
theorem goS_out2 {n : Nat} {g : Cg} (h : g.c.st = 1 ∨ g.c.st = 2) (ho : g.out = []) : (∀ x ∈ (goS n g).out, x.2.k = 2) ∧ ((goS n g).out ≠ [] → g.c.st = 1 ∧ g.c.wts = []) ∧ (g.c.st = 2 → (goS n g).c.st ≠ 1) ∧ ((goS n g).c.st = 1 → g.c.st = 1 ∧ (goS n g).c.wts = g.c.wts) := by
  rcases goS_cases n g with ⟨hw, e⟩ | ⟨hw, h1, e⟩ | ⟨hw, h2, e⟩ | ⟨hw, h4, e⟩ | ⟨hw, n1, n2, n4, e⟩
  · rw [e, ho]; exact ⟨by simp, by simp, fun h => by omega, fun h => ⟨h, rfl⟩⟩
  · have hk : ∀ x ∈ (told n (stpO g.c.now g.c.nxt) (setSt g 2)).out, x.2.k = 2 := fun x hx => by
      rcases told_mem hx with h | ⟨o, _, h1, h2, _⟩
      · have : x ∈ g.out := h
        rw [ho] at this; simp at this
      · rw [h2]; exact stpO_k h1
    rw [e]
    refine ⟨fun x hx => ?_, fun _ => ⟨h1, hw⟩, fun h => by omega, fun h => ?_⟩
    · unfold calmS at hx
      split at hx
      · exact hk x hx
      · exact hk x hx
    · unfold calmS at h
      split at h
      · simp [told, setSt] at h
      · simp [setSt] at h
  · rw [e]
    refine ⟨fun x hx => ?_, fun h => ?_, fun _ => by simp [setSt], fun h => by simp [setSt] at h⟩
    · have : x ∈ g.out := hx
      rw [ho] at this; simp at this
    · exact absurd ho h
  · omega
  · omega
/-- What Ask tells: rules alone, and as many are waited for; or stamps alone. -/
theorem ask_kinds {c : Co} {n : Int} {ls : List Lk} {fs : List Stf.Fl} (h : AskOk c n ls fs) (hw : c.wts = []) :
    ((askS c n ls fs).1.c.st = 1 ∧ cnt (askS c n ls fs).1.out = (askS c n ls fs).1.c.wts.length ∧ stm (askS c n ls fs).1.out = false) ∨ ((askS c n ls fs).1.c.st ≠ 1 ∧ cnt (askS c n ls fs).1.out = 0) := by
  rw [h.eq]
  generalize hp : (⟨nx c.now.v, fs, plnP n ls fs⟩ : Pl) = p
  obtain ⟨g, hg⟩ : ∃ g, g = told n.toNat (addO p) ⟨⟨1, c.now, p, c.num, c.wts⟩, []⟩ := ⟨_, rfl⟩
  have hs : g.c.st = 1 := by rw [hg]; rfl
  have hl : g.c.wts.length = g.out.length := by
    have := told_same (ord := addO p) (g := ⟨⟨1, c.now, p, c.num, c.wts⟩, []⟩) n.toNat
    rw [← hg] at this
    simpa [hw] using this
  have hk : ∀ x ∈ g.out, x.2.k = 1 := fun x hx => by
    rw [hg] at hx
    rcases told_mem hx with h | ⟨o, _, h1, h2, _⟩
    · simp at h
    · rw [h2]; exact addO_k h1
  rw [← hg]
  show ((goS n.toNat g).c.st = 1 ∧ cnt (goS n.toNat g).out = (goS n.toNat g).c.wts.length ∧ stm (goS n.toNat g).out = false) ∨ _
  by_cases hw0 : g.c.wts = []
  · have ho : g.out = [] := by rw [hw0] at hl; exact List.eq_nil_of_length_eq_zero hl.symm
    obtain ⟨k1, _, _, k4⟩ := goS_out2 (n := n.toNat) (g := g) (Or.inl hs) ho
    refine Or.inr ⟨fun e => ?_, cnt_none k1⟩
    obtain ⟨_, e2⟩ := k4 e
    have := (goS_A (n := n.toNat) (g := g) (Or.inl hs)).2.2
    rw [e2, hw0, e] at this
    simp at this
  · rw [goS_wait hw0]
    exact Or.inl ⟨hs, by rw [(cnt_all hk).1, hl], (cnt_all hk).2⟩
theorem back_kinds {c : Co} {n : Nat} {ls : List Lk} {now nxt : Pl} {k : Int} (hw : (wrong n ls).1 = 0) (h : PhA now nxt c) (hk : k ∈ c.wts) :
    (∀ x ∈ (backS c n ls k).1.out, x.2.k = 2) ∧ ((backS c n ls k).1.out ≠ [] → c.st = 1 ∧ c.wts.length = 1) ∧ (c.st ≠ 1 → (backS c n ls k).1.c.st ≠ 1) ∧ ((backS c n ls k).1.c.st = 1 → c.st = 1 ∧ (backS c n ls k).1.c.wts.length + 1 = c.wts.length) ∧ (c.st = 1 → (backS c n ls k).1.c.st ≠ 1 → c.wts.length = 1) := by
  rw [back_in hw hk]
  have hl := List.length_erase_of_mem hk
  have hp := List.length_pos_of_mem hk
  have hs : c.st = 1 ∨ c.st = 2 := by
    rcases h.2.2 with ⟨h, _⟩ | ⟨_, h⟩
    · exact h
    · rw [h] at hk; simp at hk
  obtain ⟨k1, k2, k3, k4⟩ := goS_out2 (n := n) (g := ⟨⟨c.st, c.now, c.nxt, c.num, c.wts.erase k⟩, []⟩) hs rfl
  refine ⟨k1, fun h => ?_, fun h => ?_, fun h => ?_, fun h1 h2 => ?_⟩
  · obtain ⟨e1, e2⟩ := k2 h
    have e2' : c.wts.erase k = [] := e2
    rw [e2'] at hl
    exact ⟨e1, by simp at hl; omega⟩
  · exact k3 (by rcases hs with h' | h'; exact absurd h' h; exact h')
  · obtain ⟨e1, e2⟩ := k4 h
    refine ⟨e1, ?_⟩
    show (goS n _).c.wts.length + 1 = _
    rw [e2]
    show (c.wts.erase k).length + 1 = _
    omega
  · by_cases he : c.wts.erase k = []
    · rw [he] at hl; simp at hl; omega
    · exfalso
      apply h2
      show (goS n ⟨⟨c.st, c.now, c.nxt, c.num, c.wts.erase k⟩, []⟩).c.st = 1
      rw [goS_wait he]
      exact h1
theorem goS_few (n : Nat) (g : Cg) : (goS n g).out.length ≤ g.out.length + n := by
  rcases goS_cases n g with ⟨_, e⟩ | ⟨_, _, e⟩ | ⟨_, _, e⟩ | ⟨_, _, e⟩ | ⟨_, _, _, _, e⟩
  · rw [e]; omega
  · rw [e]
    have := (told_len (ord := stpO g.c.now g.c.nxt) (g := setSt g 2) n).2
    have hs : (setSt g 2).out = g.out := rfl
    rw [hs] at this
    unfold calmS
    split
    · exact this
    · exact this
  · rw [e]; show g.out.length ≤ _; omega
  · rw [e]; show g.out.length ≤ _; omega
  · rw [e]; omega
theorem back_few {c : Co} {n : Nat} {ls : List Lk} {k : Int} (hw : (wrong n ls).1 = 0) (hn : n ≤ 8) (hk : k ∈ c.wts) : (backS c n ls k).1.out.length ≤ 8 := by
  rw [back_in hw hk]
  have := goS_few n ⟨⟨c.st, c.now, c.nxt, c.num, c.wts.erase k⟩, []⟩
  simp only [List.length_nil] at this
  exact Nat.le_trans this (by omega)
theorem AskOk.few {c : Co} {n : Int} {ls : List Lk} {fs : List Stf.Fl} (h : AskOk c n ls fs) : (askS c n ls fs).1.out.length ≤ 100 := by
  have hg := plan_good h.hp
  have hn : n.toNat ≤ 8 := by have := hg.n8; omega
  rw [h.eq]
  have h1 := (told_len (ord := addO ⟨nx c.now.v, fs, plnP n ls fs⟩) (g := ⟨⟨1, c.now, ⟨nx c.now.v, fs, plnP n ls fs⟩, c.num, c.wts⟩, []⟩) n.toNat).2
  simp only [List.length_nil] at h1
  generalize told n.toNat (addO ⟨nx c.now.v, fs, plnP n ls fs⟩) ⟨⟨1, c.now, ⟨nx c.now.v, fs, plnP n ls fs⟩, c.num, c.wts⟩, []⟩ = g at h1 ⊢
  exact Nat.le_trans (goS_few n.toNat g) (by omega)

end Go.Proofs.Ytgffkjjddhlbpaa.Ct

/- What is told is right, in words: every order can be written, with a number of its own. -/
namespace Go.Proofs.Ytgffkjjddhlbpaa.Ct
open Go.RowKit Go.Deep Stw Stp Tb Rul

/-- An order that can be written, whatever its number. -/
def Rgt (n : Nat) (x : Nat × Wir.Od) : Prop := x.1 < n ∧ Wir.wrong ⟨x.2.k, 1, x.2.v, x.2.rs, x.2.fs⟩ = 0 ∧ x.2.rs.length ≤ 16 ∧ x.2.fs.length ≤ 12
theorem Rgt.wrong {n : Nat} {x : Nat × Wir.Od} (h : Rgt n x) (h1 : 1 ≤ x.2.n) (h2 : x.2.n ≤ 100000) : Wir.wrong x.2 = 0 := by
  have h3 := h.2.1
  unfold Wir.wrong at h3 ⊢
  simp only at h3
  by_cases hv : x.2.v < 1 ∨ 1000 < x.2.v
  · rw [if_pos (by omega)] at h3; cases h3
  · rw [if_neg (by omega)] at h3 ⊢
    exact h3
/-- A plan that may hold. -/
structure Gd (n : Nat) (p : Pl) : Prop where
  v1 : 1 ≤ p.v
  v2 : p.v ≤ 1000
  pl : p.ps.length ≤ 12
  fl : p.fs.length ≤ 12
  gp : GP n p.ps
theorem beg_few {s : Int} {fs : List Stf.Fl} : ∀ K, (beg s fs K).length ≤ K
  | 0 => Nat.le_refl _
  | K + 1 => by
    have := beg_few (s := s) (fs := fs) K
    unfold beg
    rw [List.length_append]
    split <;> simp <;> omega
theorem beg_lt {s : Int} {fs : List Stf.Fl} : ∀ {K : Nat} {x : Int}, x ∈ beg s fs K → 0 ≤ x ∧ x < K
  | 0, _, h => by simp [beg] at h
  | K + 1, x, h => by
    unfold beg at h
    rcases List.mem_append.1 h with h | h
    · have := beg_lt h; omega
    · split at h
      · rw [List.mem_singleton] at h; omega
      · simp at h
theorem badF_snoc {f : Int} (hf : f ≤ 11) : ∀ {l : List Int} {last : Int}, Wir.badF last l = false → last < f → (∀ x ∈ l, x < f) → Wir.badF last (l ++ [f]) = false
  | [], last, _, h2, _ => by
    show Wir.badF last [f] = false
    unfold Wir.badF
    rw [if_neg (by omega)]
    rfl
  | y :: r, last, h1, _, h3 => by
    rw [List.cons_append]
    unfold Wir.badF at h1 ⊢
    split at h1
    · cases h1
    · rename_i hc
      rw [if_neg hc]
      exact badF_snoc hf h1 (h3 y (by simp)) (fun x hx => h3 x (by simp [hx]))
theorem beg_good {s : Int} {fs : List Stf.Fl} : ∀ K, K ≤ 12 → Wir.badF (-1) (beg s fs K) = false
  | 0, _ => rfl
  | K + 1, hK => by
    have ih := beg_good (s := s) (fs := fs) K (by omega)
    unfold beg
    split
    · exact badF_snoc (by omega) ih (by omega) (fun x hx => (beg_lt hx).2)
    · rw [List.append_nil]; exact ih
theorem add_right {n s : Nat} {p : Pl} {o : Wir.Od} (hg : Gd n p) (hn : n ≤ 8) (h : addO p s = some o) : Wir.wrong ⟨o.k, 1, o.v, o.rs, o.fs⟩ = 0 ∧ o.rs.length ≤ 16 ∧ o.fs.length ≤ 12 := by
  unfold addO at h
  split at h
  · cases h
  · cases h
    have hl := rof_short (v := p.v) (s := s) hg.gp p.ps.length (Nat.le_refl _)
    have h1 := hg.v1
    have h2 := hg.v2
    have h3 := hg.pl
    refine ⟨?_, by unfold rls; simp only; omega, by simp⟩
    unfold Wir.wrong
    rw [if_neg (by simp only; omega), if_pos rfl, if_neg (by unfold rls; simp only; omega), if_neg]
    rw [Bool.not_eq_true, List.any_eq_false]
    intro r hr
    obtain ⟨i, hi, k, hk, _, rfl⟩ := mem_rof.1 (show r ∈ rof p.v s p.ps p.ps.length from hr)
    have hm := (hg.gp i hi).2.2 ((p.ps.getD i []).getD (k + 1) 0) (get_mem hk)
    simp only [Wir.badR, decide_eq_true_eq]
    omega
theorem stp_right {n s : Nat} {a b : Pl} {o : Wir.Od} (hg : Gd n b) (h : stpO a b s = some o) : Wir.wrong ⟨o.k, 1, o.v, o.rs, o.fs⟩ = 0 ∧ o.rs.length ≤ 16 ∧ o.fs.length ≤ 12 := by
  unfold stpO at h
  split at h
  · cases h
  · cases h
    have hl := beg_few (s := s) (fs := b.fs) b.fs.length
    have h1 := hg.v1
    have h2 := hg.v2
    have h3 := hg.fl
    refine ⟨?_, by simp, by simp only; omega⟩
    unfold Wir.wrong
    rw [if_neg (by simp only; omega), if_neg (by simp), if_pos rfl, if_neg (by simp only; omega), if_neg]
    rw [Bool.not_eq_true]
    exact beg_good _ h3
theorem drp_right {n s : Nat} {p : Pl} {o : Wir.Od} (hg : p = pl0 ∨ Gd n p) (h : drpO p s = some o) : Wir.wrong ⟨o.k, 1, o.v, o.rs, o.fs⟩ = 0 ∧ o.rs.length ≤ 16 ∧ o.fs.length ≤ 12 := by
  unfold drpO at h
  split at h
  · cases h
  · rename_i hr
    cases h
    rcases hg with rfl | hg
    · exact absurd rfl hr
    · have h1 := hg.v1
      have h2 := hg.v2
      refine ⟨?_, by simp, by simp⟩
      unfold Wir.wrong
      rw [if_neg (by simp only; omega), if_neg (by simp), if_neg (by simp), if_pos rfl]

/-- Numbers that rise from one on. -/
structure Asc (lo : Int) (l : List (Nat × Wir.Od)) : Prop where
  asc : (l.map (fun x => x.2.n)).Pairwise (· < ·)
  rng : ∀ x ∈ l, lo < x.2.n ∧ x.2.n ≤ lo + l.length
theorem Asc.nil (lo : Int) : Asc lo [] := ⟨List.Pairwise.nil, by simp⟩
theorem Asc.app {lo : Int} {l m : List (Nat × Wir.Od)} (h : Asc lo l) (k : Asc (lo + l.length) m) : Asc lo (l ++ m) := by
  refine ⟨?_, fun x hx => ?_⟩
  · rw [List.map_append]
    refine List.pairwise_append.2 ⟨h.asc, k.asc, fun a ha b hb => ?_⟩
    obtain ⟨x, hx, rfl⟩ := List.mem_map.1 ha
    obtain ⟨y, hy, rfl⟩ := List.mem_map.1 hb
    have := (h.rng x hx).2
    have := (k.rng y hy).1
    omega
  · rw [List.length_append]
    rcases List.mem_append.1 hx with hx | hx
    · have := h.rng x hx; omega
    · have := k.rng x hx; omega
/-- What was told on the way from one to the other. -/
def Tld (g g' : Cg) : Prop := ∃ L, g'.out = g.out ++ L ∧ g'.c.num = g.c.num + L.length ∧ Asc g.c.num L
theorem Tld.refl (g : Cg) : Tld g g := ⟨[], by simp, by simp, Asc.nil _⟩
theorem told_tld {ord : Nat → Option Wir.Od} {g : Cg} (h0 : 0 ≤ g.c.num) (h1 : g.c.num ≤ 90000) : ∀ m, m ≤ 8 → ∃ L : List (Nat × Wir.Od), L.length ≤ m ∧ (told m ord g).out = g.out ++ L ∧ (told m ord g).c.num = g.c.num + L.length ∧ Asc g.c.num L
  | 0, _ => ⟨[], Nat.le_refl _, by simp [told, tel], by simp [told, tel], Asc.nil _⟩
  | m + 1, hm => by
    obtain ⟨L, l1, l2, l3, l4⟩ := told_tld (ord := ord) (g := g) h0 h1 m (by omega)
    cases ho : ord m with
    | none => rw [told_none ho]; exact ⟨L, by omega, l2, l3, l4⟩
    | some o =>
      rw [told_some ho]
      have hn : nx (told m ord g).c.num = g.c.num + (L.length + 1 : Nat) := by unfold nx; rw [l3, IntKind.wrap_i64]; omega
      refine ⟨L ++ [(m, ⟨o.k, nx (told m ord g).c.num, o.v, o.rs, o.fs⟩)], by simp; omega, ?_, ?_, l4.app ⟨by simp, fun x hx => ?_⟩⟩
      · simp only [l2, List.append_assoc]
      · simp only [hn, List.length_append, List.length_cons, List.length_nil]
      · rw [List.mem_singleton] at hx
        subst hx
        simp only [hn, List.length_cons, List.length_nil]
        omega
theorem goS_tld {n : Nat} {g : Cg} (hn : n ≤ 8) (h0 : 0 ≤ g.c.num) (h1 : g.c.num ≤ 90000) : Tld g (goS n g) := by
  rcases goS_cases n g with ⟨_, e⟩ | ⟨_, _, e⟩ | ⟨_, _, e⟩ | ⟨_, _, e⟩ | ⟨_, _, _, _, e⟩
  · rw [e]; exact Tld.refl g
  · rw [e]
    obtain ⟨L, _, l2, l3, l4⟩ := told_tld (ord := stpO g.c.now g.c.nxt) (g := setSt g 2) h0 h1 n hn
    unfold calmS
    split
    · exact ⟨L, l2, l3, l4⟩
    · exact ⟨L, l2, l3, l4⟩
  · rw [e]; exact ⟨[], by simp [setSt], by simp [setSt], Asc.nil _⟩
  · rw [e]; exact ⟨[], by simp, by simp, Asc.nil _⟩
  · rw [e]; exact Tld.refl g
theorem goS_mem {n : Nat} {g : Cg} {x : Nat × Wir.Od} (h : x ∈ (goS n g).out) : x ∈ g.out ∨ ∃ o, x.1 < n ∧ stpO g.c.now g.c.nxt x.1 = some o ∧ x.2.k = o.k ∧ x.2.v = o.v ∧ x.2.rs = o.rs ∧ x.2.fs = o.fs := by
  rcases goS_cases n g with ⟨_, e⟩ | ⟨_, _, e⟩ | ⟨_, _, e⟩ | ⟨_, _, e⟩ | ⟨_, _, _, _, e⟩
  · rw [e] at h; exact Or.inl h
  · rw [e] at h
    unfold calmS at h
    split at h
    · exact told_mem (g := setSt g 2) h
    · exact told_mem (g := setSt g 2) h
  · rw [e] at h; exact Or.inl h
  · rw [e] at h; exact Or.inl h
  · rw [e] at h; exact Or.inl h
theorem rgt_of {n : Nat} {x : Nat × Wir.Od} {o : Wir.Od} (h1 : x.1 < n) (hk : x.2.k = o.k) (hv : x.2.v = o.v) (hr : x.2.rs = o.rs) (hf : x.2.fs = o.fs) (h : Wir.wrong ⟨o.k, 1, o.v, o.rs, o.fs⟩ = 0 ∧ o.rs.length ≤ 16 ∧ o.fs.length ≤ 12) : Rgt n x := ⟨h1, by rw [hk, hv, hr, hf]; exact h⟩
/-- What is told rises behind the last number, and is right. -/
structure Told (n : Nat) (lo hi : Int) (l : List (Nat × Wir.Od)) : Prop where
  hi : hi = lo + l.length
  asc : Asc lo l
  ok : ∀ x ∈ l, Rgt n x
theorem AskOk.told {c : Co} {n : Nat} {ls : List Lk} {fs : List Stf.Fl} (h : AskOk c n ls fs) (h0 : 0 ≤ c.num) (h1 : c.num ≤ 80000) : Told n c.num (askS c n ls fs).1.c.num (askS c n ls fs).1.out := by
  have hg := plan_good h.hp
  have hn : n ≤ 8 := by have := hg.n8; omega
  have hG : Gd n ⟨nx c.now.v, fs, plnP n ls fs⟩ := ⟨hg.v1, hg.v2, by show (plnP n ls fs).length ≤ 12; rw [hg.len]; exact hg.few, hg.few, hg.gp⟩
  rw [h.eq, show (n : Int).toNat = n from rfl]
  obtain ⟨L, l1, l2, l3, l4⟩ := told_tld (ord := addO ⟨nx c.now.v, fs, plnP n ls fs⟩) (g := ⟨⟨1, c.now, ⟨nx c.now.v, fs, plnP n ls fs⟩, c.num, c.wts⟩, []⟩) h0 (by simp only; omega) n hn
  have hmem : ∀ x ∈ (Ct.told n (addO ⟨nx c.now.v, fs, plnP n ls fs⟩) ⟨⟨1, c.now, ⟨nx c.now.v, fs, plnP n ls fs⟩, c.num, c.wts⟩, []⟩).out, Rgt n x := fun x hx => by
    rcases told_mem hx with hx | ⟨o, k1, k2, k3, k4, k5, k6⟩
    · simp at hx
    · exact rgt_of k1 k3 k4 k5 k6 (add_right hG hn k2)
  have hnow : (Ct.told n (addO ⟨nx c.now.v, fs, plnP n ls fs⟩) ⟨⟨1, c.now, ⟨nx c.now.v, fs, plnP n ls fs⟩, c.num, c.wts⟩, []⟩).c.nxt = ⟨nx c.now.v, fs, plnP n ls fs⟩ := rfl
  generalize Ct.told n (addO ⟨nx c.now.v, fs, plnP n ls fs⟩) ⟨⟨1, c.now, ⟨nx c.now.v, fs, plnP n ls fs⟩, c.num, c.wts⟩, []⟩ = g at l2 l3 hmem hnow ⊢
  simp only [List.nil_append] at l2 l3 l4
  obtain ⟨M, m1, m2, m3⟩ := goS_tld (n := n) (g := g) hn (by omega) (by omega)
  rw [l3] at m3
  refine ⟨?_, ?_, fun x hx => ?_⟩
  · show (goS n g).c.num = _ + ((goS n g).out.length : Int)
    rw [m2, m1, l3, l2, List.length_append]; omega
  · show Asc c.num (goS n g).out
    rw [m1, l2]; exact l4.app m3
  · rcases goS_mem (show x ∈ (goS n g).out from hx) with hx | ⟨o, k1, k2, k3, k4, k5, k6⟩
    · exact hmem x hx
    · rw [hnow] at k2
      exact rgt_of k1 k3 k4 k5 k6 (stp_right hG k2)
theorem back_told {c : Co} {n : Nat} {ls : List Lk} {k : Int} (hw : (wrong n ls).1 = 0) (hn : n ≤ 8) (hk : k ∈ c.wts) (hg : c.st = 1 → Gd n c.nxt) (h0 : 0 ≤ c.num) (h1 : c.num ≤ 90000) : Told n c.num (backS c n ls k).1.c.num (backS c n ls k).1.out := by
  rw [back_in hw hk]
  have hx : ∀ x ∈ (goS n ⟨⟨c.st, c.now, c.nxt, c.num, c.wts.erase k⟩, []⟩).out, Rgt n x := fun x hx => by
    rcases goS_cases n ⟨⟨c.st, c.now, c.nxt, c.num, c.wts.erase k⟩, []⟩ with ⟨_, e⟩ | ⟨_, h1, e⟩ | ⟨_, _, e⟩ | ⟨_, _, e⟩ | ⟨_, _, _, _, e⟩
    · rw [e] at hx; simp at hx
    · rcases goS_mem hx with hx | ⟨o, k1, k2, k3, k4, k5, k6⟩
      · simp at hx
      · exact rgt_of k1 k3 k4 k5 k6 (stp_right (hg h1) k2)
    · rw [e] at hx; simp [setSt] at hx
    · rw [e] at hx; simp at hx
    · rw [e] at hx; simp at hx
  obtain ⟨M, m1, m2, m3⟩ := goS_tld (n := n) (g := ⟨⟨c.st, c.now, c.nxt, c.num, c.wts.erase k⟩, []⟩) hn h0 h1
  simp only [List.nil_append] at m1 m2 m3
  refine ⟨?_, ?_, hx⟩
  · show (goS n _).c.num = _ + ((goS n _).out.length : Int)
    rw [m2, m1]
  · show Asc c.num (goS n _).out
    rw [m1]; exact m3
theorem drop_told {c : Co} {n : Nat} {ls : List Lk} (hw : (wrong n ls).1 = 0) (hn : n ≤ 8) (hs : c.st = 3) (hg : c.now = pl0 ∨ Gd n c.now) (h0 : 0 ≤ c.num) (h1 : c.num ≤ 80000) : Told n c.num (dropS c n ls).1.c.num (dropS c n ls).1.out := by
  rw [drop_calm hw hs]
  obtain ⟨L, l1, l2, l3, l4⟩ := told_tld (ord := drpO c.now) (g := ⟨⟨4, c.now, c.nxt, c.num, c.wts⟩, []⟩) h0 (by simp only; omega) n hn
  have hmem : ∀ x ∈ (Ct.told n (drpO c.now) ⟨⟨4, c.now, c.nxt, c.num, c.wts⟩, []⟩).out, Rgt n x := fun x hx => by
    rcases told_mem hx with hx | ⟨o, k1, k2, k3, k4, k5, k6⟩
    · simp at hx
    · exact rgt_of k1 k3 k4 k5 k6 (drp_right hg k2)
  have hst : (Ct.told n (drpO c.now) ⟨⟨4, c.now, c.nxt, c.num, c.wts⟩, []⟩).c.st = 4 := rfl
  generalize Ct.told n (drpO c.now) ⟨⟨4, c.now, c.nxt, c.num, c.wts⟩, []⟩ = g at l2 l3 hmem hst ⊢
  simp only [List.nil_append] at l2 l3 l4
  have hgo : (goS n g).out = g.out ∧ (goS n g).c.num = g.c.num := by
    rcases goS_cases n g with ⟨_, e⟩ | ⟨_, h1, e⟩ | ⟨_, h2, e⟩ | ⟨_, _, e⟩ | ⟨_, _, _, _, e⟩
    · rw [e]; exact ⟨rfl, rfl⟩
    · omega
    · omega
    · rw [e]; exact ⟨rfl, rfl⟩
    · rw [e]; exact ⟨rfl, rfl⟩
  refine ⟨?_, ?_, fun x hx => ?_⟩
  · show (goS n g).c.num = _ + ((goS n g).out.length : Int)
    rw [hgo.1, hgo.2, l3, l2]
  · show Asc c.num (goS n g).out
    rw [hgo.1, l2]; exact l4
  · have hx' : x ∈ (goS n g).out := hx
    rw [hgo.1] at hx'
    exact hmem x hx'
theorem bks_told {n : Nat} {ls : List Lk} {c c' : Co} {outs : List (List (Nat × Wir.Od))} (hw : (wrong n ls).1 = 0) (hn : n ≤ 8) (hb : Bks n ls c c' outs) (hp : pot c ≤ 200) (hG : ∀ d o, Bks n ls c d o → d.st = 1 → Gd n d.nxt) (h0 : 0 ≤ c.num) (h1 : c.num ≤ 60000) : Told n c.num c'.num outs.flatten ∧ pot c' + outs.length ≤ pot c ∧ outs.flatten.length ≤ 8 * outs.length := by
  refine hb.ind (R := fun c' outs => Told n c.num c'.num outs.flatten ∧ pot c' + outs.length ≤ pot c ∧ outs.flatten.length ≤ 8 * outs.length) ?_ ?_
  · exact ⟨⟨by simp, Asc.nil _, by simp⟩, by simp, by simp⟩
  · clear hb
    intro c' outs k hb' ih hk
    obtain ⟨t, p, q⟩ := ih
    have hpb := pot_back hw hn hk
    have hf := back_few hw hn hk
    have hb := back_told hw hn hk (hG _ _ hb') (by have := t.hi; omega) (by have := t.hi; omega)
    have ef : (outs ++ [(backS c' n ls k).1.out]).flatten = outs.flatten ++ (backS c' n ls k).1.out := by simp
    rw [ef]
    refine ⟨⟨?_, ?_, fun x hx => ?_⟩, by simp; omega, by simp at q ⊢; omega⟩
    · have a1 := hb.hi
      have a2 := t.hi
      show (backS c' n ls k).1.c.num = _
      rw [List.length_append]; omega
    · have a2 := t.hi
      have a3 := hb.asc
      rw [a2] at a3
      exact t.asc.app a3
    · rcases List.mem_append.1 hx with hx | hx
      · exact t.ok x hx
      · exact hb.ok x hx
theorem drop_few {c : Co} {n : Nat} {ls : List Lk} (hw : (wrong n ls).1 = 0) (hn : n ≤ 8) (hs : c.st = 3) : (dropS c n ls).1.out.length ≤ 16 := by
  rw [drop_calm hw hs]
  have h1 := (told_len (ord := drpO c.now) (g := ⟨⟨4, c.now, c.nxt, c.num, c.wts⟩, []⟩) n).2
  simp only [List.length_nil] at h1
  exact Nat.le_trans (goS_few n _) (by omega)
/-- All that is told in a change, from its beginning to its end. -/
structure AllTold (n : Nat) (c c3 : Co) (out drops : List (Nat × Wir.Od)) (outs outs3 : List (List (Nat × Wir.Od))) : Prop where
  ok : ∀ l ∈ out :: drops :: (outs ++ outs3), ∀ x ∈ l, Rgt n x
  nd : ((out :: drops :: (outs ++ outs3)).flatten.map (fun x => x.2.n)).Nodup
  rng : ∀ x ∈ (out :: drops :: (outs ++ outs3)).flatten, c.num < x.2.n ∧ x.2.n ≤ c3.num
  le : c.num ≤ c3.num
  few : c3.num ≤ c.num + 4000
  tot : c3.num = c.num + ((out :: drops :: (outs ++ outs3)).flatten.length : Nat)
theorem all_told {c c2 c3 : Co} {n : Nat} {ls : List Lk} {fs : List Stf.Fl} {outs outs3 : List (List (Nat × Wir.Od))} (h : AskOk c n ls fs) (hwt : c.wts = []) (h0 : 0 ≤ c.num) (h1 : c.num ≤ 20000) (hg : c.now = pl0 ∨ Gd n c.now) (hb : Bks n ls (askS c n ls fs).1.c c2 outs) (h2 : c2.wts = []) (hb3 : Bks n ls (dropS c2 n ls).1.c c3 outs3) :
    AllTold n c c3 (askS c n ls fs).1.out (dropS c2 n ls).1.out outs outs3 := by
  have hp := plan_good h.hp
  have hn : n ≤ 8 := by have := hp.n8; omega
  have hw := h.wrong
  have hG : Gd n ⟨nx c.now.v, fs, plnP n ls fs⟩ := ⟨hp.v1, hp.v2, by show (plnP n ls fs).length ≤ 12; rw [hp.len]; exact hp.few, hp.few, hp.gp⟩
  have hA := h.A
  have hA2 := bks_A hw hb hA
  have hs2 : c2.st = 3 := by
    rcases hA2.2.2 with ⟨_, e⟩ | ⟨e, _⟩
    · exact absurd h2 e
    · exact e
  have hB := drop_B (ls := ls) hw hs2
  have hf := h.few
  have t1 := h.told h0 (by omega)
  have e1 := t1.hi
  obtain ⟨t2, p2, f2⟩ := bks_told hw hn hb (h.pot hwt) (fun d o hd _ => by rw [(bks_A hw hd hA).2.1]; exact hG) (by omega) (by omega)
  have q2 := h.pot hwt
  have e2 := t2.hi
  have t3 := drop_told hw hn hs2 (by rw [hA2.1]; exact hg) (by omega) (by omega)
  have f3 := drop_few (ls := ls) hw hn hs2
  have e3 := t3.hi
  have q4 := drop_pot hn hw hs2 h2
  obtain ⟨t4, p4, f4⟩ := bks_told hw hn hb3 q4 (fun d o hd e => by
    rcases bks_B hw hd hB with ⟨e', _⟩ | ⟨e', _⟩ <;> omega) (by omega) (by omega)
  have e4 := t4.hi
  have A1 := t1.asc
  have A2 := t2.asc
  have A3 := t3.asc
  have A4 := t4.asc
  have K1 := t1.ok
  have K2 := t2.ok
  have K3 := t3.ok
  have K4 := t4.ok
  generalize (askS c n ls fs).1.out = out at *
  generalize (dropS c2 n ls).1.out = drops at *
  rw [e1] at A2
  have A12 := A1.app A2
  rw [show c2.num = c.num + ((out ++ outs.flatten).length : Nat) by rw [List.length_append]; omega] at A3
  have A123 := A12.app A3
  rw [show (dropS c2 n ls).1.c.num = c.num + ((out ++ outs.flatten ++ drops).length : Nat) by rw [List.length_append, List.length_append]; omega] at A4
  have A1234 := A123.app A4
  have hperm : (out :: drops :: (outs ++ outs3)).flatten.Perm (out ++ outs.flatten ++ drops ++ outs3.flatten) := by
    simp only [List.flatten_cons, List.flatten_append]
    rw [List.append_assoc, List.append_assoc]
    refine List.Perm.append_left out ?_
    rw [← List.append_assoc, ← List.append_assoc]
    exact List.Perm.append_right _ List.perm_append_comm
  refine ⟨fun l hl x hx => ?_, ?_, fun x hx => ?_, by omega, by omega, ?_⟩
  · rcases List.mem_cons.1 hl with rfl | hl
    · exact K1 x hx
    · rcases List.mem_cons.1 hl with rfl | hl
      · exact K3 x hx
      · rcases List.mem_append.1 hl with hl | hl
        · exact K2 x (List.mem_flatten.2 ⟨l, hl, hx⟩)
        · exact K4 x (List.mem_flatten.2 ⟨l, hl, hx⟩)
  · exact (hperm.map _).nodup_iff.2 (A1234.asc.imp (fun h => by omega))
  · have hm := A1234.rng x (hperm.mem_iff.1 hx)
    refine ⟨hm.1, Int.le_trans hm.2 ?_⟩
    rw [List.length_append, List.length_append, List.length_append]
    omega
  · rw [hperm.length_eq, List.length_append, List.length_append, List.length_append]
    omega
/-- What holds then is right. -/
theorem now_good {c c2 c3 : Co} {n : Nat} {ls : List Lk} {fs : List Stf.Fl} {outs outs3 : List (List (Nat × Wir.Od))} (h : AskOk c n ls fs) (hb : Bks n ls (askS c n ls fs).1.c c2 outs) (h2 : c2.wts = []) (hb3 : Bks n ls (dropS c2 n ls).1.c c3 outs3) (h3 : c3.wts = []) : Gd n c3.now ∧ c3.st = 0 := by
  have hp := plan_good h.hp
  have hw := h.wrong
  have hA2 := bks_A hw hb h.A
  have hs2 : c2.st = 3 := by
    rcases hA2.2.2 with ⟨_, e⟩ | ⟨e, _⟩
    · exact absurd h2 e
    · exact e
  rcases bks_B hw hb3 (drop_B (ls := ls) hw hs2) with ⟨_, e, _⟩ | ⟨e0, _, e, _⟩
  · exact absurd h3 e
  · refine ⟨?_, e0⟩
    rw [e, hA2.2.1]
    exact ⟨hp.v1, hp.v2, by show (plnP n ls fs).length ≤ 12; rw [hp.len]; exact hp.few, hp.few, hp.gp⟩
/-- numbers of orders -/
def nums (l : List (Nat × Wir.Od)) : List Int := l.map (fun x => x.2.n)
theorem flat_take {LL : List (List (Nat × Wir.Od))} {j : Nat} (hj : j < LL.length) : nums (LL.take (j + 1)).flatten = nums (LL.take j).flatten ++ nums (LL.getD j []) := by
  unfold nums
  rw [List.take_succ_eq_append_getElem hj, List.flatten_append, List.map_append]
  simp [List.getD_eq_getElem?_getD, hj]
theorem flat_new {LL : List (List (Nat × Wir.Od))} {K : List Int} {lo : Int} {j : Nat} (hj : j < LL.length) (hn : (LL.flatten.map (fun x => x.2.n)).Nodup) (hr : ∀ x ∈ LL.flatten, lo < x.2.n) (hK : ∀ x ∈ K, x ≤ lo) : (nums (LL.getD j [])).Nodup ∧ ∀ x ∈ LL.getD j [], x.2.n ∉ K ++ nums (LL.take j).flatten := by
  have e := flat_take hj
  have hs : (nums (LL.take (j + 1)).flatten).Nodup := by
    have h1 : LL.flatten = (LL.take (j + 1)).flatten ++ (LL.drop (j + 1)).flatten := by rw [← List.flatten_append, List.take_append_drop]
    rw [h1, List.map_append] at hn
    exact (List.nodup_append.1 hn).1
  rw [e] at hs
  obtain ⟨h1, h2, h3⟩ := List.nodup_append.1 hs
  refine ⟨h2, fun x hx h => ?_⟩
  have hm : LL.getD j [] ∈ LL := by simp [List.getD_eq_getElem?_getD, hj]
  rcases List.mem_append.1 h with h | h
  · have := hK _ h
    have := hr x (List.mem_flatten.2 ⟨_, hm, hx⟩)
    omega
  · exact h3 _ h _ (List.mem_map.2 ⟨x, hx, rfl⟩) rfl

end Go.Proofs.Ytgffkjjddhlbpaa.Ct

/- Sets of numbers, kept as maps that the call has made. -/
namespace Go.Proofs.Ytgffkjjddhlbpaa
open Go.RowKit Go.Maps

theorem law3 : Keyed Try.prog 3 := int_keyed Try.underlying3
theorem zero4 (w : World) : (zeroValue 4).run Try.prog w = .ok (.bool false) w := by kernel_rfl

theorem plainElem_bool_inv {P : Program} {e : TypeId} {H : Type} (he : P.underlying e = some .bool) {v : Value} {z : DataW H × List MemPlace} (h : plainElem P e v = some z) : ∃ a, v = .bool a ∧ z = (.lit (.bool a), []) := by
  unfold plainElem at h
  rw [he] at h
  cases v <;> simp at h
  rename_i a
  exact ⟨a, rfl, h.symm⟩

/-- Block m is a map of these numbers, and no other ones. -/
def SetMap (w : World) (m : Nat) (L : List Int) : Prop :=
  ∃ n, n ≤ L.length ∧ ∃ D : DataW Unit, w.ownsMap Try.prog 3 (plainElem Try.prog 4) m n D ∧ ∀ x, I64 x → D.atKey (.int .i64 x) (.lit (.bool false)) = .lit (.bool (decide (x ∈ L)))

theorem SetMap.lt {w : World} {m : Nat} {L : List Int} (h : SetMap w m L) : m < w.heap.size := by
  obtain ⟨n, hn, D, hown, hD⟩ := h
  exact hown.lt
theorem SetMap.of_block {w w' : World} {m : Nat} {L : List Int} (h : SetMap w m L) (e : w'.heap[m]? = w.heap[m]?) : SetMap w' m L := by
  obtain ⟨n, hn, D, ⟨es, cl, hb, r⟩, hD⟩ := h
  exact ⟨n, hn, D, ⟨es, cl, e.trans hb, r⟩, hD⟩
theorem SetMap.ext {w w' : World} {m : Nat} {L : List Int} (h : SetMap w m L) (k : Ext w w') : SetMap w' m L := h.of_block (Below.block k m h.lt)
theorem SetMap.made (w : World) : SetMap (w.alloc (.map #[] 0)) w.heap.size [] :=
  ⟨0, by simp, .map [], World.ownsMap_made (H := Unit) _ _ _ _, fun x _ => by simp; rfl⟩
theorem SetMap.look {w : World} {m : Nat} {L : List Int} (h : SetMap w m L) {x : Int} (ix : I64 x) :
    (Instr.lookup 53 (.map (some m)) (.int .i64 x) false).run Try.prog w = .ok (.bool (decide (x ∈ L))) w := by
  obtain ⟨n, hn, D, hown, hD⟩ := h
  obtain ⟨v, ps, hrun, hv⟩ := hown.lookup law3 Try.underlying53 (zero4 w) (plainElem_bool Try.underlying4 false) (keyOf_int_mk Try.underlying3 ix)
  obtain ⟨a, rfl, ha⟩ := plainElem_bool_inv Try.underlying4 hv
  rw [hrun]
  rw [hD x ix] at ha
  simp at ha
  rw [← ha.1]
theorem SetMap.put {w : World} {m : Nat} {L : List Int} (h : SetMap w m L) {x : Int} (ix : I64 x) (hs : L.length < maxLen) :
    ∃ w', (Instr.mapUpdate 53 (.map (some m)) (.int .i64 x) (.bool true)).run Try.prog w = .ok () w' ∧ SetMap w' m (L ++ [x]) ∧ w.grownBy w' (some m) := by
  obtain ⟨n, hn, D, hown, hD⟩ := h
  obtain ⟨w', hrun, hown', hg⟩ := hown.update law3 Try.underlying53 (Nat.lt_of_le_of_lt hn hs) (keyOf_int_mk Try.underlying3 ix) (plainElem_bool Try.underlying4 true)
  refine ⟨w', hrun, ⟨n + 1, by simp; omega, _, hown', fun y iy => ?_⟩, hg⟩
  by_cases e : y = x
  · subst e
    rw [atKey_put_same hown.isMap (law3.key (keyOf_int_mk Try.underlying3 ix))]
    simp
  · rw [atKey_put_other (by intro h; injection h with _ h; exact e h), hD y iy]
    simp [e]

end Go.Proofs.Ytgffkjjddhlbpaa

/- What the closure of the law ControlRight answers, of orders that are right: true; their numbers are in the map then. -/
namespace Go.Proofs.Ytgffkjjddhlbpaa.Ct
open Go.RowKit Go.Deep Go.Maps Stw Stp Tb Rul

theorem grown_of {w w' : World} (E : Ext w w') (row : Option Nat) : w.grownBy w' row := ⟨E.os, E.tape, E.output, E.size, fun b hb _ => Below.block E b hb⟩
theorem nums_take {l : List (Nat × Wir.Od)} {k : Nat} (hk : k < l.length) : nums (l.take (k + 1)) = nums (l.take k) ++ [(l[k]).2.n] := by
  unfold nums
  rw [List.take_succ_eq_append_getElem hk, List.map_append]
  rfl
theorem nums_new {l : List (Nat × Wir.Od)} {K : List Int} {k : Nat} (hk : k < l.length) (hn : (nums l).Nodup) (hK : ∀ x ∈ l, x.2.n ∉ K) : (l[k]).2.n ∉ K ++ nums (l.take k) := by
  intro h
  rcases List.mem_append.1 h with h | h
  · exact hK _ (List.getElem_mem hk) h
  · have e := nums_take hk
    have hs : (nums (l.take (k + 1))).Nodup := by
      unfold nums at hn ⊢
      exact (List.Sublist.map _ (List.take_sublist _ _)).nodup hn
    rw [e] at hs
    exact (List.nodup_append.1 hs).2.2 _ h _ (by simp) rfl
/-- Orders that lie there, whatever comes of the map. -/
def RtIn (w : World) (m n : Nat) (ao : Option Addr) (l : List (Nat × Wir.Od)) (K : List Int) : Prop :=
  Stb (fun b => b ≠ m) w (fun U => TosAt U ao l) ∧ (∀ x ∈ l, Rgt n x ∧ 1 ≤ x.2.n ∧ x.2.n ≤ 100000) ∧ (nums l).Nodup ∧ (∀ x ∈ l, x.2.n ∉ K) ∧ K.length + l.length ≤ 1000000

set_option maxRecDepth 100000 in
set_option maxHeartbeats 4000000 in
theorem right_any (tb hb m n : Nat) (ao : Option Addr) (ac : Nat) (l : List (Nat × Wir.Od)) (K : List Int) (w : World) (ht : w.cell? ⟨tb, 0, none⟩ = some (.int .i64 n)) (hh : w.cell? ⟨hb, 0, none⟩ = some (.map (some m))) (htm : tb ≠ m) (hhm : hb ≠ m) (htl : tb < w.heap.size) (hhl : hb < w.heap.size) (hS : SetMap w m K) (H : RtIn w m n ao l K) :
    Calls Try.prog 18 #[.slice ao l.length ac, .pointer (some ⟨tb, 0, none⟩), .pointer (some ⟨hb, 0, none⟩)] w fun e w' => e = .returned (.bool true) ∧ SetMap w' m (K ++ nums l) ∧ w.grownBy w' (some m) := by
  have hln : l.length ≤ 1000000 := by have := H.2.2.2.2; omega
  have HH := hidp H
  clear H
  go_enter Try.func18, Try.ntmps18
  go_wp2
  go_loopw [9] (fun iv wr => ∃ k : Nat, k ≤ l.length ∧ iv = .int .i64 k ∧ SetMap wr m (K ++ nums (l.take k)) ∧ w.grownBy wr (some m)) (fun iv _ => l.length - (intOf iv).toNat)
  case atStart => exact ⟨0, Nat.zero_le _, rfl, by simpa [nums] using hS, World.grownBy.refl _ _⟩
  case round =>
    obtain ⟨k, hk, rfl, hsm, hgr⟩ := hrel
    by_cases hlt : k < l.length
    · have t1 : wr.cell? ⟨tb, 0, none⟩ = some (.int .i64 n) := hgr.cell ht (by simpa using htm)
      have t2 : wr.cell? ⟨hb, 0, none⟩ = some (.map (some m)) := hgr.cell hh (by simpa using hhm)
      have hto := HH.out.1 wr hgr.size (fun b hb hlt => hgr.block b hlt (by simpa using hb))
      rcases hto with h0 | ⟨tO, tf, htO, hgl, hts⟩
      · exfalso; rw [h0] at hlt; simp at hlt
      obtain ⟨ro, rc, fo, fc, c0, c1, c2, c3, c4, c5, hrs, hfs⟩ := hts k hlt
      obtain ⟨hR, hn1, hn2⟩ := HH.out.2.1 _ (List.getElem_mem hlt)
      have hnew := nums_new hlt HH.out.2.2.1 HH.out.2.2.2.1
      have hnt := nums_take hlt
      obtain ⟨⟨xs, o⟩, hxo⟩ : ∃ x, l[k] = x := ⟨_, rfl⟩
      rw [hxo] at c0 c1 c2 c3 c4 c5 hR hn1 hn2 hnew hnt hrs hfs
      simp only at c0 c1 c2 c3 c4 c5 hR hn1 hn2 hnew hnt hrs hfs
      have hxs : ¬ ((n : Int) ≤ (xs : Int)) := by have := hR.1; simp only at this; omega
      have hx0 : ¬ ((xs : Int) < 0) := by omega
      have hw0 := hR.wrong hn1 hn2
      simp only at hw0
      obtain ⟨ok, on, ov, ors, ofs⟩ := o
      simp only at c0 c1 c2 c3 c4 c5 hn1 hn2 hnew hnt hrs hfs
      have hcs := Wir.right_cases hw0
      have HNT := hidp hnt
      have HWR : Hid (∀ V, Ext wr V → Calls Try.prog 19 #[.agg #[.int .i64 ok, .int .i64 on, .int .i64 ov, .slice ro ors.length rc, .slice fo ofs.length fc]] V fun e w' => e = .returned (.int .i64 0) ∧ Ext V w') := fun V hV => by
        have := Wi.Wrong_any ⟨ok, on, ov, ors, ofs⟩ ro fo rc fc V ⟨hrs.ext hV, hfs.ext hV, i64_small (by rcases hcs.2 with h | h | h; all_goals simp only at h; all_goals omega) (by rcases hcs.2 with h | h | h; all_goals simp only at h; all_goals omega), by have := hR.2.2.1; simp only at this ⊢; omega, by have := hR.2.2.2; simp only at this ⊢; omega⟩
        rw [hw0] at this
        exact this
      have HLK : Hid (∀ V, Ext wr V → (Instr.lookup 53 (.map (some m)) (.int .i64 on) false).run Try.prog V = .ok (.bool false) V) := fun V hV => by
        have := (hsm.ext hV).look (x := on) (i64_small (by omega) (by omega))
        rwa [show decide (on ∈ K ++ nums (l.take k)) = false by simpa using hnew] at this
      have HPU : Hid (∀ V, Ext wr V → ∃ w', (Instr.mapUpdate 53 (.map (some m)) (.int .i64 on) (.bool true)).run Try.prog V = .ok () w' ∧ SetMap w' m (K ++ nums (l.take (k + 1))) ∧ V.grownBy w' (some m)) := fun V hV => by
        rw [HNT.out, ← List.append_assoc]
        exact (hsm.ext hV).put (x := on) (i64_small (by omega) (by omega)) (by have := HH.out.2.2.2.2; unfold maxLen nums; simp; omega)
      have i1 : (k : Int) < (l.length : Int) := by omega
      subst htO
      clear hts hxo hnew hnt hcs hw0 hR hrs hfs
      have E4 := (Ext.refl wr).alloc (.cells #[.int .i64 (xs : Int), .int .i64 ok, .int .i64 on, .int .i64 ov, .slice ro ors.length rc, .slice fo ofs.length fc] 58)
      have hgs := hgr.size
      have htl' : tb < wr.heap.size := by omega
      have hhl' : hb < wr.heap.size := by omega
      have HC : Hid (∀ V, Ext (wr.alloc (.cells #[.int .i64 (xs : Int), .int .i64 ok, .int .i64 on, .int .i64 ov, .slice ro ors.length rc, .slice fo ofs.length fc] 58)) V → V.cell? ⟨hb, 0, none⟩ = some (.map (some m)) ∧ V.cell? ⟨wr.heap.size, 2, none⟩ = some (.int .i64 on)) := fun V hV =>
        ⟨(hV.cells.1 _ _ (by simp; omega)).trans (by rw [World.cell?_alloc_lt _ _ _ (by simpa using hhl')]; exact t2), (hV.cells.1 _ _ (by simp)).trans (by simp)⟩
      go_wp2_with (go_at_call 19; refine (HWR.out _ E4).mono ?_; rintro e w5 ⟨rfl, E5⟩; obtain ⟨y1, y2⟩ := HC.out _ E5; have E45 := E4.trans E5; have hlk := HLK.out _ E45; obtain ⟨w6, hr6, hm6, hg6⟩ := HPU.out _ E45)
      exact ⟨⟨k + 1, by omega, by go_num, hm6, (hgr.trans (grown_of E45 _)).trans hg6⟩, by simp [intOf]; omega⟩
    · have i1 : ¬ (k : Int) < (l.length : Int) := by omega
      rw [List.take_of_length_le (by omega)] at hsm
      go_wp2
      go_ret
      exact ⟨rfl, hsm, hgr⟩

end Go.Proofs.Ytgffkjjddhlbpaa.Ct

/- What the law ControlRight answers, for every net, flows and picks: true; nothing that was there is changed. -/
namespace Go.Proofs.Ytgffkjjddhlbpaa.Ct
open Go.RowKit Go.Deep Go.Maps Stw Stp Tb Rul

/-- What was told so far, and where it is kept. -/
structure Had (wr : World) (m : Nat) (n : Int) (k : Nat) (c : Co) (K : List Int) : Prop where
  set : SetMap wr m K
  len : c.num = K.length
  le : ∀ x ∈ K, x ≤ c.num
  few : c.num ≤ 4000 * k
  now : c.now = pl0 ∨ Gd n.toNat c.now
theorem Had.ext {wr wx : World} {m k : Nat} {n : Int} {c : Co} {K : List Int} (h : Had wr m n k c K) (E : Ext wr wx) : Had wx m n k c K := ⟨h.set.ext E, h.len, h.le, h.few, h.now⟩
theorem Had.more {wr : World} {m k k' : Nat} {n : Int} {c : Co} {K : List Int} (h : Had wr m n k c K) (hk : k ≤ k') : Had wr m n k' c K := ⟨h.set, h.len, h.le, by have := h.few; omega, h.now⟩
theorem TossAt.app {U : World} {us : List Value} {ms : List (List (Nat × Wir.Od))} (h2 : TossAt U us ms) : ∀ {vs : List Value} {ls : List (List (Nat × Wir.Od))}, TossAt U vs ls → TossAt U (vs ++ us) (ls ++ ms)
  | [], [], _ => h2
  | [], _ :: _, h => by cases h
  | _ :: _, [], h => by cases h
  | _ :: _, _ :: _, h => ⟨h.1, TossAt.app h2 h.2⟩
/-- A row of what was told. -/
def RowAt (U : World) (ro : Option Addr) (LL : List (List (Nat × Wir.Od))) : Prop := LL = [] ∨ ∃ g, ro = some ⟨g, 0, none⟩ ∧ g < U.heap.size ∧ ∀ i, i < LL.length → ∃ tO tc, U.cell? ⟨g, i, none⟩ = some (.slice tO (LL.getD i []).length tc) ∧ TosAt U tO (LL.getD i [])
theorem row_own {w : World} {base n : Nat} {e : TypeId} {ro : Option Addr} {rc : Nat} {vs : List Value} {LL : List (List (Nat × Wir.Od))} (h : w.ownsRow base e 1 (.slice ro n rc) n vs) (hp : TossAt w vs LL) : RowAt w ro LL := by
  have hl := hp.len
  have hn : vs.length = n := by have := h.1; omega
  rcases h.2 with ⟨h1, h2⟩ | ⟨g, c, cur, hv, _⟩
  · exact Or.inl (List.eq_nil_of_length_eq_zero (by omega))
  · injection hv with hv1 hv2 hv3
    subst hv1
    refine Or.inr ⟨g, rfl, (h.lt g rfl).2, fun i hi => ?_⟩
    obtain ⟨tO, tc, k1, k2⟩ := hp.get hi
    exact ⟨tO, tc, by rw [h.cellAt i (by omega)]; exact k1, k2⟩
/-- The next ones that are told are right, with numbers that were not there. -/
theorem rt_in {U wr : World} {m nn k j : Nat} {c c3 : Co} {K : List Int} {out drops : List (Nat × Wir.Od)} {outs outs3 : List (List (Nat × Wir.Od))} {ao : Option Addr} (hA : AllTold nn c c3 out drops outs outs3) (hH : Had wr m nn k c K) (hk : k ≤ 2) (hj : j < (out :: drops :: (outs ++ outs3)).length)
    (hs : Stb (fun b => b ≠ m) U (fun V => TosAt V ao ((out :: drops :: (outs ++ outs3)).getD j []))) : RtIn U m nn ao ((out :: drops :: (outs ++ outs3)).getD j []) (K ++ nums ((out :: drops :: (outs ++ outs3)).take j).flatten) := by
  obtain ⟨n1, n2⟩ := flat_new hj hA.nd (fun x hx => (hA.rng x hx).1) hH.le
  have hm : (out :: drops :: (outs ++ outs3)).getD j [] ∈ out :: drops :: (outs ++ outs3) := by rw [List.getD_eq_getElem?_getD, List.getElem?_eq_getElem hj]; exact List.getElem_mem hj
  have h1 := hH.few
  have h2 := hA.few
  have h3 := hH.len
  refine ⟨hs, fun x hx => ?_, n1, n2, ?_⟩
  · have hr := hA.rng x (List.mem_flatten.2 ⟨_, hm, hx⟩)
    exact ⟨hA.ok _ hm x hx, by omega, by omega⟩
  · have e := congrArg List.length (flat_take hj)
    have ht := hA.tot
    have hle : ((out :: drops :: (outs ++ outs3)).take (j + 1)).flatten.length ≤ (out :: drops :: (outs ++ outs3)).flatten.length := by
      have h1 : (out :: drops :: (outs ++ outs3)).flatten = ((out :: drops :: (outs ++ outs3)).take (j + 1)).flatten ++ ((out :: drops :: (outs ++ outs3)).drop (j + 1)).flatten := by rw [← List.flatten_append, List.take_append_drop]
      rw [h1, List.length_append]; omega
    rw [List.length_append] at e ⊢
    have el : ∀ l, (nums l).length = l.length := fun l => List.length_map _
    rw [el, el, el] at e
    rw [el]
    omega

theorem bks_len {n : Nat} {ls : List Lk} {c c' : Co} {outs : List (List (Nat × Wir.Od))} (hw : (wrong n ls).1 = 0) (hn : n ≤ 8) (hb : Bks n ls c c' outs) : pot c' + outs.length ≤ pot c := by
  exact hb.ind (R := fun c' outs => pot c' + outs.length ≤ pot c) (by simp) (fun d o k _ ih hk => by have := pot_back hw hn hk; simp; omega)
theorem TossAt.one {U : World} : ∀ {vs : List Value} {ls : List (List (Nat × Wir.Od))}, TossAt U vs ls → ∀ u ∈ vs, u.oneCell' = true
  | [], [], _, u, hu => by simp at hu
  | [], _ :: _, h, _, _ => by cases h
  | _ :: _, [], h, _, _ => by cases h
  | _ :: _, _ :: _, h, u, hu => by
    rcases List.mem_cons.1 hu with rfl | hu
    · obtain ⟨tO, tc, e, _⟩ := h.1
      rw [e]; rfl
    · exact TossAt.one h.2 u hu
theorem own_low {w : World} {base base' : Nat} {e : TypeId} {size n : Nat} {v : Value} {xs : List Value} (h : w.ownsRow base e size v n xs) (hb : base' ≤ base) : w.ownsRow base' e size v n xs :=
  ⟨h.1, h.2.imp id (fun ⟨g, cap, cur, h1, h2, r⟩ => ⟨g, cap, cur, h1, Nat.le_trans hb h2, r⟩)⟩
theorem row_fin {w12 : World} {base m N rc : Nat} {ro : Option Addr} {VS VS3 : List Value} {outs outs3 : List (List (Nat × Wir.Od))} {Y2 Y3 : Nat → Prop} (hown : w12.ownsRow base 32 1 (.slice ro N rc) N (VS ++ VS3)) (hbase : m < base)
    (hT2 : Stb Y2 w12 (fun U => TossAt U VS outs)) (hY2 : ∀ b, Y2 b → b ≠ m) (hT3 : Stb Y3 w12 (fun U => TossAt U VS3 outs3)) (hY3 : ∀ b, Y3 b → b ≠ m) : Stb (fun b => b ≠ m) w12 (fun U => RowAt U ro (outs ++ outs3)) :=
  fun U hs hb => row_own (own_keep hown (fun b h1 h2 => hb b (by omega) h2)) (TossAt.app (hT3 U hs (fun b h => hb b (hY3 b h))) (hT2 U hs (fun b h => hb b (hY2 b h))))

theorem set_ne {w : World} {m : Nat} {L : List Int} (h : SetMap w m L) {a : Addr} {v : Value} (hc : w.cell? a = some v) : a.block ≠ m := by
  rintro rfl
  obtain ⟨n, hn, D, ⟨es, cl, hb, r⟩, hD⟩ := h
  simp [World.cell?, hb] at hc
theorem row_at {wr : World} {m j g tc : Nat} {ro tO : Option Addr} {LL : List (List (Nat × Wir.Od))} (hS : Stb (fun b => b ≠ m) wr (fun U => RowAt U ro LL)) (hro : ro = some ⟨g, 0, none⟩) (hj : j < LL.length) (hg : g ≠ m) (hgl : g < wr.heap.size) (hc : wr.cell? ⟨g, j, none⟩ = some (.slice tO (LL.getD j []).length tc)) : Stb (fun b => b ≠ m) wr (fun U => TosAt U tO (LL.getD j [])) := fun U hs hb => by
  rcases hS U hs hb with h0 | ⟨g', h1, _, h3⟩
  · rw [h0] at hj; simp at hj
  · rw [hro] at h1
    injection h1 with h1
    injection h1 with h1
    subst h1
    obtain ⟨tO', tc', k1, k2⟩ := h3 j hj
    rw [World.cell?_of_block (a := ⟨g, j, none⟩) (hb g hg hgl), hc] at k1
    injection k1 with k1
    injection k1 with k1
    rw [k1]; exact k2

set_option maxRecDepth 100000 in
set_option maxHeartbeats 4000000 in
theorem controlRight_any (n : Int) (ao : Option Addr) (len cap : Nat) (ls : List Lk) (lo mo : Option Addr) (lc mc : Nat) (fl fm : List Stf.Fl) (po : Option Addr) (pc : Nat) (ps : List Int) (w : World) (hlen : ls.length = len) (hl : NetAt w ao ls) (hx : len ≤ 9223372036854775807) (hI : I64 n)
    (hfl : Fw.FlowsAt w lo fl) (hSl : Fw.Sm fl) (hll : fl.length ≤ 9223372036854775807) (hfm : Fw.FlowsAt w mo fm) (hSm : Fw.Sm fm) (hlm : fm.length ≤ 9223372036854775807) (hp : ListAt w po ps) (hpi : ∀ x ∈ ps, I64 x) (hpl : ps.length ≤ 9223372036854775807) :
    Calls Try.prog 5 #[.agg #[.int .i64 n, .slice ao len cap], .slice lo fl.length lc, .slice mo fm.length mc, .slice po ps.length pc] w fun e w' => e = .returned (.bool true) ∧ Ext w w' := by
  go_enter Try.func5, Try.ntmps5
  go_wp2_with fail
  refine (alive_any _).mono ?_
  rintro e w1 ⟨rfl, E1⟩
  have hE1 : Ext w w1 := ((Ext.refl w).alloc _).trans E1
  have n0 : w1.cell? ⟨w.heap.size, 0, none⟩ = some (.int .i64 n) := (E1.cells.1 _ _ (by simp)).trans (by simp)
  have n1 : w1.cell? ⟨w.heap.size, 1, none⟩ = some (.slice ao len cap) := (E1.cells.1 _ _ (by simp)).trans (by simp)
  have hl1 : w.heap.size < w1.heap.size := by have := E1.size; simp at this; omega
  have HN : Hid (∀ V, Ext w1 V → V.cell? ⟨w.heap.size, 0, none⟩ = some (.int .i64 n) ∧ V.cell? ⟨w.heap.size, 1, none⟩ = some (.slice ao len cap)) := fun V hV => ⟨(hV.cells.1 _ _ hl1).trans n0, (hV.cells.1 _ _ hl1).trans n1⟩
  clear n0 n1
  obtain ⟨bc, hbc⟩ : ∃ bc, bc = w1.heap.size := ⟨_, rfl⟩
  have HBC := hidp hbc
  have hmm := @run_makeMap Try.prog
  obtain ⟨wb, hwb⟩ : ∃ wb, wb = ((((w1.alloc (.cells #[.int .i64 0, .int .i64 0, .slice none 0 0, .slice none 0 0, .int .i64 0, .slice none 0 0, .slice none 0 0, .int .i64 0, .slice none 0 0] 28)).alloc (.map #[] 0)).alloc (.cells #[.map (some (w1.heap.size + 1))] 53)).alloc (.cells #[.slice lo fl.length lc, .slice mo fm.length mc] 22)) := ⟨_, rfl⟩
  have HI0 : Hid (∃ c a K, Rest wb bc c a ∧ Had wb (bc + 1) n 0 c K) := by
    refine ⟨co0, ca0, [], ⟨rfl, rfl, co0_ok, ?_, fun U _ _ => CoAt.zero U⟩, ⟨?_, rfl, by simp, by simp [co0], Or.inl rfl⟩⟩
    · rw [hwb]; exact (((box_row hbc.symm _ _ _ _ _ _ _ _ _).alloc _).alloc _).alloc _
    · have hm := SetMap.made (w1.alloc (.cells #[.int .i64 0, .int .i64 0, .slice none 0 0, .slice none 0 0, .int .i64 0, .slice none 0 0, .slice none 0 0, .int .i64 0, .slice none 0 0] 28))
      rw [World.size_alloc, ← hbc] at hm
      rw [hwb]
      exact hm.ext (((Ext.refl _).alloc _).alloc _)
  have HB0 : Hid (wb.cell? ⟨bc + 1 + 1, 0, none⟩ = some (.map (some (bc + 1))) ∧ wb.cell? ⟨bc + 1 + 1 + 1, 0, none⟩ = some (.slice lo fl.length lc) ∧ wb.cell? ⟨bc + 1 + 1 + 1, 1, none⟩ = some (.slice mo fm.length mc) ∧ bc + 1 + 1 + 1 < wb.heap.size ∧ Ext w1 wb) := by
    have hEb : Ext w1 wb := by rw [hwb]; exact ((((Ext.refl w1).alloc _).alloc _).alloc _).alloc _
    obtain ⟨X, hX⟩ : ∃ X, X = (w1.alloc (.cells #[.int .i64 0, .int .i64 0, .slice none 0 0, .slice none 0 0, .int .i64 0, .slice none 0 0, .slice none 0 0, .int .i64 0, .slice none 0 0] 28)).alloc (.map #[] 0) := ⟨_, rfl⟩
    have hXs : X.heap.size = bc + 1 + 1 := by rw [hX, hbc]; simp
    rw [← hX] at hwb
    refine ⟨?_, ?_, ?_, ?_, hEb⟩
    · rw [hwb, ← hXs, hbc]; simp
    · rw [hwb, ← hXs]; simp
    · rw [hwb, ← hXs]; simp
    · rw [hwb, ← hXs]; simp
  go_wp2
  rw [← hwb, ← hbc]
  clear hwb hbc
  go_loopw [32] (fun iv wr => ∃ k : Nat, k ≤ 2 ∧ iv = .int .i64 k ∧ Hid (∃ c a K, Rest wr bc c a ∧ Had wr (bc + 1) n k c K) ∧ wr.cell? ⟨bc + 1 + 1, 0, none⟩ = some (.map (some (bc + 1))) ∧ wr.cell? ⟨bc + 1 + 1 + 1, 0, none⟩ = some (.slice lo fl.length lc) ∧ wr.cell? ⟨bc + 1 + 1 + 1, 1, none⟩ = some (.slice mo fm.length mc) ∧ bc + 1 + 1 + 1 < wr.heap.size ∧ Ext w1 wr) (fun iv _ => 2 - (intOf iv).toNat)
  case atStart => exact ⟨0, by omega, rfl, HI0, HB0.out⟩
  case round =>
    clear HI0 HB0
    obtain ⟨k, hk, rfl, HR0, h0, f0, f1, hbl, hEr⟩ := hrel
    by_cases hk2 : k < 2
    · obtain ⟨c, a, K, hR, hHad⟩ := HR0.out
      have HR := hidp hR
      have HD := hidp hHad
      clear HR0 hR hHad
      obtain ⟨fo, fs, fc, cf, hf, hS, hfl'⟩ : ∃ (fo : Option Addr) (fs : List Stf.Fl) (fc : Nat), wr.cell? ⟨bc + 1 + 1 + 1, k, none⟩ = some (.slice fo fs.length fc) ∧ Fw.FlowsAt w fo fs ∧ Fw.Sm fs ∧ fs.length ≤ 9223372036854775807 := by
        rcases (show k = 0 ∨ k = 1 by omega) with rfl | rfl
        · exact ⟨lo, fl, lc, f0, hfl, hSl, hll⟩
        · exact ⟨mo, fm, mc, f1, hfm, hSm, hlm⟩
      have HFB := hidp (And.intro h0 (And.intro f0 f1))
      have i1 : (k : Int) < 2 := by omega
      clear h0 f0 f1
      have c0 : wr.cell? ⟨bc, 0, none⟩ = some (.int .i64 c.st) := World.rowIs.cell HR.out.box (i := 0) (by omega)
      have c1 : wr.cell? ⟨bc, 1, none⟩ = some (.int .i64 c.now.v) := World.rowIs.cell HR.out.box (i := 1) (by omega)
      have c2 : wr.cell? ⟨bc, 2, none⟩ = some (.slice a.n.fo c.now.fs.length a.n.fc) := World.rowIs.cell HR.out.box (i := 2) (by omega)
      have c3 : wr.cell? ⟨bc, 3, none⟩ = some (.slice a.n.qo c.now.ps.length a.n.qc) := World.rowIs.cell HR.out.box (i := 3) (by omega)
      have c4 : wr.cell? ⟨bc, 4, none⟩ = some (.int .i64 c.nxt.v) := World.rowIs.cell HR.out.box (i := 4) (by omega)
      have c5 : wr.cell? ⟨bc, 5, none⟩ = some (.slice a.x.fo c.nxt.fs.length a.x.fc) := World.rowIs.cell HR.out.box (i := 5) (by omega)
      have c6 : wr.cell? ⟨bc, 6, none⟩ = some (.slice a.x.qo c.nxt.ps.length a.x.qc) := World.rowIs.cell HR.out.box (i := 6) (by omega)
      have c7 : wr.cell? ⟨bc, 7, none⟩ = some (.int .i64 c.num) := World.rowIs.cell HR.out.box (i := 7) (by omega)
      have c8 : wr.cell? ⟨bc, 8, none⟩ = some (.slice a.wo c.wts.length a.wc) := World.rowIs.cell HR.out.box (i := 8) (by omega)
      obtain ⟨n0, n1⟩ := HN.out wr hEr
      have hbcl : bc < wr.heap.size := by omega
      have hwl : w.heap.size < wr.heap.size := by have := hEr.size; omega
      have hwr : Ext w wr := hE1.trans hEr
      have HAK := hidp (Ask_any c a n ao len cap ls fo fs.length fc fs wr HR.out.at_.at HR.out.ok hlen (hl.ext hwr) hx hI rfl (hf.ext hwr) hS hfl')
      unfold cvl at HAK
      go_wp2_with fail
      refine Calls.mono HAK.out ?_
      intro e w2 hG
      obtain ⟨k0, k1, o2, l2, q2, o3, l3, q3, k4, o5, l5, q5, o6, l6, q6, k7, o8, l8, q8, tO, l9, tc, rfl, E2, HF⟩ := hG.letters
      clear hG HAK c0 c1 c2 c3 c4 c5 c6 c7 c8 n0 n1 cf
      by_cases he : (askS c n ls fs).2 = 0
      · have HAO := hidp (ask_cases he)
        have HOK := hidp (ask_ok HR.out.ok (by rw [HR.out.wts]; simp) he)
        have hgd := plan_good HAO.out.hp
        obtain ⟨nn, rfl⟩ := Int.eq_ofNat_of_zero_le hgd.n0
        have hn8 : nn ≤ 8 := by have := hgd.n8; omega
        have HW := hidp HAO.out.wrong
        have HPA := hidp HAO.out.A
        have HPT := hidp (HAO.out.pot HR.out.wts)
        rw [he]
        clear he hgd
        obtain ⟨a1, e1, e2, hU⟩ := HF.out
        have HC1 := hidp (coL_of e1)
        have HS1 : Hid (Stb (fun b => wr.heap.size ≤ b) w2 (fun U => CoAt U (askS c nn ls fs).1.c a1 ∧ TosAt U tO (askS c nn ls fs).1.out)) := hU
        obtain ⟨out, hout⟩ : ∃ out, (askS c nn ls fs).1.out = out := ⟨_, rfl⟩
        rw [hout] at e2
        subst e2
        have HOUT := hidp hout
        clear e1 hU HF hout
        have hw2 : Ext w w2 := hwr.trans E2
        obtain ⟨n0, n1⟩ := HN.out w2 (hEr.trans E2)
        have hwl2 : w.heap.size < w2.heap.size := Nat.lt_of_lt_of_le hwl E2.size
        obtain ⟨w3, hw3⟩ : ∃ w3, w3 = w2.alloc (.cells #[.int .i64 k0, .int .i64 k1, .slice o2 l2 q2, .slice o3 l3 q3, .int .i64 k4, .slice o5 l5 q5, .slice o6 l6 q6, .int .i64 k7, .slice o8 l8 q8] 28) := ⟨_, rfl⟩
        have E3 : Ext w2 w3 := by rw [hw3]; exact (Ext.refl w2).alloc _
        have HS3 : Hid (w3.heap.size = w2.heap.size + 1) := by show _ = _; rw [hw3]; simp
        have HB3 : Hid (BX w3 w2.heap.size [.int .i64 k0, .int .i64 k1, .slice o2 l2 q2, .slice o3 l3 q3, .int .i64 k4, .slice o5 l5 q5, .slice o6 l6 q6, .int .i64 k7, .slice o8 l8 q8]) := by rw [hw3]; exact box_row rfl _ _ _ _ _ _ _ _ _
        have HSE := hidp (settle_lt (fun b => wr.heap.size ≤ b ∧ b ≠ w2.heap.size) (askS c nn ls fs).1.c a1 HC1.out nn ao len cap ls po pc ps w3 (((HS1.out.imp (fun U h => h.1)).more (fun b h1 h2 => ⟨h1, by omega⟩)).ext E3) HOK.out hlen (hl.ext (hw2.trans E3)) hx HW.out hn8 HPT.out (hp.ext (hw2.trans E3)) hpi hpl)
        go_wp2_with fail
        rw [← hw3]
        clear hw3 n0 n1
        refine Calls.mono HSE.out ?_
        intro e w4 hSL
        obtain ⟨k0', k1', o2', l2', q2', o3', l3', q3', k4', o5', l5', q5', o6', l6', q6', k7', o8', l8', q8', oo, ol, oc, rfl, E4, HSX⟩ := hSL
        clear HSE
        obtain ⟨c2, a2, outs, VS, ecl, eol, hbk, hw0, hok2, hst2, hown2, hnil2⟩ := HSX.out
        have hA2 := bks_A HW.out hbk HPA.out
        have hst3 : c2.st = 3 := by
          rcases hA2.2.2 with ⟨_, h⟩ | ⟨h, _⟩
          · exact absurd hw0 h
          · exact h
        subst eol
        have HCL2 := hidp ecl
        have HBK2 := hidp hbk
        have HK2 := hidp (And.intro hst3 (And.intro hw0 hok2))
        have HOW2 := hidp hown2
        have HST2 : Hid (Stb (fun b => ((wr.heap.size ≤ b ∧ b ≠ w2.heap.size) ∨ w3.heap.size ≤ b) ∧ b ≠ w3.heap.size ∧ b ≠ w3.heap.size + 1 + 1 ∧ (Value.slice oo outs.length oc).ownBlock ≠ some b) w4 (fun U => CoAt U c2 a2 ∧ TossAt U VS outs)) := hst2
        clear HSX ecl hbk hw0 hok2 hst2 hA2 hst3 hown2 hnil2
        have HB4 : Hid (BX w4 w2.heap.size [.int .i64 k0, .int .i64 k1, .slice o2 l2 q2, .slice o3 l3 q3, .int .i64 k4, .slice o5 l5 q5, .slice o6 l6 q6, .int .i64 k7, .slice o8 l8 q8]) := World.rowIs.of_block HB3.out (Below.block E4 _ (by have := HS3.out; omega))
        have E24 : Ext w2 w4 := E3.trans E4
        have HR4 := hidp (HR.out.ext (E2.trans E24))
        have d0 : w4.cell? ⟨w2.heap.size, 0, none⟩ = some (.int .i64 k0) := World.rowIs.cell HB4.out (i := 0) (by omega)
        have d1 : w4.cell? ⟨w2.heap.size, 1, none⟩ = some (.int .i64 k1) := World.rowIs.cell HB4.out (i := 1) (by omega)
        have d2 : w4.cell? ⟨w2.heap.size, 2, none⟩ = some (.slice o2 l2 q2) := World.rowIs.cell HB4.out (i := 2) (by omega)
        have d3 : w4.cell? ⟨w2.heap.size, 3, none⟩ = some (.slice o3 l3 q3) := World.rowIs.cell HB4.out (i := 3) (by omega)
        have d4 : w4.cell? ⟨w2.heap.size, 4, none⟩ = some (.int .i64 k4) := World.rowIs.cell HB4.out (i := 4) (by omega)
        have d5 : w4.cell? ⟨w2.heap.size, 5, none⟩ = some (.slice o5 l5 q5) := World.rowIs.cell HB4.out (i := 5) (by omega)
        have d6 : w4.cell? ⟨w2.heap.size, 6, none⟩ = some (.slice o6 l6 q6) := World.rowIs.cell HB4.out (i := 6) (by omega)
        have d7 : w4.cell? ⟨w2.heap.size, 7, none⟩ = some (.int .i64 k7) := World.rowIs.cell HB4.out (i := 7) (by omega)
        have d8 : w4.cell? ⟨w2.heap.size, 8, none⟩ = some (.slice o8 l8 q8) := World.rowIs.cell HB4.out (i := 8) (by omega)
        have z0 := World.rowIs.frozen HB4.out 0
        have z1 := World.rowIs.frozen HB4.out 1
        have z2 := World.rowIs.frozen HB4.out 2
        have z3 := World.rowIs.frozen HB4.out 3
        have z4 := World.rowIs.frozen HB4.out 4
        have z5 := World.rowIs.frozen HB4.out 5
        have z6 := World.rowIs.frozen HB4.out 6
        have z7 := World.rowIs.frozen HB4.out 7
        have z8 := World.rowIs.frozen HB4.out 8
        obtain ⟨n0, n1⟩ := HN.out w4 (hEr.trans (E2.trans E24))
        have hwl4 : w.heap.size < w4.heap.size := Nat.lt_of_lt_of_le hwl2 E24.size
        have hdl4 : w2.heap.size < w4.heap.size := by have := HS3.out; have := E4.size; omega
        have hbcl2 : bc < w2.heap.size := Nat.lt_of_lt_of_le hbcl E2.size
        have hbcl4 : bc < w4.heap.size := by omega
        have hne1 : bc ≠ w2.heap.size := by omega
        have hne2 : w.heap.size ≠ w2.heap.size := by omega
        go_wp2_with fail
        obtain ⟨w5, hw5⟩ : ∃ w5, w5 = W9 w4 w2.heap.size (.int .i64 k0') (.int .i64 k1') (.slice o2' l2' q2') (.slice o3' l3' q3') (.int .i64 k4') (.slice o5' l5' q5') (.slice o6' l6' q6') (.int .i64 k7') (.slice o8' l8' q8') := ⟨_, rfl⟩
        have HY5 : Hid (w5.heap.size = w4.heap.size ∧ (∀ b, b ≠ w2.heap.size → w5.heap[b]? = w4.heap[b]?) ∧ BX w5 w2.heap.size [.int .i64 k0', .int .i64 k1', .slice o2' l2' q2', .slice o3' l3' q3', .int .i64 k4', .slice o5' l5' q5', .slice o6' l6' q6', .int .i64 k7', .slice o8' l8' q8'] ∧ Ext w w5 ∧ Ext wr w5) := by
          rw [hw5]
          exact ⟨W9_size0, W9_block0, box_put HB4.out _ _ _ _ _ _ _ _ _, W9_ext0 (hw2.trans E24) (by omega), W9_ext0 (E2.trans E24) E2.size⟩
        unfold W9 at hw5
        rw [← hw5]
        clear hw5 d0 d1 d2 d3 d4 d5 d6 d7 d8 z0 z1 z2 z3 z4 z5 z6 z7 z8 n0 n1
        have E5 := HY5.out.2.2.2.1
        have E5r := HY5.out.2.2.2.2
        have HC5 := hidp ((HST2.out.step (Nat.le_of_eq HY5.out.1.symm) (fun b hb _ => HY5.out.2.1 b (by have := HS3.out; omega))).at.1)
        refine Calls.mono (drop_lt c2 a2 HCL2.out nn ao len cap ls w5 HC5.out HK2.out.2.2 hlen (hl.ext E5) hx HW.out HK2.out.1) ?_
        intro e w6 hG
        obtain ⟨k0'', k1'', o2'', l2'', q2'', o3'', l3'', q3'', k4'', o5'', l5'', q5'', o6'', l6'', q6'', k7'', o8'', l8'', q8'', tO'', l9'', tc'', rfl, E6, HF6⟩ := hG
        obtain ⟨a6, e1, e2, hU⟩ := HF6.out
        have HC6 := hidp (coL_of e1)
        obtain ⟨drops, hdrops⟩ : ∃ drops, (dropS c2 nn ls).1.out = drops := ⟨_, rfl⟩
        have HS6 : Hid (Stb (fun b => w5.heap.size ≤ b) w6 (fun U => CoAt U (dropS c2 nn ls).1.c a6 ∧ TosAt U tO'' drops)) := by rw [← hdrops]; exact hU
        rw [hdrops] at e2
        subst e2
        have HDR := hidp hdrops
        clear e1 hU HF6 hdrops
        have hw6 : Ext w w6 := E5.trans E6
        have hwl6 : w.heap.size < w6.heap.size := by have := E6.size; have := HY5.out.1; omega
        obtain ⟨w7, hw7⟩ : ∃ w7, w7 = w6.alloc (.cells #[.int .i64 k0'', .int .i64 k1'', .slice o2'' l2'' q2'', .slice o3'' l3'' q3'', .int .i64 k4'', .slice o5'' l5'' q5'', .slice o6'' l6'' q6'', .int .i64 k7'', .slice o8'' l8'' q8''] 28) := ⟨_, rfl⟩
        have E7 : Ext w6 w7 := by rw [hw7]; exact (Ext.refl w6).alloc _
        have HS7 : Hid (w7.heap.size = w6.heap.size + 1) := by show _ = _; rw [hw7]; simp
        have HB7 : Hid (BX w7 w6.heap.size [.int .i64 k0'', .int .i64 k1'', .slice o2'' l2'' q2'', .slice o3'' l3'' q3'', .int .i64 k4'', .slice o5'' l5'' q5'', .slice o6'' l6'' q6'', .int .i64 k7'', .slice o8'' l8'' q8'']) := by rw [hw7]; exact box_row rfl _ _ _ _ _ _ _ _ _
        have E7r : Ext wr w7 := E5r.trans (E6.trans E7)
        have h54 := HY5.out.1
        have h65 := E6.size
        have h42 := E24.size
        have h2r := E2.size
        have h7s := HS7.out
        have h3s := HS3.out
        have HAT : Hid (AllTold nn c (dropS c2 nn ls).1.c out drops outs []) := by
          rw [← HOUT.out, ← HDR.out]
          exact all_told HAO.out HR.out.wts (by have := HD.out.len; omega) (by have := HD.out.few; omega) HD.out.now HBK2.out HK2.out.2.1 (Bks.refl _)
        have hT0 : w7.cell? ⟨w.heap.size, 0, none⟩ = some (.int .i64 nn) := (HN.out w7 (hEr.trans E7r)).1
        have hH0 : w7.cell? ⟨bc + 1 + 1, 0, none⟩ = some (.map (some (bc + 1))) := (E7r.cells.1 _ _ (by omega)).trans HFB.out.1
        have hwbc : w.heap.size < bc := by have := HBC.out; omega
        have HR1 := hidp (right_any w.heap.size (bc + 1 + 1) (bc + 1) nn tO tc out K w7 hT0 hH0 (by omega) (by omega) (by omega) (by omega) (HD.out.ext E7r).set (by
          have := rt_in (j := 0) (U := w7) (ao := tO) HAT.out HD.out (by omega) (by simp) ?h
          · simpa [nums] using this
          · refine Stb.more (Y := fun b => wr.heap.size ≤ b ∧ b ≠ w2.heap.size) ?_ (fun b h1 h2 => by omega)
            rw [HOUT.out] at HS1
            have t2 := ((HS1.out.imp (fun U h => h.2)).more (Y' := fun b => wr.heap.size ≤ b ∧ b ≠ w2.heap.size) (fun b h1 h2 => ⟨h1, by omega⟩)).ext E24
            exact ((t2.step (Nat.le_of_eq h54.symm) (fun b hb _ => HY5.out.2.1 b hb.2)).ext E6).ext E7))
        have HR2 : Hid (∀ V, SetMap V (bc + 1) (K ++ nums out) → w7.grownBy V (some (bc + 1)) → Calls Try.prog 18 #[.slice tO'' drops.length tc'', .pointer (some ⟨w.heap.size, 0, none⟩), .pointer (some ⟨bc + 1 + 1, 0, none⟩)] V fun e w' => e = .returned (.bool true) ∧ SetMap w' (bc + 1) (K ++ nums out ++ nums drops) ∧ V.grownBy w' (some (bc + 1))) := fun V hV hg =>
          right_any w.heap.size (bc + 1 + 1) (bc + 1) nn tO'' tc'' drops (K ++ nums out) V (hg.cell hT0 (by simp; omega)) (hg.cell hH0 (by simp)) (by omega) (by omega) (by have := hg.size; omega) (by have := hg.size; omega) hV (by
          have := rt_in (j := 1) (U := V) (ao := tO'') HAT.out HD.out (by omega) (by simp) ?h
          · simpa [nums] using this
          · have t2 := ((HS6.out.imp (fun U h => h.2)).ext E7).more (Y' := fun b => b ≠ bc + 1) (fun b h1 h2 => by omega)
            exact t2.step hg.size (fun b hb hlt => hg.block b hlt (by simpa using hb)))
        go_upto_region 15 with (first
          | (go_at_call 18
             rw [← hw7]
             refine Calls.mono HR1.out ?_
             rintro e w8 ⟨rfl, hs8, hg8⟩)
          | (go_at_call 18
             refine Calls.mono (HR2.out _ hs8 hg8) ?_
             rintro e w9 ⟨rfl, hs9, hg9⟩)
          | fail)
        clear HR1 HR2 hT0 hH0
        have G79 : w7.grownBy w9 (some (bc + 1)) := hg8.trans hg9
        have h97 := G79.size
        have E9 : Ext w w9 := Below.grown (hw6.trans E7) G79 (hw6.trans E7).size (fun j hj => by cases hj; omega)
        have E91 : Ext w1 w9 := Below.grown (hEr.trans E7r) G79 (hEr.trans E7r).size (fun j hj => by cases hj; have := HBC.out; omega)
        have HS9 := hidp hs9
        clear hs8 hs9 hg8 hg9 hw7
        have HB9 : Hid (BX w9 w6.heap.size [.int .i64 k0'', .int .i64 k1'', .slice o2'' l2'' q2'', .slice o3'' l3'' q3'', .int .i64 k4'', .slice o5'' l5'' q5'', .slice o6'' l6'' q6'', .int .i64 k7'', .slice o8'' l8'' q8'']) := World.rowIs.of_block HB7.out (G79.block _ (by omega) (by simp; omega))
        have d0 : w9.cell? ⟨w6.heap.size, 0, none⟩ = some (.int .i64 k0'') := World.rowIs.cell HB9.out (i := 0) (by omega)
        have d1 : w9.cell? ⟨w6.heap.size, 1, none⟩ = some (.int .i64 k1'') := World.rowIs.cell HB9.out (i := 1) (by omega)
        have d2 : w9.cell? ⟨w6.heap.size, 2, none⟩ = some (.slice o2'' l2'' q2'') := World.rowIs.cell HB9.out (i := 2) (by omega)
        have d3 : w9.cell? ⟨w6.heap.size, 3, none⟩ = some (.slice o3'' l3'' q3'') := World.rowIs.cell HB9.out (i := 3) (by omega)
        have d4 : w9.cell? ⟨w6.heap.size, 4, none⟩ = some (.int .i64 k4'') := World.rowIs.cell HB9.out (i := 4) (by omega)
        have d5 : w9.cell? ⟨w6.heap.size, 5, none⟩ = some (.slice o5'' l5'' q5'') := World.rowIs.cell HB9.out (i := 5) (by omega)
        have d6 : w9.cell? ⟨w6.heap.size, 6, none⟩ = some (.slice o6'' l6'' q6'') := World.rowIs.cell HB9.out (i := 6) (by omega)
        have d7 : w9.cell? ⟨w6.heap.size, 7, none⟩ = some (.int .i64 k7'') := World.rowIs.cell HB9.out (i := 7) (by omega)
        have d8 : w9.cell? ⟨w6.heap.size, 8, none⟩ = some (.slice o8'' l8'' q8'') := World.rowIs.cell HB9.out (i := 8) (by omega)
        obtain ⟨n0, n1⟩ := HN.out w9 E91
        have hwl9 : w.heap.size < w9.heap.size := by omega
        have hxl9 : w6.heap.size < w9.heap.size := by omega
        have HSE := hidp (settle_lt (fun b => w5.heap.size ≤ b ∧ b ≠ w6.heap.size) (dropS c2 nn ls).1.c a6 HC6.out nn ao len cap ls po pc ps w9 ((((HS6.out.imp (fun U h => h.1)).more (Y' := fun b => w5.heap.size ≤ b ∧ b ≠ w6.heap.size) (fun b h1 h2 => ⟨h1, by omega⟩)).ext E7).step h97 (fun b hb hlt => G79.block b hlt (by simp; omega))) (drop_ok hn8 HW.out HK2.out.1 HK2.out.2.1 HK2.out.2.2) hlen (hl.ext E9) hx HW.out hn8 (drop_pot hn8 HW.out HK2.out.1 HK2.out.2.1) (hp.ext E9) hpi hpl)
        go_wp2_with fail
        refine Calls.mono HSE.out ?_
        intro e w10 hSL
        obtain ⟨k0''', k1''', o2''', l2''', q2''', o3''', l3''', q3''', k4''', o5''', l5''', q5''', o6''', l6''', q6''', k7''', o8''', l8''', q8''', oo', ol', oc', rfl, E10, HSX⟩ := hSL
        clear HSE d0 d1 d2 d3 d4 d5 d6 d7 d8 n0 n1
        obtain ⟨c3, a3, outs3, VS3, ecl, eol, hbk, hw0, hok3, hst3, hown3, hnil3⟩ := HSX.out
        subst eol
        have HNG := hidp (now_good HAO.out HBK2.out HK2.out.2.1 hbk hw0)
        have HA3 : Hid (AllTold nn c c3 out drops outs outs3) := by
          rw [← HOUT.out, ← HDR.out]
          exact all_told HAO.out HR.out.wts (by have := HD.out.len; omega) (by have := HD.out.few; omega) HD.out.now HBK2.out HK2.out.2.1 hbk
        have HCL3 := hidp ecl
        have HK3 := hidp (And.intro hw0 hok3)
        have hol2 : outs.length ≤ 200 := by have := bks_len HW.out hn8 HBK2.out; have := HPT.out; omega
        have hol3 : outs3.length ≤ 200 := by have := bks_len HW.out hn8 hbk; have := drop_pot (ls := ls) hn8 HW.out HK2.out.1 HK2.out.2.1; omega
        have HOW3 := hidp hown3
        have HST3 : Hid (Stb (fun b => ((w5.heap.size ≤ b ∧ b ≠ w6.heap.size) ∨ w9.heap.size ≤ b) ∧ b ≠ w9.heap.size ∧ b ≠ w9.heap.size + 1 + 1 ∧ (Value.slice oo' outs3.length oc').ownBlock ≠ some b) w10 (fun U => CoAt U c3 a3 ∧ TossAt U VS3 outs3)) := hst3
        have HNL := hidp hnil3
        clear HSX ecl hbk hw0 hok3 hst3 hown3 hnil3 HAT
        have h109 := E10.size
        have HB10 : Hid (BX w10 w6.heap.size [.int .i64 k0'', .int .i64 k1'', .slice o2'' l2'' q2'', .slice o3'' l3'' q3'', .int .i64 k4'', .slice o5'' l5'' q5'', .slice o6'' l6'' q6'', .int .i64 k7'', .slice o8'' l8'' q8'']) := World.rowIs.of_block HB9.out (Below.block E10 _ hxl9)
        have d0 : w10.cell? ⟨w6.heap.size, 0, none⟩ = some (.int .i64 k0'') := World.rowIs.cell HB10.out (i := 0) (by omega)
        have d1 : w10.cell? ⟨w6.heap.size, 1, none⟩ = some (.int .i64 k1'') := World.rowIs.cell HB10.out (i := 1) (by omega)
        have d2 : w10.cell? ⟨w6.heap.size, 2, none⟩ = some (.slice o2'' l2'' q2'') := World.rowIs.cell HB10.out (i := 2) (by omega)
        have d3 : w10.cell? ⟨w6.heap.size, 3, none⟩ = some (.slice o3'' l3'' q3'') := World.rowIs.cell HB10.out (i := 3) (by omega)
        have d4 : w10.cell? ⟨w6.heap.size, 4, none⟩ = some (.int .i64 k4'') := World.rowIs.cell HB10.out (i := 4) (by omega)
        have d5 : w10.cell? ⟨w6.heap.size, 5, none⟩ = some (.slice o5'' l5'' q5'') := World.rowIs.cell HB10.out (i := 5) (by omega)
        have d6 : w10.cell? ⟨w6.heap.size, 6, none⟩ = some (.slice o6'' l6'' q6'') := World.rowIs.cell HB10.out (i := 6) (by omega)
        have d7 : w10.cell? ⟨w6.heap.size, 7, none⟩ = some (.int .i64 k7'') := World.rowIs.cell HB10.out (i := 7) (by omega)
        have d8 : w10.cell? ⟨w6.heap.size, 8, none⟩ = some (.slice o8'' l8'' q8'') := World.rowIs.cell HB10.out (i := 8) (by omega)
        have z0 := World.rowIs.frozen HB10.out 0
        have z1 := World.rowIs.frozen HB10.out 1
        have z2 := World.rowIs.frozen HB10.out 2
        have z3 := World.rowIs.frozen HB10.out 3
        have z4 := World.rowIs.frozen HB10.out 4
        have z5 := World.rowIs.frozen HB10.out 5
        have z6 := World.rowIs.frozen HB10.out 6
        have z7 := World.rowIs.frozen HB10.out 7
        have z8 := World.rowIs.frozen HB10.out 8
        have hxl10 : w6.heap.size < w10.heap.size := by omega
        go_upto_region 16 with fail
        obtain ⟨w11, hw11⟩ : ∃ w11, w11 = W9 w10 w6.heap.size (.int .i64 k0''') (.int .i64 k1''') (.slice o2''' l2''' q2''') (.slice o3''' l3''' q3''') (.int .i64 k4''') (.slice o5''' l5''' q5''') (.slice o6''' l6''' q6''') (.int .i64 k7''') (.slice o8''' l8''' q8''') := ⟨_, rfl⟩
        have HY11 : Hid (w11.heap.size = w10.heap.size ∧ (∀ b, b ≠ w6.heap.size → w11.heap[b]? = w10.heap[b]?) ∧ BX w11 w6.heap.size [.int .i64 k0''', .int .i64 k1''', .slice o2''' l2''' q2''', .slice o3''' l3''' q3''', .int .i64 k4''', .slice o5''' l5''' q5''', .slice o6''' l6''' q6''', .int .i64 k7''', .slice o8''' l8''' q8'''] ∧ Ext w1 w11) := by
          rw [hw11]
          exact ⟨W9_size0, W9_block0, box_put HB10.out _ _ _ _ _ _ _ _ _, W9_ext0 (E91.trans E10) (by have := hEr.size; omega)⟩
        unfold W9 at hw11
        rw [← hw11]
        clear hw11 d0 d1 d2 d3 d4 d5 d6 d7 d8 z0 z1 z2 z3 z4 z5 z6 z7 z8
        have h1110 := HY11.out.1
        have K4 : Hid (∀ b, b < w4.heap.size → b ≠ w2.heap.size → b ≠ bc + 1 → w11.heap[b]? = w4.heap[b]?) := fun b h1 h2 h3 => by
          rw [HY11.out.2.1 b (by omega), Below.block E10 b (by omega), G79.block b (by omega) (by simpa using h3), Below.block (E6.trans E7) b (by omega), HY5.out.2.1 b h2]
        have HO2 : Hid (w11.ownsRow w3.heap.size 32 1 (.slice oo outs.length oc) outs.length VS) := own_low (own_keep HOW2.out (fun b h1 h2 => K4.out b h2 (by omega) (by omega))) (by omega)
        have HOB : Hid (∀ j, (Value.slice oo outs.length oc).ownBlock = some j → w3.heap.size ≤ j ∧ j < w4.heap.size) := fun j hj => by have := HOW2.out.lt j hj; omega
        have HO3 : Hid (w11.ownsRow (w9.heap.size + 1 + 1 + 1) 32 1 (.slice oo' outs3.length oc') outs3.length VS3) := own_keep HOW3.out (fun b h1 h2 => HY11.out.2.1 b (by omega))
        have HT2 : Hid (Stb (fun b => ((wr.heap.size ≤ b ∧ b ≠ w2.heap.size) ∨ w3.heap.size ≤ b) ∧ b ≠ w3.heap.size ∧ b ≠ w3.heap.size + 1 + 1 ∧ (Value.slice oo outs.length oc).ownBlock ≠ some b) w11 (fun U => TossAt U VS outs)) := (HST2.out.imp (fun U h => h.2)).step (by omega) (fun b hb hlt => K4.out b hlt (by omega) (by omega))
        have HT3 : Hid (Stb (fun b => ((w5.heap.size ≤ b ∧ b ≠ w6.heap.size) ∨ w9.heap.size ≤ b) ∧ b ≠ w9.heap.size ∧ b ≠ w9.heap.size + 1 + 1 ∧ (Value.slice oo' outs3.length oc').ownBlock ≠ some b) w11 (fun U => CoAt U c3 a3 ∧ TossAt U VS3 outs3)) := HST3.out.step (by omega) (fun b hb hlt => HY11.out.2.1 b (by omega))
        clear HOW2 HOW3 HST2 HST3
        go_cut [21, 89, 90, 91] (fun _ v nv iv wx => ∃ (ro : Option Addr) (NL rc : Nat), v = .slice ro NL rc ∧ nv = .int .i64 (NL : Int) ∧ iv = .int .i64 0 ∧ Hid (NL = (outs ++ outs3).length ∧ Stb (fun b => b ≠ bc + 1) wx (fun U => RowAt U ro (outs ++ outs3)) ∧ Stb (fun b => w5.heap.size ≤ b ∧ b ≠ w6.heap.size) wx (fun U => CoAt U c3 a3) ∧ (∀ b, b < w11.heap.size → b < w3.heap.size ∨ w5.heap.size ≤ b → wx.heap[b]? = w11.heap[b]?) ∧ w11.heap.size ≤ wx.heap.size ∧ Ext w1 wx))
        case first =>
          obtain ⟨i0, hi0, hz00, hz01, hz02⟩ := info_parts infoTs
          by_cases h3 : outs3 = []
          · obtain ⟨rfl, rfl⟩ := HNL.out h3
            have hv3 : VS3 = [] := by have := HT3.out.at.2.len; rw [h3] at this; exact List.eq_nil_of_length_eq_zero this
            have HL : Hid (outs3 = [] ∧ VS3 = []) := ⟨h3, hv3⟩
            have hl0 : outs3.length = 0 := by rw [h3]; rfl
            rw [hl0]
            clear hv3 h3 hl0
            go_wp2_with (first | (at_builtin; refine wpList_append_own_none rfl _ _ 49 rfl w3.heap.size 32 i0 1 Try.underlying49 hi0 _ _ _ rfl HO2.out rfl ?_) | go_in)
            go_meet
            refine ⟨oo, outs.length, oc, rfl, rfl, rfl, ?_⟩
            obtain ⟨g1, g2⟩ := HL.out
            subst g1 g2
            exact ⟨by simp, row_fin (by simpa using HO2.out) (by omega) HT2.out (fun b hb => by omega) ((HT3.out.imp (fun U h => h.2))) (fun b hb => by omega), (HT3.out.imp (fun U h => h.1)).more (fun b hb _ => by omega), fun b _ _ => rfl, Nat.le_refl _, HY11.out.2.2.2⟩
          · obtain ⟨g3, hg3⟩ : ∃ g3, oo' = some ⟨g3, 0, none⟩ := by
              rcases HO3.out.2 with ⟨_, h2⟩ | ⟨g, c, cur, hv, _⟩
              · exact absurd (List.eq_nil_of_length_eq_zero h2) h3
              · injection hv with hv; exact ⟨g, hv⟩
            have hp3 : 0 < outs3.length := List.length_pos_iff.2 h3
            have HV3 := hidp HT3.out.at.2
            have hvl : VS3.length = outs3.length := HV3.out.len
            subst hg3
            go_wp2_with (first | (at_builtin; refine wpList_append_lies _ rfl _ _ 49 rfl w3.heap.size 32 i0 (.slice none 0 0) 1 24 Try.underlying49 hi0 hz00 hz01 hz02 rfl (by decide) _ _ _ rfl HO2.out ⟨g3, 0, none⟩ outs3.length oc' VS3 rfl (by omega) (HO3.out.cells rfl) HV3.out.one hp3 (by unfold maxLen; omega) (by omega) (by omega) _ rfl ?_) | go_in)
            intro g7 gc7 w7' hown7 hgr7 hat7 hlt7
            have HX7 : Hid _ := hidp (And.intro hown7 (And.intro hgr7 hat7))
            clear hown7 hgr7 hat7
            go_wp2
            go_meet
            obtain ⟨hown7, hgr7, hat7⟩ := HX7.out
            refine ⟨some ⟨g7, 0, none⟩, outs.length + outs3.length, gc7, rfl, by go_num, rfl, ?_⟩
            exact ⟨by simp, row_fin hown7 (by omega) (HT2.out.step hgr7.size (fun b hb hlt => hgr7.block b hlt (fun e => hb.2.2.2 e.symm))) (fun b hb => by omega) ((HT3.out.imp (fun U h => h.2)).step hgr7.size (fun b hb hlt => hgr7.block b hlt (fun e => by have := HOB.out b e.symm; omega))) (fun b hb => by omega), ((HT3.out.imp (fun U h => h.1)).step hgr7.size (fun b hb hlt => hgr7.block b hlt (fun e => by have := HOB.out b e.symm; omega))).more (fun b hb _ => by omega), fun b hb h => hgr7.block b hb (fun e => by have := HOB.out b e.symm; omega), hgr7.size, Below.grown HY11.out.2.2.2 hgr7 HY11.out.2.2.2.size (fun j hj => by have := HOB.out j hj; have := hEr.size; omega)⟩
        case rest =>
          obtain ⟨ro, NL, rc, rfl, rfl, rfl, HCT⟩ := hcut
          obtain ⟨wz, hwz⟩ : ∃ wz, wz = wc := ⟨_, rfl⟩
          subst hwz
          obtain ⟨wo, hwo⟩ : ∃ wo, wo = wr := ⟨_, rfl⟩
          subst hwo
          clear HO2 HO3 HT2 HT3 HOB K4 HNL
          have HNL := hidp HCT.out.1
          have hnl : NL ≤ 400 := by have := HNL.out; rw [List.length_append] at this; omega
          have hzs := HCT.out.2.2.2.2.1
          have HEZ := hidp HCT.out.2.2.2.2.2
          have BK : Hid (∀ b, b < wo.heap.size → b ≠ bc + 1 → wz.heap[b]? = wo.heap[b]?) := fun b h1 h2 => by
            rw [HCT.out.2.2.2.1 b (by omega) (Or.inl (by omega)), HY11.out.2.1 b (by omega), Below.block E10 b (by omega), G79.block b (by omega) (by simpa using h2), Below.block E7r b h1]
          have HSZ : Hid (SetMap wz (bc + 1) (K ++ nums out ++ nums drops)) := HS9.out.of_block ((HCT.out.2.2.2.1 (bc + 1) (by omega) (Or.inl (by omega))).trans ((HY11.out.2.1 _ (by omega)).trans (Below.block E10 _ (by omega))))
          have hTz : wz.cell? ⟨w.heap.size, 0, none⟩ = some (.int .i64 nn) := (HN.out wz HEZ.out).1
          have hHz : wz.cell? ⟨bc + 1 + 1, 0, none⟩ = some (.map (some (bc + 1))) := (World.cell?_of_block (a := ⟨bc + 1 + 1, 0, none⟩) (BK.out (bc + 1 + 1) (by omega) (by omega))).trans HFB.out.1
          go_wp2
          go_loopw [91] (fun jv wx => ∃ j : Nat, j ≤ NL ∧ jv = .int .i64 j ∧ SetMap wx (bc + 1) (K ++ nums ((out :: drops :: (outs ++ outs3)).take (j + 2)).flatten) ∧ wz.grownBy wx (some (bc + 1))) (fun jv _ => NL - (intOf jv).toNat)
          case atStart => exact ⟨0, Nat.zero_le _, rfl, by simpa [nums] using HSZ.out, World.grownBy.refl _ _⟩
          case round =>
            obtain ⟨j, hj, rfl, hsm, hgr⟩ := hrel
            have hrz := hgr.size
            by_cases hjl : j < NL
            · have i1 : (j : Int) < (NL : Int) := by omega
              have hjL : j < (outs ++ outs3).length := by have := HNL.out; omega
              have HRS : Hid (Stb (fun b => b ≠ bc + 1) wr (fun U => RowAt U ro (outs ++ outs3))) := HCT.out.2.1.step hrz (fun b hb hlt => hgr.block b hlt (by simpa using hb))
              rcases HRS.out.at with h0 | ⟨g, hro, hgl, hcell⟩
              · exfalso; rw [h0] at hjL; simp at hjL
              obtain ⟨tO3, tc3, cj, _⟩ := hcell j hjL
              have hgm : g ≠ bc + 1 := set_ne hsm cj
              have HSJ := hidp (row_at HRS.out hro hjL hgm hgl cj)
              have HRT := hidp (rt_in (j := j + 2) (U := wr) (ao := tO3) HA3.out HD.out (by omega) (by simp only [List.length_cons]; omega) HSJ.out)
              have HFL := hidp (flat_take (LL := out :: drops :: (outs ++ outs3)) (j := j + 2) (by simp only [List.length_cons]; omega))
              have HRJ := hidp (right_any w.heap.size (bc + 1 + 1) (bc + 1) nn tO3 tc3 ((outs ++ outs3).getD j []) _ wr (hgr.cell hTz (by simp; omega)) (hgr.cell hHz (by simp)) (by omega) (by omega) (by omega) (by omega) hsm HRT.out)
              subst hro
              clear hcell HCT
              go_wp2_with (go_at_call 18; refine Calls.mono HRJ.out ?_; rintro e w13 ⟨rfl, hs13, hg13⟩)
              exact ⟨⟨j + 1, by omega, by go_num, by rw [show j + 1 + 2 = j + 2 + 1 from rfl, HFL.out, ← List.append_assoc]; exact hs13, hgr.trans hg13⟩, by simp [intOf]; omega⟩
            · have i1 : ¬ (j : Int) < (NL : Int) := by omega
              have htk : (out :: drops :: (outs ++ outs3)).take (j + 2) = out :: drops :: (outs ++ outs3) := List.take_of_length_le (by have := HNL.out; simp only [List.length_cons]; omega)
              rw [htk] at hsm
              have HSM := hidp hsm
              have HBX : Hid (BX wr w6.heap.size [.int .i64 k0''', .int .i64 k1''', .slice o2''' l2''' q2''', .slice o3''' l3''' q3''', .int .i64 k4''', .slice o5''' l5''' q5''', .slice o6''' l6''' q6''', .int .i64 k7''', .slice o8''' l8''' q8''']) := World.rowIs.of_block HY11.out.2.2.1 ((hgr.block _ (by omega) (by simp; omega)).trans (HCT.out.2.2.2.1 _ (by omega) (Or.inr (by omega))))
              have HBK : Hid (∀ b, b < wo.heap.size → b ≠ bc + 1 → wr.heap[b]? = wo.heap[b]?) := fun b h1 h2 => (hgr.block b (by omega) (by simpa using h2)).trans (BK.out b h1 h2)
              have HBC' : Hid (BX wr bc (coL c a)) := World.rowIs.of_block HR.out.box (HBK.out bc hbcl (by omega))
              have HE13 : Hid (Ext w1 wr) := Below.grown HEZ.out hgr HEZ.out.size (fun j hj => by cases hj; have := HBC.out; omega)
              have d0 : wr.cell? ⟨w6.heap.size, 0, none⟩ = some (.int .i64 k0''') := World.rowIs.cell HBX.out (i := 0) (by omega)
              have d1 : wr.cell? ⟨w6.heap.size, 1, none⟩ = some (.int .i64 k1''') := World.rowIs.cell HBX.out (i := 1) (by omega)
              have d2 : wr.cell? ⟨w6.heap.size, 2, none⟩ = some (.slice o2''' l2''' q2''') := World.rowIs.cell HBX.out (i := 2) (by omega)
              have d3 : wr.cell? ⟨w6.heap.size, 3, none⟩ = some (.slice o3''' l3''' q3''') := World.rowIs.cell HBX.out (i := 3) (by omega)
              have d4 : wr.cell? ⟨w6.heap.size, 4, none⟩ = some (.int .i64 k4''') := World.rowIs.cell HBX.out (i := 4) (by omega)
              have d5 : wr.cell? ⟨w6.heap.size, 5, none⟩ = some (.slice o5''' l5''' q5''') := World.rowIs.cell HBX.out (i := 5) (by omega)
              have d6 : wr.cell? ⟨w6.heap.size, 6, none⟩ = some (.slice o6''' l6''' q6''') := World.rowIs.cell HBX.out (i := 6) (by omega)
              have d7 : wr.cell? ⟨w6.heap.size, 7, none⟩ = some (.int .i64 k7''') := World.rowIs.cell HBX.out (i := 7) (by omega)
              have d8 : wr.cell? ⟨w6.heap.size, 8, none⟩ = some (.slice o8''' l8''' q8''') := World.rowIs.cell HBX.out (i := 8) (by omega)
              have e0 : wr.cell? ⟨bc, 0, none⟩ = some (.int .i64 c.st) := World.rowIs.cell HBC'.out (i := 0) (by omega)
              have e1 : wr.cell? ⟨bc, 1, none⟩ = some (.int .i64 c.now.v) := World.rowIs.cell HBC'.out (i := 1) (by omega)
              have e2 : wr.cell? ⟨bc, 2, none⟩ = some (.slice a.n.fo c.now.fs.length a.n.fc) := World.rowIs.cell HBC'.out (i := 2) (by omega)
              have e3 : wr.cell? ⟨bc, 3, none⟩ = some (.slice a.n.qo c.now.ps.length a.n.qc) := World.rowIs.cell HBC'.out (i := 3) (by omega)
              have e4 : wr.cell? ⟨bc, 4, none⟩ = some (.int .i64 c.nxt.v) := World.rowIs.cell HBC'.out (i := 4) (by omega)
              have e5 : wr.cell? ⟨bc, 5, none⟩ = some (.slice a.x.fo c.nxt.fs.length a.x.fc) := World.rowIs.cell HBC'.out (i := 5) (by omega)
              have e6 : wr.cell? ⟨bc, 6, none⟩ = some (.slice a.x.qo c.nxt.ps.length a.x.qc) := World.rowIs.cell HBC'.out (i := 6) (by omega)
              have e7 : wr.cell? ⟨bc, 7, none⟩ = some (.int .i64 c.num) := World.rowIs.cell HBC'.out (i := 7) (by omega)
              have e8 : wr.cell? ⟨bc, 8, none⟩ = some (.slice a.wo c.wts.length a.wc) := World.rowIs.cell HBC'.out (i := 8) (by omega)
              have z0 := World.rowIs.frozen HBC'.out 0
              have z1 := World.rowIs.frozen HBC'.out 1
              have z2 := World.rowIs.frozen HBC'.out 2
              have z3 := World.rowIs.frozen HBC'.out 3
              have z4 := World.rowIs.frozen HBC'.out 4
              have z5 := World.rowIs.frozen HBC'.out 5
              have z6 := World.rowIs.frozen HBC'.out 6
              have z7 := World.rowIs.frozen HBC'.out 7
              have z8 := World.rowIs.frozen HBC'.out 8
              have hxl : w6.heap.size < wr.heap.size := by omega
              have hbl' : bc < wr.heap.size := by omega
              have hne : bc ≠ w6.heap.size := by omega
              have HFin : Hid (∃ k' : Nat, k' ≤ 2 ∧ Value.int .i64 ((k : Int) + 1) = .int .i64 k' ∧ Hid (∃ c a K, Rest (W9 wr bc (.int .i64 k0''') (.int .i64 k1''') (.slice o2''' l2''' q2''') (.slice o3''' l3''' q3''') (.int .i64 k4''') (.slice o5''' l5''' q5''') (.slice o6''' l6''' q6''') (.int .i64 k7''') (.slice o8''' l8''' q8''')) bc c a ∧ Had (W9 wr bc (.int .i64 k0''') (.int .i64 k1''') (.slice o2''' l2''' q2''') (.slice o3''' l3''' q3''') (.int .i64 k4''') (.slice o5''' l5''' q5''') (.slice o6''' l6''' q6''') (.int .i64 k7''') (.slice o8''' l8''' q8''')) (bc + 1) nn k' c K) ∧ (W9 wr bc (.int .i64 k0''') (.int .i64 k1''') (.slice o2''' l2''' q2''') (.slice o3''' l3''' q3''') (.int .i64 k4''') (.slice o5''' l5''' q5''') (.slice o6''' l6''' q6''') (.int .i64 k7''') (.slice o8''' l8''' q8''')).cell? ⟨bc + 1 + 1, 0, none⟩ = some (.map (some (bc + 1))) ∧ (W9 wr bc (.int .i64 k0''') (.int .i64 k1''') (.slice o2''' l2''' q2''') (.slice o3''' l3''' q3''') (.int .i64 k4''') (.slice o5''' l5''' q5''') (.slice o6''' l6''' q6''') (.int .i64 k7''') (.slice o8''' l8''' q8''')).cell? ⟨bc + 1 + 1 + 1, 0, none⟩ = some (.slice lo fl.length lc) ∧ (W9 wr bc (.int .i64 k0''') (.int .i64 k1''') (.slice o2''' l2''' q2''') (.slice o3''' l3''' q3''') (.int .i64 k4''') (.slice o5''' l5''' q5''') (.slice o6''' l6''' q6''') (.int .i64 k7''') (.slice o8''' l8''' q8''')).cell? ⟨bc + 1 + 1 + 1, 1, none⟩ = some (.slice mo fm.length mc) ∧ bc + 1 + 1 + 1 < (W9 wr bc (.int .i64 k0''') (.int .i64 k1''') (.slice o2''' l2''' q2''') (.slice o3''' l3''' q3''') (.int .i64 k4''') (.slice o5''' l5''' q5''') (.slice o6''' l6''' q6''') (.int .i64 k7''') (.slice o8''' l8''' q8''')).heap.size ∧ Ext w1 (W9 wr bc (.int .i64 k0''') (.int .i64 k1''') (.slice o2''' l2''' q2''') (.slice o3''' l3''' q3''') (.int .i64 k4''') (.slice o5''' l5''' q5''') (.slice o6''' l6''' q6''') (.int .i64 k7''') (.slice o8''' l8''' q8'''))) := by
                have hq : ∀ b i, b < wo.heap.size → b ≠ bc + 1 → b ≠ bc → (W9 wr bc (.int .i64 k0''') (.int .i64 k1''') (.slice o2''' l2''' q2''') (.slice o3''' l3''' q3''') (.int .i64 k4''') (.slice o5''' l5''' q5''') (.slice o6''' l6''' q6''') (.int .i64 k7''') (.slice o8''' l8''' q8''')).cell? ⟨b, i, none⟩ = wo.cell? ⟨b, i, none⟩ := fun b i h1 h2 h3 => World.cell?_of_block (a := ⟨b, i, none⟩) ((W9_block0 b h3).trans (HBK.out b h1 h2))
                refine ⟨k + 1, by omega, by go_num, ⟨c3, a3, K ++ nums (out :: drops :: (outs ++ outs3)).flatten, ?_, ?_⟩, (hq _ _ (by omega) (by omega) (by omega)).trans HFB.out.1, (hq _ _ hbl (by omega) (by omega)).trans HFB.out.2.1, (hq _ _ hbl (by omega) (by omega)).trans HFB.out.2.2, by rw [W9_size0]; omega, W9_ext0 HE13.out (by have := HBC.out; omega)⟩
                · exact rest_put (Z := fun b => w5.heap.size ≤ b ∧ b ≠ w6.heap.size) HBC'.out rfl HCL3.out HNG.out.2 HK3.out.1 HK3.out.2 (fun b hb => by omega) (HCT.out.2.2.1.step hrz (fun b hb hlt => hgr.block b hlt (by simp; omega)))
                · have ht := HA3.out.tot
                  have hl3 := HD.out.len
                  have hf := HD.out.few
                  have hf3 := HA3.out.few
                  have hle := HA3.out.le
                  refine ⟨HSM.out.of_block (W9_block0 _ (by omega)), ?_, fun x hx => ?_, by omega, Or.inr HNG.out.1⟩
                  · rw [ht, hl3, List.length_append]
                    unfold nums
                    rw [List.length_map]
                    omega
                  · rcases List.mem_append.1 hx with hx | hx
                    · have := HD.out.le x hx; omega
                    · obtain ⟨y, hy, rfl⟩ := List.mem_map.1 hx
                      exact (HA3.out.rng y hy).2
              clear HCT HR HFB BK HBK
              unfold W9 at HFin
              go_wp2
              refine ⟨?_, by simp [intOf]; omega⟩
              with_reducible exact HFin.out
      · have b0 : ((askS c n ls fs).2 != 0) = true := by simpa using he
        clear he
        go_wp2
        have E3 := E2.alloc (.cells #[.int .i64 k0, .int .i64 k1, .slice o2 l2 q2, .slice o3 l3 q3, .int .i64 k4, .slice o5 l5 q5, .slice o6 l6 q6, .int .i64 k7, .slice o8 l8 q8] 28)
        exact ⟨⟨k + 1, by omega, by go_num, ⟨c, a, K, HR.out.ext E3, (HD.out.ext E3).more (by omega)⟩, (E3.cells.1 _ _ (by omega)).trans HFB.out.1, (E3.cells.1 _ _ hbl).trans HFB.out.2.1, (E3.cells.1 _ _ hbl).trans HFB.out.2.2, Nat.lt_of_lt_of_le hbl E3.size, hEr.trans E3⟩, by simp [intOf]; omega⟩
    · have i1 : ¬ (k : Int) < 2 := by omega
      go_wp2
      go_ret
      exact ⟨rfl, hE1.trans hEr⟩

theorem controlRight_len (n : Int) (ao : Option Addr) (len cap : Nat) (ls : List Lk) (lo mo : Option Addr) (ll ml pl lc mc : Nat) (fl fm : List Stf.Fl) (po : Option Addr) (pc : Nat) (ps : List Int) (w : World) (e1 : fl.length = ll) (e2 : fm.length = ml) (e3 : ps.length = pl) (hlen : ls.length = len) (hl : NetAt w ao ls) (hx : len ≤ 9223372036854775807) (hI : I64 n)
    (hfl : Fw.FlowsAt w lo fl) (hSl : Fw.Sm fl) (hll : ll ≤ 9223372036854775807) (hfm : Fw.FlowsAt w mo fm) (hSm : Fw.Sm fm) (hlm : ml ≤ 9223372036854775807) (hp : ListAt w po ps) (hpi : ∀ x ∈ ps, I64 x) (hpl : pl ≤ 9223372036854775807) :
    Calls Try.prog 5 #[.agg #[.int .i64 n, .slice ao len cap], .slice lo ll lc, .slice mo ml mc, .slice po pl pc] w fun e w' => e = .returned (.bool true) ∧ Ext w w' := by
  subst e1 e2 e3
  exact controlRight_any n ao len cap ls lo mo lc mc fl fm po pc ps w hlen hl hx hI hfl hSl hll hfm hSm hlm hp hpi hpl

end Go.Proofs.Ytgffkjjddhlbpaa.Ct

/- How a list of numbers that came in is read. -/
namespace Go.Proofs.Ytgffkjjddhlbpaa
open Go.ChangeShapes Go.WideShapes Go.ChangeAt Go.RowKit Go.Deep Go.Joins

theorem cell_lt {w : World} {a : Addr} {v : Value} (h : w.cell? a = some v) : a.block < w.heap.size := by
  rcases Nat.lt_or_ge a.block w.heap.size with h1 | h1
  · exact h1
  · have : w.heap[a.block]? = none := by simp [h1]
    simp [World.cell?, this] at h

section
variable {H : Type} {enc : TypeId × Value → H} {W : World}

set_option maxRecDepth 100000 in
theorem open_list {t : TypeId} (ht : Try.prog.underlying t = some (.slice 3)) {fuel : Nat} {cs : List Value} {x : DataW H × List MemPlace} (h : DataW.trod enc Try.prog W 0 (fun _ => true) true fuel t cs = some x)
    (hw : ∀ m ∈ x.1.weights Try.prog t, m ≤ reachBytes) :
    ∃ (ao : Option Addr) (len cap : Nat) (ps : List Int), cs = [.slice ao len cap] ∧ ps.length = len ∧ ListAt W ao ps ∧ (∀ y ∈ ps, I64 y) ∧ len * 8 ≤ 140737488351232 ∧ len ≤ cap ∧ cap ≤ 9223372036854775807 := by
  rcases open_ints ht Try.underlying3 Try.cells3 h with ⟨hcs, _⟩ | ⟨a, len, cap, zs, hcs, _, hl, hm, hz, hx, hcell, hwz⟩
  · exact ⟨none, 0, 0, [], hcs, rfl, Or.inl rfl, fun y hy => (by cases hy), by omega, by omega, by omega⟩
  · have hz' : zs.length = cap := by simpa using hz
    refine ⟨some a, len, cap, zs.take len, hcs, by simp; omega, ?_, fun y hy => hwz y (List.mem_of_mem_take hy), ?_, hl, by unfold maxLen at hm; omega⟩
    · by_cases h0 : len = 0
      · exact Or.inl (by simp [h0])
      · obtain ⟨b, off, spot⟩ := a
        have hc := hcell 0 (by omega)
        have hspot : spot = none := by simpa [Addr.add] using World.cell?_spot hc
        subst hspot
        refine Or.inr ⟨b, off, rfl, by have := cell_lt hc; simpa [Addr.add] using this, fun k hk => ?_⟩
        simp only [List.length_take] at hk
        have := hcell k (by omega)
        have e1 : (⟨b, off, none⟩ : Addr).add k = ⟨b, off + k, none⟩ := by
          unfold Addr.add
          split
          · simp_all
          · rfl
        rw [e1] at this
        rw [this]
        simp [List.getD_eq_getElem?_getD, show k < len by omega]
    · subst hx
      have := hw ((zs.take len).length * 8 + (zs.drop len).length * 8) (by simp [DataW.weights, ht, Try.bytes3, lits]; left; omega)
      simp [reachBytes] at this
      omega

theorem cells3_inv {w : World} {a : Addr} {cs : List Value} {x y z : Value} (h : w.cells? 0 a 3 = some cs) (e : cs = [x, y, z]) : w.cell? a = some x ∧ w.cell? (a.add 1) = some y ∧ w.cell? (a.add 2) = some z := by
  obtain ⟨_, _, hc⟩ := World.cells?_some h
  subst e
  exact ⟨by simpa [Addr.add] using hc 0 (by omega), hc 1 (by omega), hc 2 (by omega)⟩

theorem weights_arg {ts : List TypeId} {ds : List (DataW H)} (hsz : (DataW.weightsEach Try.prog ts ds).all (· ≤ reachBytes) = true) {j : Nat} {t : TypeId} {d : DataW H} (ht : ts[j]? = some t) (hd : ds[j]? = some d) : ∀ m ∈ d.weights Try.prog t, m ≤ reachBytes :=
  fun m hm => by simpa using List.all_eq_true.1 hsz _ (DataW.weights_mem_each ht hd m hm)

end

end Go.Proofs.Ytgffkjjddhlbpaa

/- How a net and a list of numbers that came in are read. -/
namespace Go.Proofs.Ytgffkjjddhlbpaa
open Go.ChangeShapes Go.WideShapes Go.ChangeAt Go.RowKit Go.Deep Go.Joins Stw

theorem Try.cells24 : Try.prog.cellsOf 31 = 2 := by kernel_rfl
theorem Try.cells43 : Try.prog.cellsOf 123 = 3 := by kernel_rfl
theorem Try.bytes43 : Try.prog.bytesOf 123 = 24 := by kernel_rfl

section
variable {H : Type} {enc : TypeId × Value → H} {W : World}

set_option maxRecDepth 100000 in
theorem open_links {fuel : Nat} {cs : List Value} {x : DataW H × List MemPlace} (h : DataW.trod enc Try.prog W 0 (fun _ => true) true fuel 29 cs = some x) (hw : ∀ m ∈ x.1.weights Try.prog 29, m ≤ reachBytes) :
    ∃ (ao : Option Addr) (len cap : Nat) (ls : List Lk), cs = [.slice ao len cap] ∧ ls.length = len ∧ NetAt W ao ls ∧ (∀ l ∈ ls, I64 l.a ∧ I64 l.b ∧ I64 l.c) ∧ len * 24 ≤ 140737488351232 ∧ len ≤ cap ∧ cap ≤ 9223372036854775807 := by
  rcases open_slice Try.underlying29 h with ⟨hcs, _⟩ | ⟨a, len, cap, m, n, D, Pl, hcs, _, hl, hm, hmm, hx, hel⟩
  · exact ⟨none, 0, 0, [], hcs, rfl, Or.inl rfl, fun y hy => (by cases hy), by omega, by omega, by omega⟩
  · have hmc : m = cap := by simpa using hmm
    have hfam : ∀ i, i < len → ∃ l : Int × Int × Int, (W.cell? (a.add (i * 3)) = some (.int .i64 l.1) ∧ W.cell? ((a.add (i * 3)).add 1) = some (.int .i64 l.2.1) ∧ W.cell? ((a.add (i * 3)).add 2) = some (.int .i64 l.2.2)) ∧ I64 l.1 ∧ I64 l.2.1 ∧ I64 l.2.2 := by
      intro i hi
      obtain ⟨cs', hcell, htr⟩ := hel i (by omega)
      rw [Try.cells43] at hcell
      obtain ⟨y0, y1, y2, n', _, hlen, t0, t1, t2⟩ := trod_struct3 Try.underlying123 htr
      rw [Try.cells43] at hlen
      match cs', hlen with
      | [c0, c1, c2], _ =>
        obtain ⟨a0, e0, _, w0⟩ := DataW.trod_int Try.underlying3 t0
        obtain ⟨a1, e1, _, w1⟩ := DataW.trod_int Try.underlying3 t1
        obtain ⟨a2, e2, _, w2⟩ := DataW.trod_int Try.underlying3 t2
        simp [Try.cells3] at e0 e1 e2
        subst e0 e1 e2
        exact ⟨(a0, a1, a2), cells3_inv hcell rfl, w0, w1, w2⟩
    obtain ⟨F, hF⟩ := choose_lt hfam
    refine ⟨some a, len, cap, (List.range len).map (fun i => ⟨(F i).1, (F i).2.1, (F i).2.2⟩), hcs, by simp, ?_, ?_, ?_, hl, by unfold maxLen at hm; omega⟩
    · by_cases h0 : len = 0
      · exact Or.inl (by simp [h0])
      · obtain ⟨b, off, spot⟩ := a
        have hc := (hF 0 (by omega)).1.1
        have hspot : spot = none := by simpa [Addr.add] using World.cell?_spot hc
        subst hspot
        refine Or.inr ⟨b, off, rfl, by have := cell_lt hc; simpa [Addr.add] using this, fun k hk => ?_⟩
        simp only [List.length_map, List.length_range] at hk
        obtain ⟨⟨g0, g1, g2⟩, _⟩ := hF k hk
        have e0 : (⟨b, off, none⟩ : Addr).add (k * 3) = ⟨b, off + k * 3, none⟩ := by
          unfold Addr.add
          split
          · simp_all
          · rfl
        rw [e0] at g0 g1 g2
        have e1 : ((List.range len).map (fun i => (⟨(F i).1, (F i).2.1, (F i).2.2⟩ : Lk))).getD k lk0 = ⟨(F k).1, (F k).2.1, (F k).2.2⟩ := by simp [List.getD_eq_getElem?_getD, hk]
        rw [e1]
        exact ⟨g0, by simpa [Addr.add] using g1, by simpa [Addr.add] using g2⟩
    · intro l hlm
      simp only [List.mem_map, List.mem_range] at hlm
      obtain ⟨i, hi, rfl⟩ := hlm
      exact (hF i hi).2
    · subst hx
      have := hw ((len + (m - len)) * 24) (by simp [DataW.weights, Try.underlying29, Try.bytes43])
      simp [reachBytes] at this
      omega

set_option maxRecDepth 100000 in
/-- A net that came in. -/
theorem open_topo {b0 : Nat} {v : Value} {d : DataW H} {p : List MemPlace} (hv : Value.okWide Try.prog W .any b0 31 v) (h : DataW.Trod enc Try.prog W 0 (fun _ => true) true 31 v d p)
    (hw : ∀ m ∈ d.weights Try.prog 31, m ≤ reachBytes) :
    ∃ (n : Int) (ao : Option Addr) (len cap : Nat) (ls : List Lk), v = .agg #[.int .i64 n, .slice ao len cap] ∧ I64 n ∧ ls.length = len ∧ NetAt W ao ls ∧ (∀ l ∈ ls, I64 l.a ∧ I64 l.b ∧ I64 l.c) ∧ len * 24 ≤ 140737488351232 ∧ len ≤ cap ∧ cap ≤ 9223372036854775807 := by
  obtain ⟨c0, c1, y0, y1, m, rfl, rfl, rfl, hy0, hy1⟩ := open_agg2 Try.underlying31 (by kernel_rfl) Try.cells24 hv h
  obtain ⟨n, e0, _, w0⟩ := DataW.trod_int Try.underlying3 hy0
  obtain ⟨ao, len, cap, ls, e1, r⟩ := open_links hy1 (fun m hm => hw m (by simp [DataW.weights, DataW.weightsEach, Try.underlying31]; exact Or.inr hm))
  simp at e0 e1
  subst e0 e1
  exact ⟨n, ao, len, cap, ls, rfl, w0, r⟩

end

end Go.Proofs.Ytgffkjjddhlbpaa

/- How a flow that came in is read. -/
namespace Go.Proofs.Ytgffkjjddhlbpaa
open Go.ChangeShapes Go.WideShapes Go.ChangeAt Go.RowKit Go.Deep Go.Joins Stw

theorem Try.cells28 : Try.prog.cellsOf 91 = 4 := by kernel_rfl

section
variable {H : Type} {enc : TypeId × Value → H} {W : World}

set_option maxRecDepth 100000 in
/-- A flow that came in. -/
theorem open_flow {b0 : Nat} {v : Value} {d : DataW H} {p : List MemPlace} (hv : Value.okWide Try.prog W .any b0 91 v) (h : DataW.Trod enc Try.prog W 0 (fun _ => true) true 91 v d p)
    (hw : ∀ m ∈ d.weights Try.prog 91, m ≤ reachBytes) :
    ∃ (f : Stf.Fl) (vo no : Option Addr) (vc nc : Nat), v = .agg #[.int .i64 f.fr, .int .i64 f.to, .slice vo f.via.length vc, .slice no f.nt.length nc] ∧ ListAt W vo f.via ∧ ListAt W no f.nt ∧ f.via.length * 8 ≤ 140737488351232 ∧ f.nt.length * 8 ≤ 140737488351232 ∧ f.via.length ≤ vc ∧ f.nt.length ≤ nc ∧ (∀ y ∈ f.via, I64 y) ∧ (∀ y ∈ f.nt, I64 y) := by
  obtain ⟨c0, c1, c2, c3, y0, y1, y2, y3, m, rfl, rfl, rfl, h0, h1, h2, h3⟩ := open_agg4 Try.underlying91 (by kernel_rfl) Try.cells28 hv h
  obtain ⟨a0, e0, _, w0⟩ := DataW.trod_int Try.underlying3 h0
  obtain ⟨a1, e1, _, w1⟩ := DataW.trod_int Try.underlying3 h1
  obtain ⟨vo, vl, vc, X, e2, hX, hvl, hvi, hvb, hvc, _⟩ := open_list Try.underlying26 h2 (fun m hm => hw m (by simp [DataW.weights, DataW.weightsEach, Try.underlying91]; exact Or.inr (Or.inr (Or.inl hm))))
  obtain ⟨no, nl, nc, Y, e3, hY, hnl, hni, hnb, hnc, _⟩ := open_list Try.underlying26 h3 (fun m hm => hw m (by simp [DataW.weights, DataW.weightsEach, Try.underlying91]; exact Or.inr (Or.inr (Or.inr hm))))
  simp at e0 e1 e2 e3
  subst e0 e1 e2 e3 hX hY
  exact ⟨⟨a0, a1, X, Y⟩, vo, no, vc, nc, rfl, hvl, hnl, hvb, hnb, hvc, hnc, hvi, hni⟩

end

end Go.Proofs.Ytgffkjjddhlbpaa

/- How flows that came in are read. -/
namespace Go.Proofs.Ytgffkjjddhlbpaa
open Go.ChangeShapes Go.WideShapes Go.ChangeAt Go.RowKit Go.Deep Go.Joins Stw

theorem Try.cells26 : Try.prog.cellsOf 26 = 1 := by kernel_rfl
theorem Try.bytes28 : Try.prog.bytesOf 91 = 64 := by kernel_rfl

section
variable {H : Type} {enc : TypeId × Value → H} {W : World}

theorem weights_all {e : TypeId} {d : DataW H} : ∀ {l : List (DataW H)}, d ∈ l → ∀ m ∈ d.weights Try.prog e, m ∈ DataW.weightsAll Try.prog e l
  | [], h, _, _ => by cases h
  | x :: r, h, m, hm => by
    rw [DataW.weightsAll, List.mem_append]
    rcases List.mem_cons.1 h with rfl | h
    · exact Or.inl hm
    · exact Or.inr (weights_all h m hm)

theorem cells4_inv {w : World} {a : Addr} {cs : List Value} {x y z u : Value} (h : w.cells? 0 a 4 = some cs) (e : cs = [x, y, z, u]) : w.cell? a = some x ∧ w.cell? (a.add 1) = some y ∧ w.cell? (a.add 2) = some z ∧ w.cell? (a.add 3) = some u := by
  obtain ⟨_, _, hc⟩ := World.cells?_some h
  subst e
  exact ⟨by simpa [Addr.add] using hc 0 (by omega), hc 1 (by omega), hc 2 (by omega), hc 3 (by omega)⟩
theorem four_of {cs : List Value} (h : cs.length = 4) : ∃ c0 c1 c2 c3, cs = [c0, c1, c2, c3] := by
  match cs, h with
  | [c0, c1, c2, c3], _ => exact ⟨c0, c1, c2, c3, rfl⟩

set_option maxRecDepth 100000 in
theorem open_flow4 {fuel : Nat} {cs : List Value} {x : DataW H × List MemPlace} (h : DataW.trod enc Try.prog W 0 (fun _ => true) true fuel 91 cs = some x) (hw : ∀ m ∈ x.1.weights Try.prog 91, m ≤ reachBytes) :
    ∃ (f : Stf.Fl) (v n : Value), cs = [.int .i64 f.fr, .int .i64 f.to, v, n] ∧ Fw.FV W f.via v ∧ Fw.FV W f.nt n ∧ f.via.length ≤ 4611686018427387904 ∧ f.nt.length ≤ 4611686018427387904 := by
  obtain ⟨y0, y1, y2, y3, n', rfl, hlen, t0, t1, t2, t3⟩ := trod_struct4 Try.underlying91 h
  rw [Try.cells28] at hlen
  obtain ⟨c0, c1, c2, c3, rfl⟩ : ∃ c0 c1 c2 c3, cs = [c0, c1, c2, c3] := four_of hlen
  obtain ⟨a0, e0, _, w0⟩ := DataW.trod_int Try.underlying3 t0
  obtain ⟨a1, e1, _, w1⟩ := DataW.trod_int Try.underlying3 t1
  obtain ⟨vo, vl, vc, X, e2, hX, hvl, hvi, hvb, hvc, _⟩ := open_list Try.underlying26 t2 (fun m hm => hw m (by simp [DataW.weights, DataW.weightsEach, Try.underlying91]; exact Or.inr (Or.inr (Or.inl hm))))
  obtain ⟨no, nl, nc, Y, e3, hY, hnl, hni, hnb, hnc, _⟩ := open_list Try.underlying26 t3 (fun m hm => hw m (by simp [DataW.weights, DataW.weightsEach, Try.underlying91]; exact Or.inr (Or.inr (Or.inr hm))))
  simp [Try.cells3, Try.cells26] at e0 e1 e2 e3
  subst e0 e1 e2 e3 hX hY
  exact ⟨⟨a0, a1, X, Y⟩, _, _, rfl, ⟨vo, vc, rfl, hvl, hvc⟩, ⟨no, nc, rfl, hnl, hnc⟩, by simp only; omega, by simp only; omega⟩

set_option maxRecDepth 100000 in
theorem open_flows {fuel : Nat} {cs : List Value} {x : DataW H × List MemPlace} (h : DataW.trod enc Try.prog W 0 (fun _ => true) true fuel 22 cs = some x) (hw : ∀ m ∈ x.1.weights Try.prog 22, m ≤ reachBytes) :
    ∃ (ao : Option Addr) (len cap : Nat) (fs : List Stf.Fl), cs = [.slice ao len cap] ∧ fs.length = len ∧ Fw.FlowsAt W ao fs ∧ len ≤ 9223372036854775807 ∧ Fw.Sm fs := by
  rcases open_slice Try.underlying22 h with ⟨hcs, _⟩ | ⟨a, len, cap, m, n, D, Pl, hcs, _, hl, hm, hmm, hx, hel⟩
  · exact ⟨none, 0, 0, [], hcs, rfl, Or.inl rfl, by omega, fun k hk => by simp at hk⟩
  · have hmc : m = cap := by simpa using hmm
    have hwD : ∀ i, i < len → ∀ m ∈ (D i).weights Try.prog 91, m ≤ reachBytes := fun i hi m hm => hw m (by
      rw [hx]
      simp only [DataW.weights, Try.underlying22]
      refine List.mem_cons_of_mem _ (List.mem_append_left _ (weights_all (List.mem_map.2 ⟨i, by simpa using hi, rfl⟩) m hm)))
    have hfam : ∀ i, i < len → ∃ q : (Int × Int × List Int × List Int) × Value × Value, (W.cell? (a.add (i * 4)) = some (.int .i64 q.1.1) ∧ W.cell? ((a.add (i * 4)).add 1) = some (.int .i64 q.1.2.1) ∧ W.cell? ((a.add (i * 4)).add 2) = some q.2.1 ∧ W.cell? ((a.add (i * 4)).add 3) = some q.2.2) ∧
        Fw.FV W q.1.2.2.1 q.2.1 ∧ Fw.FV W q.1.2.2.2 q.2.2 ∧ q.1.2.2.1.length ≤ 4611686018427387904 ∧ q.1.2.2.2.length ≤ 4611686018427387904 := by
      intro i hi
      obtain ⟨cs', hcell, htr⟩ := hel i (by omega)
      rw [Try.cells28] at hcell
      obtain ⟨f, v, nv, hc, h1, h2, h3, h4⟩ := open_flow4 htr (hwD i hi)
      exact ⟨((f.fr, f.to, f.via, f.nt), v, nv), cells4_inv hcell hc, h1, h2, h3, h4⟩
    have : Inhabited ((Int × Int × List Int × List Int) × Value × Value) := ⟨((0, 0, [], []), .int .i64 0, .int .i64 0)⟩
    obtain ⟨F, hF⟩ := choose_lt hfam
    have hget : ∀ k (h : k < ((List.range len).map (fun i => (⟨(F i).1.1, (F i).1.2.1, (F i).1.2.2.1, (F i).1.2.2.2⟩ : Stf.Fl))).length), ((List.range len).map (fun i => (⟨(F i).1.1, (F i).1.2.1, (F i).1.2.2.1, (F i).1.2.2.2⟩ : Stf.Fl)))[k] = ⟨(F k).1.1, (F k).1.2.1, (F k).1.2.2.1, (F k).1.2.2.2⟩ := fun k h => by simp
    refine ⟨some a, len, cap, (List.range len).map (fun i => ⟨(F i).1.1, (F i).1.2.1, (F i).1.2.2.1, (F i).1.2.2.2⟩), hcs, by simp, ?_, by unfold maxLen at hm; omega, fun k hk => ?_⟩
    · by_cases h0 : len = 0
      · exact Or.inl (by simp [h0])
      · obtain ⟨b, off, spot⟩ := a
        have hc := (hF 0 (by omega)).1.1
        have hspot : spot = none := by simpa [Addr.add] using World.cell?_spot hc
        subst hspot
        refine Or.inr ⟨b, off, rfl, by have := cell_lt hc; simpa [Addr.add] using this, fun k hk => ?_⟩
        have hk' : k < len := by simpa using hk
        obtain ⟨⟨g0, g1, g2, g3⟩, hv, hn, _⟩ := hF k hk'
        have e0 : (⟨b, off, none⟩ : Addr).add (k * 4) = ⟨b, off + k * 4, none⟩ := by
          unfold Addr.add
          split
          · simp_all
          · rfl
        rw [e0] at g0 g1 g2 g3
        rw [hget k hk]
        exact ⟨_, _, g0, by simpa [Addr.add] using g1, by simpa [Addr.add] using g2, by simpa [Addr.add] using g3, hv, hn⟩
    · have hk' : k < len := by simpa using hk
      rw [hget k hk]
      exact (hF k hk').2.2.2

end

end Go.Proofs.Ytgffkjjddhlbpaa

namespace Go.Proofs.Ytgffkjjddhlbpaa
open Go.ChangeShapes Go.WideShapes Go.ChangeAt Go.RowKit Go.Deep Go.Joins Stw

set_option maxRecDepth 100000 in
theorem controlRight_lifted (os : Os) (started : os.Started) (H : Type) (enc : TypeId × Value → H) :
    ReturnsInHanded {} Try.checked os 5 .any (Rows.controlRightSpec.pre6 enc Try.prog Try.f5 Rows.controlRightRow.domain false) (Rows.controlRightSpec.post enc Try.prog Try.f5 false true false false) := by
  refine returnsInHanded_of_change_sized (C := Try.checked) Try.own started (by kernel_rfl) Try.func5
    (ChangeSpec.witness6 (enc := enc) (C := Try.checked) false ⟨#[], #[.agg #[.int .i64 0, .slice none 0 0], .slice none 0 0, .slice none 0 0, .slice none 0 0], []⟩ 8 (by kernel_rfl) (by kernel_rfl) (by kernel_rfl) (by kernel_rfl)) ?_
  intro W base args ds gs before hval0 hW hcnd hsz0 _
  have hval : ∀ (j : Nat) t v, Try.f5.params[j]? = some t → args[j]? = some v → Value.okWide Try.prog W .any base t v := hval0
  have hsz : (DataW.weightsEach Try.prog (Try.f5.params.toList ++ Rows.controlRightSpec.plain.varTypes Try.prog) (ds ++ gs)).all (· ≤ reachBytes) = true := hsz0
  have hW' := hW
  obtain ⟨p, q, hA0, hV, rfl, hfz, hnd⟩ := hW
  have hA : DataW.TrodAll enc Try.prog W 0 (fun _ => true) true Try.f5.params.toList args.toList ds p := hA0
  rw [Try.params5] at hA hval hsz
  obtain ⟨v0, vs0, d0, ds0, p0, q0, hargs, rfl, rfl, h0, r0⟩ := trodAll_cons hA
  obtain ⟨v1, vs1, d1, ds1, p1, q1, rfl, rfl, rfl, h1, r1⟩ := trodAll_cons r0
  obtain ⟨v2, vs2, d2, ds2, p2, q2, rfl, rfl, rfl, h2, r2⟩ := trodAll_cons r1
  obtain ⟨v3, vs3, d3, ds3, p3, q3, rfl, rfl, rfl, h3, r3⟩ := trodAll_cons r2
  obtain ⟨rfl, rfl, rfl⟩ := trodAll_nil r3
  obtain rfl : args = #[v0, v1, v2, v3] := by cases args; simp_all
  obtain ⟨rfl, rfl⟩ := trodVars_none hV
  have k0 := h0
  have lt0 : ∀ x ∈ p0, x.block < W.heap.size := by obtain ⟨m, hm⟩ := k0; exact DataW.trod_lt m _ _ _ hm
  have k1 := h1
  have lt1 : ∀ x ∈ p1, x.block < W.heap.size := by obtain ⟨m, hm⟩ := k1; exact DataW.trod_lt m _ _ _ hm
  have k2 := h2
  have lt2 : ∀ x ∈ p2, x.block < W.heap.size := by obtain ⟨m, hm⟩ := k2; exact DataW.trod_lt m _ _ _ hm
  have k3 := h3
  have lt3 : ∀ x ∈ p3, x.block < W.heap.size := by obtain ⟨m, hm⟩ := k3; exact DataW.trod_lt m _ _ _ hm
  obtain ⟨n0, ao0, len0, cap0, ls0, rfl, hn0, hlen0, hnet0, hlw0, hreach0, hcap0, hcm0⟩ := open_topo (hval 0 31 v0 rfl rfl) h0 (weights_arg hsz (j := 0) rfl rfl)
  obtain ⟨po1, pl1, pc1, rfl⟩ := okWide_slice Try.underlying22 (hval 1 22 v1 rfl rfl)
  obtain ⟨fuel1, hf1⟩ := h1
  obtain ⟨po1', pl1', pc1', fs1, ecs1, hfl1, hfa1, hfx1, hfs1⟩ := open_flows hf1 (weights_arg hsz (j := 1) rfl rfl)
  simp [Value.cells] at ecs1
  obtain ⟨rfl, rfl, rfl⟩ := ecs1
  obtain ⟨po2, pl2, pc2, rfl⟩ := okWide_slice Try.underlying22 (hval 2 22 v2 rfl rfl)
  obtain ⟨fuel2, hf2⟩ := h2
  obtain ⟨po2', pl2', pc2', fs2, ecs2, hfl2, hfa2, hfx2, hfs2⟩ := open_flows hf2 (weights_arg hsz (j := 2) rfl rfl)
  simp [Value.cells] at ecs2
  obtain ⟨rfl, rfl, rfl⟩ := ecs2
  obtain ⟨po3, pl3, pc3, rfl⟩ := okWide_slice Try.underlying26 (hval 3 26 v3 rfl rfl)
  obtain ⟨fuel3, hf3⟩ := h3
  obtain ⟨po3', pl3', pc3', ps3, ecs3, hpl3, hp3, hi3, hpx3, hpc3, hpm3⟩ := open_list Try.underlying26 hf3 (weights_arg hsz (j := 3) rfl rfl)
  simp [Value.cells] at ecs3
  obtain ⟨rfl, rfl, rfl⟩ := ecs3
  clear hA0 hval0 hsz0
  refine (Ct.controlRight_len n0 ao0 len0 cap0 ls0 po1 po2 pl1 pl2 pl3 pc1 pc2 fs1 fs2 po3 pc3 ps3 W hfl1 hfl2 hpl3 hlen0 hnet0 (by omega) hn0 hfa1 hfs1 hfx1 hfa2 hfs2 hfx2 hp3 hi3 (by omega)).mono fun e W' ⟨he, bel0⟩ => ?_
  subst he
  have bel : Below W.heap.size W W' := bel0
  exact ⟨_, rfl, _, _, _, [], _, [], hW', trodAll_mk1 (shut_bool Try.underlying4 _), (trodAll_cons_mk (Below.trod Try.laidOut (by kernel_rfl) (of_decide_eq_true (by kernel_rfl)) k0 bel lt0) (trodAll_cons_mk (Below.trod Try.laidOut (by kernel_rfl) (of_decide_eq_true (by kernel_rfl)) k1 bel lt1) (trodAll_cons_mk (Below.trod Try.laidOut (by kernel_rfl) (of_decide_eq_true (by kernel_rfl)) k2 bel lt2) (trodAll_cons_mk (Below.trod Try.laidOut (by kernel_rfl) (of_decide_eq_true (by kernel_rfl)) k3 bel lt3) trodAll_mk0)))), rfl, bel.frame _, fun h => by cases h⟩

theorem controlRight_holds : Rows.ControlRightSaid :=
  OpenClaim.holds_of_wide 5 Try.f5 rfl rfl rfl rfl rfl rfl rfl ⟨rfl, rfl, rfl, rfl, rfl⟩ rfl rfl rfl rfl rfl (by kernel_rfl) Try.func5 (by kernel_rfl)
    (of_decide_eq_true (by kernel_rfl)) (by unfold Func.isWrapper; first | (rw [if_pos (by decide +kernel)]; kernel_rfl) | (rw [if_neg (by decide +kernel)]; exact ⟨rfl, rfl⟩))
    (fun os started H enc _ => controlRight_lifted os started H enc)

#print axioms controlRight_holds
end Go.Proofs.Ytgffkjjddhlbpaa
