/- A switch in plain words: what is wrong with it, what comes of an order, of which version packets are; rules and stamps are apart; twice is once; added, and dropped; two versions know no order. -/
import Derived.Test.YtmjddnnjjmnddadV2
import Derived.Test.YtmjddnnjjmnddadX1
namespace Agt
open Rul

structure Sw where
  rs : List Ru
  st : List (Int × Int)
def sw0 : Sw := ⟨[], []⟩
/-- a stamp's numbers are out of range -/
def badS (x : Int × Int) : Bool := decide (x.1 < 0 ∨ 11 < x.1 ∨ x.2 < 1 ∨ 1000 < x.2)
def wst : Option Int → List (Int × Int) → Int
  | _, [] => 0
  | p, x :: r => if badS x = true then 3 else if p.any (fun q => decide (x.1 ≤ q)) = true then 2 else wst (some x.1) r
def wrongS (s : Sw) : Int := if (Rul.wrong s.rs).1 ≠ 0 then (Rul.wrong s.rs).1 else wst none s.st
def stamps (v : Int) (fs : List Int) : List (Int × Int) := fs.map (fun f => (f, v))
def doS (s : Sw) (o : Wir.Od) : Sw × Int :=
  if wrongS s ≠ 0 then (sw0, wrongS s)
  else if Wir.wrong o ≠ 0 then (sw0, Wir.wrong o)
  else if o.k = 1 then (if (add s.rs o.rs).2 ≠ 0 then (sw0, (add s.rs o.rs).2) else (⟨(add s.rs o.rs).1, s.st⟩, 0))
  else if o.k = 3 then (⟨drp s.rs o.v, s.st⟩, 0)
  else (⟨s.rs, stamps o.v o.fs⟩, 0)
def ver : List (Int × Int) → Int → Int
  | [], _ => 0
  | x :: r, f => if x.1 = f then x.2 else ver r f

theorem wst_stamps {v : Int} (h1 : 1 ≤ v) (h2 : v ≤ 1000) : ∀ {fs : List Int} {last : Int} {p : Option Int}, -1 ≤ last → (∀ q, p = some q → q ≤ last) → Wir.badF last fs = false → wst p (stamps v fs) = 0
  | [], _, _, _, _, _ => rfl
  | f :: r, last, p, hl, hp, h => by
    rw [Wir.badF] at h
    by_cases hx : f ≤ last ∨ 11 < f
    · rw [if_pos hx] at h; cases h
    · rw [if_neg hx] at h
      show wst p ((f, v) :: stamps v r) = 0
      have hb : badS (f, v) = false := decide_eq_false (by simp only; omega)
      have hq : p.any (fun q => decide (f ≤ q)) = false := by
        cases p with
        | none => rfl
        | some q => have := hp q rfl; simp only [Option.any_some]; exact decide_eq_false (by omega)
      rw [wst, hb, hq]
      simp only [Bool.false_eq_true, if_false]
      exact wst_stamps h1 h2 (last := f) (by omega) (fun q hq => by cases hq; exact Int.le_refl _) h
theorem wrongS_zero {s : Sw} (h : wrongS s = 0) : tab s.rs ∧ wst none s.st = 0 := by
  unfold wrongS at h
  by_cases h1 : (Rul.wrong s.rs).1 = 0
  · rw [if_neg (by simpa using h1)] at h; exact ⟨h1, h⟩
  · rw [if_pos h1] at h; exact absurd h h1
theorem wrongS_of {s : Sw} (h1 : tab s.rs) (h2 : wst none s.st = 0) : wrongS s = 0 := by
  unfold wrongS
  rw [if_neg (by have : (Rul.wrong s.rs).1 = 0 := h1; simpa using this)]; exact h2

/-- What an order that was done was like, and what came of it. -/
theorem do_cases {s : Sw} {o : Wir.Od} (h : (doS s o).2 = 0) : wrongS s = 0 ∧ Wir.wrong o = 0 ∧ ((o.k = 1 ∧ (add s.rs o.rs).2 = 0 ∧ doS s o = (⟨(add s.rs o.rs).1, s.st⟩, 0)) ∨ (o.k = 3 ∧ doS s o = (⟨drp s.rs o.v, s.st⟩, 0)) ∨ (o.k = 2 ∧ doS s o = (⟨s.rs, stamps o.v o.fs⟩, 0))) := by
  by_cases h1 : wrongS s = 0
  · by_cases h2 : Wir.wrong o = 0
    · refine ⟨h1, h2, ?_⟩
      have e : doS s o = if o.k = 1 then (if (add s.rs o.rs).2 ≠ 0 then (sw0, (add s.rs o.rs).2) else (⟨(add s.rs o.rs).1, s.st⟩, 0)) else if o.k = 3 then (⟨drp s.rs o.v, s.st⟩, 0) else (⟨s.rs, stamps o.v o.fs⟩, 0) := by
        unfold doS; rw [if_neg (by simpa using h1), if_neg (by simpa using h2)]
      obtain ⟨_, hk⟩ := Wir.right_cases h2
      rcases hk with ⟨hk, _⟩ | ⟨hk, _⟩ | hk
      · rw [if_pos hk] at e
        by_cases h3 : (add s.rs o.rs).2 = 0
        · rw [if_neg (by simpa using h3)] at e; exact Or.inl ⟨hk, h3, e⟩
        · rw [if_pos h3] at e; rw [e] at h; exact absurd h h3
      · rw [if_neg (by omega), if_neg (by omega)] at e; exact Or.inr (Or.inr ⟨hk, e⟩)
      · rw [if_neg (by omega), if_pos hk] at e; exact Or.inr (Or.inl ⟨hk, e⟩)
    · exfalso; unfold doS at h; rw [if_neg (by simpa using h1), if_pos h2] at h; exact h2 h
  · exfalso; unfold doS at h; rw [if_pos h1] at h; exact h1 h
theorem do_fail {s : Sw} {o : Wir.Od} (h : (doS s o).2 ≠ 0) : (doS s o).1 = sw0 := by
  unfold doS at h ⊢
  split
  · rfl
  · rename_i h1
    rw [if_neg h1] at h
    split
    · rfl
    · rename_i h2
      rw [if_neg h2] at h
      split
      · rename_i h3
        rw [if_pos h3] at h
        split
        · rfl
        · rename_i h4; rw [if_neg h4] at h; exact absurd rfl h
      · rename_i h3
        rw [if_neg h3] at h
        split
        · rename_i h4; rw [if_pos h4] at h; exact absurd rfl h
        · rename_i h4; rw [if_neg h4] at h; exact absurd rfl h
theorem do_add {s : Sw} {o : Wir.Od} (h1 : wrongS s = 0) (h2 : Wir.wrong o = 0) (hk : o.k = 1) (h3 : (add s.rs o.rs).2 = 0) : doS s o = (⟨(add s.rs o.rs).1, s.st⟩, 0) := by
  unfold doS; rw [if_neg (by simpa using h1), if_neg (by simpa using h2), if_pos hk, if_neg (by simpa using h3)]
theorem do_drop {s : Sw} {o : Wir.Od} (h1 : wrongS s = 0) (h2 : Wir.wrong o = 0) (hk : o.k = 3) : doS s o = (⟨drp s.rs o.v, s.st⟩, 0) := by
  unfold doS; rw [if_neg (by simpa using h1), if_neg (by simpa using h2), if_neg (by omega), if_pos hk]
theorem do_stamp {s : Sw} {o : Wir.Od} (h1 : wrongS s = 0) (h2 : Wir.wrong o = 0) (hk : o.k = 2) : doS s o = (⟨s.rs, stamps o.v o.fs⟩, 0) := by
  unfold doS; rw [if_neg (by simpa using h1), if_neg (by simpa using h2), if_neg (by omega), if_neg (by omega)]

/-- Rules and stamps are apart; a right switch stays one. -/
theorem apart {s : Sw} {o : Wir.Od} (h : (doS s o).2 = 0) : wrongS (doS s o).1 = 0 ∧ (o.k = 2 → (doS s o).1.rs = s.rs) ∧ (o.k ≠ 2 → (doS s o).1.st = s.st) := by
  obtain ⟨h1, h2, hk⟩ := do_cases h
  obtain ⟨t1, t2⟩ := wrongS_zero h1
  rcases hk with ⟨hk, h3, e⟩ | ⟨hk, e⟩ | ⟨hk, e⟩
  · rw [e]; exact ⟨wrongS_of (add_zero h3).2.1 t2, fun h => by omega, fun _ => rfl⟩
  · rw [e]; exact ⟨wrongS_of (drp_tab t1) t2, fun h => by omega, fun _ => rfl⟩
  · rw [e]
    refine ⟨wrongS_of t1 ?_, fun _ => rfl, fun h => absurd hk h⟩
    obtain ⟨⟨_, _, v1, v2⟩, hc⟩ := Wir.right_cases h2
    rcases hc with ⟨hc, _⟩ | ⟨_, _, hb⟩ | hc
    · omega
    · exact wst_stamps v1 v2 (last := -1) (Int.le_refl _) (fun q hq => by cases hq) hb
    · omega
theorem drp_drp (l : List Ru) (v : Int) : drp (drp l v) v = drp l v := by
  unfold drp
  rw [List.filter_filter]
  congr 1
  funext r
  simp
/-- Twice is once. -/
theorem twice {s : Sw} {o : Wir.Od} (h : (doS s o).2 = 0) : doS (doS s o).1 o = ((doS s o).1, 0) := by
  obtain ⟨h1, h2, hk⟩ := do_cases h
  obtain ⟨hw, _, _⟩ := apart h
  rcases hk with ⟨hk, h3, e⟩ | ⟨hk, e⟩ | ⟨hk, e⟩
  · rw [e] at hw ⊢
    have ha := add_again h3
    rw [do_add hw h2 hk (by show (add (add s.rs o.rs).1 o.rs).2 = 0; rw [ha])]
    show ((⟨(add (add s.rs o.rs).1 o.rs).1, s.st⟩ : Sw), (0 : Int)) = _
    rw [ha]
  · rw [e] at hw ⊢
    rw [do_drop hw h2 hk]
    show ((⟨drp (drp s.rs o.v) o.v, s.st⟩ : Sw), (0 : Int)) = _
    rw [drp_drp]
  · rw [e] at hw ⊢
    rw [do_stamp hw h2 hk]
/-- The rules of a right order are of its version. -/
theorem vers {o : Wir.Od} (h : Wir.wrong o = 0) (hk : o.k = 1) : ∀ r ∈ o.rs, r.1 = o.v := by
  obtain ⟨_, hc⟩ := Wir.right_cases h
  rcases hc with ⟨_, _, hb⟩ | ⟨hc, _⟩ | hc
  · intro r hr
    have h1 : Wir.badR o.v r = false := by
      cases hc : Wir.badR o.v r with
      | false => rfl
      | true => have := List.any_eq_true.2 ⟨r, hr, hc⟩; rw [hb] at this; cases this
    have h2 : ¬ (r.1 ≠ o.v ∨ r.2.1 < 0 ∨ 11 < r.2.1 ∨ r.2.2 < 0 ∨ 7 < r.2.2) := of_decide_eq_false h1
    omega
  · omega
  · omega
theorem drp_ris {l : List Ru} (v : Int) (h : Ris l) : Ris (drp l v) := List.Pairwise.filter _ h
theorem tab_ris {l : List Ru} (h : tab l) : Ris l := (tab_iff.1 h).2.2
theorem mem_add {l m : List Ru} (h : (add l m).2 = 0) {r : Ru} : r ∈ (add l m).1 ↔ r ∈ l ∨ r ∈ m := by rw [(add_zero h).2.2]; exact add_mem
/-- Added, and dropped. -/
theorem gone {s : Sw} {o d : Wir.Od} (hd : Wir.wrong d = 0) (hk3 : d.k = 3) (hdv : d.v = o.v) (hk : o.k = 1) (h : (doS s o).2 = 0) : (doS (doS s o).1 d).2 = 0 ∧ (doS (doS s o).1 d).1.rs = drp s.rs o.v := by
  obtain ⟨h1, h2, hc⟩ := do_cases h
  obtain ⟨hw, _, _⟩ := apart h
  obtain ⟨t1, _⟩ := wrongS_zero h1
  rcases hc with ⟨_, h3, e⟩ | ⟨hc, _⟩ | ⟨hc, _⟩
  · rw [e] at hw ⊢
    rw [do_drop hw hd hk3]
    refine ⟨rfl, ?_⟩
    show drp (add s.rs o.rs).1 d.v = drp s.rs o.v
    rw [hdv]
    refine ris_eq (drp_ris _ (tab_ris (add_zero h3).2.1)) (drp_ris _ (tab_ris t1)) (fun r => ?_)
    rw [drp_mem, drp_mem, mem_add h3]
    constructor
    · rintro ⟨hr | hr, hv⟩
      · exact ⟨hr, hv⟩
      · exact absurd (vers h2 hk r hr) hv
    · rintro ⟨hr, hv⟩
      exact ⟨Or.inl hr, hv⟩
  · omega
  · omega
/-- Two versions know no order. -/
theorem order {s : Sw} {a b : Wir.Od} (ha2 : a.k ≠ 2) (hb2 : b.k ≠ 2) (hab : a.v ≠ b.v) (ha : (doS s a).2 = 0) (hb : (doS s b).2 = 0) (hx : (doS (doS s a).1 b).2 = 0) (hy : (doS (doS s b).1 a).2 = 0) : (doS (doS s a).1 b).1 = (doS (doS s b).1 a).1 := by
  obtain ⟨h1, wa, ca⟩ := do_cases ha
  obtain ⟨_, wb, cb⟩ := do_cases hb
  obtain ⟨_, _, cx⟩ := do_cases hx
  obtain ⟨_, _, cy⟩ := do_cases hy
  obtain ⟨t1, _⟩ := wrongS_zero h1
  rcases ca with ⟨ka, za, ea⟩ | ⟨ka, ea⟩ | ⟨ka, _⟩
  · rcases cb with ⟨kb, zb, eb⟩ | ⟨kb, eb⟩ | ⟨kb, _⟩
    · rw [ea] at cx ⊢
      rw [eb] at cy ⊢
      rcases cx with ⟨_, zx, ex⟩ | ⟨k, _⟩ | ⟨k, _⟩
      · rcases cy with ⟨_, zy, ey⟩ | ⟨k, _⟩ | ⟨k, _⟩
        · rw [ex, ey]
          show (⟨_, s.st⟩ : Sw) = ⟨_, s.st⟩
          congr 1
          refine ris_eq (tab_ris (add_zero zx).2.1) (tab_ris (add_zero zy).2.1) (fun r => ?_)
          rw [mem_add zx, mem_add zy, mem_add za, mem_add zb]
          constructor
          · rintro ((h | h) | h)
            · exact Or.inl (Or.inl h)
            · exact Or.inr h
            · exact Or.inl (Or.inr h)
          · rintro ((h | h) | h)
            · exact Or.inl (Or.inl h)
            · exact Or.inr h
            · exact Or.inl (Or.inr h)
        · omega
        · omega
      · omega
      · omega
    · rw [ea] at cx ⊢
      rw [eb] at cy ⊢
      rcases cx with ⟨k, _⟩ | ⟨_, ex⟩ | ⟨k, _⟩
      · omega
      · rcases cy with ⟨_, zy, ey⟩ | ⟨k, _⟩ | ⟨k, _⟩
        · rw [ex, ey]
          show (⟨_, s.st⟩ : Sw) = ⟨_, s.st⟩
          congr 1
          refine ris_eq (drp_ris _ (tab_ris (add_zero za).2.1)) (tab_ris (add_zero zy).2.1) (fun r => ?_)
          rw [drp_mem, mem_add zy, mem_add za, drp_mem]
          constructor
          · rintro ⟨h | h, hv⟩
            · exact Or.inl ⟨h, hv⟩
            · exact Or.inr h
          · rintro (⟨h, hv⟩ | h)
            · exact ⟨Or.inl h, hv⟩
            · exact ⟨Or.inr h, by rw [vers wa ka r h]; exact hab⟩
        · omega
        · omega
      · omega
    · exact absurd kb hb2
  · rcases cb with ⟨kb, zb, eb⟩ | ⟨kb, eb⟩ | ⟨kb, _⟩
    · rw [ea] at cx ⊢
      rw [eb] at cy ⊢
      rcases cx with ⟨_, zx, ex⟩ | ⟨k, _⟩ | ⟨k, _⟩
      · rcases cy with ⟨k, _⟩ | ⟨_, ey⟩ | ⟨k, _⟩
        · omega
        · rw [ex, ey]
          show (⟨_, s.st⟩ : Sw) = ⟨_, s.st⟩
          congr 1
          refine ris_eq (tab_ris (add_zero zx).2.1) (drp_ris _ (tab_ris (add_zero zb).2.1)) (fun r => ?_)
          rw [drp_mem, mem_add zx, mem_add zb, drp_mem]
          constructor
          · rintro (⟨h, hv⟩ | h)
            · exact ⟨Or.inl h, hv⟩
            · exact ⟨Or.inr h, by rw [vers wb kb r h]; exact fun e => hab e.symm⟩
          · rintro ⟨h | h, hv⟩
            · exact Or.inl ⟨h, hv⟩
            · exact Or.inr h
        · omega
      · omega
      · omega
    · rw [ea] at cx ⊢
      rw [eb] at cy ⊢
      rcases cx with ⟨k, _⟩ | ⟨_, ex⟩ | ⟨k, _⟩
      · omega
      · rcases cy with ⟨k, _⟩ | ⟨_, ey⟩ | ⟨k, _⟩
        · omega
        · rw [ex, ey]
          show (⟨_, s.st⟩ : Sw) = ⟨_, s.st⟩
          congr 1
          refine ris_eq (drp_ris _ (drp_ris _ (tab_ris t1))) (drp_ris _ (drp_ris _ (tab_ris t1))) (fun r => ?_)
          rw [drp_mem, drp_mem, drp_mem, drp_mem]
          constructor
          · rintro ⟨⟨h, h1⟩, h2⟩; exact ⟨⟨h, h2⟩, h1⟩
          · rintro ⟨⟨h, h1⟩, h2⟩; exact ⟨⟨h, h2⟩, h1⟩
        · omega
      · omega
    · exact absurd kb hb2
  · exact absurd ka ha2

end Agt
