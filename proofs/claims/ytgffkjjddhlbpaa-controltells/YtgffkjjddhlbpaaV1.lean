/- Rules in plain words: their order, rows of them that are sorted, and the one way to sort them that keeps those of one place as they stood. -/
import Derived.WalkKit
import Derived.Test.YtgffkjjddhlbpaaV0
import Derived.Sort.Lot0
import Derived.Sort.LotA
namespace Rul
open Go.Sort

def lt (a b : Ru) : Bool := decide (a.1 < b.1 ∨ a.1 = b.1 ∧ a.2.1 < b.2.1)
def key (a : Ru) : Int × Int := (a.1, a.2.1)

theorem lt_true {a b : Ru} : lt a b = true ↔ (a.1 < b.1 ∨ a.1 = b.1 ∧ a.2.1 < b.2.1) := by simp [lt]
theorem lt_false {a b : Ru} : lt a b = false ↔ ¬ (a.1 < b.1 ∨ a.1 = b.1 ∧ a.2.1 < b.2.1) := by simp [lt]
theorem swo : SWO lt where
  irrefl x := by rw [lt_false]; omega
  trans x y z h1 h2 := by rw [lt_true] at *; omega
  ntrans x y z h1 h2 := by rw [lt_false] at *; omega
theorem lt_asymm {a b : Ru} (h : lt a b = true) : lt b a = false := by rw [lt_true] at h; rw [lt_false]; omega
theorem lt_ne_key {a b : Ru} (h : lt a b = true) : key a ≠ key b := by
  rw [lt_true] at h; intro e; simp [key] at e; omega
theorem key_of_not {a b : Ru} (h1 : lt a b = false) (h2 : lt b a = false) : key a = key b := by
  rw [lt_false] at h1 h2; simp [key]; omega
theorem lt_of_le_lt {a b c : Ru} (h1 : lt b a = false) (h2 : lt b c = true) : lt a c = true := by rw [lt_false] at h1; rw [lt_true] at *; omega
theorem lt_of_lt_le {a b c : Ru} (h1 : lt a b = true) (h2 : lt c b = false) : lt a c = true := by rw [lt_false] at h2; rw [lt_true] at *; omega

/-- those of one place, as they stand -/
def fl (k : Int × Int) (l : List Ru) : List Ru := l.filter (fun r => decide (key r = k))
/-- of each place the same ones, in the same order -/
def Sm (x y : List Ru) : Prop := ∀ k, fl k x = fl k y
theorem Sm.refl (x : List Ru) : Sm x x := fun _ => rfl
theorem Sm.symm {x y : List Ru} (h : Sm x y) : Sm y x := fun k => (h k).symm
theorem Sm.trans {x y z : List Ru} (h : Sm x y) (g : Sm y z) : Sm x z := fun k => (h k).trans (g k)
theorem fl_append (k : Int × Int) (x y : List Ru) : fl k (x ++ y) = fl k x ++ fl k y := by simp [fl]
theorem Sm.app {x y x' y' : List Ru} (h : Sm x x') (g : Sm y y') : Sm (x ++ y) (x' ++ y') := fun k => by rw [fl_append, fl_append, h k, g k]
theorem mem_fl {k : Int × Int} {l : List Ru} {r : Ru} : r ∈ fl k l ↔ r ∈ l ∧ key r = k := by simp [fl]
theorem Sm.mem {x y : List Ru} (h : Sm x y) {r : Ru} (hr : r ∈ x) : r ∈ y := by
  have : r ∈ fl (key r) x := mem_fl.2 ⟨hr, rfl⟩
  rw [h] at this
  exact (mem_fl.1 this).1
theorem Sm.swap {x y : List Ru} (h : ∀ a ∈ x, ∀ b ∈ y, key a ≠ key b) : Sm (x ++ y) (y ++ x) := fun k => by
  rw [fl_append, fl_append]
  rcases hx : fl k x with _ | ⟨a, x'⟩
  · simp
  · have ha : a ∈ fl k x := by rw [hx]; simp
    have hy : fl k y = [] := by
      refine List.eq_nil_iff_forall_not_mem.2 fun b hb => ?_
      have h1 := mem_fl.1 ha
      have h2 := mem_fl.1 hb
      exact h a h1.1 b h2.1 (h1.2.trans h2.2.symm)
    rw [hy]; simp

def Srt (l : List Ru) : Prop := l.Pairwise (fun a b => lt b a = false)

theorem srt_unique : ∀ {x y : List Ru}, Srt x → Srt y → Sm x y → x = y
  | [], [], _, _, _ => rfl
  | [], b :: y, _, _, h => by
    have := h.symm.mem (r := b) (by simp)
    simp at this
  | a :: x, [], _, _, h => by
    have := h.mem (r := a) (by simp)
    simp at this
  | a :: x, b :: y, hx, hy, h => by
    have hx' := List.pairwise_cons.1 hx
    have hy' := List.pairwise_cons.1 hy
    have ha : a ∈ b :: y := h.mem (by simp)
    have hb : b ∈ a :: x := h.symm.mem (by simp)
    have h1 : lt a b = false := by
      rcases List.mem_cons.1 ha with rfl | ha
      · exact swo.irrefl _
      · exact hy'.1 a ha
    have h2 : lt b a = false := by
      rcases List.mem_cons.1 hb with rfl | hb
      · exact swo.irrefl _
      · exact hx'.1 b hb
    have hk := key_of_not h1 h2
    have e := h (key a)
    simp only [fl, List.filter_cons, hk, decide_true, ↓reduceIte] at e
    injection e with e1 e2
    subst e1
    have ht : Sm x y := fun k => by
      have := h k
      simp only [fl, List.filter_cons] at this
      by_cases hk : key a = k
      · simpa [hk, fl] using this
      · simpa [hk, fl] using this
    rw [srt_unique hx'.2 hy'.2 ht]

theorem srt_append {x y : List Ru} : Srt (x ++ y) ↔ Srt x ∧ Srt y ∧ ∀ a ∈ x, ∀ b ∈ y, lt b a = false := List.pairwise_append

/-- two halves, each in order, all of the one not behind any of the other -/
theorem sym_ok {X1 X2 Y1 Y2 Z1 Z2 : List Ru} (hX : Srt (X1 ++ X2)) (hY : Srt (Y1 ++ Y2)) (h1 : ∀ x ∈ X2, ∀ y ∈ Y1, lt y x = true) (h2 : ∀ x ∈ X1, ∀ y ∈ Y2, lt y x = false)
    (g1 : Srt Z1) (g2 : Srt Z2) (s1 : Sm Z1 (X1 ++ Y1)) (s2 : Sm Z2 (X2 ++ Y2)) : Srt (Z1 ++ Z2) ∧ Sm (Z1 ++ Z2) ((X1 ++ X2) ++ (Y1 ++ Y2)) := by
  have hX' := srt_append.1 hX
  have hY' := srt_append.1 hY
  refine ⟨srt_append.2 ⟨g1, g2, fun a ha b hb => ?_⟩, (s1.app s2).trans ?_⟩
  · rcases List.mem_append.1 (s1.mem ha) with ha | ha <;> rcases List.mem_append.1 (s2.mem hb) with hb | hb
    · exact hX'.2.2 a ha b hb
    · exact h2 a ha b hb
    · exact lt_asymm (h1 b hb a ha)
    · exact hY'.2.2 a ha b hb
  · have : Sm (Y1 ++ X2) (X2 ++ Y1) := Sm.swap fun a ha b hb => lt_ne_key (h1 b hb a ha)
    have := ((Sm.refl X1).app this).app (Sm.refl Y2)
    simpa using this
theorem ins_front {x : Ru} {Y1 Y2 : List Ru} (hY : Srt (Y1 ++ Y2)) (h1 : ∀ y ∈ Y1, lt y x = true) (h2 : ∀ y ∈ Y2, lt y x = false) : Srt (Y1 ++ x :: Y2) ∧ Sm (Y1 ++ x :: Y2) (x :: (Y1 ++ Y2)) := by
  have hY' := srt_append.1 hY
  refine ⟨srt_append.2 ⟨hY'.1, List.pairwise_cons.2 ⟨h2, hY'.2.1⟩, fun a ha b hb => ?_⟩, ?_⟩
  · rcases List.mem_cons.1 hb with rfl | hb
    · exact lt_asymm (h1 a ha)
    · exact hY'.2.2 a ha b hb
  · have : Sm (Y1 ++ [x]) ([x] ++ Y1) := Sm.swap fun a ha b hb => by
      rw [List.mem_singleton] at hb; subst hb; exact lt_ne_key (h1 a ha)
    simpa using this.app (Sm.refl Y2)
theorem ins_back {y : Ru} {X1 X2 : List Ru} (hX : Srt (X1 ++ X2)) (h1 : ∀ x ∈ X1, lt y x = false) (h2 : ∀ x ∈ X2, lt y x = true) : Srt (X1 ++ y :: X2) ∧ Sm (X1 ++ y :: X2) (X1 ++ X2 ++ [y]) := by
  have hX' := srt_append.1 hX
  refine ⟨srt_append.2 ⟨hX'.1, List.pairwise_cons.2 ⟨fun b hb => lt_asymm (h2 b hb), hX'.2.1⟩, fun a ha b hb => ?_⟩, ?_⟩
  · rcases List.mem_cons.1 hb with rfl | hb
    · exact h1 a ha
    · exact hX'.2.2 a ha b hb
  · have : Sm ([y] ++ X2) (X2 ++ [y]) := Sm.swap fun a ha b hb => by
      rw [List.mem_singleton] at ha; subst ha; exact lt_ne_key (h2 b hb)
    simpa using (Sm.refl X1).app this

/-! ### parts of a row -/
def seg (d : Array Ru) (a b : Nat) : List Ru := (List.range' a (b - a)).map (fun i => d[i]!)
theorem seg_length (d : Array Ru) (a b : Nat) : (seg d a b).length = b - a := by simp [seg]
theorem mem_seg {d : Array Ru} {a b : Nat} {r : Ru} : r ∈ seg d a b ↔ ∃ i, a ≤ i ∧ i < b ∧ d[i]! = r := by
  simp only [seg, List.mem_map, List.mem_range'_1]
  constructor
  · rintro ⟨i, hi, h⟩; exact ⟨i, by omega, by omega, h⟩
  · rintro ⟨i, h1, h2, h⟩; exact ⟨i, ⟨by omega, by omega⟩, h⟩
theorem seg_append (d : Array Ru) {a m b : Nat} (h1 : a ≤ m) (h2 : m ≤ b) : seg d a b = seg d a m ++ seg d m b := by
  simp only [seg]
  rw [← List.map_append]
  congr 1
  have : b - a = (m - a) + (b - m) := by omega
  rw [this, ← List.range'_append]
  congr 2; omega
theorem seg_nil (d : Array Ru) {a b : Nat} (h : b ≤ a) : seg d a b = [] := by simp [seg, show b - a = 0 by omega]
theorem seg_one (d : Array Ru) (a : Nat) : seg d a (a + 1) = [d[a]!] := by simp [seg]
theorem seg_shift {d d' : Array Ru} {a a' b b' : Nat} (hn : b' - a' = b - a) (h : ∀ i, i < b - a → d'[a' + i]! = d[a + i]!) : seg d' a' b' = seg d a b := by
  simp only [seg]
  refine List.ext_getElem (by simp [hn]) fun i h1 h2 => ?_
  simp at h1 h2 ⊢
  exact h i h2
theorem seg_congr {d d' : Array Ru} {a b : Nat} (h : ∀ i, a ≤ i → i < b → d'[i]! = d[i]!) : seg d' a b = seg d a b := seg_shift rfl fun i hi => h _ (by omega) (by omega)
theorem seg_all (d : Array Ru) : seg d 0 d.size = d.toList := by
  refine List.ext_getElem (by simp [seg]) fun i h1 h2 => ?_
  simp [seg] at h1 h2 ⊢
  rw [getElem!_pos d i h1]
theorem srt_seg {d : Array Ru} {a b : Nat} : Srt (seg d a b) ↔ SortedIn lt a b d := by
  unfold Srt seg
  rw [List.pairwise_map]
  constructor
  · intro h i j h1 h2 h3
    have h' := List.pairwise_iff_getElem.1 h (i - a) (j - a) (by simp; omega) (by simp; omega) (by omega)
    simpa [show a + (i - a) = i by omega, show a + (j - a) = j by omega] using h'
  · intro h
    refine List.pairwise_iff_getElem.2 fun i j h1 h2 h3 => ?_
    simp at h1 h2 ⊢
    exact h _ _ (by omega) (by omega) (by omega)

/-- all but a part is as it was -/
def Out (a b : Nat) (d d' : Array Ru) : Prop := d'.size = d.size ∧ ∀ i, i < a ∨ b ≤ i → d'[i]! = d[i]!
theorem Out.refl (a b : Nat) (d : Array Ru) : Out a b d d := ⟨rfl, fun _ _ => rfl⟩
theorem Out.trans {a b : Nat} {d d' d'' : Array Ru} (h : Out a b d d') (g : Out a b d' d'') : Out a b d d'' := ⟨g.1.trans h.1, fun i hi => (g.2 i hi).trans (h.2 i hi)⟩
theorem Out.wide {a b a' b' : Nat} {d d' : Array Ru} (h : Out a b d d') (h1 : a' ≤ a) (h2 : b ≤ b') : Out a' b' d d' := ⟨h.1, fun i hi => h.2 i (by omega)⟩
theorem Out.swp {a b i j : Nat} (d : Array Ru) (h1 : a ≤ i) (h2 : i < b) (h3 : a ≤ j) (h4 : j < b) : Out a b d (swp d i j) := ⟨size_swp _ _ _, fun k hk => swp_other _ _ _ _ (by omega) (by omega)⟩

/-- a part is sorted; of each place it has the same ones, in the same order -/
def Mrg (a b : Nat) (d d' : Array Ru) : Prop := Out a b d d' ∧ SortedIn lt a b d' ∧ Sm (seg d' a b) (seg d a b)

theorem Out.seg_left {a b : Nat} {d d' : Array Ru} (h : Out a b d d') {x y : Nat} (hy : y ≤ a) : seg d' x y = seg d x y := seg_congr fun i _ hi => h.2 i (by omega)
theorem Out.seg_right {a b : Nat} {d d' : Array Ru} (h : Out a b d d') {x y : Nat} (hx : b ≤ x) : seg d' x y = seg d x y := seg_congr fun i hi _ => h.2 i (by omega)
theorem Mrg.whole {a b n : Nat} {d d' : Array Ru} (h : Mrg a b d d') (hab : a ≤ b) (hb : b ≤ n) : Sm (seg d' 0 n) (seg d 0 n) := by
  rw [seg_append d' (Nat.zero_le a) (Nat.le_trans hab hb), seg_append d' hab hb, seg_append d (Nat.zero_le a) (Nat.le_trans hab hb), seg_append d hab hb, h.1.seg_left (Nat.le_refl _), h.1.seg_right (Nat.le_refl _)]
  exact (Sm.refl _).app (h.2.2.app (Sm.refl _))
theorem Out.sorted_left {a b : Nat} {d d' : Array Ru} (h : Out a b d d') {x y : Nat} (hy : y ≤ a) (hs : SortedIn lt x y d) : SortedIn lt x y d' := by
  rw [← srt_seg, h.seg_left hy, srt_seg]; exact hs
theorem Out.sorted_right {a b : Nat} {d d' : Array Ru} (h : Out a b d d') {x y : Nat} (hx : b ≤ x) (hs : SortedIn lt x y d) : SortedIn lt x y d' := by
  rw [← srt_seg, h.seg_right hx, srt_seg]; exact hs

/-! ### one into many -/
/-- the first of a part has gone as far as others are less -/
theorem mrg_front {a b i : Nat} {d d' : Array Ru} (hb : a + 1 ≤ i) (hib : i ≤ b) (hs : SortedIn lt (a + 1) b d) (h1 : ∀ t, a + 1 ≤ t → t < i → lt d[t]! d[a]! = true) (h2 : ∀ t, i ≤ t → t < b → lt d[t]! d[a]! = false)
    (hsz : d'.size = d.size) (g1 : ∀ t, a ≤ t → t < i - 1 → d'[t]! = d[t + 1]!) (g2 : d'[i - 1]! = d[a]!) (g3 : ∀ t, t < a ∨ i ≤ t → d'[t]! = d[t]!) : Mrg a b d d' := by
  have e1 : seg d' a (i - 1) = seg d (a + 1) i := seg_shift (by omega) fun t ht => by rw [g1 _ (by omega) (by omega)]; congr 1; omega
  have e2 : seg d' (i - 1) i = [d[a]!] := by
    have := seg_one d' (i - 1)
    rwa [show i - 1 + 1 = i by omega, g2] at this
  have e3 : seg d' i b = seg d i b := seg_congr fun t ht _ => g3 t (Or.inr ht)
  have hY := srt_seg.2 hs
  rw [seg_append d (m := i) hb hib] at hY
  have := ins_front (x := d[a]!) hY (fun y hy => by obtain ⟨t, t1, t2, rfl⟩ := mem_seg.1 hy; exact h1 t t1 t2) (fun y hy => by obtain ⟨t, t1, t2, rfl⟩ := mem_seg.1 hy; exact h2 t t1 t2)
  have e : seg d' a b = seg d (a + 1) i ++ d[a]! :: seg d i b := by
    rw [seg_append d' (m := i - 1) (by omega) (by omega), seg_append d' (a := i - 1) (m := i) (by omega) hib, e1, e2, e3]; simp
  have e' : seg d a b = d[a]! :: (seg d (a + 1) i ++ seg d i b) := by
    rw [seg_append d (m := a + 1) (by omega) (by omega), seg_one, seg_append d hb hib]; simp
  exact ⟨⟨hsz, fun t ht => g3 t (by omega)⟩, by rw [← srt_seg, e]; exact this.1, by rw [e, e']; exact this.2⟩
/-- the last of a part has gone ahead of those that it is less than -/
theorem mrg_back {a m i : Nat} {d d' : Array Ru} (hb : a ≤ i) (him : i ≤ m) (hs : SortedIn lt a m d) (h1 : ∀ t, a ≤ t → t < i → lt d[m]! d[t]! = false) (h2 : ∀ t, i ≤ t → t < m → lt d[m]! d[t]! = true)
    (hsz : d'.size = d.size) (g1 : ∀ t, i < t → t ≤ m → d'[t]! = d[t - 1]!) (g2 : d'[i]! = d[m]!) (g3 : ∀ t, t < i ∨ m < t → d'[t]! = d[t]!) : Mrg a (m + 1) d d' := by
  have e1 : seg d' (i + 1) (m + 1) = seg d i m := seg_shift (by omega) fun t ht => by rw [g1 _ (by omega) (by omega)]; congr 1; omega
  have e2 : seg d' i (i + 1) = [d[m]!] := by rw [seg_one, g2]
  have e3 : seg d' a i = seg d a i := seg_congr fun t _ ht => g3 t (Or.inl ht)
  have hX := srt_seg.2 hs
  rw [seg_append d (m := i) hb him] at hX
  have := ins_back (y := d[m]!) hX (fun y hy => by obtain ⟨t, t1, t2, rfl⟩ := mem_seg.1 hy; exact h1 t t1 t2) (fun y hy => by obtain ⟨t, t1, t2, rfl⟩ := mem_seg.1 hy; exact h2 t t1 t2)
  have e : seg d' a (m + 1) = seg d a i ++ d[m]! :: seg d i m := by
    rw [seg_append d' (m := i) hb (by omega), seg_append d' (a := i) (m := i + 1) (by omega) (by omega), e1, e2, e3]; simp
  have e' : seg d a (m + 1) = seg d a i ++ seg d i m ++ [d[m]!] := by
    rw [seg_append d (m := m) (by omega) (by omega), seg_one, seg_append d hb him]
  exact ⟨⟨hsz, fun t ht => g3 t (by omega)⟩, by rw [← srt_seg, e]; exact this.1, by rw [e, e']; exact this.2⟩

/-! ### two parts of a row, one behind the other, change places -/
structure Rot (a m b : Nat) (d d' : Array Ru) : Prop where
  out : Out a b d d'
  left : ∀ t, t < b - m → d'[a + t]! = d[m + t]!
  right : ∀ t, t < m - a → d'[a + (b - m) + t]! = d[a + t]!
theorem Rot.triv_left {a b : Nat} (d : Array Ru) : Rot a a b d d := ⟨Out.refl _ _ _, fun _ _ => rfl, fun t ht => by omega⟩
theorem Rot.triv_right {a b : Nat} (d : Array Ru) : Rot a b b d d := ⟨Out.refl _ _ _, fun t ht => by omega, fun t ht => by congr 1; omega⟩

/-- two parts of one length, apart from each other, have changed places -/
structure Swr (a b n : Nat) (d d' : Array Ru) : Prop where
  size : d'.size = d.size
  left : ∀ t, t < n → d'[a + t]! = d[b + t]!
  right : ∀ t, t < n → d'[b + t]! = d[a + t]!
  out : ∀ t, (t < a ∨ a + n ≤ t) → (t < b ∨ b + n ≤ t) → d'[t]! = d[t]!
theorem Swr.zero (a b : Nat) (d : Array Ru) : Swr a b 0 d d := ⟨rfl, fun t h => by omega, fun t h => by omega, fun _ _ _ => rfl⟩
theorem Swr.succ {a b n : Nat} {d d' : Array Ru} (h : Swr a b n d d') (hab : a + n < b) (hb : b + n < d.size) : Swr a b (n + 1) d (swp d' (a + n) (b + n)) := by
  have ha : a + n < d'.size := by rw [h.size]; omega
  have hb' : b + n < d'.size := by rw [h.size]; omega
  refine ⟨by rw [size_swp, h.size], fun t ht => ?_, fun t ht => ?_, fun t h1 h2 => ?_⟩
  · by_cases e : t = n
    · subst e; rw [swp_left _ _ _ ha (by omega), h.out _ (by omega) (by omega)]
    · rw [swp_other _ _ _ _ (by omega) (by omega)]; exact h.left t (by omega)
  · by_cases e : t = n
    · subst e; rw [swp_right _ _ _ hb', h.out _ (by omega) (by omega)]
    · rw [swp_other _ _ _ _ (by omega) (by omega)]; exact h.right t (by omega)
  · rw [swp_other _ _ _ _ (by omega) (by omega)]; exact h.out t (by omega) (by omega)

/-- what is still to be done of a change of places: i ahead of m, and j from it on -/
structure Rtg (a m b i j : Nat) (d d' : Array Ru) : Prop where
  size : d'.size = d.size
  ia : a + i ≤ m
  jb : m + j ≤ b
  out : ∀ t, t < a ∨ b ≤ t → d'[t]! = d[t]!
  done : ∀ D : Array Ru, Rot (m - i) m (m + j) d' D → Rot a m b d D
theorem Rtg.start {a m b : Nat} {d : Array Ru} (h1 : a ≤ m) (h2 : m ≤ b) : Rtg a m b (m - a) (b - m) d d :=
  ⟨rfl, by omega, by omega, fun _ _ => rfl, fun D h => by rwa [show m - (m - a) = a by omega, show m + (b - m) = b by omega] at h⟩
theorem Rtg.more {a m b i j : Nat} {d d1 d2 : Array Ru} (h : Rtg a m b i j d d1) (hij : j < i) (s : Swr (m - i) m j d1 d2) : Rtg a m b (i - j) j d d2 := by
  have := h.ia
  have := h.jb
  refine ⟨s.size.trans h.size, by omega, h.jb, fun t ht => (s.out t (by omega) (by omega)).trans (h.out t ht), fun D hD => h.done D ⟨⟨hD.out.1.trans s.size, fun t ht => ?_⟩, fun t ht => ?_, fun t ht => ?_⟩⟩
  · rw [hD.out.2 t (by omega)]; exact s.out t (by omega) (by omega)
  · rw [hD.out.2 _ (by omega), s.left t (by omega)]
  · by_cases e : t < j
    · have := hD.left t (by omega)
      rw [show m - (i - j) + t = m - i + (m + j - m) + t by omega] at this
      rw [this, s.right t e]
    · have := hD.right (t - j) (by omega)
      rw [show m - (i - j) + (m + j - m) + (t - j) = m - i + (m + j - m) + t by omega, show m - (i - j) + (t - j) = m - i + t by omega] at this
      rw [this, s.out _ (by omega) (by omega)]
theorem Rtg.less {a m b i j : Nat} {d d1 d2 : Array Ru} (h : Rtg a m b i j d d1) (hij : i < j) (s : Swr (m - i) (m + j - i) i d1 d2) : Rtg a m b i (j - i) d d2 := by
  have := h.ia
  have := h.jb
  refine ⟨s.size.trans h.size, h.ia, by omega, fun t ht => (s.out t (by omega) (by omega)).trans (h.out t ht), fun D hD => h.done D ⟨⟨hD.out.1.trans s.size, fun t ht => ?_⟩, fun t ht => ?_, fun t ht => ?_⟩⟩
  · rw [hD.out.2 t (by omega)]; exact s.out t (by omega) (by omega)
  · by_cases e : t < j - i
    · rw [hD.left t (by omega), s.out _ (by omega) (by omega)]
    · have := hD.right (t - (j - i)) (by omega)
      rw [show m - i + (m + (j - i) - m) + (t - (j - i)) = m - i + t by omega] at this
      have e2 := s.left (t - (j - i)) (by omega)
      rw [this, e2]; congr 1; omega
  · rw [hD.out.2 _ (by omega)]
    have := s.right t (by omega)
    rw [show m + j - i + t = m - i + (m + j - m) + t by omega] at this
    rw [this]
theorem Rtg.last {a m b i : Nat} {d d1 d2 : Array Ru} (h : Rtg a m b i i d d1) (s : Swr (m - i) m i d1 d2) : Rot a m b d d2 := by
  have := h.ia
  have := h.jb
  refine h.done d2 ⟨⟨s.size, fun t ht => s.out t (by omega) (by omega)⟩, fun t ht => s.left t (by omega), fun t ht => ?_⟩
  have := s.right t (by omega)
  rw [show m + t = m - i + (m + i - m) + t by omega] at this
  exact this

/-- where the middle is looked for: of those ahead of it each is no more than its fellow, of those from it on each is more -/
theorem mrg_sym {a m b mid s : Nat} {d d1 d2 d3 : Array Ru} (ham : a ≤ m) (hmb : m ≤ b) (h1 : a ≤ mid) (h2 : mid ≤ b) (sX : SortedIn lt a m d) (sY : SortedIn lt m b d)
    (hlo : a ≤ s) (hlo' : mid + m ≤ b + s) (hhi : s ≤ m) (hhi' : s ≤ mid)
    (q1 : a < s → mid + m < b + s → lt d[mid + m - s]! d[s - 1]! = false) (q2 : s < m → s < mid → lt d[mid + m - 1 - s]! d[s]! = true)
    (hr : Rot s m (mid + m - s) d d1) (g1 : Mrg a mid d1 d2) (g2 : Mrg mid b d2 d3) : Mrg a b d d3 := by
  have eX := seg_append d hlo hhi
  have eY := seg_append d (a := m) (m := mid + m - s) (b := b) (by omega) (by omega)
  have hX : Srt (seg d a s ++ seg d s m) := by rw [← eX, srt_seg]; exact sX
  have hY : Srt (seg d m (mid + m - s) ++ seg d (mid + m - s) b) := by rw [← eY, srt_seg]; exact sY
  have f1 : seg d1 a mid = seg d a s ++ seg d m (mid + m - s) := by
    rw [seg_append d1 hlo hhi', hr.out.seg_left (Nat.le_refl _)]
    congr 1
    exact seg_shift (by omega) fun t ht => hr.left t (by omega)
  have f2 : seg d1 mid b = seg d s m ++ seg d (mid + m - s) b := by
    rw [seg_append d1 (a := mid) (m := mid + m - s) (by omega) (by omega), hr.out.seg_right (Nat.le_refl _)]
    congr 1
    refine seg_shift (by omega) fun t ht => ?_
    have := hr.right t (by omega)
    rwa [show s + (mid + m - s - m) + t = mid + t by omega] at this
  have hle1 : ∀ x ∈ seg d s m, ∀ y ∈ seg d m (mid + m - s), lt y x = true := fun x hx y hy => by
    obtain ⟨i, i1, i2, rfl⟩ := mem_seg.1 hx
    obtain ⟨j, j1, j2, rfl⟩ := mem_seg.1 hy
    have hq := q2 (by omega) (by omega)
    have k1 : lt d[i]! d[s]! = false := by
      by_cases e : i = s
      · subst e; exact swo.irrefl _
      · exact sX _ _ (by omega) (by omega) (by omega)
    have k2 : lt d[mid + m - 1 - s]! d[j]! = false := by
      by_cases e : j = mid + m - 1 - s
      · subst e; exact swo.irrefl _
      · exact sY _ _ (by omega) (by omega) (by omega)
    exact lt_of_le_lt k2 (lt_of_lt_le hq k1)
  have hle2 : ∀ x ∈ seg d a s, ∀ y ∈ seg d (mid + m - s) b, lt y x = false := fun x hx y hy => by
    obtain ⟨i, i1, i2, rfl⟩ := mem_seg.1 hx
    obtain ⟨j, j1, j2, rfl⟩ := mem_seg.1 hy
    have hq := q1 (by omega) (by omega)
    have k1 : lt d[s - 1]! d[i]! = false := by
      by_cases e : i = s - 1
      · subst e; exact swo.irrefl _
      · exact sX _ _ (by omega) (by omega) (by omega)
    have k2 : lt d[j]! d[mid + m - s]! = false := by
      by_cases e : j = mid + m - s
      · subst e; exact swo.irrefl _
      · exact sY _ _ (by omega) (by omega) (by omega)
    exact swo.ntrans _ _ _ k2 (swo.ntrans _ _ _ hq k1)
  have z1 : seg d3 a mid = seg d2 a mid := g2.1.seg_left (Nat.le_refl _)
  have z2 : seg d2 mid b = seg d1 mid b := g1.1.seg_right (Nat.le_refl _)
  have r := sym_ok hX hY hle1 hle2 (Z1 := seg d3 a mid) (Z2 := seg d3 mid b) (by rw [z1, srt_seg]; exact g1.2.1) (srt_seg.2 g2.2.1) (by rw [z1, ← f1]; exact g1.2.2) (by rw [← f2, ← z2]; exact g2.2.2)
  rw [← eX, ← eY, ← seg_append d ham hmb, ← seg_append d3 h1 h2] at r
  exact ⟨((hr.out.wide hlo (by omega)).trans (g1.1.wide (Nat.le_refl _) h2)).trans (g2.1.wide h1 (Nat.le_refl _)), srt_seg.1 r.1, r.2⟩
theorem rot_sorted {a m b mid s : Nat} {d d1 : Array Ru} (sX : SortedIn lt a m d) (sY : SortedIn lt m b d) (hlo' : mid + m ≤ b + s) (hhi : s ≤ m) (hhi' : s ≤ mid) (_ : a ≤ s)
    (hr : Rot s m (mid + m - s) d d1) : SortedIn lt a s d1 ∧ SortedIn lt s mid d1 ∧ SortedIn lt mid (mid + m - s) d1 ∧ SortedIn lt (mid + m - s) b d1 := by
  have f1 : seg d1 s mid = seg d m (mid + m - s) := seg_shift (by omega) fun t ht => hr.left t (by omega)
  have f2 : seg d1 mid (mid + m - s) = seg d s m := by
    refine seg_shift (by omega) fun t ht => ?_
    have := hr.right t (by omega)
    rwa [show s + (mid + m - s - m) + t = mid + t by omega] at this
  have s1 : SortedIn lt a s d := fun i j h1 h2 h3 => sX i j h1 h2 (by omega)
  have s2 : SortedIn lt s m d := fun i j h1 h2 h3 => sX i j (by omega) h2 h3
  have s3 : SortedIn lt m (mid + m - s) d := fun i j h1 h2 h3 => sY i j h1 h2 (by omega)
  have s4 : SortedIn lt (mid + m - s) b d := fun i j h1 h2 h3 => sY i j (by omega) h2 h3
  exact ⟨hr.out.sorted_left (Nat.le_refl _) s1, by rw [← srt_seg, f1, srt_seg]; exact s3, by rw [← srt_seg, f2, srt_seg]; exact s2, hr.out.sorted_right (Nat.le_refl _) s4⟩
/-- a part of which one half is none -/
theorem Mrg.same {a b : Nat} {d : Array Ru} (h : SortedIn lt a b d) : Mrg a b d d := ⟨Out.refl _ _ _, h, Sm.refl _⟩

end Rul
