/- A change of a net, in words: plans, controls, what is told to whom; what comes of Ask, Back and Drop. -/
import Derived.Test.YtgffkjjddhlbpaaT3
import Derived.Test.YtgffkjjddhlbpaaV20
import Derived.Test.YtgffkjjddhlbpaaX1
namespace Go.Proofs.Ytgffkjjddhlbpaa.Ct
open Go.RowKit Go.Deep Stw Stp Tb Rul

structure Pl where
  v : Int
  fs : List Stf.Fl
  ps : List (List Int)
def pl0 : Pl := ⟨0, [], []⟩
structure Co where
  st : Int
  now : Pl
  nxt : Pl
  num : Int
  wts : List Int
def co0 : Co := ⟨0, pl0, pl0, 0, []⟩
/-- the number that follows -/
def nx (n : Int) : Int := IntKind.i64.wrap (n + 1)
/-- a plan's rules at a switch -/
def rls (p : Pl) (s : Nat) : List Ru := rof p.v s p.ps p.ps.length
/-- What was told so far: the last number, what is waited for, the orders. -/
structure Tl where
  num : Int
  wts : List Int
  out : List (Nat × Wir.Od)
def one (k : Nat) (o : Option Wir.Od) (x : Tl) : Tl := match o with
  | none => x
  | some o => ⟨nx x.num, x.wts ++ [nx x.num], x.out ++ [(k, ⟨o.k, nx x.num, o.v, o.rs, o.fs⟩)]⟩
def tel (ord : Nat → Option Wir.Od) (x : Tl) : Nat → Tl
  | 0 => x
  | k + 1 => one k (ord k) (tel ord x k)
/-- the numbers of the flows that begin at a switch, of the first so many -/
def beg (s : Int) (fs : List Stf.Fl) : Nat → List Int
  | 0 => []
  | k + 1 => beg s fs k ++ (if (fs.getD k Fw.f0).fr = s then [(k : Int)] else [])
def addO (p : Pl) (s : Nat) : Option Wir.Od := if rls p s = [] then none else some ⟨1, 0, p.v, rls p s, []⟩
def drpO (p : Pl) (s : Nat) : Option Wir.Od := if rls p s = [] then none else some ⟨3, 0, p.v, [], []⟩
def stpO (now nxt : Pl) (s : Nat) : Option Wir.Od := if beg s nxt.fs nxt.fs.length = [] ∧ beg s now.fs now.fs.length = [] then none else some ⟨2, 0, nxt.v, [], beg s nxt.fs nxt.fs.length⟩
/-- A control, and what it has told. -/
structure Cg where
  c : Co
  out : List (Nat × Wir.Od)
def told (n : Nat) (ord : Nat → Option Wir.Od) (g : Cg) : Cg :=
  ⟨⟨g.c.st, g.c.now, g.c.nxt, (tel ord ⟨g.c.num, g.c.wts, g.out⟩ n).num, (tel ord ⟨g.c.num, g.c.wts, g.out⟩ n).wts⟩, (tel ord ⟨g.c.num, g.c.wts, g.out⟩ n).out⟩
def setSt (g : Cg) (k : Int) : Cg := ⟨⟨k, g.c.now, g.c.nxt, g.c.num, g.c.wts⟩, g.out⟩
/-- The stage that follows. -/
def nextS (n : Nat) (g : Cg) : Option Cg :=
  if g.c.st = 1 then some (told n (stpO g.c.now g.c.nxt) (setSt g 2))
  else if g.c.st = 2 then some (setSt g 3)
  else if g.c.st = 4 then some ⟨⟨0, g.c.nxt, pl0, g.c.num, g.c.wts⟩, g.out⟩
  else none
def calmS (g : Cg) : Cg := if g.c.wts ≠ [] then g else setSt g 3
def goS (n : Nat) (g : Cg) : Cg :=
  if g.c.wts ≠ [] then g
  else if g.c.st = 1 then calmS (told n (stpO g.c.now g.c.nxt) (setSt g 2))
  else if g.c.st = 2 then setSt g 3
  else if g.c.st = 4 then ⟨⟨0, g.c.nxt, pl0, g.c.num, g.c.wts⟩, g.out⟩
  else g
def full (n : Nat) (a b : Pl) : Bool := (List.range n).any fun s => decide (16 < (rls a s).length + (rls b s).length)
def askS (c : Co) (n : Int) (ls : List Lk) (fs : List Stf.Fl) : Cg × Int :=
  if c.st ≠ 0 then (⟨co0, []⟩, 11)
  else if (plnF n (nx c.now.v) ls fs).1 ≠ 0 then (⟨co0, []⟩, (plnF n (nx c.now.v) ls fs).1)
  else if full n.toNat c.now ⟨nx c.now.v, fs, plnP n ls fs⟩ = true then (⟨co0, []⟩, 10)
  else (goS n.toNat (told n.toNat (addO ⟨nx c.now.v, fs, plnP n ls fs⟩) ⟨⟨1, c.now, ⟨nx c.now.v, fs, plnP n ls fs⟩, c.num, c.wts⟩, []⟩), 0)
def backS (c : Co) (n : Int) (ls : List Lk) (k : Int) : Cg × Int :=
  if (wrong n ls).1 ≠ 0 then (⟨co0, []⟩, (wrong n ls).1)
  else if k ∉ c.wts then (⟨co0, []⟩, 6)
  else (goS n.toNat ⟨⟨c.st, c.now, c.nxt, c.num, c.wts.erase k⟩, []⟩, 0)
def dropS (c : Co) (n : Int) (ls : List Lk) : Cg × Int :=
  if (wrong n ls).1 ≠ 0 then (⟨co0, []⟩, (wrong n ls).1)
  else if c.st ≠ 3 then (⟨co0, []⟩, 11)
  else (goS n.toNat (told n.toNat (drpO c.now) ⟨⟨4, c.now, c.nxt, c.num, c.wts⟩, []⟩), 0)

/-- Where a plan's lists lie. -/
structure PA where
  fo : Option Addr
  qo : Option Addr
  fc : Nat
  qc : Nat
def pa0 : PA := ⟨none, none, 0, 0⟩
def pvl (p : Pl) (a : PA) : Value := .agg #[.int .i64 p.v, .slice a.fo p.fs.length a.fc, .slice a.qo p.ps.length a.qc]
structure PlAt (w : World) (p : Pl) (a : PA) : Prop where
  hf : Fw.FlowsAt w a.fo p.fs
  hq : PthsAt w a.qo p.ps
theorem PlAt.ext {w w' : World} {p : Pl} {a : PA} (h : PlAt w p a) (E : Ext w w') : PlAt w' p a := ⟨h.hf.ext E, h.hq.ext E⟩
theorem PlAt.zero (w : World) : PlAt w pl0 pa0 := ⟨Or.inl rfl, Or.inl rfl⟩
/-- A plan that lies in blocks from B on. -/
def PlNew (B : Nat) (w : World) (p : Pl) (a : PA) : Prop := ∀ V : World, w.heap.size ≤ V.heap.size → (∀ b, B ≤ b → b < w.heap.size → V.heap[b]? = w.heap[b]?) → PlAt V p a
theorem PlNew.at {B : Nat} {w : World} {p : Pl} {a : PA} (h : PlNew B w p a) : PlAt w p a := h w (Nat.le_refl _) (fun _ _ _ => rfl)
theorem PlNew.zero (B : Nat) (w : World) : PlNew B w pl0 pa0 := fun V _ _ => PlAt.zero V
theorem PlNew.ext {B : Nat} {w w' : World} {p : Pl} {a : PA} (h : PlNew B w p a) (E : Ext w w') : PlNew B w' p a := fun V hs hb => h V (Nat.le_trans E.size hs) (fun b h1 h2 => (hb b h1 (Nat.lt_of_lt_of_le h2 E.size)).trans (Below.block E b h2))
/-- Lists that are not too long for copies. -/
structure PlOk (p : Pl) : Prop where
  fl : p.fs.length ≤ 16777216
  sm : ∀ f ∈ p.fs, f.via.length ≤ 16777216 ∧ f.nt.length ≤ 16777216
  ql : p.ps.length ≤ 16777216
  tt : (p.ps.map List.length).sum ≤ 16777216
theorem PlOk.zero : PlOk pl0 := ⟨by simp [pl0], by simp [pl0], by simp [pl0], by simp [pl0]⟩
/-- Where a control's lists lie. -/
structure CA where
  n : PA
  x : PA
  wo : Option Addr
  wc : Nat
def ca0 : CA := ⟨pa0, pa0, none, 0⟩
def cvl (c : Co) (a : CA) : Value := .agg #[.int .i64 c.st, .int .i64 c.now.v, .slice a.n.fo c.now.fs.length a.n.fc, .slice a.n.qo c.now.ps.length a.n.qc, .int .i64 c.nxt.v, .slice a.x.fo c.nxt.fs.length a.x.fc, .slice a.x.qo c.nxt.ps.length a.x.qc, .int .i64 c.num, .slice a.wo c.wts.length a.wc]
structure CoAt (w : World) (c : Co) (a : CA) : Prop where
  hn : PlAt w c.now a.n
  hx : PlAt w c.nxt a.x
  hw : ListAt w a.wo c.wts
theorem CoAt.ext {w w' : World} {c : Co} {a : CA} (h : CoAt w c a) (E : Ext w w') : CoAt w' c a := ⟨h.hn.ext E, h.hx.ext E, h.hw.ext E⟩
theorem CoAt.zero (w : World) : CoAt w co0 ca0 := ⟨PlAt.zero w, PlAt.zero w, Or.inl rfl⟩
structure CoOk (c : Co) : Prop where
  n : PlOk c.now
  x : PlOk c.nxt
  w : c.wts.length ≤ 16777200

theorem getD_sum {ps : List (List Int)} : ∀ {i : Nat}, (ps.getD i []).length ≤ (ps.map List.length).sum := by
  induction ps with
  | nil => intro i; simp
  | cons p r ih =>
    intro i
    cases i with
    | zero => simp
    | succ i => have := ih (i := i); simp at this ⊢; omega

end Go.Proofs.Ytgffkjjddhlbpaa.Ct
