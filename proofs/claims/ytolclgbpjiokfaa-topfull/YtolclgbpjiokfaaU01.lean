/- What Wrong and Cost answer, for every net; nothing that was there is changed. -/
import Derived.Test.YtolclgbpjiokfaaRows
import Derived.WalkKit
import Derived.WalkSpells
import Derived.WalkLawsBesides
import Derived.BigQuiet
import Derived.BigRegion
import Derived.WalkSmall
import Derived.Deep.QuietTactic
import Derived.Deep.LoopGhost
import Derived.Deep.OwnRows
import Derived.Deep.RegionWith
import Derived.Deep.AppendLies
import Derived.Laws.AppendOwnNone
import Derived.Lib.QuietBelow
import Derived.Lib.SmallJoins
import Derived.Lib.Walk
import Derived.Deep.RegionLaw
import Derived.Maps.OwnOps
import Derived.Maps.OwnSet
import Derived.DeepKeys4
namespace Go.Proofs.Ytolclgbpjiokfaa
open Go.RowKit
def Ext (w w':World):Prop:=Below w.heap.size w w'
theorem Ext.refl (w:World):Ext w w:=Below.refl _ _
theorem Ext.trans {a b c:World} (h:Ext a b) (k:Ext b c):Ext a c:=Below.trans h (Below.mono k (Below.size h))
theorem Ext.alloc {a b:World} (h:Ext a b) (o:Obj):Ext a (b.alloc o):=Below.alloc h (Below.size h) o
theorem Ext.setCell {a b:World} (h:Ext a b) {p:Addr} (hp:a.heap.size≤p.block) (u:Value):Ext a (b.setCell p u):=Below.setCell h hp u
theorem Ext.drew {a b:World} (h:Ext a b):Ext a b.drew:=Below.drew h
theorem Ext.drewN {a b:World} (h:Ext a b) (n:Nat):Ext a (b.drewN n):=below_drewN h n
theorem Ext.size {a b:World} (h:Ext a b):a.heap.size≤b.heap.size:=Below.size h
theorem Ext.cells {W w1:World} (hb:Ext W w1):(∀b o,b<W.heap.size→w1.cell? ⟨b,o,none⟩=W.cell? ⟨b,o,none⟩)∧(∀b o,b<W.heap.size→w1.frozen? ⟨b,o,none⟩=W.frozen? ⟨b,o,none⟩):=
 ⟨fun b o h=>Below.cell hb (p:=⟨b,o,none⟩) h,fun b o h=>Below.frozen hb (p:=⟨b,o,none⟩) h⟩
def I64 (a:Int):Prop:=(Lit.int .i64 a).wf=true
theorem i64_small {a:Int} (h0: -1000000≤a) (h1:a≤1000000):I64 a:=WalkArith.wf_i64 (by omega)
def IntsAt (w:World) (b off:Nat) (ps:List Int):Prop:=∀k,k<ps.length→w.cell? ⟨b,off+k,none⟩=some (.int .i64 (ps.getD k 0))
def ListAt (w:World) (ao:Option Addr) (ps:List Int):Prop:=ps=[]∨∃b off,ao=some ⟨b,off,none⟩∧b<w.heap.size∧IntsAt w b off ps
theorem ListAt.ext {w w':World} {ao:Option Addr} {ps:List Int} (h:ListAt w ao ps) (k:Ext w w'):ListAt w' ao ps:=by
 rcases h with h | ⟨b,off,h1,h2,h3⟩
 ·exact Or.inl h
 ·exact Or.inr ⟨b,off,h1,Nat.lt_of_lt_of_le h2 k.size,fun i hi=>(k.cells.1 _ _ h2).trans (h3 i hi)⟩
theorem ListAt.get {w:World} {ao:Option Addr} {ps:List Int} (h:ListAt w ao ps) {k:Nat} (hk:k<ps.length):∃g off,ao=some ⟨g,off,none⟩∧g<w.heap.size∧IntsAt w g off ps:=by
 rcases h with h | h
 ·rw[h] at hk;simp at hk
 ·exact h
theorem Try.laidOut:laidOutB Try.prog=true:=by kernel_rfl
theorem Try.own:ownKnob Try.prog.godebug=none:=by kernel_rfl
theorem Try.cells3:Try.prog.cellsOf 3=1:=by kernel_rfl
theorem Try.bytes3:Try.prog.bytesOf 3=8:=by kernel_rfl
def NwA (B:Nat) (ao:Option Addr):Prop:=∀a,ao=some a→B≤a.block
theorem NwA.none (B:Nat):NwA B none:=fun a h=>by cases h
theorem NwA.mono {B B':Nat} {ao:Option Addr} (h:NwA B ao) (hb:B'≤B):NwA B' ao:=fun a e=>Nat.le_trans hb (h a e)
theorem own_new {w:World} {base:Nat} {e:TypeId} {size:Nat} {ao:Option Addr} {l c n:Nat} {xs:List Value} (h:w.ownsRow base e size (.slice ao l c) n xs):NwA base ao:=fun a e=>by
 subst e;exact(h.lt a.block rfl).1
end Go.Proofs.Ytolclgbpjiokfaa
namespace Stw
structure Lk where
 a:Int
 b:Int
 c:Int
def lk0:Lk:=⟨0,0,0⟩
def swB (n s:Int):Bool:=decide (0≤s∧s<n)
theorem swB_true {n s:Int}:swB n s=true↔0≤s∧s<n:=by simp[swB]
theorem swB_false {n s:Int}:swB n s=false↔¬(0≤s∧s<n):=by simp[swB]
def wlink (n a b c:Int):Int:=if swB n a=false∨swB n b=false then 6 else if a=b then 8 else if c<1∨1000<c then 3 else 0
theorem wlink_zero {n a b c:Int} (h:wlink n a b c=0):0≤a∧a<n∧0≤b∧b<n∧a≠b∧1≤c∧c≤1000:=by
 unfold wlink at h
 split at h
 ·omega
 ·rename_i h1
  split at h
  ·omega
  ·split at h
   ·omega
   ·simp only[not_or,Bool.not_eq_false,swB_true] at h1
    omega
def jn (l:Lk) (a b:Int):Bool:=(l.a == a && l.b == b) || (l.a == b && l.b == a)
theorem jn_iff {l:Lk} {a b:Int}:jn l a b=true↔(l.a=a∧l.b=b)∨(l.a=b∧l.b=a):=by simp[jn]
theorem jn_comm (l:Lk) (a b:Int):jn l a b=jn l b a:=by
 rw[Bool.eq_iff_iff,jn_iff,jn_iff];omega
theorem jn_minmax {l:Lk} {a b:Int}:jn l a b=true↔min l.a l.b=min a b∧max l.a l.b=max a b:=by
 rw[jn_iff];omega
def cost:List Lk→Int→Int→Int
 | [],_,_=>0
 | l::r,a,b=>if jn l a b=true then l.c else cost r a b
theorem cost_comm:∀(ls:List Lk) (a b:Int),cost ls a b=cost ls b a
 | [],_,_=>rfl
 | l::r,a,b=>by simp only[cost,jn_comm l a b,cost_comm r a b]
def anyJ (ls:List Lk) (a b:Int):Bool:=ls.any fun m=>jn m a b
theorem cost_none:∀{ls:List Lk} {a b:Int},anyJ ls a b=false→cost ls a b=0
 | [],_,_,_=>rfl
 | l::r,a,b,h=>by
  simp only[anyJ,List.any_cons,Bool.or_eq_false_iff] at h
  simp only[cost,h.1,Bool.false_eq_true,if_false]
  exact cost_none h.2
theorem cost_some:∀{ls:List Lk} {a b:Int},(∀l∈ls,1≤l.c)→anyJ ls a b=true→1≤cost ls a b
 | [],_,_,_,h=>by simp[anyJ] at h
 | l::r,a,b,hc,h=>by
  simp only[cost]
  by_cases hj:jn l a b=true
  ·rw[if_pos hj];exact hc l (by simp)
  ·rw[if_neg hj]
   refine cost_some (fun m hm=>hc m (by simp[hm])) ?_
   simp only[anyJ,List.any_cons,Bool.or_eq_true] at h
   rcases h with h | h
   ·exact absurd h hj
   ·exact h
theorem cost_snoc:∀(ls:List Lk) (l:Lk) (a b:Int),cost (ls++[l]) a b=if anyJ ls a b=true then cost ls a b else if jn l a b=true then l.c else 0
 | [],l,a,b=>by simp[cost,anyJ]
 | m::r,l,a,b=>by
  simp only[List.cons_append,cost,anyJ,List.any_cons]
  by_cases hj:jn m a b=true
  ·simp[hj]
  ·simp only[hj,Bool.false_eq_true,if_false,Bool.false_or]
   exact cost_snoc r l a b
def ewl (n:Int) (ls:List Lk) (k:Nat):Int:=
 if wlink n (ls.getD k lk0).a (ls.getD k lk0).b (ls.getD k lk0).c=0 then(if anyJ (ls.take k) (ls.getD k lk0).a (ls.getD k lk0).b=true then 7 else 0) else wlink n (ls.getD k lk0).a (ls.getD k lk0).b (ls.getD k lk0).c
theorem ewl_zero {n:Int} {ls:List Lk} {k:Nat} (h:ewl n ls k=0):wlink n (ls.getD k lk0).a (ls.getD k lk0).b (ls.getD k lk0).c=0∧anyJ (ls.take k) (ls.getD k lk0).a (ls.getD k lk0).b=false:=by
 unfold ewl at h
 split at h
 ·rename_i h1
  refine⟨h1,?_⟩
  split at h
  ·omega
  ·rename_i h2;simpa using h2
 ·exact absurd h (by assumption)
def scan (f:Nat→Int):Nat→Nat→Int×Int
 | 0,_=>(0,0)
 | m+1,k=>if f k=0 then scan f m (k+1) else(f k,(k:Int))
theorem scan_good (f:Nat→Int):∀(m k:Nat),(∀j,k≤j→j<k+m→f j=0)→scan f m k=(0,0)
 | 0,_,_=>rfl
 | m+1,k,h=>by
  simp only[scan,h k (Nat.le_refl _) (by omega),if_true]
  exact scan_good f m (k+1) (fun j h1 h2=>h j (by omega) (by omega))
theorem scan_bad (f:Nat→Int):∀(m k i:Nat),(∀j,k≤j→j<i→f j=0)→k≤i→i<k+m→f i≠0→scan f m k=(f i,(i:Int))
 | 0,_,_,_,_,_,_=>by omega
 | m+1,k,i,h,h1,h2,h3=>by
  by_cases e:k=i
  ·subst e;simp[scan,h3]
  ·simp only[scan,h k (Nat.le_refl _) (by omega),if_true]
   exact scan_bad f m (k+1) i (fun j g1 g2=>h j (by omega) g2) (by omega) (by omega) h3
theorem scan_ok {f:Nat→Int}:∀{m k:Nat},(scan f m k).1=0→∀j,k≤j→j<k+m→f j=0
 | 0,_,_,_,_,_=>by omega
 | m+1,k,h,j,h1,h2=>by
  unfold scan at h
  split at h
  ·by_cases e:k=j
   ·subst e;assumption
   ·exact scan_ok h j (by omega) (by omega)
  ·exact absurd h (by assumption)
def many (n:Int) (len:Nat):Bool:=decide (n<1∨8<n∨28<len)
def wrong (n:Int) (ls:List Lk):Int×Int:=if many n ls.length=true then(5,0) else scan (ewl n ls) ls.length 0
theorem wrong_many {n:Int} {ls:List Lk} (h:many n ls.length=true):wrong n ls=(5,0):=by simp[wrong,h]
theorem wrong_bad {n:Int} {ls:List Lk} {k:Nat} (h:many n ls.length=false) (hk:k<ls.length) (h0:∀j,j<k→ewl n ls j=0) (h1:ewl n ls k≠0):wrong n ls=(ewl n ls k,(k:Int)):=by
 simp only[wrong,h,Bool.false_eq_true,if_false]
 exact scan_bad _ _ _ _ (fun j _ hj=>h0 j hj) (Nat.zero_le _) (by omega) h1
theorem wrong_good {n:Int} {ls:List Lk} (h:many n ls.length=false) (h0:∀j,j<ls.length→ewl n ls j=0):wrong n ls=(0,0):=by
 simp only[wrong,h,Bool.false_eq_true,if_false]
 exact scan_good _ _ _ (fun j _ hj=>h0 j (by omega))
def Right (n:Int) (ls:List Lk):Prop:=many n ls.length=false∧∀j,j<ls.length→ewl n ls j=0
theorem right_of {n:Int} {ls:List Lk} (h:(wrong n ls).1=0):Right n ls:=by
 unfold wrong at h
 split at h
 ·simp at h
 ·rename_i hm
  exact⟨by simpa using hm,fun j hj=>scan_ok h j (Nat.zero_le _) (by omega)⟩
theorem Right.wrong {n:Int} {ls:List Lk} (h:Right n ls):wrong n ls=(0,0):=wrong_good h.1 h.2
theorem Right.bounds {n:Int} {ls:List Lk} (h:Right n ls):1≤n∧n≤8∧ls.length≤28:=by
 have:=h.1;simp only[many,decide_eq_false_iff_not] at this;omega
theorem Right.mem {n:Int} {ls:List Lk} (h:Right n ls) {l:Lk} (hl:l∈ls):0≤l.a∧l.a<n∧0≤l.b∧l.b<n∧l.a≠l.b∧1≤l.c∧l.c≤1000:=by
 obtain⟨i,hi,rfl⟩:=List.getElem_of_mem hl
 have:=wlink_zero (ewl_zero (h.2 i hi)).1
 simpa[List.getD_eq_getElem?_getD,hi] using this
theorem cost_range {n:Int}:∀{ls:List Lk},(∀l∈ls,0≤l.a∧l.a<n∧0≤l.b∧l.b<n∧l.a≠l.b∧1≤l.c∧l.c≤1000)→∀a b,0≤cost ls a b∧cost ls a b≤1000∧(cost ls a b≠0→0≤a∧a<n∧0≤b∧b<n∧a≠b)
 | [],_,a,b=>by simp[cost]
 | l::r,h,a,b=>by
  simp only[cost]
  have h1:=h l (by simp)
  split
  ·rename_i hj
   rw[jn_iff] at hj
   refine⟨by omega,by omega,fun _=>by omega⟩
  ·exact cost_range (fun m hm=>h m (by simp[hm])) a b
theorem Right.cost {n:Int} {ls:List Lk} (h:Right n ls) (a b:Int):0≤Stw.cost ls a b∧Stw.cost ls a b≤1000∧(Stw.cost ls a b≠0→0≤a∧a<n∧0≤b∧b<n∧a≠b):=
 cost_range (fun _ hl=>h.mem hl) a b
def Rch (ls:List Lk) (a b:Int):Prop:=∀S:Int→Prop,S a→(∀x y,S x→0<cost ls x y→S y)→S b
theorem Rch.refl (ls:List Lk) (a:Int):Rch ls a a:=fun _ h _=>h
theorem Rch.step {ls:List Lk} {a b c:Int} (h:Rch ls a b) (k:0<cost ls b c):Rch ls a c:=fun S h0 h1=>h1 b c (h S h0 h1) k
theorem Rch.trans {ls:List Lk} {a b c:Int} (h:Rch ls a b) (k:Rch ls b c):Rch ls a c:=fun S h0 h1=>k S (h S h0 h1) h1
theorem Rch.symm {ls:List Lk} {a b:Int} (h:Rch ls a b):Rch ls b a:=
 h (fun x=>Rch ls x a) (Rch.refl ls a) (fun x y hx hc=>Rch.trans ((Rch.refl ls y).step (by rw[cost_comm];exact hc)) hx)
end Stw
namespace Go.Proofs.Ytolclgbpjiokfaa
open Go.RowKit Stw
set_option maxHeartbeats 400000 in
theorem isSwitch_any (n s:Int) (ao:Option Addr) (len cap:Nat) (w:World):
 Calls Try.prog 49 #[.agg #[.int .i64 n,.slice ao len cap],.int .i64 s] w fun e w'=>e=.returned (.bool (swB n s))∧Ext w w':=by
 by_cases h0:0≤s
 ·go_enter Try.func49,Try.ntmps49
  go_wp2
  go_ret
  refine⟨?_,(Ext.refl w).alloc _⟩
  simp[swB,h0]
 ·go_enter Try.func49,Try.ntmps49
  go_wp2
  go_ret
  refine⟨?_,(Ext.refl w).alloc _⟩
  have:swB n s=false:=by rw[swB_false];omega
  rw[this];rfl
set_option maxHeartbeats 400000 in
theorem joining_any (a b:Int) (w:World):
 Calls Try.prog 50 #[.int .i64 a,.int .i64 b] w fun e w'=>e=.returned (.agg #[.int .i64 (min a b),.int .i64 (max a b)])∧Ext w w':=by
 rcases Int.lt_trichotomy a b with h | h | h
 ·have e1:min a b=a:=by omega
  have e2:max a b=b:=by omega
  rw[e1,e2];clear e1 e2
  go_enter Try.func50,Try.ntmps50
  go_wp2
  exact bodyPost_ret (v:=.agg #[.int .i64 a,.int .i64 b]) (by simp[results,Try.results50,go_sem] <;> try omega) rfl ⟨rfl,(Ext.refl w).alloc _⟩
 ·subst h
  have e1:min a a=a:=by omega
  have e2:max a a=a:=by omega
  rw[e1,e2];clear e1 e2
  go_enter Try.func50,Try.ntmps50
  go_wp2
  exact bodyPost_ret (v:=.agg #[.int .i64 a,.int .i64 a]) (by simp[results,Try.results50,go_sem] <;> try omega) rfl ⟨rfl,(Ext.refl w).alloc _⟩
 ·have e1:min a b=b:=by omega
  have e2:max a b=a:=by omega
  rw[e1,e2];clear e1 e2
  go_enter Try.func50,Try.ntmps50
  go_wp2
  exact bodyPost_ret (v:=.agg #[.int .i64 b,.int .i64 a]) (by simp[results,Try.results50,go_sem] <;> try omega) rfl ⟨rfl,(Ext.refl w).alloc _⟩
theorem wl8 {n a b c:Int} (hb:swB n b=true) (h:(a == b)=true):Ending.returned (.int .i64 8)=.returned (.int .i64 (wlink n a b c)):=by
 have:wlink n a b c=8:=by simp[wlink,hb,eq_of_beq h]
 rw[this]
theorem wl3 {n a b c:Int} (ha:swB n a=true) (hb:swB n b=true) (h:(a == b)=false) (hc:c<1∨1000<c):Ending.returned (.int .i64 3)=.returned (.int .i64 (wlink n a b c)):=by
 have:wlink n a b c=3:=by simp[wlink,ha,hb,ne_of_beq_false h,hc]
 rw[this]
theorem wl0 {n a b c:Int} (ha:swB n a=true) (hb:swB n b=true) (h:(a == b)=false) (hc:1≤c∧c≤1000):Ending.returned (.int .i64 0)=.returned (.int .i64 (wlink n a b c)):=by
 have:wlink n a b c=0:=by simp[wlink,ha,hb,ne_of_beq_false h];omega
 rw[this]
set_option maxHeartbeats 400000 in
theorem wrongLink_any (n a b c:Int) (ao:Option Addr) (len cap:Nat) (w:World):
 Calls Try.prog 64 #[.agg #[.int .i64 n,.slice ao len cap],.agg #[.int .i64 a,.int .i64 b,.int .i64 c]] w fun e w'=>e=.returned (.int .i64 (wlink n a b c))∧Ext w w':=by
 cases ha:swB n a
 ·have e0:wlink n a b c=6:=by simp[wlink,ha]
  rw[e0];clear e0
  go_enter Try.func64,Try.ntmps64
  go_wp2_with (go_at_call 49;refine(isSwitch_any _ _ _ _ _ _).mono ?_;rintro e w1 ⟨rfl,hb⟩;obtain⟨hc,hf⟩:=hb.cells)
  go_ret
  exact⟨rfl,(((Ext.refl w).alloc _).alloc _).trans hb⟩
 ·cases hb0:swB n b
  ·have e0:wlink n a b c=6:=by simp[wlink,hb0]
   rw[e0];clear e0
   go_enter Try.func64,Try.ntmps64
   go_wp2_with fail
   refine(isSwitch_any _ _ _ _ _ _).mono ?_;rintro e w1 ⟨rfl,hb1⟩;obtain⟨hc,hf⟩:=hb1.cells
   go_wp2_with fail
   refine(isSwitch_any _ _ _ _ _ _).mono ?_;rintro e w2 ⟨rfl,hb2⟩;obtain⟨hc2,hf2⟩:=hb2.cells
   go_wp2
   go_ret
   exact⟨rfl,((((Ext.refl w).alloc _).alloc _).trans hb1).trans hb2⟩
  ·go_enter Try.func64,Try.ntmps64
   go_wp2_with fail
   refine(isSwitch_any _ _ _ _ _ _).mono ?_;rintro e w1 ⟨rfl,hb1⟩;obtain⟨hc,hf⟩:=hb1.cells
   go_wp2_with fail
   refine(isSwitch_any _ _ _ _ _ _).mono ?_;rintro e w2 ⟨rfl,hb2⟩;obtain⟨hc2,hf2⟩:=hb2.cells
   have hz:w.heap.size+1<w1.heap.size:=by have:=hb1.size;simp at this;omega
   go_wp2
   all_goals
    go_ret
    exact⟨by first | exact wl8 hb0 ‹_› | exact wl3 ha hb0 ‹_› (Or.inl ‹_›) | exact wl3 ha hb0 ‹_› ‹_› | exact wl0 ha hb0 ‹_› ‹_› | exact wl3 ha hb0 ‹_› (Or.inr ‹_›) | exact wl0 ha hb0 ‹_› ⟨‹_›,‹_›⟩,((((Ext.refl w).alloc _).alloc _).trans hb1).trans hb2⟩
end Go.Proofs.Ytolclgbpjiokfaa
namespace Go.Proofs.Ytolclgbpjiokfaa
open Go.RowKit Go.Maps Stw
theorem Try.rowE:(114:TypeId)<Try.prog.types.size:=of_decide_eq_true (by kernel_rfl)
theorem Try.wideE:(match Try.prog.underlying 114 with | some (.array _ _) | some (.struct _)=>true | _=>false)=true:=by kernel_rfl
set_option maxRecDepth 100000 in
theorem lawE:Keyed Try.prog 114:=Keyed.of_law (deep_law_laid Try.laidOut (m:=2) (by omega) Try.rowE (by kernel_rfl) Try.wideE)
theorem zero3 (w:World):(zeroValue 3).run Try.prog w=.ok (.int .i64 0) w:=by kernel_rfl
theorem Try.cellsE:Try.prog.cellsOf 114=2:=by kernel_rfl
def kk (a b:Int):Lit:=.string (keyBytes [.int .i64 a,.int .i64 b])
theorem Try.sizeE:Try.prog.types.size=(Try.prog.types.size - 1)+1:=by kernel_rfl
theorem Try.keyE:Try.prog.keyType 114=true:=by kernel_rfl
theorem keyLits_two {a b:Int} (ha:I64 a) (hb:I64 b) (m:Nat):Try.prog.keyLits (m+1+1) 114 [.int .i64 a,.int .i64 b]=some [.int .i64 a,.int .i64 b]:=by
 unfold I64 at ha hb
 simp[Program.keyLits,Try.underlying114,Try.underlying3,Try.cellsE,Try.cells3,ha,hb]
theorem keyLits_ends {a b:Int} (ha:I64 a) (hb:I64 b):Try.prog.keyLits (Try.prog.types.size+1) 114 [.int .i64 a,.int .i64 b]=some [.int .i64 a,.int .i64 b]:=by
 rw[Try.sizeE]
 exact keyLits_two ha hb _
theorem key_ends {a b:Int} (ha:I64 a) (hb:I64 b):keyOf Try.prog 114 (.agg #[.int .i64 a,.int .i64 b])=some (kk a b):=by
 have hf:(Value.agg #[.int .i64 a,.int .i64 b]).formed Try.prog 114=true:=by simp[Value.formed,Try.underlying114,Try.cellsE]
 unfold keyOf
 simp only[Try.underlying114,Try.keyE,hf,Bool.and_self,if_true,Value.cells]
 rw[keyLits_ends ha hb]
 rfl
theorem kk_inj {a b c d:Int} (ha:I64 a) (hb:I64 b) (hc:I64 c) (hd:I64 d) (h:kk a b=kk c d):a=c∧b=d:=by
 have h1:=key_ends ha hb
 have h2:=key_ends hc hd
 rw[h] at h1
 have:=lawE.inj h1 h2
 simpa using this
def LinksAt (w:World) (b off:Nat) (ls:List Lk):Prop:=
 ∀k,k<ls.length→w.cell? ⟨b,off+k*3,none⟩=some (.int .i64 (ls.getD k lk0).a)∧w.cell? ⟨b,off+k*3+1,none⟩=some (.int .i64 (ls.getD k lk0).b)∧w.cell? ⟨b,off+k*3+2,none⟩=some (.int .i64 (ls.getD k lk0).c)
def NetAt (w:World) (ao:Option Addr) (ls:List Lk):Prop:=
 ls=[]∨∃b off,ao=some ⟨b,off,none⟩∧b<w.heap.size∧LinksAt w b off ls
theorem LinksAt.ext {w w':World} {b off:Nat} {ls:List Lk} (h:LinksAt w b off ls) (hb:b<w.heap.size) (k:Ext w w'):LinksAt w' b off ls:=by
 intro i hi
 obtain⟨h1,h2,h3⟩:=h i hi
 exact⟨(k.cells.1 _ _ hb).trans h1,(k.cells.1 _ _ hb).trans h2,(k.cells.1 _ _ hb).trans h3⟩
theorem NetAt.ext {w w':World} {ao:Option Addr} {ls:List Lk} (h:NetAt w ao ls) (k:Ext w w'):NetAt w' ao ls:=by
 rcases h with h | ⟨b,off,h1,h2,h3⟩
 ·exact Or.inl h
 ·exact Or.inr ⟨b,off,h1,Nat.lt_of_lt_of_le h2 k.size,h3.ext h2 k⟩
def CostMap (w:World) (m:Nat) (ls:List Lk):Prop:=
 ∃n,n≤ls.length∧∃D:DataW Unit,w.ownsMap Try.prog 114 (plainElem Try.prog 3) m n D∧∀a b,I64 a→I64 b→D.atKey (kk (min a b) (max a b)) (.lit (.int .i64 0))=.lit (.int .i64 (cost ls a b))
theorem CostMap.ext {w w':World} {m:Nat} {ls:List Lk} (h:CostMap w m ls) (k:Ext w w'):CostMap w' m ls:=by
 obtain⟨n,hn,D,hown,hD⟩:=h
 refine⟨n,hn,D,?_,hD⟩
 have hlt:=hown.lt
 obtain⟨es,cl,hb,r⟩:=hown
 exact⟨es,cl,by rw[←hb];exact Below.block k m hlt,r⟩
theorem CostMap.setCell {w:World} {m:Nat} {ls:List Lk} (h:CostMap w m ls) {a:Addr} (ha:m≠a.block) (u:Value):CostMap (w.setCell a u) m ls:=by
 obtain⟨n,hn,D,hown,hD⟩:=h
 exact⟨n,hn,D,hown.setCell ha u,hD⟩
theorem CostMap.lt {w:World} {m:Nat} {ls:List Lk} (h:CostMap w m ls):m<w.heap.size:=by
 obtain⟨n,hn,D,hown,hD⟩:=h
 exact hown.lt
theorem CostMap.look {w:World} {m:Nat} {ls:List Lk} (h:CostMap w m ls) {a b:Int} (ha:I64 a) (hb:I64 b):
 (Instr.lookup 108 (.map (some m)) (.agg #[.int .i64 (min a b),.int .i64 (max a b)]) false).run Try.prog w=.ok (.int .i64 (cost ls a b)) w:=by
 obtain⟨n,hn,D,hown,hD⟩:=h
 have ha':I64 (min a b):=by simp only[Int.min_def];split <;> assumption
 have hb':I64 (max a b):=by simp only[Int.max_def];split <;> assumption
 obtain⟨c,hrun,hat,_⟩:=hown.lookup_int lawE Try.underlying108 Try.underlying3 (zero3 _) (key_ends ha' hb')
 rw[hrun]
 rw[hD a b ha hb] at hat
 simp only[DataW.lit.injEq,Lit.int.injEq,true_and] at hat
 rw[hat]
set_option maxRecDepth 100000 in
theorem CostMap.put {w:World} {m:Nat} {ls:List Lk} (h:CostMap w m ls) (l:Lk) (ha:I64 l.a) (hb:I64 l.b) (hc:I64 l.c) (hs:ls.length<maxLen) (hj:anyJ ls l.a l.b=false):
 ∃w',(Instr.mapUpdate 108 (.map (some m)) (.agg #[.int .i64 (min l.a l.b),.int .i64 (max l.a l.b)]) (.int .i64 l.c)).run Try.prog w=.ok () w'∧CostMap w' m (ls++[l])∧w.grownBy w' (some m):=by
 obtain⟨n,hn,D,hown,hD⟩:=h
 have mm:∀{a b:Int},I64 a→I64 b→I64 (min a b):=by intro a b ha hb;simp only[Int.min_def];split <;> assumption
 have mx:∀{a b:Int},I64 a→I64 b→I64 (max a b):=by intro a b ha hb;simp only[Int.max_def];split <;> assumption
 obtain⟨w',hrun,hown',hg⟩:=hown.update lawE Try.underlying108 (Nat.lt_of_le_of_lt hn hs) (key_ends (mm ha hb) (mx ha hb)) (plainElem_int Try.underlying3 hc)
 refine⟨w',hrun,⟨n+1,by simp;omega,_,hown',fun a b wa wb=>?_⟩,hg⟩
 rw[cost_snoc]
 by_cases he:jn l a b=true
 ·have e1:=jn_minmax.1 he
  rw[e1.1,e1.2]
  have:anyJ ls a b=false:=by
   rw[←hj]
   unfold anyJ
   rcases jn_iff.1 he with⟨h1,h2⟩ | ⟨h1,h2⟩
   ·rw[h1,h2]
   ·rw[h1,h2];congr 1;funext x;exact jn_comm x a b
  simp only[this,he,Bool.false_eq_true,if_false,if_true]
  exact atKey_put_same hown.isMap (lawE.key (key_ends (mm wa wb) (mx wa wb))) _ _
 ·have hne:kk (min a b) (max a b)≠kk (min l.a l.b) (max l.a l.b):=fun e=>by
   have:=kk_inj (mm wa wb) (mx wa wb) (mm ha hb) (mx ha hb) e
   exact he (jn_minmax.2 ⟨this.1.symm,this.2.symm⟩)
  have e2:(if anyJ ls a b=true then cost ls a b else if jn l a b=true then l.c else 0)=cost ls a b:=by
   simp only[he,Bool.false_eq_true,if_false]
   split
   ·rfl
   ·rename_i h;exact(cost_none (by simpa using h)).symm
  rw[e2, ←hD a b wa wb]
  exact atKey_put_other hne _ _
theorem two_boxes {w wr:World} {v0 v1 u0 u1:Value} {T U:TypeId} (h:Below (w.heap.size+1+1) ((w.alloc (.cells #[v0,v1] T)).alloc (.cells #[u0,u1] U)) wr):
 wr.cell? ⟨w.heap.size,0,none⟩=some v0∧wr.cell? ⟨w.heap.size,1,none⟩=some v1∧wr.cell? ⟨w.heap.size+1,0,none⟩=some u0∧wr.cell? ⟨w.heap.size+1,1,none⟩=some u1∧
 wr.frozen? ⟨w.heap.size+1,0,none⟩=false∧wr.frozen? ⟨w.heap.size+1,1,none⟩=false∧(∀b o,b<w.heap.size→wr.cell? ⟨b,o,none⟩=w.cell? ⟨b,o,none⟩):=by
 have k0:w.heap.size<w.heap.size+1+1:=by omega
 have k1:w.heap.size+1<w.heap.size+1+1:=by omega
 refine⟨(h.cell k0).trans (by simp),(h.cell k0).trans (by simp),(h.cell k1).trans (by simp),(h.cell k1).trans (by simp),(h.frozen k1).trans (by simp),(h.frozen k1).trans (by simp),fun b o hb=>?_⟩
 exact(h.cell (p:=⟨b,o,none⟩) (show b<w.heap.size+1+1 by omega)).trans ((World.cell?_alloc_past _ _ _ (by simp;omega)).trans (World.cell?_alloc_past _ _ _ hb))
theorem ext_boxes {w wr:World} {o1 o2:Obj} (h:Below (w.heap.size+1+1) ((w.alloc o1).alloc o2) wr):Ext w wr:=
 Below.trans (((Ext.refl w).alloc o1).alloc o2) (h.mono (by omega))
theorem below_ext {B:Nat} {a b c:World} (h:Below B a b) (k:Ext b c) (hB:B≤b.heap.size):Below B a c:=h.trans (Below.mono k hB)
theorem below_grown {B m:Nat} {a b c:World} (h:Below B a b) (k:b.grownBy c (some m)) (hB:B≤b.heap.size) (hm:B≤m):Below B a c:=h.grown k hB (fun j hj=>by cases hj;exact hm)
theorem ewl_link {n:Int} {ls:List Lk} {k:Nat} {x:Lk} (hx:x=ls.getD k lk0) (h:¬wlink n x.a x.b x.c=0):ewl n ls k=wlink n x.a x.b x.c:=by
 subst hx;simp only[ewl,h,if_false]
theorem ewl_dup {n:Int} {ls:List Lk} {k:Nat} {x:Lk} (hx:x=ls.getD k lk0) (h:wlink n x.a x.b x.c=0) (hj:anyJ (ls.take k) x.a x.b=true):ewl n ls k=7:=by
 subst hx;simp only[ewl,h,hj,if_true]
theorem ewl_ok {n:Int} {ls:List Lk} {k:Nat} {x:Lk} (hx:x=ls.getD k lk0) (h:wlink n x.a x.b x.c=0) (hj:anyJ (ls.take k) x.a x.b=false):ewl n ls k=0:=by
 subst hx;simp only[ewl,h,hj,if_true,Bool.false_eq_true,if_false]
theorem take_snoc {ls:List Lk} {k:Nat} {x:Lk} (hx:x=ls.getD k lk0) (h:k<ls.length):ls.take (k+1)=ls.take k++[x]:=by
 subst hx
 rw[List.take_succ_eq_append_getElem h]
 simp[List.getD_eq_getElem?_getD,h]
theorem pre_pos {n:Int} {ls:List Lk} {k:Nat} (hk:k≤ls.length) (h:∀j,j<k→ewl n ls j=0):∀l∈ls.take k,1≤l.c:=by
 intro l hl
 obtain⟨i,hi,rfl⟩:=List.getElem_of_mem hl
 simp only[List.length_take] at hi
 have:=wlink_zero (ewl_zero (h i (by omega))).1
 rw[List.getElem_take]
 have e:ls.getD i lk0=ls[i]'(by omega):=by simp[List.getD_eq_getElem?_getD,show i<ls.length by omega]
 rw[e] at this
 omega
end Go.Proofs.Ytolclgbpjiokfaa
namespace Go.Proofs.Ytolclgbpjiokfaa
open Go.RowKit Go.Maps Stw
set_option maxHeartbeats 1000000 in
theorem read_many (n:Int) (ao:Option Addr) (len cap:Nat) (w:World) (hm:many n len=true) (hl:len≤9223372036854775807):
 Calls Try.prog 48 #[.agg #[.int .i64 n,.slice ao len cap]] w fun e w'=>e=.returned (.tuple #[.map none,.agg #[.int .i64 5,.int .i64 0]])∧Ext w w':=by
 simp only[many,decide_eq_true_eq] at hm
 by_cases h1:n<1
 ·clear hm
  go_enter Try.func48,Try.ntmps48
  go_wp2
  exact bodyPost_ret (v:=.tuple #[.map none,.agg #[.int .i64 5,.int .i64 0]]) (by simp[results,Try.results48,go_sem]) rfl ⟨rfl,((Ext.refl w).alloc _).alloc _⟩
 ·by_cases h2:8<n
  ·clear hm
   go_enter Try.func48,Try.ntmps48
   go_wp2
   exact bodyPost_ret (v:=.tuple #[.map none,.agg #[.int .i64 5,.int .i64 0]]) (by simp[results,Try.results48,go_sem]) rfl ⟨rfl,((Ext.refl w).alloc _).alloc _⟩
  ·have h3:(28:Int)<(len:Int):=by omega
   clear hm
   go_enter Try.func48,Try.ntmps48
   go_wp2
   exact bodyPost_ret (v:=.tuple #[.map none,.agg #[.int .i64 5,.int .i64 0]]) (by simp[results,Try.results48,go_sem]) rfl ⟨rfl,((Ext.refl w).alloc _).alloc _⟩
set_option maxHeartbeats 1000000 in
theorem read_some (n:Int) (b off len cap:Nat) (ls:List Lk) (w:World) (hm:many n len=false) (hlen:ls.length=len) (hl:LinksAt w b off ls) (hbl:b<w.heap.size):
 Calls Try.prog 48 #[.agg #[.int .i64 n,.slice (some ⟨b,off,none⟩) len cap]] w fun e w'=>Ext w w'∧((wrong n ls=(0,0)∧∃m,e=.returned (.tuple #[.map (some m),.agg #[.int .i64 0,.int .i64 0]])∧w.heap.size≤m∧CostMap w' m ls)∨
  ((wrong n ls).1≠0∧e=.returned (.tuple #[.map none,.agg #[.int .i64 (wrong n ls).1,.int .i64 (wrong n ls).2]]))):=by
 have hm':=hm
 simp only[many,decide_eq_false_iff_not] at hm'
 have h1:¬n<1:=by omega
 have h2:¬8<n:=by omega
 have h3:¬(28:Int)<(len:Int):=by omega
 clear hm'
 have hmm:=@run_makeMap Try.prog
 go_enter Try.func48,Try.ntmps48
 go_wp2
 go_loopw [27] (fun i wr=>∃k:Nat,k≤len∧i=.int .i64 k∧(∀j,j<k→ewl n ls j=0)∧CostMap wr (w.heap.size+1+1) (ls.take k)∧
  Below (w.heap.size+1+1) ((w.alloc (.cells #[.int .i64 n,.slice (some ⟨b,off,none⟩) len cap] 24)).alloc (.cells #[.int .i64 0,.int .i64 0] 44)) wr∧w.heap.size+1+1<wr.heap.size)
  (fun i _=>len - (intOf i).toNat)
 case atStart=>
  refine⟨0,Nat.zero_le _,rfl,fun j hj=>by omega,⟨0,by simp,.map [],?_,fun _ _ _ _=>rfl⟩,?_,by simp⟩
  ·have:=World.ownsMap_made (H:=Unit) ((w.alloc (.cells #[.int .i64 n,.slice (some ⟨b,off,none⟩) len cap] 24)).alloc (.cells #[.int .i64 0,.int .i64 0] 44)) Try.prog 114 (plainElem Try.prog 3)
   simpa using this
  ·exact(Below.refl _ _).alloc (by simp) _
 case round=>
  obtain⟨k,hk,rfl,hpre,hmap,hnx,hs2⟩:=hrel
  have hs0:w.heap.size<wr.heap.size:=by omega
  have hs1:w.heap.size+1<wr.heap.size:=by omega
  obtain⟨c0,c1,c2,c3,f2,f3,hold⟩:=two_boxes hnx
  by_cases hlt:k<len
  ·obtain⟨l0,l1,l2⟩:=hl k (by omega)
   rw[←hold _ _ hbl] at l0 l1 l2
   obtain⟨x,hx⟩:∃x,x=ls.getD k lk0:=⟨_,rfl⟩
   rw[←hx] at l0 l1 l2
   have HX:Hid (x=ls.getD k lk0):=hx
   have hbr:b<wr.heap.size:=by omega
   clear hold hx
   by_cases he:wlink n x.a x.b x.c=0
   ·have hw:=wlink_zero he
    have HE:Hid (wlink n x.a x.b x.c=0):=he
    have ia:I64 x.a:=i64_small (by omega) (by omega)
    have ib:I64 x.b:=i64_small (by omega) (by omega)
    have ic:I64 x.c:=i64_small (by omega) (by omega)
    cases hj:anyJ (ls.take k) x.a x.b
    ·have hc0:=cost_none hj
     go_wp2_with fail
     refine(wrongLink_any _ _ _ _ _ _ _ _).mono ?_;rintro e w1 ⟨rfl,hb1⟩;obtain⟨q1,g1⟩:=hb1.cells
     have hz:wr.heap.size<w1.heap.size:=by have:=hb1.size;simp at this;omega
     go_wp2_with fail
     refine(joining_any _ _ _).mono ?_;rintro e w2 ⟨rfl,hb2⟩;obtain⟨q2,g2⟩:=hb2.cells
     have hz2:wr.heap.size<w2.heap.size:=by have:=hb2.size;omega
     have hm2:CostMap w2 (w.heap.size+1+1) (ls.take k):=(hmap.ext (((Ext.refl wr).alloc _).trans hb1)).ext hb2
     have hrun:=hm2.look ia ib
     rw[hc0] at hrun
     go_wp2_with fail
     have d2:w2.cell? ⟨wr.heap.size,2,none⟩=some (.int .i64 x.c):=by simp[q2,q1,hz,go_sem]
     go_region_with (go_at_call 50;refine(joining_any _ _ _).mono ?_;rintro e w3 ⟨rfl,hb3⟩;have d3:=(hb3.cells.1 wr.heap.size 2 hz2).trans d2;obtain⟨w4,hrun4,hm4,hg4⟩:=(hm2.ext ((Ext.refl w2).drew.trans hb3)).put x ia ib ic (by unfold maxLen;simp;omega) hj)
     all_goals
      go_wp2
      go_roundw
      case rel=>
       have he3:=((((Ext.refl wr).alloc _).trans hb1).trans hb2).drew.trans hb3
       have hz3:=he3.size
       have hz4:=hg4.size
       refine⟨k+1,by omega,by go_num,fun j hj'=>?_,by rw[take_snoc HX.out (by omega)];exact hm4,below_grown (below_ext hnx he3 (by omega)) hg4 (by omega) (by omega),by omega⟩
       by_cases e:j=k
       ·subst e;exact ewl_ok HX.out HE.out hj
       ·exact hpre j (by omega)
      case measure=>simp[intOf];omega
    ·have hc1:0<cost (ls.take k) x.a x.b:=by have:=cost_some (pre_pos (by omega) hpre) hj;omega
     go_wp2_with fail
     refine(wrongLink_any _ _ _ _ _ _ _ _).mono ?_;rintro e w1 ⟨rfl,hb1⟩;obtain⟨q1,g1⟩:=hb1.cells
     have hz:wr.heap.size<w1.heap.size:=by have:=hb1.size;simp at this;omega
     go_wp2_with fail
     refine(joining_any _ _ _).mono ?_;rintro e w2 ⟨rfl,hb2⟩;obtain⟨q2,g2⟩:=hb2.cells
     have hz2:wr.heap.size<w2.heap.size:=by have:=hb2.size;omega
     have hm2:CostMap w2 (w.heap.size+1+1) (ls.take k):=(hmap.ext (((Ext.refl wr).alloc _).trans hb1)).ext hb2
     have hrun:=hm2.look ia ib
     have hzz:w.heap.size+1<w1.heap.size:=by omega
     have hzz2:w.heap.size+1<w2.heap.size:=by omega
     go_wp2
     have hfin:wrong n ls=(7,(k:Int)):=by
      have e1:=ewl_dup HX.out HE.out hj
      rw[wrong_bad (by rw[hlen];exact hm) (by omega) hpre (by rw[e1];decide),e1]
     have d0:=(q2 _ 0 hzz).trans ((q1 _ 0 (by simp;omega)).trans ((World.cell?_alloc_past _ _ _ hs1).trans c2))
     have d1:=(q2 _ 1 hzz).trans ((q1 _ 1 (by simp;omega)).trans ((World.cell?_alloc_past _ _ _ hs1).trans c3))
     refine bodyPost_ret (v:=.tuple #[.map none,.agg #[.int .i64 7,.int .i64 k]]) (by simp[results,Try.results48,go_sem,d0,d1]) rfl ⟨?_,Or.inr ⟨by rw[hfin];simp,by rw[hfin]⟩⟩
     exact((((((ext_boxes hnx).alloc _).trans hb1).trans hb2).setCell (by simp) _).setCell (by simp) _)
   ·go_wp2_with fail
    refine(wrongLink_any _ _ _ _ _ _ _ _).mono ?_;rintro e w1 ⟨rfl,hb1⟩;obtain⟨q1,g1⟩:=hb1.cells
    have he':(wlink n x.a x.b x.c == 0)=false:=by simpa using he
    have hz:w.heap.size+1<w1.heap.size:=by have:=hb1.size;simp at this;omega
    go_wp2
    have hfin:wrong n ls=(wlink n x.a x.b x.c,(k:Int)):=by
     have e1:=ewl_link HX.out he
     rw[wrong_bad (by rw[hlen];exact hm) (by omega) hpre (by rw[e1];exact he),e1]
    have d0:=(q1 _ 0 (by simp;omega)).trans ((World.cell?_alloc_past _ _ _ hs1).trans c2)
    have d1:=(q1 _ 1 (by simp;omega)).trans ((World.cell?_alloc_past _ _ _ hs1).trans c3)
    refine bodyPost_ret (v:=.tuple #[.map none,.agg #[.int .i64 (wlink n x.a x.b x.c),.int .i64 k]]) (by simp[results,Try.results48,go_sem,d0,d1]) rfl ⟨?_,Or.inr ⟨by rw[hfin];exact he,by rw[hfin]⟩⟩
    exact(((((ext_boxes hnx).alloc _).trans hb1).setCell (by simp) _).setCell (by simp) _)
  ·go_wp2
   have hkl:k=ls.length:=by omega
   have hfin:wrong n ls=(0,0):=wrong_good (by rw[hlen];exact hm) (fun j hj=>hpre j (by omega))
   rw[hkl,List.take_length] at hmap
   refine bodyPost_ret (v:=.tuple #[.map (some (w.heap.size+1+1)),.agg #[.int .i64 0,.int .i64 0]]) (by simp[results,Try.results48,go_sem,c2,c3]) rfl ⟨?_,Or.inl ⟨hfin,_,rfl,by omega,?_⟩⟩
   ·exact(((ext_boxes hnx).setCell (by simp) _).setCell (by simp) _)
   ·exact(hmap.setCell (by simp) _).setCell (by simp) _
end Go.Proofs.Ytolclgbpjiokfaa
namespace Go.Proofs.Ytolclgbpjiokfaa
open Go.RowKit Go.Maps Stw
set_option maxHeartbeats 1000000 in
theorem read_none (n:Int) (ao:Option Addr) (cap:Nat) (w:World) (hm:many n 0=false):
 Calls Try.prog 48 #[.agg #[.int .i64 n,.slice ao 0 cap]] w fun e w'=>Ext w w'∧∃m,e=.returned (.tuple #[.map (some m),.agg #[.int .i64 0,.int .i64 0]])∧w.heap.size≤m∧CostMap w' m []:=by
 simp only[many,decide_eq_false_iff_not] at hm
 have h1:¬n<1:=by omega
 have h2:¬8<n:=by omega
 clear hm
 have hmm:=@run_makeMap Try.prog
 go_enter Try.func48,Try.ntmps48
 go_wp2
 refine wp_loop_rounds 1 ?_
 rw[rounds_succ]
 go_wp2
 have hown:=World.ownsMap_made (H:=Unit) ((w.alloc (.cells #[.int .i64 n,.slice ao 0 cap] 24)).alloc (.cells #[.int .i64 0,.int .i64 0] 44)) Try.prog 114 (plainElem Try.prog 3)
 have hmap:CostMap (((w.alloc (.cells #[.int .i64 n,.slice ao 0 cap] 24)).alloc (.cells #[.int .i64 0,.int .i64 0] 44)).alloc (.map #[] 0)) (w.heap.size+1+1) []:=⟨0,by simp,.map [],by simpa using hown,fun _ _ _ _=>rfl⟩
 refine bodyPost_ret (v:=.tuple #[.map (some (w.heap.size+1+1)),.agg #[.int .i64 0,.int .i64 0]]) (by simp[results,Try.results48,go_sem]) rfl ⟨?_,_,rfl,by omega,?_⟩
 ·exact((((Ext.refl w).alloc _).alloc _).alloc _)
 ·exact hmap
theorem read_any (n:Int) (ao:Option Addr) (len cap:Nat) (ls:List Lk) (w:World) (hlen:ls.length=len) (hl:NetAt w ao ls) (hx:len≤9223372036854775807):
 Calls Try.prog 48 #[.agg #[.int .i64 n,.slice ao len cap]] w fun e w'=>Ext w w'∧((wrong n ls=(0,0)∧∃m,e=.returned (.tuple #[.map (some m),.agg #[.int .i64 0,.int .i64 0]])∧w.heap.size≤m∧CostMap w' m ls)∨
  ((wrong n ls).1≠0∧e=.returned (.tuple #[.map none,.agg #[.int .i64 (wrong n ls).1,.int .i64 (wrong n ls).2]]))):=by
 cases hm:many n len
 ·rcases hl with rfl | ⟨b,off,rfl,hb,hl⟩
  ·subst hlen
   refine(read_none n ao cap w hm).mono ?_
   rintro e w' ⟨h1,m,h2,h3,h4⟩
   exact⟨h1,Or.inl ⟨wrong_good hm (fun j hj=>by simp at hj),m,h2,h3,h4⟩⟩
  ·exact read_some n b off len cap ls w hm hlen hl hb
 ·refine(read_many n ao len cap w hm hx).mono ?_
  rintro e w' ⟨rfl,h1⟩
  have:=wrong_many (n:=n) (ls:=ls) (by rw[hlen];exact hm)
  exact⟨h1,Or.inr ⟨by rw[this];simp,by rw[this]⟩⟩
theorem read_fault (n:Int) (ao:Option Addr) (len cap:Nat) (ls:List Lk) (w:World) (hlen:ls.length=len) (hl:NetAt w ao ls) (hx:len≤9223372036854775807):
 Calls Try.prog 48 #[.agg #[.int .i64 n,.slice ao len cap]] w fun e w'=>Ext w w'∧∃mo,e=.returned (.tuple #[.map mo,.agg #[.int .i64 (wrong n ls).1,.int .i64 (wrong n ls).2]]):=by
 refine(read_any n ao len cap ls w hlen hl hx).mono ?_
 rintro e w' ⟨h0,⟨h1,m,h2,_⟩ | ⟨_,h2⟩⟩
 ·exact⟨h0,_,by rw[h1];exact h2⟩
 ·exact⟨h0,_,h2⟩
set_option maxHeartbeats 1000000 in
theorem Wrong_any (n:Int) (ao:Option Addr) (len cap:Nat) (ls:List Lk) (w:World) (hlen:ls.length=len) (hl:NetAt w ao ls) (hx:len≤9223372036854775807):
 Calls Try.prog 37 #[.agg #[.int .i64 n,.slice ao len cap]] w fun e w'=>e=.returned (.agg #[.int .i64 (wrong n ls).1,.int .i64 (wrong n ls).2])∧Ext w w':=by
 go_enter Try.func37,Try.ntmps37
 go_wp2_with fail
 refine(read_fault n ao len cap ls _ hlen (hl.ext (((Ext.refl w).alloc _).alloc _)) hx).mono ?_
 rintro e w1 ⟨hb1,mo,rfl⟩
 obtain⟨q1,g1⟩:=hb1.cells
 have hz:w.heap.size+1<w1.heap.size:=by have:=hb1.size;simp at this;omega
 have d0:=q1 (w.heap.size+1) 0 (by simp)
 have d1:=q1 (w.heap.size+1) 1 (by simp)
 have e1:(w1.frozen? ⟨w.heap.size+1,0,none⟩)=false:=(g1 (w.heap.size+1) 0 (by simp)).trans (by simp)
 have e2:(w1.frozen? ⟨w.heap.size+1,1,none⟩)=false:=(g1 (w.heap.size+1) 1 (by simp)).trans (by simp)
 simp[go_sem] at d0 d1
 clear q1 g1
 go_wp2
 exact bodyPost_ret (v:=.agg #[.int .i64 (wrong n ls).1,.int .i64 (wrong n ls).2]) (by simp[results,Try.results37,go_sem,d0,d1,hz]) rfl ⟨rfl,((((((Ext.refl w).alloc _).alloc _).trans hb1).setCell (by simp) _).setCell (by simp) _).alloc _⟩
set_option maxHeartbeats 1000000 in
theorem Cost_any (n a b:Int) (ao:Option Addr) (len cap:Nat) (ls:List Lk) (w:World) (hlen:ls.length=len) (hl:NetAt w ao ls) (hx:len≤9223372036854775807) (ia:I64 a) (ib:I64 b) (hr:wrong n ls=(0,0)):
 Calls Try.prog 61 #[.agg #[.int .i64 n,.slice ao len cap],.int .i64 a,.int .i64 b] w fun e w'=>e=.returned (.int .i64 (cost ls a b))∧Ext w w':=by
 have HR:Hid (wrong n ls=(0,0)):=hr
 clear hr
 go_enter Try.func61,Try.ntmps61
 go_wp2_with fail
 refine(read_any n ao len cap ls _ hlen (hl.ext ((Ext.refl w).alloc _)) hx).mono ?_
 rintro e w1 ⟨hb1,h⟩
 rcases h with⟨hw,m,rfl,hm,hmap⟩ | ⟨hw,rfl⟩
 ·clear hw
  go_wp2_with fail
  refine(joining_any _ _ _).mono ?_;rintro e w2 ⟨rfl,hb2⟩
  have hm2:=(hmap.ext ((Ext.refl w1).alloc _)).ext hb2
  have hrun:=hm2.look ia ib
  go_wp2
  go_ret
  exact⟨rfl,(((((Ext.refl w).alloc _).trans hb1).alloc _).trans hb2)⟩
 ·exact absurd (by rw[HR.out]) hw
end Go.Proofs.Ytolclgbpjiokfaa
