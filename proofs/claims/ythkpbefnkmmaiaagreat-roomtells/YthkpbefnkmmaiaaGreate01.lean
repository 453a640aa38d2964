import Derived.Lib.QuietBelow
import Derived.Deep.OwnRows
import Derived.Test.YthkpbefnkmmaiaaGreatRows
import Derived.WalkSpells
import Derived.WalkLawsBesides
import Derived.BigQuiet
import Derived.Deep.LoopGhost
import Derived.Deep.AppendLies
import Derived.Laws.AppendOwnNone
import Derived.Lib.SmallJoins
import Derived.Lib.Walk
import Derived.Deep.RegionLaw
set_option maxRecDepth 100000
set_option maxHeartbeats 1000000
open Go Go.RowKit Go.Deep
theorem Qy{α:Sort _}(a:α):∃x,x=a:=⟨a,rfl⟩
abbrev cl (V:World) (b i:Nat) (v:Value):Prop:=V.cell? ⟨b,i,none⟩=some v
variable {α:Type _} {i:Nat}
theorem Zt{l:List α}{a:α}:l.getD i a=l[i]?.getD a:=List.getD_eq_getElem?_getD
variable {m k:Nat}
theorem Q5{n:Nat}(h:n<m)(h':m<=k):n<k:=Nat.lt_of_lt_of_le h h'
theorem Ql(n:Nat):n<=n:=Nat.le_refl n
theorem Zu(n:Nat):0<=n:=Nat.zero_le n
theorem ltr{n:Nat}(h:n<=m)(h':m<=k):n<=k:=Nat.le_trans h h'
variable {w:World} {a:Addr}
theorem cob{w':World}(h:w'.heap[a.block]? =w.heap[a.block]?):w'.cell? a=w.cell? a:=World.cell?_of_block h
theorem lap{l r:List α}:(l++r).length=l.length+r.length:=List.length_append
theorem asi{i:Nat}{b:α}{xs:Array α}:xs[i]? =some b↔∃h:i<xs.size,xs[i]=b:=Array.getElem?_eq_some_iff
variable {p:Prop}
theorem dtt[Decidable p](h:p):decide p=true:=decide_eq_true h
theorem dff[Decidable p](h:¬p):decide p=false:=decide_eq_false h
theorem sia(l:List α)(i:Nat)(a:α):l.toArray.setIfInBounds i a=(l.set i a).toArray:=List.setIfInBounds_toArray l i a
theorem scz{x:α}{xs:List α}{a:α}:(x::xs).set 0 a=a::xs:=List.set_cons_zero
theorem scs{x:α}{xs:List α}{a:α}:(x::xs).set (i+1) a=x::xs.set i a:=List.set_cons_succ
theorem Zm(w:World)(a:Addr)(u:Value)(k:Nat)(h:k≠a.block):(w.setCell a u).heap[k]? =w.heap[k]?:=blk_setCell_other w a u k h
theorem bal(w:World)(o:Obj)(k:Nat)(h:k<w.heap.size):(w.alloc o).heap[k]? =w.heap[k]?:=blk_alloc_lt w o k h
theorem Zj{b:Nat}{t:TypeId}{n:Nat}{f:Nat->Value}(h:w.rowIs b t n f)(hi:i<n):w.cell? ⟨b,i,none⟩=some (f i):=h.cell hi
theorem clr{v:Value}(h:w.cell? a=some v)(d:Nat)(os:Array Obj):(Go.Sort.grow (redrawn w d) os).cell? a=some v:=cell_regrown h d os
theorem brg(w:World)(d:Nat)(os:Array Obj):Below w.heap.size w (Go.Sort.grow (redrawn w d) os):=below_regrown w d os
variable {P:Program}
theorem qb{id:Nat}{Q:Exit->Act->World->Prop}{a:Act}{l:List Oper}(h:wpQuiet P l.toArray (fun w'=>∃p:Regrown,w'=Go.Sort.grow (redrawn w p.d) p.os) (fun a'=>∀w':World,(∃p:Regrown,w'=Go.Sort.grow (redrawn w p.d) p.os)->Q .normal a' w') l a)(h1:P.follows .mixedOrders=true:=by kernel_rfl)(h2:Region.lexB .any l.toArray=true:=by kernel_rfl):(Code.region id l.toArray true).wp P Q a w:=wp_region_quiet_below h1 h2 h
theorem qn{ops:Array Oper}{C:World->Prop}{R:Act->World->Prop}{a:Act}(h:∀d os,R a (Go.Sort.grow (redrawn w d) os)):wpQuiet P ops C (fun a'=>∀w':World,(∃p:Regrown,w'=Go.Sort.grow (redrawn w p.d) p.os)->R a' w') [] a:=
 wpQuiet_nil fun _ ⟨p,e⟩=>by rw[e];exact h p.d p.os
namespace Go.Proofs.YthkpbefnkmmaiaaGreat
open Go.Proofs.Tryz
section
open Go.RowKit
def Ext (w w':World):Prop:=Below w.heap.size w w'
theorem Ext.refl(w:World):Ext w w:=Below.refl _ _
theorem Ext.trans{a b c:World}(h:Ext a b)(k:Ext b c):Ext a c:=Below.trans h (Below.mono k (Below.size h))
theorem Ext.alloc{a b:World}(h:Ext a b)(o:Obj):Ext a (b.alloc o):=Below.alloc h (Below.size h) o
theorem Ext.setCell{a b:World}(h:Ext a b){p:Addr}(hp:a.heap.size<=p.block)(u:Value):Ext a (b.setCell p u):=Below.setCell h hp u
theorem Ext.drew{a b:World}(h:Ext a b):Ext a b.drew:=Below.drew h
theorem Ext.drewN{a b:World}(h:Ext a b)(n:Nat):Ext a (b.drewN n):=below_drewN h n
theorem Ext.size{a b:World}(h:Ext a b):a.heap.size<=b.heap.size:=Below.size h
theorem Ext.cells{W w1:World}(hb:Ext W w1):(∀b o,b<W.heap.size->w1.cell? ⟨b,o,none⟩=W.cell? ⟨b,o,none⟩)/\(∀b o,b<W.heap.size->w1.frozen? ⟨b,o,none⟩=W.frozen? ⟨b,o,none⟩):=
 ⟨fun b o h=>Below.cell hb (p:=⟨b,o,none⟩) h,fun b o h=>Below.frozen hb (p:=⟨b,o,none⟩) h⟩
def I64 (a:Int):Prop:=(Lit.int .i64 a).wf=true
theorem Zi{a:Int}(h0: -1000000<=a)(h1:a<=1000000):I64 a:=WalkArith.wf_i64 (by omega)
def Q9 (w:World) (b off:Nat) (ps:List Int):Prop:=∀k,k<ps.length->w.cell? ⟨b,off+k,none⟩=some (.int .i64 (ps.getD k 0))
def Qj (w:World) (ao:Option Addr) (ps:List Int):Prop:=ps=[]\/∃b off,ao=some ⟨b,off,none⟩/\b<w.heap.size/\Q9 w b off ps
variable {ao:Option Addr} {w:World}
theorem Qj.ext{w':World}{ps:List Int}(h:Qj w ao ps)(k:Ext w w'):Qj w' ao ps:=by
 rcases h with h | ⟨b,off,h1,h2,h3⟩
 ·exact Or.inl h
 ·exact Or.inr ⟨b,off,h1,Q5 h2 k.size,fun i hi=>(k.cells.1 _ _ h2).trans (h3 i hi)⟩
theorem Qj.get{ps:List Int}(h:Qj w ao ps){k:Nat}(hk:k<ps.length):∃g off,ao=some ⟨g,off,none⟩/\g<w.heap.size/\Q9 w g off ps:=by
 rcases h with h | h
 ·rw[h] at hk;simp at hk
 ·exact h
theorem Tryz.laidOut:laidOutB prog=true:=by kernel_rfl
theorem Tryz.own:ownKnob prog.godebug=none:=by kernel_rfl
theorem Tryz.cells3:prog.cellsOf 3=1:=by kernel_rfl
theorem Tryz.bytes3:prog.bytesOf 3=8:=by kernel_rfl
def NwA (B:Nat) (ao:Option Addr):Prop:=∀a,ao=some a->B<=a.block
theorem NwA.none(B:Nat):NwA B none:=fun a h=>by cases h
theorem NwA.mono{B B':Nat}(h:NwA B ao)(hb:B'<=B):NwA B' ao:=fun a e=>ltr hb (h a e)
theorem q2u{base:Nat}{e:TypeId}{size:Nat}{l c n:Nat}{xs:List Value}(h:w.ownsRow base e size (.slice ao l c) n xs):NwA base ao:=fun a e=>by
 subst e;exact(h.lt a.block rfl).1
end
end Go.Proofs.YthkpbefnkmmaiaaGreat
namespace Stw
structure Lk where
 a:Int
 b:Int
 c:Int
def lk0:Lk:=⟨0,0,0⟩
def swB (n s:Int):Bool:=decide (0<=s/\s<n)
variable {s:Int}
theorem q2s{n:Int}:swB n s=true↔0<=s/\s<n:=by simp[swB]
theorem q5e{n:Int}:swB n s=false↔¬(0<=s/\s<n):=by simp[swB]
def Zc (n a b c:Int):Int:=if swB n a=false\/swB n b=false then 6 else if a=b then 8 else if c<1\/1000<c then 3 else 0
variable {a b:Int}
theorem q5z{n c:Int}(h:Zc n a b c=0):0<=a/\a<n/\0<=b/\b<n/\a≠b/\1<=c/\c<=1000:=by
 unfold Zc at h
 split at h
 ·omega
 ·rename_i h1
  split at h
  ·omega
  ·split at h
   ·omega
   ·simp only[not_or,Bool.not_eq_false,q2s] at h1
    omega
def jn (l:Lk) (a b:Int):Bool:=(l.a == a && l.b == b) || (l.a == b && l.b == a)
variable {l:Lk}
theorem z4p:jn l a b=true↔(l.a=a/\l.b=b)\/(l.a=b/\l.b=a):=by simp[jn]
theorem jn_comm(l:Lk)(a b:Int):jn l a b=jn l b a:=by
 rw[Bool.eq_iff_iff,z4p,z4p];omega
theorem z4o:jn l a b=true↔min l.a l.b=min a b/\max l.a l.b=max a b:=by
 rw[z4p];omega
def cost:List Lk->Int->Int->Int
 | [],_,_=>0
 | l::r,a,b=>if jn l a b=true then l.c else cost r a b
theorem z5i:∀(ls:List Lk) (a b:Int),cost ls a b=cost ls b a
 | [],_,_=>rfl
 | l::r,a,b=>by simp only[cost,jn_comm l a b,z5i r a b]
def anyJ (ls:List Lk) (a b:Int):Bool:=ls.any fun m=>jn m a b
theorem q8r:∀{ls:List Lk} {a b:Int},anyJ ls a b=false->cost ls a b=0
 | [],_,_,_=>rfl
 | l::r,a,b,h=>by
  simp only[anyJ,List.any_cons,Bool.or_eq_false_iff] at h
  simp only[cost,h.1,Bool.false_eq_true,if_false]
  exact q8r h.2
theorem z5g:∀{ls:List Lk} {a b:Int},(∀l∈ls,1<=l.c)->anyJ ls a b=true->1<=cost ls a b
 | [],_,_,_,h=>by simp[anyJ] at h
 | l::r,a,b,hc,h=>by
  simp only[cost]
  by_cases hj:jn l a b=true
  ·rw[if_pos hj];exact hc l (by simp)
  ·rw[if_neg hj]
   refine z5g (fun m hm=>hc m (by simp[hm])) ?_
   simp only[anyJ,List.any_cons,Bool.or_eq_true] at h
   rcases h with h | h
   ·exact absurd h hj
   ·exact h
theorem z5h:∀(ls:List Lk) (l:Lk) (a b:Int),cost (ls++[l]) a b=if anyJ ls a b=true then cost ls a b else if jn l a b=true then l.c else 0
 | [],l,a,b=>by simp[cost,anyJ]
 | m::r,l,a,b=>by
  simp only[List.cons_append,cost,anyJ,List.any_cons]
  by_cases hj:jn m a b=true
  ·simp[hj]
  ·simp only[hj,Bool.false_eq_true,if_false,Bool.false_or]
   exact z5h r l a b
def ewl (n:Int) (ls:List Lk) (k:Nat):Int:=
 if Zc n (ls.getD k lk0).a (ls.getD k lk0).b (ls.getD k lk0).c=0 then(if anyJ (ls.take k) (ls.getD k lk0).a (ls.getD k lk0).b=true then 7 else 0) else Zc n (ls.getD k lk0).a (ls.getD k lk0).b (ls.getD k lk0).c
variable {ls:List Lk} {k:Nat}
theorem q4c{n:Int}(h:ewl n ls k=0):Zc n (ls.getD k lk0).a (ls.getD k lk0).b (ls.getD k lk0).c=0/\anyJ (ls.take k) (ls.getD k lk0).a (ls.getD k lk0).b=false:=by
 unfold ewl at h
 split at h
 ·rename_i h1
  refine⟨h1,?_⟩
  split at h
  ·omega
  ·rename_i h2;simpa using h2
 ·exact absurd h (by assumption)
def scan (f:Nat->Int):Nat->Nat->Int×Int
 | 0,_=>(0,0)
 | m+1,k=>if f k=0 then scan f m (k+1) else(f k,(k:Int))
theorem z3u(f:Nat->Int):∀(m k:Nat),(∀j,k<=j->j<k+m->f j=0)->scan f m k=(0,0)
 | 0,_,_=>rfl
 | m+1,k,h=>by
  simp only[scan,h k (Ql _) (by omega),if_true]
  exact z3u f m (k+1) (fun j h1 h2=>h j (by omega) (by omega))
theorem scan_bad(f:Nat->Int):∀(m k i:Nat),(∀j,k<=j->j<i->f j=0)->k<=i->i<k+m->f i≠0->scan f m k=(f i,(i:Int))
 | 0,_,_,_,_,_,_=>by omega
 | m+1,k,i,h,h1,h2,h3=>by
  by_cases e:k=i
  ·subst e;simp[scan,h3]
  ·simp only[scan,h k (Ql _) (by omega),if_true]
   exact scan_bad f m (k+1) i (fun j g1 g2=>h j (by omega) g2) (by omega) (by omega) h3
theorem scan_ok{f:Nat->Int}:∀{m k:Nat},(scan f m k).1=0->∀j,k<=j->j<k+m->f j=0
 | 0,_,_,_,_,_=>by omega
 | m+1,k,h,j,h1,h2=>by
  unfold scan at h
  split at h
  ·by_cases e:k=j
   ·subst e;assumption
   ·exact scan_ok h j (by omega) (by omega)
  ·exact absurd h (by assumption)
def many (n:Int) (len:Nat):Bool:=decide (n<1\/8<n\/28<len)
def Qc (n:Int) (ls:List Lk):Int×Int:=if many n ls.length=true then(5,0) else scan (ewl n ls) ls.length 0
theorem q2f{n:Int}(h:many n ls.length=true):Qc n ls=(5,0):=by simp[Qc,h]
theorem q2h{n:Int}(h:many n ls.length=false)(hk:k<ls.length)(h0:∀j,j<k->ewl n ls j=0)(h1:ewl n ls k≠0):Qc n ls=(ewl n ls k,(k:Int)):=by
 simp only[Qc,h,Bool.false_eq_true,if_false]
 exact scan_bad _ _ _ _ (fun j _ hj=>h0 j hj) (Zu _) (by omega) h1
theorem q2g{n:Int}(h:many n ls.length=false)(h0:∀j,j<ls.length->ewl n ls j=0):Qc n ls=(0,0):=by
 simp only[Qc,h,Bool.false_eq_true,if_false]
 exact z3u _ _ _ (fun j _ hj=>h0 j (by omega))
def q1z (n:Int) (ls:List Lk):Prop:=many n ls.length=false/\∀j,j<ls.length->ewl n ls j=0
theorem Zo{n:Int}(h:(Qc n ls).1=0):q1z n ls:=by
 unfold Qc at h
 split at h
 ·simp at h
 ·rename_i hm
  exact⟨by simpa using hm,fun j hj=>scan_ok h j (Zu _) (by omega)⟩
theorem q1z.Qc{n:Int}(h:q1z n ls):Qc n ls=(0,0):=q2g h.1 h.2
theorem q1z.bounds{n:Int}(h:q1z n ls):1<=n/\n<=8/\ls.length<=28:=by
 have:=h.1;simp only[many,decide_eq_false_iff_not] at this;omega
theorem q1z.mem{n:Int}(h:q1z n ls)(hl:l∈ls):0<=l.a/\l.a<n/\0<=l.b/\l.b<n/\l.a≠l.b/\1<=l.c/\l.c<=1000:=by
 obtain⟨i,hi,rfl⟩:=List.getElem_of_mem hl
 have:=q5z (q4c (h.2 i hi)).1
 simpa[hi] using this
theorem z0g{n:Int}:∀{ls:List Lk},(∀l∈ls,0<=l.a/\l.a<n/\0<=l.b/\l.b<n/\l.a≠l.b/\1<=l.c/\l.c<=1000)->∀a b,0<=cost ls a b/\cost ls a b<=1000/\(cost ls a b≠0->0<=a/\a<n/\0<=b/\b<n/\a≠b)
 | [],_,a,b=>by simp[cost]
 | l::r,h,a,b=>by
  simp only[cost]
  have h1:=h l (by simp)
  split
  ·rename_i hj
   rw[z4p] at hj
   refine⟨by omega,by omega,fun _=>by omega⟩
  ·exact z0g (fun m hm=>h m (by simp[hm])) a b
theorem q1z.cost{n:Int}(h:q1z n ls)(a b:Int):0<=Stw.cost ls a b/\Stw.cost ls a b<=1000/\(Stw.cost ls a b≠0->0<=a/\a<n/\0<=b/\b<n/\a≠b):=
 z0g (fun _ hl=>h.mem hl) a b
end Stw
namespace Go.Proofs.YthkpbefnkmmaiaaGreat
open Go.Proofs.Tryz
section
open Go.RowKit Stw
theorem Qv(n s:Int)(ao:Option Addr)(len cap:Nat)(w:World):
 Calls prog 59 #[.agg #[.int .i64 n,.slice ao len cap],.int .i64 s] w fun e w'=>e=.returned (.bool (swB n s))/\Ext w w':=by
 by_cases h0:0<=s
 ·go_enter func59,ntmps59
  go_wp2
  go_ret
  refine⟨?_,(Ext.refl w).alloc _⟩
  simp[swB,h0]
 ·go_enter func59,ntmps59
  go_wp2
  go_ret
  refine⟨?_,(Ext.refl w).alloc _⟩
  have:swB n s=false:=by rw[q5e];omega
  rw[this];rfl
theorem q2x(a b:Int)(w:World):
 Calls prog 39 #[.int .i64 a,.int .i64 b] w fun e w'=>e=.returned (.agg #[.int .i64 (min a b),.int .i64 (max a b)])/\Ext w w':=by
 rcases Int.lt_trichotomy a b with h | h | h
 ·have e1:min a b=a:=by omega
  have e2:max a b=b:=by omega
  rw[e1,e2];clear e1 e2
  go_enter func39,ntmps39
  go_wp2
  exact bodyPost_ret (v:=.agg #[.int .i64 a,.int .i64 b]) (by simp[results,results39,go_sem] <;> try omega) rfl ⟨rfl,(Ext.refl w).alloc _⟩
 ·subst h
  have e1:min a a=a:=by omega
  have e2:max a a=a:=by omega
  rw[e1,e2];clear e1 e2
  go_enter func39,ntmps39
  go_wp2
  exact bodyPost_ret (v:=.agg #[.int .i64 a,.int .i64 a]) (by simp[results,results39,go_sem] <;> try omega) rfl ⟨rfl,(Ext.refl w).alloc _⟩
 ·have e1:min a b=b:=by omega
  have e2:max a b=a:=by omega
  rw[e1,e2];clear e1 e2
  go_enter func39,ntmps39
  go_wp2
  exact bodyPost_ret (v:=.agg #[.int .i64 b,.int .i64 a]) (by simp[results,results39,go_sem] <;> try omega) rfl ⟨rfl,(Ext.refl w).alloc _⟩
variable {a b c:Int}
theorem wl8{n:Int}(hb:swB n b=true)(h:(a == b)=true):Ending.returned (.int .i64 8)=.returned (.int .i64 (Zc n a b c)):=by
 have:Zc n a b c=8:=by simp[Zc,hb,eq_of_beq h]
 rw[this]
theorem wl3{n:Int}(ha:swB n a=true)(hb:swB n b=true)(h:(a == b)=false)(hc:c<1\/1000<c):Ending.returned (.int .i64 3)=.returned (.int .i64 (Zc n a b c)):=by
 have:Zc n a b c=3:=by simp[Zc,ha,hb,ne_of_beq_false h,hc]
 rw[this]
theorem wl0{n:Int}(ha:swB n a=true)(hb:swB n b=true)(h:(a == b)=false)(hc:1<=c/\c<=1000):Ending.returned (.int .i64 0)=.returned (.int .i64 (Zc n a b c)):=by
 have:Zc n a b c=0:=by simp[Zc,ha,hb,ne_of_beq_false h];omega
 rw[this]
theorem q2q(n a b c:Int)(ao:Option Addr)(len cap:Nat)(w:World):
 Calls prog 38 #[.agg #[.int .i64 n,.slice ao len cap],.agg #[.int .i64 a,.int .i64 b,.int .i64 c]] w fun e w'=>e=.returned (.int .i64 (Zc n a b c))/\Ext w w':=by
 cases ha:swB n a
 ·have e0:Zc n a b c=6:=by simp[Zc,ha]
  rw[e0];clear e0
  go_enter func38,ntmps38
  go_wp2_with (go_at_call 59;refine(Qv _ _ _ _ _ _).mono ?_;rintro e w1 ⟨rfl,hb⟩;obtain⟨hc,hf⟩:=hb.cells)
  go_ret
  exact⟨rfl,(((Ext.refl w).alloc _).alloc _).trans hb⟩
 ·cases hb0:swB n b
  ·have e0:Zc n a b c=6:=by simp[Zc,hb0]
   rw[e0];clear e0
   go_enter func38,ntmps38
   go_wp2_with fail
   refine(Qv _ _ _ _ _ _).mono ?_;rintro e w1 ⟨rfl,hb1⟩;obtain⟨hc,hf⟩:=hb1.cells
   go_wp2_with fail
   refine(Qv _ _ _ _ _ _).mono ?_;rintro e w2 ⟨rfl,hb2⟩;obtain⟨hc2,hf2⟩:=hb2.cells
   go_wp2
   go_ret
   exact⟨rfl,((((Ext.refl w).alloc _).alloc _).trans hb1).trans hb2⟩
  ·go_enter func38,ntmps38
   go_wp2_with fail
   refine(Qv _ _ _ _ _ _).mono ?_;rintro e w1 ⟨rfl,hb1⟩;obtain⟨hc,hf⟩:=hb1.cells
   go_wp2_with fail
   refine(Qv _ _ _ _ _ _).mono ?_;rintro e w2 ⟨rfl,hb2⟩;obtain⟨hc2,hf2⟩:=hb2.cells
   have hz:w.heap.size+1<w1.heap.size:=by have:=hb1.size;simp at this;omega
   go_wp2
   all_goals
    go_ret
    exact⟨by first | exact wl8 hb0 ‹_› | exact wl3 ha hb0 ‹_› (Or.inl ‹_›) | exact wl3 ha hb0 ‹_› ‹_› | exact wl0 ha hb0 ‹_› ‹_› | exact wl3 ha hb0 ‹_› (Or.inr ‹_›) | exact wl0 ha hb0 ‹_› ⟨‹_›,‹_›⟩,((((Ext.refl w).alloc _).alloc _).trans hb1).trans hb2⟩
end
section
open Go.RowKit Go.Maps Stw
theorem Tryz.rowE:(107:TypeId)<prog.types.size:=of_decide_eq_true (by kernel_rfl)
theorem Tryz.wideE:(match prog.underlying 107 with | some (.array _ _) | some (.struct _)=>true | _=>false)=true:=by kernel_rfl
theorem lawE:Keyed prog 107:=Keyed.of_law (deep_law_laid Tryz.laidOut (m:=2) (by omega) Tryz.rowE (by kernel_rfl) Tryz.wideE)
theorem zero3(w:World):(zeroValue 3).run prog w=.ok (.int .i64 0) w:=by kernel_rfl
theorem Tryz.cellsE:prog.cellsOf 107=2:=by kernel_rfl
def kk (a b:Int):Lit:=.string (keyBytes [.int .i64 a,.int .i64 b])
theorem Tryz.sizeE:prog.types.size=(prog.types.size - 1)+1:=by kernel_rfl
theorem Tryz.keyE:prog.keyType 107=true:=by kernel_rfl
variable {a b:Int}
theorem z7m(ha:I64 a)(hb:I64 b)(m:Nat):prog.keyLits (m+1+1) 107 [.int .i64 a,.int .i64 b]=some [.int .i64 a,.int .i64 b]:=by
 unfold I64 at ha hb
 simp[Program.keyLits,underlying107,underlying3,Tryz.cellsE,Tryz.cells3,ha,hb]
theorem z4n(ha:I64 a)(hb:I64 b):prog.keyLits (prog.types.size+1) 107 [.int .i64 a,.int .i64 b]=some [.int .i64 a,.int .i64 b]:=by
 rw[Tryz.sizeE]
 exact z7m ha hb _
theorem q5k(ha:I64 a)(hb:I64 b):keyOf prog 107 (.agg #[.int .i64 a,.int .i64 b])=some (kk a b):=by
 have hf:(Value.agg #[.int .i64 a,.int .i64 b]).formed prog 107=true:=by simp[Value.formed,underlying107,Tryz.cellsE]
 unfold keyOf
 simp only[underlying107,Tryz.keyE,hf,Bool.and_self,if_true,Value.cells]
 rw[z4n ha hb]
 rfl
theorem kk_inj{c d:Int}(ha:I64 a)(hb:I64 b)(hc:I64 c)(hd:I64 d)(h:kk a b=kk c d):a=c/\b=d:=by
 have h1:=q5k ha hb
 have h2:=q5k hc hd
 rw[h] at h1
 have:=lawE.inj h1 h2
 simpa using this
def q5a (w:World) (b off:Nat) (ls:List Lk):Prop:=
 ∀k,k<ls.length->w.cell? ⟨b,off+k*3,none⟩=some (.int .i64 (ls.getD k lk0).a)/\w.cell? ⟨b,off+k*3+1,none⟩=some (.int .i64 (ls.getD k lk0).b)/\w.cell? ⟨b,off+k*3+2,none⟩=some (.int .i64 (ls.getD k lk0).c)
def Zg (w:World) (ao:Option Addr) (ls:List Lk):Prop:=
 ls=[]\/∃b off,ao=some ⟨b,off,none⟩/\b<w.heap.size/\q5a w b off ls
variable {ls:List Lk} {w w':World}
theorem q5a.ext{b off:Nat}(h:q5a w b off ls)(hb:b<w.heap.size)(k:Ext w w'):q5a w' b off ls:=by
 intro i hi
 obtain⟨h1,h2,h3⟩:=h i hi
 exact⟨(k.cells.1 _ _ hb).trans h1,(k.cells.1 _ _ hb).trans h2,(k.cells.1 _ _ hb).trans h3⟩
theorem Zg.ext{w w':World}{ao:Option Addr}{ls:List Lk}(h:Zg w ao ls)(k:Ext w w'):Zg w' ao ls:=by
 rcases h with h | ⟨b,off,h1,h2,h3⟩
 ·exact Or.inl h
 ·exact Or.inr ⟨b,off,h1,Q5 h2 k.size,h3.ext h2 k⟩
def q0e (w:World) (m:Nat) (ls:List Lk):Prop:=
 ∃n,n<=ls.length/\∃D:DataW Unit,w.ownsMap prog 107 (plainElem prog 3) m n D/\∀a b,I64 a->I64 b->D.atKey (kk (min a b) (max a b)) (.lit (.int .i64 0))=.lit (.int .i64 (cost ls a b))
variable {m:Nat}
theorem q0e.ext(h:q0e w m ls)(k:Ext w w'):q0e w' m ls:=by
 obtain⟨n,hn,D,hown,hD⟩:=h
 refine⟨n,hn,D,?_,hD⟩
 have hlt:=hown.lt
 obtain⟨es,cl,hb,r⟩:=hown
 exact⟨es,cl,by rw[<-hb];exact Below.block k m hlt,r⟩
theorem q0e.setCell{w:World}{m:Nat}{ls:List Lk}(h:q0e w m ls){a:Addr}(ha:m≠a.block)(u:Value):q0e (w.setCell a u) m ls:=by
 obtain⟨n,hn,D,hown,hD⟩:=h
 exact⟨n,hn,D,hown.setCell ha u,hD⟩
theorem q0e.look(h:q0e w m ls)(ha:I64 a)(hb:I64 b):
 (Instr.lookup 77 (.map (some m)) (.agg #[.int .i64 (min a b),.int .i64 (max a b)]) false).run prog w=.ok (.int .i64 (cost ls a b)) w:=by
 obtain⟨n,hn,D,hown,hD⟩:=h
 have ha':I64 (min a b):=by simp only[Int.min_def];split <;> assumption
 have hb':I64 (max a b):=by simp only[Int.max_def];split <;> assumption
 obtain⟨c,hrun,Q2,_⟩:=hown.lookup_int lawE underlying77 underlying3 (zero3 _) (q5k ha' hb')
 rw[hrun]
 rw[hD a b ha hb] at Q2
 simp only[DataW.lit.injEq,Lit.int.injEq,true_and] at Q2
 rw[Q2]
theorem q0e.put(h:q0e w m ls)(l:Lk)(ha:I64 l.a)(hb:I64 l.b)(hc:I64 l.c)(hs:ls.length<maxLen)(hj:anyJ ls l.a l.b=false):
 ∃w',(Instr.mapUpdate 77 (.map (some m)) (.agg #[.int .i64 (min l.a l.b),.int .i64 (max l.a l.b)]) (.int .i64 l.c)).run prog w=.ok () w'/\q0e w' m (ls++[l])/\w.grownBy w' (some m):=by
 obtain⟨n,hn,D,hown,hD⟩:=h
 have mm:∀{a b:Int},I64 a->I64 b->I64 (min a b):=by intro a b ha hb;simp only[Int.min_def];split <;> assumption
 have mx:∀{a b:Int},I64 a->I64 b->I64 (max a b):=by intro a b ha hb;simp only[Int.max_def];split <;> assumption
 obtain⟨w',hrun,hown',hg⟩:=hown.update lawE underlying77 (Nat.lt_of_le_of_lt hn hs) (q5k (mm ha hb) (mx ha hb)) (plainElem_int underlying3 hc)
 refine⟨w',hrun,⟨n+1,by simp;omega,_,hown',fun a b wa wb=>?_⟩,hg⟩
 rw[z5h]
 by_cases he:jn l a b=true
 ·have e1:=z4o.1 he
  rw[e1.1,e1.2]
  have:anyJ ls a b=false:=by
   rw[<-hj]
   unfold anyJ
   rcases z4p.1 he with⟨h1,h2⟩ | ⟨h1,h2⟩
   ·rw[h1,h2]
   ·rw[h1,h2];congr 1;funext x;exact jn_comm x a b
  simp only[this,he,Bool.false_eq_true,if_false,if_true]
  exact atKey_put_same hown.isMap (lawE.key (q5k (mm wa wb) (mx wa wb))) _ _
 ·have hne:kk (min a b) (max a b)≠kk (min l.a l.b) (max l.a l.b):=fun e=>by
   have:=kk_inj (mm wa wb) (mx wa wb) (mm ha hb) (mx ha hb) e
   exact he (z4o.2 ⟨this.1.symm,this.2.symm⟩)
  have e2:(if anyJ ls a b=true then cost ls a b else if jn l a b=true then l.c else 0)=cost ls a b:=by
   simp only[he,Bool.false_eq_true,if_false]
   split
   ·rfl
   ·rename_i h;exact(q8r (by simpa using h)).symm
  rw[e2, <-hD a b wa wb]
  exact atKey_put_other hne _ _
theorem z3g{wr:World}{v0 v1 u0 u1:Value}{T U:TypeId}(h:Below (w.heap.size+1+1) ((w.alloc (.cells #[v0,v1] T)).alloc (.cells #[u0,u1] U)) wr):
 wr.cell? ⟨w.heap.size,0,none⟩=some v0/\wr.cell? ⟨w.heap.size,1,none⟩=some v1/\wr.cell? ⟨w.heap.size+1,0,none⟩=some u0/\wr.cell? ⟨w.heap.size+1,1,none⟩=some u1/\
 wr.frozen? ⟨w.heap.size+1,0,none⟩=false/\wr.frozen? ⟨w.heap.size+1,1,none⟩=false/\(∀b o,b<w.heap.size->wr.cell? ⟨b,o,none⟩=w.cell? ⟨b,o,none⟩):=by
 have k0:w.heap.size<w.heap.size+1+1:=by omega
 have k1:w.heap.size+1<w.heap.size+1+1:=by omega
 refine⟨(h.cell k0).trans (by simp),(h.cell k0).trans (by simp),(h.cell k1).trans (by simp),(h.cell k1).trans (by simp),(h.frozen k1).trans (by simp),(h.frozen k1).trans (by simp),fun b o hb=>?_⟩
 exact(h.cell (p:=⟨b,o,none⟩) (show b<w.heap.size+1+1 by omega)).trans ((World.cell?_alloc_past _ _ _ (by simp;omega)).trans (World.cell?_alloc_past _ _ _ hb))
theorem q1i{wr:World}{o1 o2:Obj}(h:Below (w.heap.size+1+1) ((w.alloc o1).alloc o2) wr):Ext w wr:=
 Below.trans (((Ext.refl w).alloc o1).alloc o2) (h.mono (by omega))
variable {B:Nat} {c:World}
theorem q0n{a b:World}(h:Below B a b)(k:Ext b c)(hB:B<=b.heap.size):Below B a c:=h.trans (Below.mono k hB)
theorem z8e{a b:World}(h:Below B a b)(k:b.grownBy c (some m))(hB:B<=b.heap.size)(hm:B<=m):Below B a c:=h.grown k hB (fun j hj=>by cases hj;exact hm)
variable {k:Nat} {x:Lk}
theorem q7c{n:Int}(hx:x=ls.getD k lk0)(h:¬Zc n x.a x.b x.c=0):ewl n ls k=Zc n x.a x.b x.c:=by
 subst hx;simp only[ewl,h,if_false]
theorem ewl_dup{n:Int}(hx:x=ls.getD k lk0)(h:Zc n x.a x.b x.c=0)(hj:anyJ (ls.take k) x.a x.b=true):ewl n ls k=7:=by
 subst hx;simp only[ewl,h,hj,if_true]
theorem ewl_ok{n:Int}(hx:x=ls.getD k lk0)(h:Zc n x.a x.b x.c=0)(hj:anyJ (ls.take k) x.a x.b=false):ewl n ls k=0:=by
 subst hx;simp only[ewl,h,hj,if_true,Bool.false_eq_true,if_false]
theorem take_snoc(hx:x=ls.getD k lk0)(h:k<ls.length):ls.take (k+1)=ls.take k++[x]:=by
 subst hx
 rw[List.take_succ_eq_append_getElem h]
 simp[h]
theorem pre_pos{n:Int}{ls:List Lk}{k:Nat}(hk:k<=ls.length)(h:∀j,j<k->ewl n ls j=0):∀l∈ls.take k,1<=l.c:=by
 intro l hl
 obtain⟨i,hi,rfl⟩:=List.getElem_of_mem hl
 simp only[List.length_take] at hi
 have:=q5z (q4c (h i (by omega))).1
 rw[List.getElem_take]
 have e:ls.getD i lk0=ls[i]'(by omega):=by simp[show i<ls.length by omega]
 rw[e] at this
 omega
theorem read_many(n:Int)(ao:Option Addr)(len cap:Nat)(w:World)(hm:many n len=true)(hl:len<=9223372036854775807):
 Calls prog 21 #[.agg #[.int .i64 n,.slice ao len cap]] w fun e w'=>e=.returned (.tuple #[.map none,.agg #[.int .i64 5,.int .i64 0]])/\Ext w w':=by
 simp only[many,decide_eq_true_eq] at hm
 by_cases h1:n<1
 ·clear hm
  go_enter func21,ntmps21
  go_wp2
  exact bodyPost_ret (v:=.tuple #[.map none,.agg #[.int .i64 5,.int .i64 0]]) (by simp[results,results21,go_sem]) rfl ⟨rfl,((Ext.refl w).alloc _).alloc _⟩
 ·by_cases h2:8<n
  ·clear hm
   go_enter func21,ntmps21
   go_wp2
   exact bodyPost_ret (v:=.tuple #[.map none,.agg #[.int .i64 5,.int .i64 0]]) (by simp[results,results21,go_sem]) rfl ⟨rfl,((Ext.refl w).alloc _).alloc _⟩
  ·have h3:(28:Int)<(len:Int):=by omega
   clear hm
   go_enter func21,ntmps21
   go_wp2
   exact bodyPost_ret (v:=.tuple #[.map none,.agg #[.int .i64 5,.int .i64 0]]) (by simp[results,results21,go_sem]) rfl ⟨rfl,((Ext.refl w).alloc _).alloc _⟩
theorem read_some(n:Int)(b off len cap:Nat)(ls:List Lk)(w:World)(hm:many n len=false)(hlen:ls.length=len)(hl:q5a w b off ls)(hbl:b<w.heap.size):
 Calls prog 21 #[.agg #[.int .i64 n,.slice (some ⟨b,off,none⟩) len cap]] w fun e w'=>Ext w w'/\((Qc n ls=(0,0)/\∃m,e=.returned (.tuple #[.map (some m),.agg #[.int .i64 0,.int .i64 0]])/\w.heap.size<=m/\q0e w' m ls)\/
  ((Qc n ls).1≠0/\e=.returned (.tuple #[.map none,.agg #[.int .i64 (Qc n ls).1,.int .i64 (Qc n ls).2]]))):=by
 have hm':=hm
 simp only[many,decide_eq_false_iff_not] at hm'
 have h1:¬n<1:=by omega
 have h2:¬8<n:=by omega
 have h3:¬(28:Int)<(len:Int):=by omega
 clear hm'
 have hmm:=@run_makeMap prog
 go_enter func21,ntmps21
 go_wp2
 go_loopw [27] (fun i wr=>∃k:Nat,k<=len/\i=.int .i64 k/\(∀j,j<k->ewl n ls j=0)/\q0e wr (w.heap.size+1+1) (ls.take k)/\
  Below (w.heap.size+1+1) ((w.alloc (.cells #[.int .i64 n,.slice (some ⟨b,off,none⟩) len cap] 24)).alloc (.cells #[.int .i64 0,.int .i64 0] 43)) wr/\w.heap.size+1+1<wr.heap.size)
  (fun i _=>len - (intOf i).toNat)
 case atStart=>
  refine⟨0,Zu _,rfl,fun j hj=>by omega,⟨0,by simp,.map [],?_,fun _ _ _ _=>rfl⟩,?_,by simp⟩
  ·have:=World.ownsMap_made (H:=Unit) ((w.alloc (.cells #[.int .i64 n,.slice (some ⟨b,off,none⟩) len cap] 24)).alloc (.cells #[.int .i64 0,.int .i64 0] 43)) prog 107 (plainElem prog 3)
   simpa using this
  ·exact(Below.refl _ _).alloc (by simp) _
 case round=>
  obtain⟨k,hk,rfl,hpre,hmap,hnx,hs2⟩:=hrel
  have hs0:w.heap.size<wr.heap.size:=by omega
  have hs1:w.heap.size+1<wr.heap.size:=by omega
  obtain⟨c0,c1,c2,c3,f2,f3,hold⟩:=z3g hnx
  by_cases hlt:k<len
  ·obtain⟨l0,l1,l2⟩:=hl k (by omega)
   rw[<-hold _ _ hbl] at l0 l1 l2
   obtain⟨x,hx⟩:=Qy (ls.getD k lk0)
   rw[<-hx] at l0 l1 l2
   have HX:Hid (x=ls.getD k lk0):=hx
   have hbr:b<wr.heap.size:=by omega
   clear hold hx
   by_cases he:Zc n x.a x.b x.c=0
   ·have hw:=q5z he
    have HE:Hid (Zc n x.a x.b x.c=0):=he
    have ia:I64 x.a:=Zi (by omega) (by omega)
    have ib:I64 x.b:=Zi (by omega) (by omega)
    have ic:I64 x.c:=Zi (by omega) (by omega)
    cases hj:anyJ (ls.take k) x.a x.b
    ·have hc0:=q8r hj
     go_wp2_with fail
     refine(q2q _ _ _ _ _ _ _ _).mono ?_;rintro e w1 ⟨rfl,hb1⟩;obtain⟨q1,g1⟩:=hb1.cells
     have hz:wr.heap.size<w1.heap.size:=by have:=hb1.size;simp at this;omega
     go_wp2_with fail
     refine(q2x _ _ _).mono ?_;rintro e w2 ⟨rfl,hb2⟩;obtain⟨q2,g2⟩:=hb2.cells
     have hz2:wr.heap.size<w2.heap.size:=by have:=hb2.size;omega
     have hm2:q0e w2 (w.heap.size+1+1) (ls.take k):=(hmap.ext (((Ext.refl wr).alloc _).trans hb1)).ext hb2
     have hrun:=hm2.look ia ib
     rw[hc0] at hrun
     go_wp2_with fail
     have d2:w2.cell? ⟨wr.heap.size,2,none⟩=some (.int .i64 x.c):=by simp[q2,q1,hz,go_sem]
     go_region_with (go_at_call 39;refine(q2x _ _ _).mono ?_;rintro e w3 ⟨rfl,hb3⟩;have d3:=(hb3.cells.1 wr.heap.size 2 hz2).trans d2;obtain⟨w4,hrun4,hm4,hg4⟩:=(hm2.ext ((Ext.refl w2).drew.trans hb3)).put x ia ib ic (by unfold maxLen;simp;omega) hj)
     all_goals
      go_wp2
      go_roundw
      case rel=>
       have he3:=((((Ext.refl wr).alloc _).trans hb1).trans hb2).drew.trans hb3
       have hz3:=he3.size
       have hz4:=hg4.size
       refine⟨k+1,by omega,by go_num,fun j hj'=>?_,by rw[take_snoc HX.out (by omega)];exact hm4,z8e (q0n hnx he3 (by omega)) hg4 (by omega) (by omega),by omega⟩
       by_cases e:j=k
       ·subst e;exact ewl_ok HX.out HE.out hj
       ·exact hpre j (by omega)
      case measure=>simp[intOf];omega
    ·have hc1:0<cost (ls.take k) x.a x.b:=by have:=z5g (pre_pos (by omega) hpre) hj;omega
     go_wp2_with fail
     refine(q2q _ _ _ _ _ _ _ _).mono ?_;rintro e w1 ⟨rfl,hb1⟩;obtain⟨q1,g1⟩:=hb1.cells
     have hz:wr.heap.size<w1.heap.size:=by have:=hb1.size;simp at this;omega
     go_wp2_with fail
     refine(q2x _ _ _).mono ?_;rintro e w2 ⟨rfl,hb2⟩;obtain⟨q2,g2⟩:=hb2.cells
     have hz2:wr.heap.size<w2.heap.size:=by have:=hb2.size;omega
     have hm2:q0e w2 (w.heap.size+1+1) (ls.take k):=(hmap.ext (((Ext.refl wr).alloc _).trans hb1)).ext hb2
     have hrun:=hm2.look ia ib
     have hzz:w.heap.size+1<w1.heap.size:=by omega
     have hzz2:w.heap.size+1<w2.heap.size:=by omega
     go_wp2
     have hfin:Qc n ls=(7,(k:Int)):=by
      have e1:=ewl_dup HX.out HE.out hj
      rw[q2h (by rw[hlen];exact hm) (by omega) hpre (by rw[e1];decide),e1]
     have d0:=(q2 _ 0 hzz).trans ((q1 _ 0 (by simp;omega)).trans ((World.cell?_alloc_past _ _ _ hs1).trans c2))
     have d1:=(q2 _ 1 hzz).trans ((q1 _ 1 (by simp;omega)).trans ((World.cell?_alloc_past _ _ _ hs1).trans c3))
     refine bodyPost_ret (v:=.tuple #[.map none,.agg #[.int .i64 7,.int .i64 k]]) (by simp[results,results21,go_sem,d0,d1]) rfl ⟨?_,Or.inr ⟨by rw[hfin];simp,by rw[hfin]⟩⟩
     exact((((((q1i hnx).alloc _).trans hb1).trans hb2).setCell (by simp) _).setCell (by simp) _)
   ·go_wp2_with fail
    refine(q2q _ _ _ _ _ _ _ _).mono ?_;rintro e w1 ⟨rfl,hb1⟩;obtain⟨q1,g1⟩:=hb1.cells
    have he':(Zc n x.a x.b x.c == 0)=false:=by simpa using he
    have hz:w.heap.size+1<w1.heap.size:=by have:=hb1.size;simp at this;omega
    go_wp2
    have hfin:Qc n ls=(Zc n x.a x.b x.c,(k:Int)):=by
     have e1:=q7c HX.out he
     rw[q2h (by rw[hlen];exact hm) (by omega) hpre (by rw[e1];exact he),e1]
    have d0:=(q1 _ 0 (by simp;omega)).trans ((World.cell?_alloc_past _ _ _ hs1).trans c2)
    have d1:=(q1 _ 1 (by simp;omega)).trans ((World.cell?_alloc_past _ _ _ hs1).trans c3)
    refine bodyPost_ret (v:=.tuple #[.map none,.agg #[.int .i64 (Zc n x.a x.b x.c),.int .i64 k]]) (by simp[results,results21,go_sem,d0,d1]) rfl ⟨?_,Or.inr ⟨by rw[hfin];exact he,by rw[hfin]⟩⟩
    exact(((((q1i hnx).alloc _).trans hb1).setCell (by simp) _).setCell (by simp) _)
  ·go_wp2
   have hkl:k=ls.length:=by omega
   have hfin:Qc n ls=(0,0):=q2g (by rw[hlen];exact hm) (fun j hj=>hpre j (by omega))
   rw[hkl,List.take_length] at hmap
   refine bodyPost_ret (v:=.tuple #[.map (some (w.heap.size+1+1)),.agg #[.int .i64 0,.int .i64 0]]) (by simp[results,results21,go_sem,c2,c3]) rfl ⟨?_,Or.inl ⟨hfin,_,rfl,by omega,?_⟩⟩
   ·exact(((q1i hnx).setCell (by simp) _).setCell (by simp) _)
   ·exact(hmap.setCell (by simp) _).setCell (by simp) _
end
end Go.Proofs.YthkpbefnkmmaiaaGreat
