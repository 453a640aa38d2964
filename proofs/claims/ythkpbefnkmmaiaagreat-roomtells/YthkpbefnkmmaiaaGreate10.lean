import Derived.Test.YthkpbefnkmmaiaaGreate09
set_option maxRecDepth 100000
set_option maxHeartbeats 1600000
namespace Go.Proofs.YthkpbefnkmmaiaaGreat
open Go.Proofs.Tryz
namespace Ct
open Go.RowKit Go.Deep Stw Stp Tb Rul
def vd:Value:=.bool false
variable {i:Nat}
theorem q1m{l:List Value}{v:Value}(hi:i<l.length)(j:Nat):(if j=i then v else l.getD j vd)=(l.set i v).getD j vd:=by
 simp only[Zt,List.getElem?_set]
 by_cases h:j=i
 ·subst h;simp[hi]
 ·rw[if_neg h,if_neg (Ne.symm h)]
def RQ (w:World) (Q:Nat->Prop) (rs:List Ru) (v:Value):Prop:=∃o c,v=.slice o rs.length c/\(rs=[]\/∃b off,o=some ⟨b,off,none⟩/\Q b/\b<w.heap.size/\∀k,k<rs.length->w.cell? ⟨b,off+k*3,none⟩=some (.int .i64 (rs.getD k (0,0,0)).1)/\w.cell? ⟨b,off+k*3+1,none⟩=some (.int .i64 (rs.getD k (0,0,0)).2.1)/\w.cell? ⟨b,off+k*3+2,none⟩=some (.int .i64 (rs.getD k (0,0,0)).2.2))
variable {w w':World} {Q:Nat->Prop}
theorem RQ.mono{Q':Nat->Prop}{rs:List Ru}{v:Value}(h:RQ w Q rs v)(H:∀b,Q b->b<w.heap.size->Q' b/\b<w'.heap.size/\w'.heap[b]? =w.heap[b]?):RQ w' Q' rs v:=by
 obtain⟨o,c,h1,h2⟩:=h
 refine⟨o,c,h1,h2.imp id (fun⟨b,off,k1,k2,k3,k4⟩=>?_)⟩
 obtain⟨r1,r2,r3⟩:=H b k2 k3
 exact⟨b,off,k1,r1,r2,fun i hi=>⟨(cob (a:=⟨b,off+i*3,none⟩) r3).trans (k4 i hi).1,(cob (a:=⟨b,off+i*3+1,none⟩) r3).trans (k4 i hi).2.1,(cob (a:=⟨b,off+i*3+2,none⟩) r3).trans (k4 i hi).2.2⟩⟩
theorem RQ.rs{rs:List Ru}{v:Value}(h:RQ w Q rs v):∃o c,v=.slice o rs.length c/\Zl w o rs:=by
 obtain⟨o,c,h1,h2⟩:=h
 exact⟨o,c,h1,h2.imp id (fun⟨b,off,k1,_,k3,k4⟩=>⟨b,off,k1,k3,k4⟩)⟩
theorem RQ.nil(w:World)(Q:Nat->Prop):RQ w Q [] (.slice none 0 0):=⟨none,0,rfl,Or.inl rfl⟩
theorem LQ.nil(w:World)(Q:Nat->Prop):LQ w Q [] (.slice none 0 0):=⟨none,0,rfl,Or.inl rfl,Zu _⟩
def LTs (w:World) (Q:Nat->Prop):List (Nat×Wir.Od)->List Value->Prop
 | [],[]=>True
 | x::r,a::b::c::d::e::f::vs=>(a=.int .i64 (x.1:Int)/\b=.int .i64 x.2.k/\c=.int .i64 x.2.n/\d=.int .i64 x.2.v/\RQ w Q x.2.rs e/\LQ w Q x.2.fs f)/\LTs w Q r vs
 | _,_=>False
variable {vs:List Value}
theorem LTs.q8e(h:LTs w Q [] vs):vs=[]:=by
 cases vs with
 | nil=>rfl
 | cons=>simp[LTs] at h
variable {x:Nat×Wir.Od}
theorem LTs.q1w{r:List (Nat×Wir.Od)}(h:LTs w Q (x::r) vs):∃e f us,vs=.int .i64 (x.1:Int)::.int .i64 x.2.k::.int .i64 x.2.n::.int .i64 x.2.v::e::f::us/\RQ w Q x.2.rs e/\LQ w Q x.2.fs f/\LTs w Q r us:=by
 match vs,h with
 | a::b::c::d::e::f::us,h=>
  obtain⟨⟨rfl,rfl,rfl,rfl,h3,h4⟩,h5⟩:=h
  exact⟨e,f,us,rfl,h3,h4,h5⟩
 | [],h=>simp[LTs] at h
 | [_],h=>simp[LTs] at h
 | [_,_],h=>simp[LTs] at h
 | [_,_,_],h=>simp[LTs] at h
 | [_,_,_,_],h=>simp[LTs] at h
 | [_,_,_,_,_],h=>simp[LTs] at h
theorem LTs.mono{w w':World}{Q Q':Nat->Prop}(H:∀b,Q b->b<w.heap.size->Q' b/\b<w'.heap.size/\w'.heap[b]? =w.heap[b]?):∀{out:List (Nat×Wir.Od)} {vs:List Value},LTs w Q out vs->LTs w' Q' out vs
 | [],vs,h=>by rw[h.q8e];trivial
 | x::r,vs,h=>by
  obtain⟨e,f,us,rfl,h1,h2,h3⟩:=h.q1w
  exact⟨⟨rfl,rfl,rfl,rfl,h1.mono H,h2.mono H⟩,LTs.mono H h3⟩
theorem LTs.len{w:World}{Q:Nat->Prop}:∀{out:List (Nat×Wir.Od)} {vs:List Value},LTs w Q out vs->vs.length=out.length*6
 | [],vs,h=>by rw[h.q8e];rfl
 | x::r,vs,h=>by
  obtain⟨e,f,us,rfl,_,_,h3⟩:=h.q1w
  have:=LTs.len h3
  simp only[List.length_cons]
  omega
theorem LTs.snoc{w:World}{Q:Nat->Prop}{x:Nat×Wir.Od}{e f:Value}(ke:RQ w Q x.2.rs e)(kf:LQ w Q x.2.fs f):∀{out:List (Nat×Wir.Od)} {vs:List Value},LTs w Q out vs->LTs w Q (out++[x]) (vs++[.int .i64 (x.1:Int),.int .i64 x.2.k,.int .i64 x.2.n,.int .i64 x.2.v,e,f])
 | [],vs,h=>by rw[h.q8e];exact⟨⟨rfl,rfl,rfl,rfl,ke,kf⟩,trivial⟩
 | y::r,vs,h=>by
  obtain⟨c,d,us,rfl,h1,h2,h3⟩:=h.q1w
  exact⟨⟨rfl,rfl,rfl,rfl,h1,h2⟩,LTs.snoc ke kf h3⟩
theorem LTs.get{w:World}{Q:Nat->Prop}:∀{out:List (Nat×Wir.Od)} {vs:List Value} {i:Nat} (hi:i<out.length),LTs w Q out vs->∃e f,vs[i*6]? =some (.int .i64 ((out[i].1:Nat):Int))/\vs[i*6+1]? =some (.int .i64 out[i].2.k)/\vs[i*6+2]? =some (.int .i64 out[i].2.n)/\vs[i*6+3]? =some (.int .i64 out[i].2.v)/\vs[i*6+4]? =some e/\vs[i*6+5]? =some f/\RQ w Q out[i].2.rs e/\LQ w Q out[i].2.fs f
 | [],_,_,hi,_=>by simp at hi
 | x::r,vs,0,_,h=>by
  obtain⟨e,f,us,rfl,h1,h2,h3⟩:=h.q1w
  exact⟨e,f,rfl,rfl,rfl,rfl,rfl,rfl,h1,h2⟩
 | x::r,vs,i+1,hi,h=>by
  obtain⟨e,f,us,rfl,h1,h2,h3⟩:=h.q1w
  obtain⟨c',d',k0,k1,k2,k3,k4,k5,k6,k7⟩:=LTs.get (i:=i) (by simpa using hi) h3
  have e6:(i+1)*6=i*6+6:=by omega
  refine⟨c',d',?_,?_,?_,?_,?_,?_,k6,k7⟩
  ·rw[e6];exact k0
  ·rw[e6];exact k1
  ·rw[e6];exact k2
  ·rw[e6];exact k3
  ·rw[e6];exact k4
  ·rw[e6];exact k5
def Zw (w:World) (ao:Option Addr) (out:List (Nat×Wir.Od)):Prop:=
 out=[]\/∃b off,ao=some ⟨b,off,none⟩/\b<w.heap.size/\∀k (h:k<out.length),∃ro rc fo fc,w.cell? ⟨b,off+k*6,none⟩=some (.int .i64 ((out[k].1:Nat):Int))/\w.cell? ⟨b,off+k*6+1,none⟩=some (.int .i64 out[k].2.k)/\w.cell? ⟨b,off+k*6+2,none⟩=some (.int .i64 out[k].2.n)/\w.cell? ⟨b,off+k*6+3,none⟩=some (.int .i64 out[k].2.v)/\w.cell? ⟨b,off+k*6+4,none⟩=some (.slice ro out[k].2.rs.length rc)/\w.cell? ⟨b,off+k*6+5,none⟩=some (.slice fo out[k].2.fs.length fc)/\Zl w ro out[k].2.rs/\Qj w fo out[k].2.fs
theorem z0q{base n:Nat}{e:TypeId}{v:Value}{out:List (Nat×Wir.Od)}(h:w.ownsRow base e 6 v n vs)(hp:LTs w Q out vs):∃fo fc,v=.slice fo out.length fc/\Zw w fo out:=by
 have hl:=hp.len
 have hn:vs.length=n*6:=h.1
 rcases h.2 with⟨h1,h2⟩ | ⟨g,c,cur,hv,_⟩
 ·have:out=[]:=List.eq_nil_of_length_eq_zero (by omega)
  subst this
  exact⟨none,0,h1,Or.inl rfl⟩
 ·subst hv
  obtain rfl:n=out.length:=by omega
  refine⟨some ⟨g,0,none⟩,c,rfl,Or.inr ⟨g,0,rfl,(h.lt g rfl).2,fun i hi=>?_⟩⟩
  obtain⟨e',f',k0,k1,k2,k3,k4,k5,k6,k7⟩:=hp.get hi
  obtain⟨ro,rc,rfl,hr⟩:=k6.rs
  obtain⟨fo,fc,rfl,hf,_⟩:=k7.fv
  refine⟨ro,rc,fo,fc,?_,?_,?_,?_,?_,?_,hr,hf⟩
  ·rw[Nat.zero_add,h.cellAt _ (by omega)];exact k0
  ·rw[Nat.zero_add,h.cellAt _ (by omega)];exact k1
  ·rw[Nat.zero_add,h.cellAt _ (by omega)];exact k2
  ·rw[Nat.zero_add,h.cellAt _ (by omega)];exact k3
  ·rw[Nat.zero_add,h.cellAt _ (by omega)];exact k4
  ·rw[Nat.zero_add,h.cellAt _ (by omega)];exact k5
def chL (c:Co) (a:CA) (n:Nat) (wv tv:Value):List Value:=
 [.int .i64 c.st,.int .i64 c.now.v,.slice a.n.fo c.now.fs.length a.n.fc,.slice a.n.qo c.now.ps.length a.n.qc,.int .i64 c.Qd.v,.slice a.x.fo c.Qd.fs.length a.x.fc,.slice a.x.qo c.Qd.ps.length a.x.qc,.int .i64 c.num,wv,.int .i64 n,tv]
structure CSt (B:Nat) (X:Nat->Prop) (P:Nat) (w0 w:World) (g:Cg) (a:CA) (n:Nat) (wv tv:Value) (TV:List Value):Prop where
 row:w.rowIs P 139 11 (fun j=>(chL g.c a n wv tv).getD j vd)
 ownW:w.ownsRow w0.heap.size 3 1 wv g.c.Qg.length (g.c.Qg.map (Value.int .i64))
 ownT:w.ownsRow (P+1) 145 6 tv g.out.length TV
 wP:wv.ownBlock≠some P
 apart:∀b,wv.ownBlock=some b->tv.ownBlock≠some b
 lt:LTs w (fun b=>Qn P tv wv b/\X b) g.out TV
 bel:Ext w0 w
 hP:w0.heap.size<=P
 hB:B<=w0.heap.size
 hn:q3u B w0 g.c.now a.n
 hx:q3u B w0 g.c.Qd a.x
structure Kp (P:Nat) (w:World) (tv wv:Value) (w':World) (tv' wv':Value):Prop where
 size:w.heap.size<=w'.heap.size
 block:∀b,Qn P tv wv b->b<w.heap.size->Qn P tv' wv' b/\w'.heap[b]? =w.heap[b]?
variable {P:Nat} {tv wv:Value} {X:Nat->Prop}
theorem Kp.hx{tv' wv':Value}(k:Kp P w tv wv w' tv' wv'):∀b,(Qn P tv wv b/\X b)->b<w.heap.size->(Qn P tv' wv' b/\X b)/\b<w'.heap.size/\w'.heap[b]? =w.heap[b]?:=fun b hb hlt=>⟨⟨(k.block b hb.1 hlt).1,hb.2⟩,Q5 hlt k.size,(k.block b hb.1 hlt).2⟩
theorem Kp.ext(E:Ext w w'):Kp P w tv wv w' tv wv:=⟨E.size,fun b hb hlt=>⟨hb,Below.block E b hlt⟩⟩
theorem Kp.trans{P:Nat}{w w1 w2:World}{tv wv tv1 wv1 tv2 wv2:Value}(h:Kp P w tv wv w1 tv1 wv1)(k:Kp P w1 tv1 wv1 w2 tv2 wv2):Kp P w tv wv w2 tv2 wv2:=
 ⟨ltr h.size k.size,fun b hb hlt=>by
  obtain⟨q1,e1⟩:=h.block b hb hlt
  obtain⟨q2,e2⟩:=k.block b q1 (Q5 hlt h.size)
  exact⟨q2,e2.trans e1⟩⟩
theorem CSt.ext{B:Nat}{X:Nat->Prop}{P n:Nat}{w0 w w':World}{g:Cg}{a:CA}{wv tv:Value}{TV:List Value}(h:CSt B X P w0 w g a n wv tv TV)(E:Ext w w'):CSt B X P w0 w' g a n wv tv TV:=
 ⟨h.row.of_block (Below.block E _ h.row.lt),q0h h.ownW E,q0h h.ownT E,h.wP,h.apart,h.lt.mono (Kp.ext E).hx,h.bel.trans E,h.hP,h.hB,h.hn,h.hx⟩
variable {B:Nat} {w0:World} {g:Cg} {a:CA} {TV:List Value}
theorem CSt.put{n:Nat}{g':Cg}{a':CA}(h:CSt B X P w0 w g a n wv tv TV)(i:Nat)(hi:i<11)(v:Value)(hl:(chL g.c a n wv tv).set i v=chL g'.c a' n wv tv)(hw:g'.c.Qg=g.c.Qg)(ho:g'.out=g.out)(hn:q3u B w0 g'.c.now a'.n)(hx:q3u B w0 g'.c.Qd a'.x):CSt B X P w0 (w.setCell ⟨P,i,none⟩ v) g' a' n wv tv TV:=by
  have hP:=h.row.lt
  have H:∀b,b≠P->(w.setCell ⟨P,i,none⟩ v).heap[b]? =w.heap[b]?:=fun b hb=>Zm _ _ _ _ (by simpa using hb)
  refine⟨((h.row.set i v).congr (fun j _=>(q1m (by simp[chL];omega) j).trans (by rw[hl]))),?_,?_,h.wP,h.apart,?_,h.bel.setCell (by simpa using h.hP) _,h.hP,h.hB,hn,hx⟩
  ·rw[hw]
   refine⟨h.ownW.1,?_⟩
   rcases h.ownW.2 with h2 | ⟨b,cap,cur,h1,h2,h3,h4⟩
   ·exact Or.inl h2
   ·exact Or.inr ⟨b,cap,cur,h1,h2,(H b (fun e=>h.wP (by rw[h1,e];rfl))).trans h3,h4⟩
  ·rw[ho];exact ownsRow_setCell_below h.ownT (by simp) _
  ·rw[ho];exact h.lt.mono (fun b hb hlt=>⟨hb,by simpa using hlt,H b (by have:=hb.1.1;omega)⟩)
theorem CSt.kput{v:Value}:Kp P w tv wv (w.setCell ⟨P,i,none⟩ v) tv wv:=
 ⟨by simp,fun b hb _=>⟨hb,Zm _ _ _ _ (by have:=hb.1;simp;omega)⟩⟩
variable {g1 c:Nat} {o:Obj}
theorem CSt.pushW{n:Nat}{x:Int}(h:CSt B X P w0 w g a n wv tv TV)(hown:w'.ownsRow w0.heap.size 3 1 (.slice (some ⟨g1,0,none⟩) (g.c.Qg.length+1) c) (g.c.Qg.length+1) (g.c.Qg.map (Value.int .i64)++[.int .i64 x]))(hg:(w.alloc o).grownBy w' wv.ownBlock)(Q2:wv.ownBlock=some g1\/g1=w.heap.size+1):
  w'.cell? ⟨P,8,none⟩=some wv/\w'.frozen? ⟨P,8,none⟩=false/\CSt B X P w0 (w'.setCell ⟨P,8,none⟩ (.slice (some ⟨g1,0,none⟩) (g.c.Qg.length+1) c)) ⟨⟨g.c.st,g.c.now,g.c.Qd,g.c.num,g.c.Qg++[x]⟩,g.out⟩ a n (.slice (some ⟨g1,0,none⟩) (g.c.Qg.length+1) c) tv TV/\
  Kp P w tv wv (w'.setCell ⟨P,8,none⟩ (.slice (some ⟨g1,0,none⟩) (g.c.Qg.length+1) c)) tv (.slice (some ⟨g1,0,none⟩) (g.c.Qg.length+1) c)/\
  (∀b,b<w.heap.size->b≠P->wv.ownBlock≠some b->(w'.setCell ⟨P,8,none⟩ (.slice (some ⟨g1,0,none⟩) (g.c.Qg.length+1) c)).heap[b]? =w.heap[b]?):=by
  have hP:=h.row.lt
  have hs:=hg.size
  rw[World.size_alloc] at hs
  have hneP:some P≠wv.ownBlock:=fun e=>h.wP e.symm
  have hbP:w'.heap[P]? =w.heap[P]?:=(hg.block P (by simp;omega) hneP).trans (bal _ _ _ hP)
  have hr:=h.row.of_block hbP
  have hK:∀b,b<w.heap.size->b≠P->wv.ownBlock≠some b->(w'.setCell ⟨P,8,none⟩ (.slice (some ⟨g1,0,none⟩) (g.c.Qg.length+1) c)).heap[b]? =w.heap[b]?:=fun b hlt hb hne=>
   (Zm _ _ _ _ (by simpa using hb)).trans ((hg.block b (by simp;omega) (fun e=>hne e.symm)).trans (bal _ _ _ hlt))
  have gP:g1≠P:=fun e=>by
   rcases Q2 with k | k
   ·exact h.wP (by rw[k,e])
   ·omega
  have H:∀b,Qn P tv wv b->b<w.heap.size->Qn P tv (.slice (some ⟨g1,0,none⟩) (g.c.Qg.length+1) c) b/\b<(w'.setCell ⟨P,8,none⟩ (.slice (some ⟨g1,0,none⟩) (g.c.Qg.length+1) c)).heap.size/\(w'.setCell ⟨P,8,none⟩ (.slice (some ⟨g1,0,none⟩) (g.c.Qg.length+1) c)).heap[b]? =w.heap[b]?:=fun b hb hlt=>by
   have hb1:=hb.1
   refine⟨⟨hb.1,fun e=>?_,hb.2.2⟩,by simp;omega,hK b hlt (by omega) hb.2.1⟩
   have e':g1=b:=by simpa[Value.ownBlock] using e
   rcases Q2 with k | k
   ·exact hb.2.1 (by rw[k,e'])
   ·omega
  refine⟨hr.cell (i:=8) (by omega),hr.frozen 8,⟨((hr.set 8 _).congr (fun j _=>(q1m (by simp[chL]) j).trans rfl)),?_,?_,fun e=>gP (by simpa[Value.ownBlock] using e),fun b e=>?_,h.lt.mono (fun b hb hlt=>⟨⟨(H b hb.1 hlt).1,hb.2⟩,(H b hb.1 hlt).2⟩),?_,h.hP,h.hB,h.hn,h.hx⟩,⟨by simp;omega,fun b hb hlt=>⟨(H b hb hlt).1,(H b hb hlt).2.2⟩⟩,hK⟩
  ·have hb1:(w'.setCell ⟨P,8,none⟩ (.slice (some ⟨g1,0,none⟩) (g.c.Qg.length+1) c)).heap[g1]? =w'.heap[g1]?:=Zm _ _ _ _ (by simpa using gP)
   simp only[lap,List.length_cons,List.length_nil,List.map_append,List.map_cons,List.map_nil]
   refine⟨by simp,?_⟩
   rcases hown.2 with⟨h1,h2⟩ | ⟨b,cap,cur,e1,e2,e3,e4⟩
   ·cases h1
   ·cases e1
    exact Or.inr ⟨g1,c,cur,rfl,e2,hb1.trans e3,e4⟩
  ·refine ownsRow_setCell_below ((h.ownT.alloc o).kept hg ?_) (by simp) _
   cases hq:tv.ownBlock with
   | none=>exact Or.inl rfl
   | some b=>exact Or.inr (fun e=>h.apart b e.symm hq)
  ·have e':g1=b:=by simpa[Value.ownBlock] using e
   subst e'
   rcases Q2 with k | k
   ·exact h.apart g1 k
   ·intro hq;have:=(h.ownT.lt g1 hq).2;omega
  ·exact(Below.grown (h.bel.alloc o) hg (by have:=h.bel.size;simp;omega) (fun j hj=>(h.ownW.lt j hj).1)).setCell (by simpa using h.hP) _
theorem CSt.pushT{n:Nat}{rv fv:Value}(h:CSt B X P w0 w g a n wv tv TV)(kr:RQ w (fun b=>Qn P tv wv b/\X b) x.2.rs rv)(kf:LQ w (fun b=>Qn P tv wv b/\X b) x.2.fs fv)(hown:w'.ownsRow (P+1) 145 6 (.slice (some ⟨g1,0,none⟩) (g.out.length+1) c) (g.out.length+1) (TV++[.int .i64 (x.1:Int),.int .i64 x.2.k,.int .i64 x.2.n,.int .i64 x.2.v,rv,fv]))(hg:(w.alloc o).grownBy w' tv.ownBlock)(Q2:tv.ownBlock=some g1\/g1=w.heap.size+1):
  w'.cell? ⟨P,10,none⟩=some tv/\w'.frozen? ⟨P,10,none⟩=false/\CSt B X P w0 (w'.setCell ⟨P,10,none⟩ (.slice (some ⟨g1,0,none⟩) (g.out.length+1) c)) ⟨g.c,g.out++[x]⟩ a n wv (.slice (some ⟨g1,0,none⟩) (g.out.length+1) c) (TV++[.int .i64 (x.1:Int),.int .i64 x.2.k,.int .i64 x.2.n,.int .i64 x.2.v,rv,fv])/\
  Kp P w tv wv (w'.setCell ⟨P,10,none⟩ (.slice (some ⟨g1,0,none⟩) (g.out.length+1) c)) (.slice (some ⟨g1,0,none⟩) (g.out.length+1) c) wv:=by
  have hP:=h.row.lt
  have hs:=hg.size
  rw[World.size_alloc] at hs
  have hneP:some P≠tv.ownBlock:=fun e=>by have:=(h.ownT.lt P e.symm).1;omega
  have hge:P+1<=g1:=(hown.lt g1 rfl).1
  have hbP:w'.heap[P]? =w.heap[P]?:=(hg.block P (by simp;omega) hneP).trans (bal _ _ _ hP)
  have hr:=h.row.of_block hbP
  have H:∀b,Qn P tv wv b->b<w.heap.size->Qn P (.slice (some ⟨g1,0,none⟩) (g.out.length+1) c) wv b/\b<(w'.setCell ⟨P,10,none⟩ (.slice (some ⟨g1,0,none⟩) (g.out.length+1) c)).heap.size/\(w'.setCell ⟨P,10,none⟩ (.slice (some ⟨g1,0,none⟩) (g.out.length+1) c)).heap[b]? =w.heap[b]?:=fun b hb hlt=>by
   have hb1:=hb.1
   refine⟨⟨hb.1,hb.2.1,fun e=>?_⟩,by simp;omega,(Zm _ _ _ _ (by simp;omega)).trans ((hg.block b (by simp;omega) (fun e=>hb.2.2 e.symm)).trans (bal _ _ _ hlt))⟩
   have e':g1=b:=by simpa[Value.ownBlock] using e
   rcases Q2 with k | k
   ·exact hb.2.2 (by rw[k,e'])
   ·omega
  have HX:∀b,(Qn P tv wv b/\X b)->b<w.heap.size->(Qn P (.slice (some ⟨g1,0,none⟩) (g.out.length+1) c) wv b/\X b)/\b<(w'.setCell ⟨P,10,none⟩ (.slice (some ⟨g1,0,none⟩) (g.out.length+1) c)).heap.size/\(w'.setCell ⟨P,10,none⟩ (.slice (some ⟨g1,0,none⟩) (g.out.length+1) c)).heap[b]? =w.heap[b]?:=fun b hb hlt=>⟨⟨(H b hb.1 hlt).1,hb.2⟩,(H b hb.1 hlt).2⟩
  refine⟨hr.cell (i:=10) (by omega),hr.frozen 10,⟨((hr.set 10 _).congr (fun j _=>(q1m (by simp[chL]) j).trans rfl)),?_,?_,h.wP,fun b e hq=>?_,LTs.snoc (kr.mono HX) (kf.mono HX) (h.lt.mono HX),?_,h.hP,h.hB,h.hn,h.hx⟩,⟨by simp;omega,fun b hb hlt=>⟨(H b hb hlt).1,(H b hb hlt).2.2⟩⟩⟩
  ·have h1:=(h.ownW.alloc o).kept hg (by
    cases hq:wv.ownBlock with
    | none=>exact Or.inl rfl
    | some b=>exact Or.inr (fun e=>h.apart b hq e.symm))
   refine⟨h1.1,?_⟩
   rcases h1.2 with h2 | ⟨b,cap,cur,e1,e2,e3,e4⟩
   ·exact Or.inl h2
   ·exact Or.inr ⟨b,cap,cur,e1,e2,(Zm _ _ _ _ (by simp;exact fun e=>h.wP (by rw[e1,e];rfl))).trans e3,e4⟩
  ·simp only[lap,List.length_cons,List.length_nil]
   exact ownsRow_setCell_below hown (by simp) _
  ·have e':g1=b:=by simpa[Value.ownBlock] using hq
   subst e'
   rcases Q2 with k | k
   ·exact h.apart g1 e k
   ·have:=(h.ownW.lt g1 e).2;omega
  ·exact(Below.grown (h.bel.alloc o) hg (by have:=h.bel.size;simp;omega) (fun j hj=>by have:=(h.ownT.lt j hj).1;have:=h.hP;omega)).setCell (by simpa using h.hP) _
def StOut (Q:Nat->Prop) (o:Option Wir.Od) (e:Ending) (w':World):Prop:=∃(k v:Int) (ro fo:Option Addr) (rl rc fl fc:Nat),e=.returned (.tuple #[.agg #[.int .i64 k,.int .i64 0,.int .i64 v,.slice ro rl rc,.slice fo fl fc],.bool o.isSome])/\∀x,o=some x->k=x.k/\v=x.v/\RQ w' Q x.rs (.slice ro rl rc)/\LQ w' Q x.fs (.slice fo fl fc)
theorem one6s(a b c d:Int)(o o':Option Addr)(l c' l' c2:Nat):∀u∈[Value.int .i64 a,.int .i64 b,.int .i64 c,.int .i64 d,.slice o l c',.slice o' l' c2],u.oneCell'=true:=by
 intro u hu
 simp at hu
 rcases hu with rfl | rfl | rfl | rfl | rfl | rfl <;> rfl
theorem z1t(a:Int):∀u∈[Value.int .i64 a],u.oneCell'=true:=by intro u hu;simp at hu;subst hu;rfl
theorem infoT:(prog.info? 145).map (fun i=>(i.zero,i.size,i.bytes))=some (some (.agg #[.int .i64 0,.int .i64 0,.int .i64 0,.int .i64 0,.slice none 0 0,.slice none 0 0]),6,80):=by kernel_rfl
end Ct
namespace Tb
open Go.RowKit Go.Maps Stw Go.Deep Rul Go.Sort
def tot (ps:List (List Int)):Nat->Nat
 | 0=>0
 | k+1=>tot ps k+(ps.getD k []).length
theorem z0p{ps:List (List Int)}{j:Nat}:∀{k:Nat},j<=k->tot ps j<=tot ps k
 | 0,h=>by rw[show j=0 by omega];exact Ql _
 | k+1,h=>by
  rcases Nat.lt_or_ge j (k+1) with h1 | h1
  ·exact ltr (z0p (k:=k) (by omega)) (by rw[tot];omega)
  ·rw[show j=k+1 by omega];exact Ql _
theorem z1e{v s:Int}{ps:List (List Int)}:∀k,(rof v s ps k).length<=tot ps k
 | 0=>Ql _
 | k+1=>by
  have:=z1e (v:=v) (s:=s) (ps:=ps) k
  have:=z0v (v:=v) (f:=k) (s:=s) (path:=ps.getD k []) (ps.getD k []).length
  rw[rof,tot,lap];omega
theorem one3(a b c:Int):∀u∈[Value.int .i64 a,.int .i64 b,.int .i64 c],u.oneCell'=true:=by
 intro u hu;simp only[List.mem_cons,List.not_mem_nil,or_false] at hu;rcases hu with rfl | rfl | rfl <;> rfl
theorem infoS:(prog.info? 61).map (fun i=>(i.zero,i.size,i.bytes))=some (some (.slice none 0 0),1,24):=by kernel_rfl
theorem infoS':∃i,prog.info? 61=some i/\i.zero=some (.slice none 0 0)/\i.size=1/\i.bytes=24:=by
 have h:=infoS
 cases e:prog.info? 61 with
 | none=>rw[e] at h;simp at h
 | some i=>rw[e] at h;simp at h;exact⟨i,rfl,h.1,h.2.1,h.2.2⟩
theorem z7j(n:Nat)(hn:n<=1000)(W:World):(Instr.makeSlice 165 (.int .i64 n) (.int .i64 n)).run prog W=.ok (.slice (some ⟨W.heap.size,0,none⟩) n n) (W.alloc (.cells (madeCells #[.slice none 0 0] n) 61)):=by
 obtain⟨i,hi,h0,h1,h2⟩:=infoS'
 have:=run_make (P:=prog) W 165 61 i (.slice none 0 0) underlying165 hi h0 .i64 .i64 n n (by omega) (by omega) (by rw[h2];omega) (by omega)
 rw[h1] at this
 simpa[Value.cells] using this
theorem Of_any(v:Int)(fo qo:Option Addr)(fl fc ql qc n:Nat)(ps:List (List Int))(w:World)(hql:ps.length=ql)(hps:PsAt w qo ps)(hn:n<=1000)(hT:tot ps ps.length*24<=140737488351232)(hqx:ql<=4611686018427387904):
 Calls prog 84 #[.agg #[.int .i64 v,.slice fo fl fc,.slice qo ql qc],.int .i64 n] w fun e w'=>∃vs,e=.returned (.slice (some ⟨w.heap.size+1,0,none⟩) n n)/\TB w' (w.heap.size+1) n vs (fun s=>rof v s ps ql)/\Ext w w':=by
 obtain⟨i3',hi3,hz0,hz1,hz2⟩:=infoR'
 have hE0:Ext w (w.alloc (.cells #[.int .i64 v,.slice fo fl fc,.slice qo ql qc] 29)):=(Ext.refl w).alloc _
 have HB:Hid (∀W:World,Ext (w.alloc (.cells #[.int .i64 v,.slice fo fl fc,.slice qo ql qc] 29)) W->cl W w.heap.size 0 (.int .i64 v)/\cl W w.heap.size 2 (.slice qo ql qc)):=fun W h=>
  ⟨(h.cells.1 _ _ (by simp)).trans (by simp),(h.cells.1 _ _ (by simp)).trans (by simp)⟩
 have hT0:TB ((w.alloc (.cells #[.int .i64 v,.slice fo fl fc,.slice qo ql qc] 29)).alloc (.cells (madeCells #[.slice none 0 0] n) 61)) (w.heap.size+1) n (fun _=>.slice none 0 0) (fun s=>rof v s ps 0):=by
  refine⟨?_,fun s _=>RO.nil _ _,fun s t _ _ _ g h=>by cases h⟩
  have:=World.rowIs_made (w.alloc (.cells #[.int .i64 v,.slice fo fl fc,.slice qo ql qc] 29)) (.slice none 0 0) n 61
  simpa using this
 have HT0:Hid _:=hT0
 have HT:Hid _:=hT
 clear hT0 hT
 have hmk:=z7j n hn
 go_enter func84,ntmps84
 have i0:¬(n:Int)<0:=by omega
 have i1:¬(2147483647:Int)<(n:Int):=by omega
 go_wp2
 obtain⟨W1,hW1⟩:=Qy (w.alloc (.cells #[.int .i64 v,.slice fo fl fc,.slice qo ql qc] 29))
 have hW1s:W1.heap.size=w.heap.size+1:=by rw[hW1];simp
 rw[<-hW1] at HT0 HB hE0 ⊢
 clear hW1
 obtain⟨H,hH⟩:=Qy (w.heap.size+1)
 rw[<-hH] at HT0 hW1s ⊢
 have hH1:H<=w.heap.size+1:=by omega
 have hH2:w.heap.size+1<=H:=by omega
 have HH:Hid (H=w.heap.size+1):=hH
 have HW:Hid (W1.heap.size=H):=hW1s
 clear hH hW1s hmk i0 i1
 go_loopw [21] (fun iv wd=>∃(k:Nat) (vs:Nat->Value),k<=ql/\iv=.int .i64 k/\Hid (TB wd H n vs (fun s=>rof v s ps k))/\Ext W1 wd) (fun iv _=>ql - (intOf iv).toNat)
 case atStart=>exact⟨0,_,Zu _,rfl,HT0,(Ext.refl W1).alloc _⟩
 case round=>
  clear HT0
  obtain⟨k,vs,hk,rfl,HTB,hE⟩:=hrel
  by_cases hlt:k<ql
  ·have i1:(k:Int)<(ql:Int):=by omega
   obtain⟨b0,b2⟩:=HB.out wr hE
   have htk:tot ps k+(ps.getD k []).length<=tot ps ps.length:=by have:=z0p (ps:=ps) (j:=k+1) (k:=ps.length) (by omega);rwa [tot] at this
   rcases hps.ext hE0 with h0 | ⟨g,off,rfl,hg,hcs⟩
   ·exfalso;rw[h0] at hql;simp at hql;omega
   obtain⟨xo,xc,cx0,lx⟩:=hcs k (by omega)
   have cx:=(hE.cells.1 _ _ hg).trans cx0
   clear cx0
   obtain⟨path,hpath⟩:=Qy (ps.getD k [])
   rw[<-hpath] at cx lx htk
   have HP:Hid _:=hpath
   have hr1:Hid (∀s:Nat,s<n->rof v s ps (k+1)=rof v s ps k++stk v k s path path.length):=fun s _=>by show rof v s ps k++_=_;rw[hpath]
   clear hpath hcs
   obtain⟨L,hL⟩:=Qy (path.length)
   rw[<-hL] at cx htk
   have hL1:L<=path.length:=by omega
   have hL2:path.length<=L:=by omega
   have HL:Hid (L=path.length):=hL
   clear hL
   have hLx:L<=4611686018427387904:=by have:=HT.out;omega
   have HTB1:Hid (TB wr H n vs (fun s=>rof v s ps k++stk v k s path (1 - 1))):=HTB.out.congr (fun s _=>by simp[stk])
   go_wp2
   clear cx b0 b2
   go_loopw [8] (fun iv wd=>∃(i:Nat) (vs:Nat->Value),1<=i/\(i<=L\/i=1)/\iv=.int .i64 i/\Hid (TB wd H n vs (fun s=>rof v s ps k++stk v k s path (i - 1)))/\Ext W1 wd) (fun iv _=>L - (intOf iv).toNat)
   case atStart=>exact⟨1,vs,Ql _,Or.inr rfl,rfl,HTB1,hE⟩
   case round=>
    clear HTB HTB1 hE
    obtain⟨i,vs,hi1,hi2,rfl,HTB,hE⟩:=hrel
    obtain⟨i',rfl⟩:∃j,i=j+1:=⟨i - 1,by omega⟩
    have HTB':Hid (TB wr H n vs (fun s=>rof v s ps k++stk v k s path i')):=HTB.out
    clear HTB
    by_cases hil:i'+1<L
    ·have i3:((i':Int)+1)<(L:Int):=by omega
     have i4:(i':Int)<(L:Int):=by omega
     rcases lx with h0 | ⟨b,o,rfl,hb,hin0⟩
     ·exfalso;rw[h0] at hL2 hL1;simp at hL1 hL2;omega
     have hin:Q9 wr b o path:=fun j hj=>(hE.cells.1 _ _ hb).trans (hin0 j hj)
     have c1:=hin i' (by omega)
     have c2:=hin (i'+1) (by omega)
     obtain⟨a,ha⟩:∃a,path.getD i' 0=a:=⟨_,rfl⟩
     obtain⟨y,hy⟩:∃a,path.getD (i'+1) 0=a:=⟨_,rfl⟩
     rw[ha] at c1
     rw[hy] at c2
     have hst:∀s:Nat,stk v k s path (i'+1)=stk v k s path i'++(if a=(s:Int) then [(v,(k:Int),y)] else []):=fun s=>by
      rw[stk,ha,hy]
      by_cases e:a=(s:Int)
      ·rw[if_pos ⟨e,by omega⟩,if_pos e]
      ·rw[if_neg (fun h=>e h.1),if_neg e]
     have HST:Hid _:=hst
     have HKP:Hid (∀W:World,Ext W1 W->cl W w.heap.size 0 (.int .i64 v)/\cl W b (o+(i'+1)) (.int .i64 y)):=fun W hW=>⟨(HB.out W hW).1,by rw[<-hy];exact(hW.cells.1 _ _ hb).trans (hin0 (i'+1) (by omega))⟩
     clear hst ha hy hin hin0
     obtain⟨b0,b2⟩:=HB.out wr hE
     by_cases ha0:a<0
     ·have HT2:Hid (TB wr H n vs (fun s=>rof v s ps k++stk v k s path (i'+1+1 - 1))):=HTB'.out.congr (fun s _=>by show _=rof v s ps k++stk v k s path (i'+1);rw[HST.out,if_neg (by omega),List.append_nil])
      go_wp2
      exact⟨⟨i'+1+1,vs,by omega,by omega,by go_num,HT2,hE⟩,by simp[intOf];omega⟩
     ·by_cases han:(n:Int)<=a
      ·have HT2:Hid (TB wr H n vs (fun s=>rof v s ps k++stk v k s path (i'+1+1 - 1))):=HTB'.out.congr (fun s _=>by show _=rof v s ps k++stk v k s path (i'+1);rw[HST.out,if_neg (by omega),List.append_nil])
       go_wp2
       exact⟨⟨i'+1+1,vs,by omega,by omega,by go_num,HT2,hE⟩,by simp[intOf];omega⟩
      ·obtain⟨t,rfl⟩:∃t:Nat,a=(t:Int):=⟨a.toNat,by omega⟩
       have htn:t<n:=by omega
       have i5:¬(t:Int)<0:=by omega
       have i6:¬(n:Int)<=(t:Int):=by omega
       have i7:(t:Int)<(n:Int):=by omega
       obtain⟨va,hva⟩:∃va,vs t=va:=⟨_,rfl⟩
       obtain⟨R,hR⟩:∃R,rof v t ps k++stk v k t path i'=R:=⟨_,rfl⟩
       have hc:=HTB'.out.row.cell (i:=t) htn
       have hfz:=HTB'.out.row.frozen t
       have hown:RO wr (H+1) va R:=by rw[<-hva, <-hR];exact HTB'.out.own t htn
       rw[hva] at hc
       have hRl:R.length<=tot ps k+L:=by
        rw[<-hR,lap]
        have h1:=z1e (v:=v) (s:=t) (ps:=ps) k
        have h2:=z0v (v:=v) (f:=k) (s:=t) (path:=path) i'
        omega
       have HVR:Hid _:=And.intro hva hR
       have HO:Hid (RO wr (H+1) va R):=hown
       have HNE:Hid (some H≠va.ownBlock):=fun e=>by have:=(hown.block H e.symm).1;omega
       have hHlt:=HTB'.out.row.lt
       have hTo:=HT.out
       have HFIN:Hid (∀(g5 gc5:Nat) (w5:World),w5.ownsRow (H+1) 132 3 (.slice (some ⟨g5,0,none⟩) (R.length+1) gc5) (R.length+1) (rcs R++[.int .i64 v,.int .i64 k,.int .i64 y])->
        (wr.alloc (.cells #[.int .i64 v,.int .i64 k,.int .i64 y] 132)).grownBy w5 va.ownBlock->(va.ownBlock=some g5\/g5=wr.heap.size+1)->
        w5.cell? ⟨H,t,none⟩=some va/\w5.frozen? ⟨H,t,none⟩=false/\
        (TB (w5.setCell ⟨H,t,none⟩ (.slice (some ⟨g5,0,none⟩) (R.length+1) gc5)) H n (fun s=>if s=t then .slice (some ⟨g5,0,none⟩) (R.length+1) gc5 else vs s) (fun s=>rof v s ps k++stk v k s path (i'+1+1 - 1))/\
        Ext W1 (w5.setCell ⟨H,t,none⟩ (.slice (some ⟨g5,0,none⟩) (R.length+1) gc5)))):=fun g5 gc5 w5 hown5 hgr6 hat5=>by
        have hb5:w5.heap[H]? =wr.heap[H]?:=(hgr6.block H (by simp;omega) HNE.out).trans (bal _ _ _ hHlt)
        have hE5:Ext W1 w5:=Below.grown (hE.alloc _) hgr6 (by have:=HW.out;simp;omega) (fun j hj=>by have:=(RO.block HO.out j hj).1;have:=HW.out;omega)
        have hpush:=TB.push (r:=(v,(k:Int),y)) HTB'.out htn (by rw[HVR.out.2];exact hown5) (by rw[HVR.out.1];exact hgr6) (by rw[HVR.out.1];exact hat5)
        rw[HVR.out.2] at hpush
        refine⟨(cob (a:=⟨H,t,none⟩) hb5).trans hc,(World.frozen?_of_block (a:=⟨H,t,none⟩) hb5).trans hfz,hpush.congr (fun s _=>?_),hE5.setCell (by have:=HW.out;simp;omega) _⟩
        show _=rof v s ps k++stk v k s path (i'+1)
        rw[HST.out]
        by_cases e:s=t
        ·subst e;simp
        ·rw[if_neg e,if_neg (fun h=>e (by omega)),List.append_nil]
       clear hva hR hown HKP
       have p0:(0:Int)<=(i':Int)+1:=by omega
       go_wp2
       go_region_law
        (refine step_append_lies _ ?_ (.tmp 49) (.tmp 58) 61 ?_ (H+1) 132 i3' (.agg #[.int .i64 0,.int .i64 0,.int .i64 0]) 3 24 underlying61 hi3 hz0 hz1 hz2 rfl (by decide) va R.length (rcs R) ?_ ?_ ⟨wr.heap.size,0,none⟩ 1 1 [.int .i64 v,.int .i64 k,.int .i64 y] ?_ ?_ ?_ (one3 _ _ _) ?_ ?_ ?_ ?_ _ rfl ?_
         ·rfl
         ·rfl
         ·rfl
         ·exact RO.ext HO.out ((Ext.refl wr).alloc _).drew
         ·rfl
         ·rfl
         ·exact World.news_of_block (cs:=#[.int .i64 v,.int .i64 k,.int .i64 y]) (blk_alloc_new wr _)
         ·omega
         ·unfold maxLen;omega
         ·omega
         ·simp;omega
         intro g5 gc5 w5 hown5 hgr5 hat5 hlt5
         have hfin:=HFIN.out g5 gc5 w5 hown5 ⟨hgr5.os,hgr5.tape,hgr5.output,hgr5.size,hgr5.block⟩ (hat5.imp id (fun h=>by simpa using h))
         have q1:=hfin.1
         have q2:=hfin.2.1
         have HG5:Hid _:=hfin.2.2
         clear hown5 hgr5 hat5 hlt5 hfin)
       all_goals(
        clear b0 b2 c1 c2 hc hfz q1 q2
        go_wp2
        exact⟨⟨i'+1+1,_,by omega,by omega,by go_num,HG5.out.1,HG5.out.2⟩,by simp[intOf];omega⟩)
    ·have HT2:Hid (TB wr H n vs (fun s=>rof v s ps (k+1))):=HTB'.out.congr (fun s hs=>by
      show rof v s ps k++stk v k s path i'=rof v s ps (k+1)
      rw[hr1.out s hs]
      congr 1
      by_cases e:path.length=i'+1
      ·rw[e,stk_last (by omega)]
      ·have e2:path.length=0:=by omega
       have e3:i'=0:=by omega
       rw[e2,e3])
     have i3:¬((i':Int)+1)<(L:Int):=by omega
     go_wp2
     exact⟨⟨k+1,vs,by omega,by go_num,HT2,hE⟩,by simp[intOf];omega⟩
  ·have hkq:k=ql:=by omega
   have HTB2:Hid (TB wr H n vs (fun s=>rof v s ps ql)):=by have:=HTB.out;rwa [hkq] at this
   go_wp2
   go_ret
   refine⟨vs,?_,?_,hE0.trans hE⟩
   ·rw[<-HH.out];rfl
   ·rw[<-HH.out];exact HTB2.out
end Tb
end Go.Proofs.YthkpbefnkmmaiaaGreat
