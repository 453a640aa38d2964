import Derived.Test.YthkpbefnkmmaiaaGreate06
import Derived.Test.YthkpbefnkmmaiaaGreate07
namespace Wir
structure Od where
 k:Int
 n:Int
 v:Int
 rs:List (Int×Int×Int)
 fs:List Int
def od0:Od:=⟨0,0,0,[],[]⟩
def badR (v:Int) (r:Int×Int×Int):Bool:=decide (r.1≠v\/r.2.1<0\/11<r.2.1\/r.2.2<0\/7<r.2.2)
def badF:Int->List Int->Bool
 | _,[]=>false
 | last,f::r=>if f<=last\/11<f then true else badF f r
def Qc (o:Od):Int:=
 if o.n<1\/100000<o.n\/o.v<1\/1000<o.v then 3
 else if o.k=1 then(if 16<o.rs.length then 5 else if o.rs.any (badR o.v) then 3 else 0)
 else if o.k=2 then(if 12<o.fs.length then 5 else if badF (-1) o.fs then 3 else 0)
 else if o.k=3 then 0 else 1
theorem q4u{o:Od}(h:Qc o=0):(1<=o.n/\o.n<=100000/\1<=o.v/\o.v<=1000)/\((o.k=1/\o.rs.length<=16/\o.rs.any (badR o.v)=false)\/(o.k=2/\o.fs.length<=12/\badF (-1) o.fs=false)\/o.k=3):=by
 unfold Qc at h
 split at h
 ·omega
 ·rename_i h1
  refine⟨by omega,?_⟩
  split at h
  ·rename_i h2
   split at h
   ·omega
   ·rename_i h3
    split at h
    ·omega
    ·rename_i h4
     exact Or.inl ⟨h2,by omega,by simpa using h4⟩
  ·split at h
   ·rename_i h2
    split at h
    ·omega
    ·rename_i h3
     split at h
     ·omega
     ·rename_i h4
      exact Or.inr (Or.inl ⟨h2,by omega,by simpa using h4⟩)
   ·split at h
    ·rename_i h2
     exact Or.inr (Or.inr h2)
    ·omega
end Wir
namespace Go.Proofs.YthkpbefnkmmaiaaGreat
open Go.Proofs.Tryz
namespace Ct
open Go.RowKit Go.Deep Stw Stp Tb Rul
structure Pl where
 v:Int
 fs:List Stf.Fl
 ps:List (List Int)
def pl0:Pl:=⟨0,[],[]⟩
structure Co where
 st:Int
 now:Pl
 Qd:Pl
 num:Int
 Qg:List Int
def co0:Co:=⟨0,pl0,pl0,0,[]⟩
def nx (n:Int):Int:=IntKind.i64.wrap (n+1)
def rls (p:Pl) (s:Nat):List Ru:=rof p.v s p.ps p.ps.length
structure Tl where
 num:Int
 Qg:List Int
 out:List (Nat×Wir.Od)
def one (k:Nat) (o:Option Wir.Od) (x:Tl):Tl:=match o with
 | none=>x
 | some o=>⟨nx x.num,x.Qg++[nx x.num],x.out++[(k,⟨o.k,nx x.num,o.v,o.rs,o.fs⟩)]⟩
def tel (ord:Nat->Option Wir.Od) (x:Tl):Nat->Tl
 | 0=>x
 | k+1=>one k (ord k) (tel ord x k)
def beg (s:Int) (fs:List Stf.Fl):Nat->List Int
 | 0=>[]
 | k+1=>beg s fs k++(if(fs.getD k Fw.f0).fr=s then [(k:Int)] else [])
def addO (p:Pl) (s:Nat):Option Wir.Od:=if rls p s=[] then none else some ⟨1,0,p.v,rls p s,[]⟩
def drpO (p:Pl) (s:Nat):Option Wir.Od:=if rls p s=[] then none else some ⟨3,0,p.v,[],[]⟩
def Zz (now Qd:Pl) (s:Nat):Option Wir.Od:=if beg s Qd.fs Qd.fs.length=[]/\beg s now.fs now.fs.length=[] then none else some ⟨2,0,Qd.v,[],beg s Qd.fs Qd.fs.length⟩
structure Cg where
 c:Co
 out:List (Nat×Wir.Od)
def told (n:Nat) (ord:Nat->Option Wir.Od) (g:Cg):Cg:=
 ⟨⟨g.c.st,g.c.now,g.c.Qd,(tel ord ⟨g.c.num,g.c.Qg,g.out⟩ n).num,(tel ord ⟨g.c.num,g.c.Qg,g.out⟩ n).Qg⟩,(tel ord ⟨g.c.num,g.c.Qg,g.out⟩ n).out⟩
def Zd (g:Cg) (k:Int):Cg:=⟨⟨k,g.c.now,g.c.Qd,g.c.num,g.c.Qg⟩,g.out⟩
def q3n (n:Nat) (g:Cg):Option Cg:=
 if g.c.st=1 then some (told n (Zz g.c.now g.c.Qd) (Zd g 2))
 else if g.c.st=2 then some (Zd g 3)
 else if g.c.st=4 then some ⟨⟨0,g.c.Qd,pl0,g.c.num,g.c.Qg⟩,g.out⟩
 else none
def q6v (g:Cg):Cg:=if g.c.Qg≠[] then g else Zd g 3
def goS (n:Nat) (g:Cg):Cg:=
 if g.c.Qg≠[] then g
 else if g.c.st=1 then q6v (told n (Zz g.c.now g.c.Qd) (Zd g 2))
 else if g.c.st=2 then Zd g 3
 else if g.c.st=4 then⟨⟨0,g.c.Qd,pl0,g.c.num,g.c.Qg⟩,g.out⟩
 else g
def full (n:Nat) (a b:Pl):Bool:=(List.range n).any fun s=>decide (16<(rls a s).length+(rls b s).length)
def Q1 (c:Co) (n:Int) (ls:List Lk) (fs:List Stf.Fl):Cg×Int:=
 if c.st≠0 then(⟨co0,[]⟩,11)
 else if(plnF n (nx c.now.v) ls fs).1≠0 then(⟨co0,[]⟩,(plnF n (nx c.now.v) ls fs).1)
 else if full n.toNat c.now ⟨nx c.now.v,fs,Qs n ls fs⟩=true then(⟨co0,[]⟩,10)
 else(goS n.toNat (told n.toNat (addO ⟨nx c.now.v,fs,Qs n ls fs⟩) ⟨⟨1,c.now,⟨nx c.now.v,fs,Qs n ls fs⟩,c.num,c.Qg⟩,[]⟩),0)
def Qw (c:Co) (n:Int) (ls:List Lk) (k:Int):Cg×Int:=
 if(Qc n ls).1≠0 then(⟨co0,[]⟩,(Qc n ls).1)
 else if k∉c.Qg then(⟨co0,[]⟩,6)
 else(goS n.toNat ⟨⟨c.st,c.now,c.Qd,c.num,c.Qg.erase k⟩,[]⟩,0)
def Qq (c:Co) (n:Int) (ls:List Lk):Cg×Int:=
 if(Qc n ls).1≠0 then(⟨co0,[]⟩,(Qc n ls).1)
 else if c.st≠3 then(⟨co0,[]⟩,11)
 else(goS n.toNat (told n.toNat (drpO c.now) ⟨⟨4,c.now,c.Qd,c.num,c.Qg⟩,[]⟩),0)
structure PA where
 fo:Option Addr
 qo:Option Addr
 fc:Nat
 qc:Nat
def pa0:PA:=⟨none,none,0,0⟩
def pvl (p:Pl) (a:PA):Value:=.agg #[.int .i64 p.v,.slice a.fo p.fs.length a.fc,.slice a.qo p.ps.length a.qc]
structure PlAt (w:World) (p:Pl) (a:PA):Prop where
 hf:Fw.Qk w a.fo p.fs
 hq:q0i w a.qo p.ps
theorem PlAt.ext{w w':World}{p:Pl}{a:PA}(h:PlAt w p a)(E:Ext w w'):PlAt w' p a:=⟨h.hf.ext E,h.hq.ext E⟩
theorem PlAt.zero(w:World):PlAt w pl0 pa0:=⟨Or.inl rfl,Or.inl rfl⟩
def q3u (B:Nat) (w:World) (p:Pl) (a:PA):Prop:=∀V:World,w.heap.size<=V.heap.size->(∀b,B<=b->b<w.heap.size->V.heap[b]? =w.heap[b]?)->PlAt V p a
variable {B:Nat} {w:World} {p:Pl} {a:PA}
theorem q3u.at(h:q3u B w p a):PlAt w p a:=h w (Ql _) (fun _ _ _=>rfl)
theorem q3u.zero(B:Nat)(w:World):q3u B w pl0 pa0:=fun V _ _=>PlAt.zero V
theorem q3u.ext{w':World}(h:q3u B w p a)(E:Ext w w'):q3u B w' p a:=fun V hs hb=>h V (ltr E.size hs) (fun b h1 h2=>(hb b h1 (Q5 h2 E.size)).trans (Below.block E b h2))
structure PlOk (p:Pl):Prop where
 fl:p.fs.length<=16777216
 sm:∀f∈p.fs,f.via.length<=16777216/\f.nt.length<=16777216
 ql:p.ps.length<=16777216
 tt:(p.ps.map List.length).sum<=16777216
theorem PlOk.zero:PlOk pl0:=⟨by simp[pl0],by simp[pl0],by simp[pl0],by simp[pl0]⟩
structure CA where
 n:PA
 x:PA
 wo:Option Addr
 wc:Nat
def ca0:CA:=⟨pa0,pa0,none,0⟩
def cvl (c:Co) (a:CA):Value:=.agg #[.int .i64 c.st,.int .i64 c.now.v,.slice a.n.fo c.now.fs.length a.n.fc,.slice a.n.qo c.now.ps.length a.n.qc,.int .i64 c.Qd.v,.slice a.x.fo c.Qd.fs.length a.x.fc,.slice a.x.qo c.Qd.ps.length a.x.qc,.int .i64 c.num,.slice a.wo c.Qg.length a.wc]
structure Zr (w:World) (c:Co) (a:CA):Prop where
 hn:PlAt w c.now a.n
 hx:PlAt w c.Qd a.x
 hw:Qj w a.wo c.Qg
theorem Zr.ext{w w':World}{c:Co}{a:CA}(h:Zr w c a)(E:Ext w w'):Zr w' c a:=⟨h.hn.ext E,h.hx.ext E,h.hw.ext E⟩
theorem Zr.zero(w:World):Zr w co0 ca0:=⟨PlAt.zero w,PlAt.zero w,Or.inl rfl⟩
structure CoOk (c:Co):Prop where
 n:PlOk c.now
 x:PlOk c.Qd
 w:c.Qg.length<=16777200
theorem z2e{ps:List (List Int)}:∀{i:Nat},(ps.getD i []).length<=(ps.map List.length).sum:=by
 induction ps with
 | nil=>intro i;simp
 | cons p r ih=>
  intro i
  cases i with
  | zero=>simp
  | succ i=>have:=ih (i:=i);simp at this ⊢;omega
end Ct
section
open Go.RowKit Go.Maps Stw Go.Deep Stp
variable {fs:List Stf.Fl} {ls:List Lk} {version:Int}
theorem q3y{n:Int}(h:(Qc n ls).1≠0):plnF n version ls fs=Qc n ls:=by unfold plnF;rw[if_pos h]
theorem q6i{n:Int}(h:(Qc n ls).1=0)(h1:version<1\/1000<version):plnF n version ls fs=(3,0):=by unfold plnF;rw[if_neg (by simp[h]),if_pos h1]
theorem q3z{n:Int}(h:(Qc n ls).1=0)(h1:¬(version<1\/1000<version))(h2:(Stf.Qp fs n).1≠0):plnF n version ls fs=Stf.Qp fs n:=by unfold plnF;rw[if_neg (by simp[h]),if_neg h1,if_pos h2]
variable {k:Nat}
theorem plnF_bad{n:Int}(h:(Qc n ls).1=0)(h1:¬(version<1\/1000<version))(h2:(Stf.Qp fs n).1=0)(hk:k<fs.length)(hp:∀j,j<k->(fnd n ls (fs.getD j Fw.f0)).1=0)(hb:(fnd n ls (fs.getD k Fw.f0)).1≠0):plnF n version ls fs=((fnd n ls (fs.getD k Fw.f0)).1,(k:Int)):=by
 unfold plnF
 rw[if_neg (by simp[h]),if_neg h1,if_neg (by simp[h2]),Stf.q3a hk hp hb]
theorem z4g{n:Int}(h:(Qc n ls).1=0)(h1:¬(version<1\/1000<version))(h2:(Stf.Qp fs n).1=0)(hp:∀j,j<fs.length->(fnd n ls (fs.getD j Fw.f0)).1=0):plnF n version ls fs=(0,0):=by
 unfold plnF
 rw[if_neg (by simp[h]),if_neg h1,if_neg (by simp[h2]),Stf.q3b hp]
variable {w w':World} {base:Nat} {e:TypeId}
theorem q0h{size n:Nat}{v:Value}{xs:List Value}(h:w.ownsRow base e size v n xs)(k:Ext w w'):w'.ownsRow base e size v n xs:=by
 refine⟨h.1,?_⟩
 rcases h.2 with h2 | ⟨g,cap,cur,h1,h2,h3,h4⟩
 ·exact Or.inl h2
 ·exact Or.inr ⟨g,cap,cur,h1,h2,(Below.block k g (asi.1 h3).1).trans h3,h4⟩
theorem q6a{n:Int}(h:(Stf.Qp fs n).1=0):fs.length<=12:=by
 by_cases h1:12<fs.length
 ·rw[Stf.Qp,if_pos h1] at h;simp at h
 ·omega
structure PB (w w1:World) (n:Int) (ao:Option Addr) (len cap:Nat):Prop where
 sz:w.heap.size+1+1<w1.heap.size
 n0:w1.cell? ⟨w.heap.size,0,none⟩=some (.int .i64 n)
 n1:w1.cell? ⟨w.heap.size,1,none⟩=some (.slice ao len cap)
 p0:w1.cell? ⟨w.heap.size+1,0,none⟩=some (.int .i64 0)
 p1:w1.cell? ⟨w.heap.size+1,1,none⟩=some (.slice none 0 0)
 p2:w1.cell? ⟨w.heap.size+1,2,none⟩=some (.slice none 0 0)
 f0:w1.cell? ⟨w.heap.size+1+1,0,none⟩=some (.int .i64 0)
 f1:w1.cell? ⟨w.heap.size+1+1,1,none⟩=some (.int .i64 0)
 z1:∀i,w1.frozen? ⟨w.heap.size+1,i,none⟩=false
 z2:∀i,w1.frozen? ⟨w.heap.size+1+1,i,none⟩=false
variable {B cap:Nat} {w1 w2:World} {ao:Option Addr}
theorem PB.below{n:Int}{len:Nat}(h:PB w w1 n ao len cap)(k:Below B w1 w2)(hB:w.heap.size+1+1<B):PB w w2 n ao len cap:=by
 have hs:=k.size
 have e0:w.heap.size<B:=by omega
 have e1:w.heap.size+1<B:=by omega
 exact⟨by have:=h.sz;omega,(k.cell (p:=⟨w.heap.size,0,none⟩) e0).trans h.n0,(k.cell (p:=⟨w.heap.size,1,none⟩) e0).trans h.n1,(k.cell (p:=⟨w.heap.size+1,0,none⟩) e1).trans h.p0,(k.cell (p:=⟨w.heap.size+1,1,none⟩) e1).trans h.p1,(k.cell (p:=⟨w.heap.size+1,2,none⟩) e1).trans h.p2,
  (k.cell (p:=⟨w.heap.size+1+1,0,none⟩) hB).trans h.f0,(k.cell (p:=⟨w.heap.size+1+1,1,none⟩) hB).trans h.f1,fun i=>(k.frozen (p:=⟨w.heap.size+1,i,none⟩) e1).trans (h.z1 i),fun i=>(k.frozen (p:=⟨w.heap.size+1+1,i,none⟩) hB).trans (h.z2 i)⟩
theorem PB.ext{n:Int}{len:Nat}(h:PB w w1 n ao len cap)(k:Ext w1 w2):PB w w2 n ao len cap:=h.below k h.sz
variable {b:Nat} {t:TypeId}
theorem Qb{A:Array Value}(h:w.heap[b]? =some (.cells A t (0,0)))(i:Nat):w.cell? ⟨b,i,none⟩=A[i]?:=cell_of_row _ _ _ A t (0,0) h
theorem Qi{A:Array Value}(h:w.heap[b]? =some (.cells A t (0,0)))(i:Nat):w.frozen? ⟨b,i,none⟩=false:=by simp[World.frozen?,h]
theorem q2p{f:Nat->Value}(h:w.rowIs b t 9 f):w.cell? ⟨b,0,none⟩=some (f 0)/\w.cell? ⟨b,1,none⟩=some (f 1)/\w.cell? ⟨b,2,none⟩=some (f 2)/\w.cell? ⟨b,3,none⟩=some (f 3)/\w.cell? ⟨b,4,none⟩=some (f 4)/\w.cell? ⟨b,5,none⟩=some (f 5)/\w.cell? ⟨b,6,none⟩=some (f 6)/\w.cell? ⟨b,7,none⟩=some (f 7)/\w.cell? ⟨b,8,none⟩=some (f 8):=
 ⟨h.cell (by omega),h.cell (by omega),h.cell (by omega),h.cell (by omega),h.cell (by omega),h.cell (by omega),h.cell (by omega),h.cell (by omega),h.cell (by omega)⟩
theorem box9{A:Array Value}(h:w.heap[b]? =some (.cells A t (0,0))):w.cell? ⟨b,0,none⟩=A[0]?/\w.cell? ⟨b,1,none⟩=A[1]?/\w.cell? ⟨b,2,none⟩=A[2]?/\w.cell? ⟨b,3,none⟩=A[3]?/\w.cell? ⟨b,4,none⟩=A[4]?/\w.cell? ⟨b,5,none⟩=A[5]?/\w.cell? ⟨b,6,none⟩=A[6]?/\w.cell? ⟨b,7,none⟩=A[7]?/\w.cell? ⟨b,8,none⟩=A[8]?:=
 ⟨Qb h 0,Qb h 1,Qb h 2,Qb h 3,Qb h 4,Qb h 5,Qb h 6,Qb h 7,Qb h 8⟩
theorem frz9{A:Array Value}(h:w.heap[b]? =some (.cells A t (0,0))):w.frozen? ⟨b,0,none⟩=false/\w.frozen? ⟨b,1,none⟩=false/\w.frozen? ⟨b,2,none⟩=false/\w.frozen? ⟨b,3,none⟩=false/\w.frozen? ⟨b,4,none⟩=false/\w.frozen? ⟨b,5,none⟩=false/\w.frozen? ⟨b,6,none⟩=false/\w.frozen? ⟨b,7,none⟩=false/\w.frozen? ⟨b,8,none⟩=false:=
 ⟨Qi h 0,Qi h 1,Qi h 2,Qi h 3,Qi h 4,Qi h 5,Qi h 6,Qi h 7,Qi h 8⟩
theorem PB.start(w:World)(n:Int)(ao:Option Addr)(len cap:Nat):PB w (((w.alloc (.cells #[.int .i64 n,.slice ao len cap] 24)).alloc (.cells #[.int .i64 0,.slice none 0 0,.slice none 0 0] 29)).alloc (.cells #[.int .i64 0,.int .i64 0] 43)) n ao len cap:=by
 have h0:(((w.alloc (.cells #[.int .i64 n,.slice ao len cap] 24)).alloc (.cells #[.int .i64 0,.slice none 0 0,.slice none 0 0] 29)).alloc (.cells #[.int .i64 0,.int .i64 0] 43)).heap[w.heap.size]? =some (.cells #[.int .i64 n,.slice ao len cap] 24):=
  (bal _ _ _ (by simp;omega)).trans ((bal _ _ _ (by simp)).trans (blk_alloc_new _ _))
 have h1:(((w.alloc (.cells #[.int .i64 n,.slice ao len cap] 24)).alloc (.cells #[.int .i64 0,.slice none 0 0,.slice none 0 0] 29)).alloc (.cells #[.int .i64 0,.int .i64 0] 43)).heap[w.heap.size+1]? =some (.cells #[.int .i64 0,.slice none 0 0,.slice none 0 0] 29):=by
  have:=blk_alloc_new (w.alloc (.cells #[.int .i64 n,.slice ao len cap] 24)) (.cells #[.int .i64 0,.slice none 0 0,.slice none 0 0] 29)
  rw[World.size_alloc] at this
  exact(bal _ _ _ (by simp)).trans this
 have h2:(((w.alloc (.cells #[.int .i64 n,.slice ao len cap] 24)).alloc (.cells #[.int .i64 0,.slice none 0 0,.slice none 0 0] 29)).alloc (.cells #[.int .i64 0,.int .i64 0] 43)).heap[w.heap.size+1+1]? =some (.cells #[.int .i64 0,.int .i64 0] 43):=by
  have:=blk_alloc_new ((w.alloc (.cells #[.int .i64 n,.slice ao len cap] 24)).alloc (.cells #[.int .i64 0,.slice none 0 0,.slice none 0 0] 29)) (.cells #[.int .i64 0,.int .i64 0] 43)
  rw[World.size_alloc,World.size_alloc] at this
  exact this
 exact⟨by simp,Qb h0 0,Qb h0 1,Qb h1 0,Qb h1 1,Qb h1 2,Qb h2 0,Qb h2 1,fun i=>Qi h1 i,fun i=>Qi h2 i⟩
structure C5 (W:World) (A B:Nat) (v0 v1 v2 u0 u1:Value):Prop where
 a0:W.cell? ⟨A,0,none⟩=some v0
 a1:W.cell? ⟨A,1,none⟩=some v1
 a2:W.cell? ⟨A,2,none⟩=some v2
 b0:W.cell? ⟨B,0,none⟩=some u0
 b1:W.cell? ⟨B,1,none⟩=some u1
variable {v0 v1 v2 u0 u1:Value} {W:World}
theorem C5.alloc{A:Nat}(h:C5 W A B v0 v1 v2 u0 u1)(hA:A<W.heap.size)(hB:B<W.heap.size)(o:Obj):C5 (W.alloc o) A B v0 v1 v2 u0 u1:=
 ⟨(World.cell?_alloc_past _ _ _ hA).trans h.a0,(World.cell?_alloc_past _ _ _ hA).trans h.a1,(World.cell?_alloc_past _ _ _ hA).trans h.a2,(World.cell?_alloc_past _ _ _ hB).trans h.b0,(World.cell?_alloc_past _ _ _ hB).trans h.b1⟩
theorem C5.drew{A:Nat}(h:C5 W A B v0 v1 v2 u0 u1):C5 W.drew A B v0 v1 v2 u0 u1:=⟨h.a0,h.a1,h.a2,h.b0,h.b1⟩
theorem q1j{A:Nat}{x0 x1 x2 y0 y1:Value}(hAB:A≠B)(h:C5 W A B x0 x1 x2 y0 y1):C5 (((((W.setCell ⟨A,0,none⟩ v0).setCell ⟨A,1,none⟩ v1).setCell ⟨A,2,none⟩ v2).setCell ⟨B,0,none⟩ u0).setCell ⟨B,1,none⟩ u1) A B v0 v1 v2 u0 u1:=by
 have ne:∀{a b c d:Nat},a≠c\/b≠d->(⟨a,b,none⟩:Addr)≠⟨c,d,none⟩:=fun {a b c d} h e=>by cases e;simp at h
 have oth:∀(X:World) {a b c d:Nat} (v:Value),a≠c\/b≠d->(X.setCell ⟨c,d,none⟩ v).cell? ⟨a,b,none⟩=X.cell? ⟨a,b,none⟩:=fun X {a b c d} v h=>World.cell?_setCell_other X ⟨c,d,none⟩ ⟨a,b,none⟩ v (fun e=>by cases e;simp at h)
 refine⟨?_,?_,?_,?_,?_⟩
 ·rw[oth _ _ (Or.inl hAB),oth _ _ (Or.inl hAB),oth _ _ (Or.inr (by decide)),oth _ _ (Or.inr (by decide)),World.cell?_setCell_same _ _ _ h.a0]
 ·rw[oth _ _ (Or.inl hAB),oth _ _ (Or.inl hAB),oth _ _ (Or.inr (by decide)),World.cell?_setCell_same _ _ _ ((oth _ _ (Or.inr (by decide))).trans h.a1)]
 ·rw[oth _ _ (Or.inl hAB),oth _ _ (Or.inl hAB),World.cell?_setCell_same _ _ _ ((oth _ _ (Or.inr (by decide))).trans ((oth _ _ (Or.inr (by decide))).trans h.a2))]
 ·have hBA:B≠A:=fun e=>hAB e.symm
  rw[oth _ _ (Or.inr (by decide)),World.cell?_setCell_same _ _ _ ((oth _ _ (Or.inl hBA)).trans ((oth _ _ (Or.inl hBA)).trans ((oth _ _ (Or.inl hBA)).trans h.b0)))]
 ·have hBA:B≠A:=fun e=>hAB e.symm
  rw[World.cell?_setCell_same _ _ _ ((oth _ _ (Or.inr (by decide))).trans ((oth _ _ (Or.inl hBA)).trans ((oth _ _ (Or.inl hBA)).trans ((oth _ _ (Or.inl hBA)).trans h.b1))))]
theorem PB.c5{n:Int}{len:Nat}(h:PB w w1 n ao len cap):C5 w1 (w.heap.size+1) (w.heap.size+1+1) (.int .i64 0) (.slice none 0 0) (.slice none 0 0) (.int .i64 0) (.int .i64 0):=⟨h.p0,h.p1,h.p2,h.f0,h.f1⟩
theorem q0o{A:Nat}{fn:Func}{tmps:Array Value}(hres:fn.results=#[.cell 6 29,.cell 7 43])(h6:tmps.getD 6 undef=.pointer (some ⟨A,0,none⟩))(h7:tmps.getD 7 undef=.pointer (some ⟨B,0,none⟩))(h:C5 W A B v0 v1 v2 u0 u1):
 (results fn tmps).run prog W=.ok (.tuple #[.agg #[v0,v1,v2],.agg #[u0,u1]]) W:=by
 have e1:(loadVar 29 ⟨A,0,none⟩).run prog W=.ok (.agg [v0,v1,v2].toArray) W:=run_loadVar_mid W A 0 29 [v0,v1,v2] _ (fun j v hj=>by
  rw[Nat.zero_add]
  match j,hj with
  | 0,hj=>simp at hj;subst hj;exact h.a0
  | 1,hj=>simp at hj;subst hj;exact h.a1
  | 2,hj=>simp at hj;subst hj;exact h.a2) underlying29 rfl (by kernel_rfl)
 have e2:(loadVar 43 ⟨B,0,none⟩).run prog W=.ok (.agg [u0,u1].toArray) W:=run_loadVar_mid W B 0 43 [u0,u1] _ (fun j v hj=>by
  rw[Nat.zero_add]
  match j,hj with
  | 0,hj=>simp at hj;subst hj;exact h.b0
  | 1,hj=>simp at hj;subst hj;exact h.b1) underlying43 rfl (by kernel_rfl)
 have h6':tmps[6]?.getD undef=.pointer (some ⟨A,0,none⟩):=by simpa using h6
 have h7':tmps[7]?.getD undef=.pointer (some ⟨B,0,none⟩):=by simpa using h7
 simp[results,hres,h6',h7',asAddr,e1,e2]
theorem news1'{n:Nat}(h:W.heap.size=n)(v:Value)(T:TypeId):∀(j:Nat) (u:Value),[v][j]? =some u->(W.alloc (.cells #[v] T)).cell? ((⟨n,0,none⟩:Addr).add j)=some u:=by
 intro j u hj
 subst h
 match j,hj with
 | 0,hj=>simp at hj;subst hj;simp[Addr.add]
theorem one1s(o:Option Addr)(l c:Nat):∀u∈[Value.slice o l c],u.oneCell'=true:=by intro u hu;simp at hu;subst hu;rfl
def pF (v0 v1 v2:Value) (j:Nat):Value:=if j=0 then v0 else if j=1 then v1 else v2
variable {j:Nat}
theorem pF_two{v:Value}(hj:j<3):(if j=2 then v else pF v0 v1 v2 j)=pF v0 v1 v j:=by
 unfold pF
 by_cases h:j=2
 ·subst h;simp
 ·rw[if_neg h]
  by_cases h0:j=0
  ·simp[h0]
  ·simp[show j=1 by omega]
theorem plan_row(h:W.heap.size=b)(v0 v1 v2:Value):(W.alloc (.cells #[v0,v1,v2] 29)).rowIs b 29 3 (pF v0 v1 v2):=by
 subst h
 have:=World.rowIs_alloc W #[v0,v1,v2] 29 (pF v0 v1 v2) (fun i hi=>by
  have hi':i<3:=hi
  match i,hi' with
  | 0,_ | 1,_ | 2,_=>simp[pF])
 exact this
variable {P g c:Nat} {qv:Value} {V:List Value} {w0:World} {p:List Int} {o:Obj}
theorem plan_push{w3 w4:World}{v:Value}{ps:List (List Int)}(hrow:w3.rowIs P 29 3 (pF v0 v1 qv))(hown:w3.ownsRow (P+1) 104 1 qv k V)(hl:LQs w3 (fun b=>P+1<=b/\qv.ownBlock≠some b/\True) ps V)(hp:LQ w3 (fun b=>P+1<=b/\qv.ownBlock≠some b/\True) p v)(hbel:Below P w0 w3)(hown4:w4.ownsRow (P+1) 104 1 (.slice (some ⟨g,0,none⟩) (k+1) c) (k+1) (V++[v]))(hg:(w3.alloc o).grownBy w4 qv.ownBlock)(Q2:qv.ownBlock=some g\/g=w3.heap.size+1):
  (w4.setCell ⟨P,2,none⟩ (.slice (some ⟨g,0,none⟩) (k+1) c)).rowIs P 29 3 (pF v0 v1 (.slice (some ⟨g,0,none⟩) (k+1) c))/\(w4.setCell ⟨P,2,none⟩ (.slice (some ⟨g,0,none⟩) (k+1) c)).ownsRow (P+1) 104 1 (.slice (some ⟨g,0,none⟩) (k+1) c) (k+1) (V++[v])/\
   LQs (w4.setCell ⟨P,2,none⟩ (.slice (some ⟨g,0,none⟩) (k+1) c)) (fun b=>P+1<=b/\(Value.slice (some ⟨g,0,none⟩) (k+1) c).ownBlock≠some b/\True) (ps++[p]) (V++[v])/\Below P w0 (w4.setCell ⟨P,2,none⟩ (.slice (some ⟨g,0,none⟩) (k+1) c)):=by
  have hP:=hrow.lt
  have hneP:some P≠qv.ownBlock:=fun e=>by have:=(hown.lt P e.symm).1;omega
  have hat':(Value.slice (some ⟨g,0,none⟩) (k+1) c).ownBlock=qv.ownBlock\/(Value.slice (some ⟨g,0,none⟩) (k+1) c).ownBlock=some (w3.alloc o).heap.size:=by
   rcases Q2 with h | h
   ·left;rw[h];rfl
   ·right;rw[World.size_alloc,h];rfl
  have hlq:=lqs_push (w:=w3.alloc o) (w1:=w3) hl hp (by simp) (fun b hb=>bal _ _ _ hb) hg hat'
  refine⟨((hrow.of_block ((hg.block P (by simp;omega) hneP).trans (bal _ _ _ hP))).set 2 _).congr (fun j hj=>pF_two hj),ownsRow_setCell_below hown4 (by simp) _,hlq.mono (fun b hb hlt=>⟨hb,by simpa using hlt,Zm _ _ _ _ (by simp;omega)⟩),?_⟩
  exact(Below.grown (hbel.alloc (by omega) o) hg (by simp;omega) (fun j hj=>by have:=(hown.lt j hj).1;omega)).setCell (by simp) _
theorem pths_sets{A:Nat}{ps:List (List Int)}(hown:W.ownsRow (P+1) 104 1 qv k V)(hl:LQs W (fun b=>P+1<=b/\qv.ownBlock≠some b/\True) ps V)(hA:A<P+1)(hB:B<P+1):
 ∃qo qc,qv=.slice qo ps.length qc/\q0i (((((W.setCell ⟨A,0,none⟩ v0).setCell ⟨A,1,none⟩ v1).setCell ⟨A,2,none⟩ v2).setCell ⟨B,0,none⟩ u0).setCell ⟨B,1,none⟩ u1) qo ps:=by
 refine q5h (ownsRow_setCell_below (ownsRow_setCell_below (ownsRow_setCell_below (ownsRow_setCell_below (ownsRow_setCell_below hown hA _) hA _) hA _) hB _) hB _) (hl.mono (Q':=fun _=>True) (fun b hb hlt=>⟨trivial,by simpa using hlt,?_⟩))
 rw[Zm _ _ _ _ (by simp;omega),Zm _ _ _ _ (by simp;omega),Zm _ _ _ _ (by simp;omega),Zm _ _ _ _ (by simp;omega),Zm _ _ _ _ (by simp;omega)]
def LFs (w:World) (Q:Nat->Prop):List Stf.Fl->List Value->Prop
 | [],[]=>True
 | f::fs,a::b::c::d::vs=>(a=.int .i64 f.fr/\b=.int .i64 f.to/\LQ w Q f.via c/\LQ w Q f.nt d)/\LFs w Q fs vs
 | _,_=>False
variable {Q:Nat->Prop} {vs:List Value}
theorem LFs.q8e(h:LFs w Q [] vs):vs=[]:=by
 cases vs with
 | nil=>rfl
 | cons=>simp[LFs] at h
variable {f:Stf.Fl}
theorem LFs.q1w(h:LFs w Q (f::fs) vs):∃c d us,vs=.int .i64 f.fr::.int .i64 f.to::c::d::us/\LQ w Q f.via c/\LQ w Q f.nt d/\LFs w Q fs us:=by
 match vs,h with
 | a::b::c::d::us,h=>
  obtain⟨⟨rfl,rfl,h3,h4⟩,h5⟩:=h
  exact⟨c,d,us,rfl,h3,h4,h5⟩
 | [],h=>simp[LFs] at h
 | [_],h=>simp[LFs] at h
 | [_,_],h=>simp[LFs] at h
 | [_,_,_],h=>simp[LFs] at h
theorem LFs.mono{w w':World}{Q Q':Nat->Prop}(H:∀b,Q b->b<w.heap.size->Q' b/\b<w'.heap.size/\w'.heap[b]? =w.heap[b]?):∀{fs:List Stf.Fl} {vs:List Value},LFs w Q fs vs->LFs w' Q' fs vs
 | [],vs,h=>by rw[h.q8e];trivial
 | f::fs,vs,h=>by
  obtain⟨c,d,us,rfl,h1,h2,h3⟩:=h.q1w
  exact⟨⟨rfl,rfl,h1.mono H,h2.mono H⟩,LFs.mono H h3⟩
theorem LFs.len{w:World}{Q:Nat->Prop}:∀{fs:List Stf.Fl} {vs:List Value},LFs w Q fs vs->vs.length=fs.length*4
 | [],vs,h=>by rw[h.q8e];rfl
 | f::fs,vs,h=>by
  obtain⟨c,d,us,rfl,_,_,h3⟩:=h.q1w
  have:=LFs.len h3
  simp only[List.length_cons]
  omega
theorem LFs.snoc{w:World}{Q:Nat->Prop}{f:Stf.Fl}{v n:Value}(kv:LQ w Q f.via v)(kn:LQ w Q f.nt n):∀{fs:List Stf.Fl} {vs:List Value},LFs w Q fs vs->LFs w Q (fs++[f]) (vs++[.int .i64 f.fr,.int .i64 f.to,v,n])
 | [],vs,h=>by rw[h.q8e];exact⟨⟨rfl,rfl,kv,kn⟩,trivial⟩
 | g::fs,vs,h=>by
  obtain⟨c,d,us,rfl,h1,h2,h3⟩:=h.q1w
  exact⟨⟨rfl,rfl,h1,h2⟩,LFs.snoc kv kn h3⟩
theorem LFs.get{w:World}{Q:Nat->Prop}:∀{fs:List Stf.Fl} {vs:List Value} {i:Nat} (hi:i<fs.length),LFs w Q fs vs->∃c d,vs[i*4]? =some (.int .i64 fs[i].fr)/\vs[i*4+1]? =some (.int .i64 fs[i].to)/\vs[i*4+2]? =some c/\vs[i*4+3]? =some d/\LQ w Q fs[i].via c/\LQ w Q fs[i].nt d
 | [],_,_,hi,_=>by simp at hi
 | f::fs,vs,0,_,h=>by
  obtain⟨c,d,us,rfl,h1,h2,h3⟩:=h.q1w
  exact⟨c,d,rfl,rfl,rfl,rfl,h1,h2⟩
 | f::fs,vs,i+1,hi,h=>by
  obtain⟨c,d,us,rfl,h1,h2,h3⟩:=h.q1w
  obtain⟨c',d',k0,k1,k2,k3,k4,k5⟩:=LFs.get (i:=i) (by simpa using hi) h3
  have e:(i+1)*4=i*4+4:=by omega
  refine⟨c',d',?_,?_,?_,?_,k4,k5⟩
  ·rw[e];exact k0
  ·rw[e];exact k1
  ·rw[e];exact k2
  ·rw[e];exact k3
theorem z4z{n:Nat}{v:Value}(h:w.ownsRow base e 4 v n vs)(hp:LFs w Q fs vs):∃fo fc,v=.slice fo fs.length fc/\Fw.Qk w fo fs:=by
 have hl:=hp.len
 have hn:vs.length=n*4:=h.1
 rcases h.2 with⟨h1,h2⟩ | ⟨g,c,cur,hv,_⟩
 ·have:fs=[]:=List.eq_nil_of_length_eq_zero (by omega)
  subst this
  exact⟨none,0,h1,Or.inl rfl⟩
 ·subst hv
  obtain rfl:n=fs.length:=by omega
  refine⟨some ⟨g,0,none⟩,c,rfl,Or.inr ⟨g,0,rfl,(h.lt g rfl).2,fun i hi=>?_⟩⟩
  obtain⟨c',d',k0,k1,k2,k3,k4,k5⟩:=hp.get hi
  refine⟨c',d',?_,?_,?_,?_,k4.fv,k5.fv⟩
  ·rw[Nat.zero_add,h.cellAt _ (by omega)];exact k0
  ·rw[Nat.zero_add,h.cellAt _ (by omega)];exact k1
  ·rw[Nat.zero_add,h.cellAt _ (by omega)];exact k2
  ·rw[Nat.zero_add,h.cellAt _ (by omega)];exact k3
def Qn (P:Nat) (fv qv:Value) (b:Nat):Prop:=P+1<=b/\qv.ownBlock≠some b/\fv.ownBlock≠some b
structure PSt (P:Nat) (w0 w:World) (v0 fv qv:Value) (kf kq:Nat) (FV V:List Value) (fs:List Stf.Fl) (ps:List (List Int)):Prop where
 row:w.rowIs P 29 3 (pF v0 fv qv)
 ownF:w.ownsRow (P+1) 74 4 fv kf FV
 ownQ:w.ownsRow (P+1) 104 1 qv kq V
 apart:∀b,fv.ownBlock=some b->qv.ownBlock≠some b
 lf:LFs w (Qn P fv qv) fs FV
 lq:LQs w (Qn P fv qv) ps V
 bel:Below P w0 w
variable {kf kq:Nat}
theorem PSt.ext{fv:Value}{FV:List Value}{ps:List (List Int)}(h:PSt P w0 w v0 fv qv kf kq FV V fs ps)(E:Ext w w'):PSt P w0 w' v0 fv qv kf kq FV V fs ps:=by
 have H:∀b,Qn P fv qv b->b<w.heap.size->Qn P fv qv b/\b<w'.heap.size/\w'.heap[b]? =w.heap[b]?:=fun b hb hlt=>⟨hb,Q5 hlt E.size,Below.block E b hlt⟩
 have hP:=h.row.lt
 exact⟨h.row.of_block (Below.block E _ hP),q0h h.ownF E,q0h h.ownQ E,h.apart,h.lf.mono H,h.lq.mono H,q0n h.bel E (by omega)⟩
theorem pF_one{v:Value}(_hj:j<3):(if j=1 then v else pF v0 v1 v2 j)=pF v0 v v2 j:=by
 unfold pF
 by_cases h:j=1
 ·subst h;simp
 ·rw[if_neg h]
  by_cases h0:j=0
  ·simp[h0]
  ·rw[if_neg h0,if_neg h,if_neg h0,if_neg h]
theorem PSt.fresh{fv v:Value}{FV:List Value}{ps:List (List Int)}(h:PSt P w0 w v0 fv qv kf kq FV V fs ps)(hp:LQ w' (fun b=>w.heap.size<=b) p v):LQ w' (Qn P fv qv) p v:=by
 have hP:=h.row.lt
 refine hp.mono (fun b hb hlt=>⟨⟨by omega,fun e=>?_,fun e=>?_⟩,hlt,rfl⟩)
 ·have:=(h.ownQ.lt b e).2;omega
 ·have:=(h.ownF.lt b e).2;omega
theorem PSt.pushF{fv v n:Value}{FV:List Value}{ps:List (List Int)}(h:PSt P w0 w v0 fv qv kf kq FV V fs ps)(kv:LQ w (Qn P fv qv) f.via v)(kn:LQ w (Qn P fv qv) f.nt n)(hown:w'.ownsRow (P+1) 74 4 (.slice (some ⟨g,0,none⟩) (kf+1) c) (kf+1) (FV++[.int .i64 f.fr,.int .i64 f.to,v,n]))(hg:(w.alloc o).grownBy w' fv.ownBlock)(Q2:fv.ownBlock=some g\/g=w.heap.size+1):
  PSt P w0 (w'.setCell ⟨P,1,none⟩ (.slice (some ⟨g,0,none⟩) (kf+1) c)) v0 (.slice (some ⟨g,0,none⟩) (kf+1) c) qv (kf+1) kq (FV++[.int .i64 f.fr,.int .i64 f.to,v,n]) V (fs++[f]) ps:=by
  have hP:=h.row.lt
  have hneP:some P≠fv.ownBlock:=fun e=>by have:=(h.ownF.lt P e.symm).1;omega
  have hge:P+1<=g:=(hown.lt g rfl).1
  have hs:=hg.size
  rw[World.size_alloc] at hs
  have H:∀b,Qn P fv qv b->b<w.heap.size->Qn P (.slice (some ⟨g,0,none⟩) (kf+1) c) qv b/\b<(w'.setCell ⟨P,1,none⟩ (.slice (some ⟨g,0,none⟩) (kf+1) c)).heap.size/\(w'.setCell ⟨P,1,none⟩ (.slice (some ⟨g,0,none⟩) (kf+1) c)).heap[b]? =w.heap[b]?:=fun b hb hlt=>by
   have hb1:=hb.1
   refine⟨⟨hb.1,hb.2.1,fun e=>?_⟩,by simp;omega,(Zm _ _ _ _ (by simp;omega)).trans ((hg.block b (by simp;omega) (fun e=>hb.2.2 e.symm)).trans (bal _ _ _ hlt))⟩
   have e':g=b:=by simpa[Value.ownBlock] using e
   rcases Q2 with k | k
   ·exact hb.2.2 (by rw[k,e'])
   ·omega
  refine⟨((h.row.of_block ((hg.block P (by simp;omega) hneP).trans (bal _ _ _ hP))).set 1 _).congr (fun j hj=>pF_one hj),ownsRow_setCell_below hown (by simp) _,ownsRow_setCell_below ((h.ownQ.alloc o).kept hg ?_) (by simp) _,fun b e=>?_,LFs.snoc (kv.mono H) (kn.mono H) (h.lf.mono H),h.lq.mono H,?_⟩
  ·cases hq:qv.ownBlock with
   | none=>exact Or.inl rfl
   | some b=>exact Or.inr (fun e=>h.apart b e.symm hq)
  ·have e':g=b:=by simpa[Value.ownBlock] using e
   subst e'
   rcases Q2 with k | k
   ·exact h.apart g k
   ·intro hq;have:=(h.ownQ.lt g hq).2;omega
  ·exact(Below.grown (h.bel.alloc (by omega) o) hg (by simp;omega) (fun j hj=>by have:=(h.ownF.lt j hj).1;omega)).setCell (by simp) _
theorem PSt.pushQ{fv v:Value}{FV:List Value}{ps:List (List Int)}(h:PSt P w0 w v0 fv qv kf kq FV V fs ps)(kv:LQ w (Qn P fv qv) p v)(hown:w'.ownsRow (P+1) 104 1 (.slice (some ⟨g,0,none⟩) (kq+1) c) (kq+1) (V++[v]))(hg:(w.alloc o).grownBy w' qv.ownBlock)(Q2:qv.ownBlock=some g\/g=w.heap.size+1):
  PSt P w0 (w'.setCell ⟨P,2,none⟩ (.slice (some ⟨g,0,none⟩) (kq+1) c)) v0 fv (.slice (some ⟨g,0,none⟩) (kq+1) c) kf (kq+1) FV (V++[v]) fs (ps++[p]):=by
  have hP:=h.row.lt
  have hneP:some P≠qv.ownBlock:=fun e=>by have:=(h.ownQ.lt P e.symm).1;omega
  have hge:P+1<=g:=(hown.lt g rfl).1
  have hs:=hg.size
  rw[World.size_alloc] at hs
  have H:∀b,Qn P fv qv b->b<w.heap.size->Qn P fv (.slice (some ⟨g,0,none⟩) (kq+1) c) b/\b<(w'.setCell ⟨P,2,none⟩ (.slice (some ⟨g,0,none⟩) (kq+1) c)).heap.size/\(w'.setCell ⟨P,2,none⟩ (.slice (some ⟨g,0,none⟩) (kq+1) c)).heap[b]? =w.heap[b]?:=fun b hb hlt=>by
   have hb1:=hb.1
   refine⟨⟨hb.1,fun e=>?_,hb.2.2⟩,by simp;omega,(Zm _ _ _ _ (by simp;omega)).trans ((hg.block b (by simp;omega) (fun e=>hb.2.1 e.symm)).trans (bal _ _ _ hlt))⟩
   have e':g=b:=by simpa[Value.ownBlock] using e
   rcases Q2 with k | k
   ·exact hb.2.1 (by rw[k,e'])
   ·omega
  refine⟨((h.row.of_block ((hg.block P (by simp;omega) hneP).trans (bal _ _ _ hP))).set 2 _).congr (fun j hj=>pF_two hj),ownsRow_setCell_below ((h.ownF.alloc o).kept hg ?_) (by simp) _,ownsRow_setCell_below hown (by simp) _,fun b e hq=>?_,h.lf.mono H,LQs.snoc (h.lq.mono H) (kv.mono H),?_⟩
  ·cases hq:fv.ownBlock with
   | none=>exact Or.inl rfl
   | some b=>exact Or.inr (fun e=>h.apart b hq e.symm)
  ·have e':g=b:=by simpa[Value.ownBlock] using hq
   subst e'
   rcases Q2 with k | k
   ·exact h.apart g e k
   ·have:=(h.ownF.lt g e).2;omega
  ·exact(Below.grown (h.bel.alloc (by omega) o) hg (by simp;omega) (fun j hj=>by have:=(h.ownQ.lt j hj).1;omega)).setCell (by simp) _
theorem PSt.fin3{fv:Value}{FV:List Value}{ps:List (List Int)}(h:PSt P w0 w v0 fv qv kf kq FV V fs ps):
 ∃fo fc qo qc,fv=.slice fo fs.length fc/\qv=.slice qo ps.length qc/\∀U:World,w.heap.size<=U.heap.size->(∀b,P+1<=b->b<w.heap.size->U.heap[b]? =w.heap[b]?)->Fw.Qk U fo fs/\q0i U qo ps:=by
 have own:∀(U:World) (e:TypeId) (sz:Nat) (v:Value) (n:Nat) (xs:List Value),w.ownsRow (P+1) e sz v n xs->(∀b,P+1<=b->b<w.heap.size->U.heap[b]? =w.heap[b]?)->U.ownsRow (P+1) e sz v n xs:=fun U e sz v n xs ho hU=>by
  refine⟨ho.1,?_⟩
  rcases ho.2 with h2 | ⟨g,cap,cur,h1,h2,h3,h4⟩
  ·exact Or.inl h2
  ·exact Or.inr ⟨g,cap,cur,h1,h2,(hU g h2 (asi.1 h3).1).trans h3,h4⟩
 obtain⟨fo,fc,h1,_⟩:=z4z h.ownF h.lf
 obtain⟨qo,qc,h3,_⟩:=q5h h.ownQ h.lq
 refine⟨fo,fc,qo,qc,h1,h3,fun U hs hU=>?_⟩
 have H:∀b,Qn P fv qv b->b<w.heap.size->Qn P fv qv b/\b<U.heap.size/\U.heap[b]? =w.heap[b]?:=fun b hb hlt=>⟨hb,by omega,hU b hb.1 hlt⟩
 obtain⟨fo',fc',k1,k2⟩:=z4z (own U _ _ _ _ _ h.ownF hU) (h.lf.mono H)
 obtain⟨qo',qc',k3,k4⟩:=q5h (own U _ _ _ _ _ h.ownQ hU) (h.lq.mono H)
 rw[h1] at k1
 rw[h3] at k3
 cases k1
 cases k3
 exact⟨k2,k4⟩
theorem z4e(h:W.heap.size=b)(v0:Value):PSt b W (W.alloc (.cells #[v0,.slice none 0 0,.slice none 0 0] 29)) v0 (.slice none 0 0) (.slice none 0 0) 0 0 [] [] [] []:=
 ⟨plan_row h _ _ _,World.ownsRow_nil _ _ _ _,World.ownsRow_nil _ _ _ _,fun b e=>by simp[Value.ownBlock] at e,trivial,trivial,(Below.refl _ _).alloc (by omega) _⟩
theorem q7w:∀(n:Nat) (l:List Int),l.Nodup->(∀x∈l,0<=x/\x<(n:Int))->l.length<=n:=by
 intro n
 induction n with
 | zero=>intro l _ h;cases l with
  | nil=>simp
  | cons a r=>have:=h a (by simp);omega
 | succ n ih=>
  intro l hd h
  have h1:=ih (l.erase (n:Int)) (hd.erase _) (fun x hx=>by
   have:=(hd.mem_erase_iff).1 hx
   have:=h x this.2
   omega)
  have h2:l.length<=(l.erase (n:Int)).length+1:=by
   rw[List.length_erase]
   split <;> omega
  omega
theorem q9o{n:Int}(h:(Stf.Qp fs n).1=0):∀k,k<fs.length->Stf.Q6 (fs.getD k Fw.f0) n=0:=by
 unfold Stf.Qp at h
 split at h
 ·cases h
 ·split at h
  ·rename_i k hk
   rw[Stf.Zp] at hk
   have:=List.find?_some hk
   simp at this
   exact absurd h this
  ·rename_i hk
   intro j hj
   rw[Stf.Zp,List.find?_eq_none] at hk
   have:=hk j (by simpa using hj)
   simpa[Fw.f0] using this
theorem fnd_none{n:Int}(h:(Qc n ls).1=0)(h1:Stf.Q6 f n=0)(h2:find (cost ls) f.fr f.to f.via f.nt=none):fnd n ls f=(9,[]):=by
 unfold fnd
 rw[if_neg (by simp[h]),if_neg (by simp[h1]),h2]
theorem fnd_some{n:Int}{c:Int}(h:(Qc n ls).1=0)(h1:Stf.Q6 f n=0)(h2:find (cost ls) f.fr f.to f.via f.nt=some (p,c)):fnd n ls f=(0,p):=by
 unfold fnd
 rw[if_neg (by simp[h]),if_neg (by simp[h1]),h2]
def PlanNew (w w':World) (e:Ending) (n version:Int) (ls:List Lk) (fs:List Stf.Fl):Prop:=
 ∃(pv:Int) (fo:Option Addr) (fl fc:Nat) (qo:Option Addr) (ql qc:Nat),e=.returned (.tuple #[.agg #[.int .i64 pv,.slice fo fl fc,.slice qo ql qc],.agg #[.int .i64 (plnF n version ls fs).1,.int .i64 (plnF n version ls fs).2]])/\Ext w w'/\
  (((plnF n version ls fs).1≠0/\pv=0/\fl=0/\ql=0)\/((plnF n version ls fs).1=0/\pv=version/\fl=fs.length/\ql=(Qs n ls fs).length/\∀U:World,w'.heap.size<=U.heap.size->(∀b,w.heap.size<=b->b<w'.heap.size->U.heap[b]? =w'.heap[b]?)->Fw.Qk U fo fs/\q0i U qo (Qs n ls fs)))
theorem q3j{n:Int}{r:Int×Int}(h:plnF n version ls fs=r)(hr:r.1≠0)(hE:Ext w w'):PlanNew w w' (.returned (.tuple #[.agg #[.int .i64 0,.slice none 0 0,.slice none 0 0],.agg #[.int .i64 r.1,.int .i64 r.2]])) n version ls fs:=
 ⟨0,none,0,0,none,0,0,by rw[h],hE,Or.inl ⟨by rw[h];exact hr,rfl,rfl,rfl⟩⟩
theorem infoFl:(prog.info? 74).map (fun i=>(i.zero,i.size,i.bytes))=some (some (.agg #[.int .i64 0,.int .i64 0,.slice none 0 0,.slice none 0 0]),4,64):=by kernel_rfl
theorem one4s(a b:Int)(o o':Option Addr)(l c l' c':Nat):∀u∈[Value.int .i64 a,.int .i64 b,.slice o l c,.slice o' l' c'],u.oneCell'=true:=by
 intro u hu
 simp at hu
 rcases hu with rfl | rfl | rfl | rfl <;> rfl
end
end Go.Proofs.YthkpbefnkmmaiaaGreat
