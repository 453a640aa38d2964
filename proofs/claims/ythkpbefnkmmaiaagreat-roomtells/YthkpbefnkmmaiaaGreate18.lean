import Derived.Test.YthkpbefnkmmaiaaGreate17
namespace Agt
open Rul
structure Sw where
 rs:List Ru
 st:List (Int×Int)
def Zq:Sw:=⟨[],[]⟩
def badS (x:Int×Int):Bool:=decide (x.1<0\/11<x.1\/x.2<1\/1000<x.2)
def wst:Option Int->List (Int×Int)->Int
 | _,[]=>0
 | p,x::r=>if badS x=true then 3 else if p.any (fun q=>decide (x.1<=q))=true then 2 else wst (some x.1) r
def Qo (s:Sw):Int:=if(Rul.Qc s.rs).1≠0 then(Rul.Qc s.rs).1 else wst none s.st
def stamps (v:Int) (fs:List Int):List (Int×Int):=fs.map (fun f=>(f,v))
def doS (s:Sw) (o:Wir.Od):Sw×Int:=
 if Qo s≠0 then(Zq,Qo s)
 else if Wir.Qc o≠0 then(Zq,Wir.Qc o)
 else if o.k=1 then(if(add s.rs o.rs).2≠0 then(Zq,(add s.rs o.rs).2) else(⟨(add s.rs o.rs).1,s.st⟩,0))
 else if o.k=3 then(⟨drp s.rs o.v,s.st⟩,0)
 else(⟨s.rs,stamps o.v o.fs⟩,0)
def ver:List (Int×Int)->Int->Int
 | [],_=>0
 | x::r,f=>if x.1=f then x.2 else ver r f
theorem q9k{v:Int}(h1:1<=v)(h2:v<=1000):∀{fs:List Int} {last:Int} {p:Option Int}, -1<=last->(∀q,p=some q->q<=last)->Wir.badF last fs=false->wst p (stamps v fs)=0
 | [],_,_,_,_,_=>rfl
 | f::r,last,p,hl,hp,h=>by
  rw[Wir.badF] at h
  by_cases hx:f<=last\/11<f
  ·rw[if_pos hx] at h;cases h
  ·rw[if_neg hx] at h
   show wst p ((f,v)::stamps v r)=0
   have hb:badS (f,v)=false:=dff (by simp only;omega)
   have hq:p.any (fun q=>decide (f<=q))=false:=by
    cases p with
    | none=>rfl
    | some q=>have:=hp q rfl;simp only[Option.any_some];exact dff (by omega)
   rw[wst,hb,hq]
   simp only[Bool.false_eq_true,if_false]
   exact q9k h1 h2 (last:=f) (by omega) (fun q hq=>by cases hq;exact Int.le_refl _) h
variable {s:Sw}
theorem q7j(h:Qo s=0):tab s.rs/\wst none s.st=0:=by
 unfold Qo at h
 by_cases h1:(Rul.Qc s.rs).1=0
 ·rw[if_neg (by simpa using h1)] at h;exact⟨h1,h⟩
 ·rw[if_pos h1] at h;exact absurd h h1
theorem q1p(h1:tab s.rs)(h2:wst none s.st=0):Qo s=0:=by
 unfold Qo
 rw[if_neg (by have:(Rul.Qc s.rs).1=0:=h1;simpa using this)];exact h2
variable {o:Wir.Od}
theorem do_cases(h:(doS s o).2=0):Qo s=0/\Wir.Qc o=0/\((o.k=1/\(add s.rs o.rs).2=0/\doS s o=(⟨(add s.rs o.rs).1,s.st⟩,0))\/(o.k=3/\doS s o=(⟨drp s.rs o.v,s.st⟩,0))\/(o.k=2/\doS s o=(⟨s.rs,stamps o.v o.fs⟩,0))):=by
 by_cases h1:Qo s=0
 ·by_cases h2:Wir.Qc o=0
  ·refine⟨h1,h2,?_⟩
   have e:doS s o=if o.k=1 then(if(add s.rs o.rs).2≠0 then(Zq,(add s.rs o.rs).2) else(⟨(add s.rs o.rs).1,s.st⟩,0)) else if o.k=3 then(⟨drp s.rs o.v,s.st⟩,0) else(⟨s.rs,stamps o.v o.fs⟩,0):=by
    unfold doS;rw[if_neg (by simpa using h1),if_neg (by simpa using h2)]
   obtain⟨_,hk⟩:=Wir.q4u h2
   rcases hk with⟨hk,_⟩ | ⟨hk,_⟩ | hk
   ·rw[if_pos hk] at e
    by_cases h3:(add s.rs o.rs).2=0
    ·rw[if_neg (by simpa using h3)] at e;exact Or.inl ⟨hk,h3,e⟩
    ·rw[if_pos h3] at e;rw[e] at h;exact absurd h h3
   ·rw[if_neg (by omega),if_neg (by omega)] at e;exact Or.inr (Or.inr ⟨hk,e⟩)
   ·rw[if_neg (by omega),if_pos hk] at e;exact Or.inr (Or.inl ⟨hk,e⟩)
  ·exfalso;unfold doS at h;rw[if_neg (by simpa using h1),if_pos h2] at h;exact h2 h
 ·exfalso;unfold doS at h;rw[if_pos h1] at h;exact h1 h
theorem do_add(h1:Qo s=0)(h2:Wir.Qc o=0)(hk:o.k=1)(h3:(add s.rs o.rs).2=0):doS s o=(⟨(add s.rs o.rs).1,s.st⟩,0):=by
 unfold doS;rw[if_neg (by simpa using h1),if_neg (by simpa using h2),if_pos hk,if_neg (by simpa using h3)]
theorem do_drop(h1:Qo s=0)(h2:Wir.Qc o=0)(hk:o.k=3):doS s o=(⟨drp s.rs o.v,s.st⟩,0):=by
 unfold doS;rw[if_neg (by simpa using h1),if_neg (by simpa using h2),if_neg (by omega),if_pos hk]
theorem do_stamp(h1:Qo s=0)(h2:Wir.Qc o=0)(hk:o.k=2):doS s o=(⟨s.rs,stamps o.v o.fs⟩,0):=by
 unfold doS;rw[if_neg (by simpa using h1),if_neg (by simpa using h2),if_neg (by omega),if_neg (by omega)]
variable {l:List Ru}
theorem drp_ris(v:Int)(h:Ris l):Ris (drp l v):=List.Pairwise.filter _ h
theorem mem_add{m:List Ru}(h:(add l m).2=0){r:Ru}:r∈(add l m).1↔r∈l\/r∈m:=by rw[(add_zero h).2.2];exact add_mem
end Agt
namespace Go.Proofs.YthkpbefnkmmaiaaGreat
open Go.Proofs.Tryz
namespace Rm
open Go.RowKit Go.Deep Stw Stp Tb Rul Ct
structure Pk where
 fl:Int
 v:Int
 tr:List Int
 dn:Bool
def Q8:Pk:=⟨0,0,[],false⟩
structure Wd where
 co:Co
 sw:List Agt.Sw
 od:List (List Wir.Od)
 bk:List (List Int)
 pk:List Pk
 pn:List Pl
def wd0:Wd:=⟨co0,[],[],[],[],[]⟩
def wdN (n:Nat):Wd:=⟨co0,List.replicate n Agt.Zq,List.replicate n [],List.replicate n [],[],[]⟩
structure Dd where
 k:Int
 n:Int
 fs:List Stf.Fl
def dd0:Dd:=⟨0,0,[]⟩
def Zh (od:List (List Wir.Od)) (out:List (Nat×Wir.Od)):List (List Wir.Od):=out.foldl (fun o x=>o.set x.1 (o.getD x.1 []++[x.2])) od
def hapA (n:Nat) (ls:List Lk) (W:Wd) (fs:List Stf.Fl):Wd×Int:=
 if(Q1 W.co n ls fs).2≠0 then(W,(Q1 W.co n ls fs).2)
 else(⟨(Q1 W.co n ls fs).1.c,W.sw,Zh W.od (Q1 W.co n ls fs).1.out,W.bk,W.pk,W.pn++[(Q1 W.co n ls fs).1.c.Qd]⟩,0)
def hapD (n:Nat) (ls:List Lk) (W:Wd):Wd×Int:=
 if(Qq W.co n ls).2≠0 then(W,(Qq W.co n ls).2)
 else(⟨(Qq W.co n ls).1.c,W.sw,Zh W.od (Qq W.co n ls).1.out,W.bk,W.pk,W.pn⟩,0)
def hapO (n:Nat) (W:Wd) (i:Int):Wd×Int:=
 if ¬(0<=i/\i<n) then(W,6)
 else match W.od.getD i.toNat [] with
  | []=>(W,6)
  | o::r=>if(Agt.doS (W.sw.getD i.toNat Agt.Zq) o).2≠0 then(W,(Agt.doS (W.sw.getD i.toNat Agt.Zq) o).2)
   else(⟨W.co,W.sw.set i.toNat (Agt.doS (W.sw.getD i.toNat Agt.Zq) o).1,W.od.set i.toNat r,W.bk.set i.toNat (W.bk.getD i.toNat []++[o.n]),W.pk,W.pn⟩,0)
def hapK (n:Nat) (ls:List Lk) (W:Wd) (i:Int):Wd×Int:=
 if ¬(0<=i/\i<n) then(W,6)
 else match W.bk.getD i.toNat [] with
  | []=>(W,6)
  | k::r=>if(Qw W.co n ls k).2≠0 then(W,(Qw W.co n ls k).2)
   else(⟨(Qw W.co n ls k).1.c,W.sw,Zh W.od (Qw W.co n ls k).1.out,W.bk.set i.toNat r,W.pk,W.pn⟩,0)
def sat (f:Int):Nat->List Agt.Sw->Option (Nat×Int)
 | _,[]=>none
 | s,x::r=>if Agt.ver x.st f≠0 then some (s,Agt.ver x.st f) else sat f (s+1) r
def frm (c:Co) (f:Int):Option Int:=
 if 0<=f/\f<c.Qd.fs.length then some (c.Qd.fs.getD f.toNat Fw.f0).fr
 else if 0<=f/\f<c.now.fs.length then some (c.now.fs.getD f.toNat Fw.f0).fr
 else none
def newP (sw:List Agt.Sw) (f a:Int):Pk:=match sat f 0 sw with
 | some x=>⟨f,x.2,[(x.1:Int)],false⟩
 | none=>⟨f,0,[a],true⟩
def hapB (W:Wd) (f:Int):Wd×Int:=
 if 40<=W.pk.length then(W,5)
 else match frm W.co f with
  | none=>(W,6)
  | some a=>(⟨W.co,W.sw,W.od,W.bk,W.pk++[newP W.sw f a],W.pn⟩,0)
def atP (p:Pk):Int:=p.tr.getD (p.tr.length - 1) 0
def movP (sw:List Agt.Sw) (p:Pk):Pk:=
 if(Rul.Qd p.v p.fl (sw.getD (atP p).toNat Agt.Zq).rs).2=true then⟨p.fl,p.v,p.tr++[(Rul.Qd p.v p.fl (sw.getD (atP p).toNat Agt.Zq).rs).1],p.dn⟩
 else⟨p.fl,p.v,p.tr,true⟩
def hapM (W:Wd) (i:Int):Wd×Int:=
 if ¬(0<=i/\i<W.pk.length) then(W,6)
 else if(W.pk.getD i.toNat Q8).dn=true then(W,6)
 else(⟨W.co,W.sw,W.od,W.bk,W.pk.set i.toNat (movP W.sw (W.pk.getD i.toNat Q8)),W.pn⟩,0)
def hap (n:Nat) (ls:List Lk) (W:Wd) (d:Dd):Wd×Int:=
 if d.k=1 then hapA n ls W d.fs
 else if d.k=2 then hapO n W d.n
 else if d.k=3 then hapK n ls W d.n
 else if d.k=4 then hapB W d.n
 else if d.k=5 then hapM W d.n
 else if d.k=6 then hapD n ls W
 else(W,1)
def z6j (n:Nat) (ls:List Lk) (q:Wd×List Int) (d:Dd):Wd×List Int:=((hap n ls q.1 d).1,q.2++[(hap n ls q.1 d).2])
def runR (n:Nat) (ls:List Lk) (q:Wd×List Int) (ds:List Dd):Wd×List Int:=ds.foldl (z6j n ls) q
def run (n:Nat) (ls:List Lk) (ds:List Dd):Wd×List Int:=runR n ls (wdN n,[]) ds
def plyF (n:Int) (ls:List Lk) (ds:List Dd):Int×Int:=if(Qc n ls).1≠0 then Qc n ls else if 200<ds.length then(5,0) else(0,0)
def plyW (n:Int) (ls:List Lk) (ds:List Dd):Wd×List Int:=if(plyF n ls ds).1≠0 then(wd0,[]) else run n.toNat ls ds
variable {ls:List Lk} {q:Wd×List Int} {b:List Dd}
theorem z6v{n:Nat}{a:List Dd}:runR n ls q (a++b)=runR n ls (runR n ls q a) b:=by simp[runR]
theorem z3w{n:Nat}{d:Dd}:runR n ls q (d::b)=runR n ls (z6j n ls q d) b:=rfl
variable {ds:List Dd}
theorem z3v{n:Nat}{k:Nat}(h:k<ds.length):runR n ls q (ds.take (k+1))=z6j n ls (runR n ls q (ds.take k)) (ds.getD k dd0):=by
 rw[List.take_succ_eq_append_getElem h,z6v]
 simp[runR,h]
theorem runR_len{n:Nat}{ls:List Lk}:∀{ds:List Dd} {q:Wd×List Int},(runR n ls q ds).2.length=q.2.length+ds.length
 | [],q=>by simp[runR]
 | d::r,q=>by rw[z3w,runR_len];simp[z6j];omega
theorem z6u{n:Nat}:(run n ls ds).2.length=ds.length:=by rw[run,runR_len];simp
theorem plyF_right{n:Int}(h:(plyF n ls ds).1=0):(Qc n ls).1=0/\ds.length<=200/\plyF n ls ds=(0,0)/\plyW n ls ds=run n.toNat ls ds:=by
 have e:plyW n ls ds=run n.toNat ls ds:=by unfold plyW;rw[if_neg (by simpa using h)]
 unfold plyF at h ⊢
 split at h
 ·rename_i h1;exact absurd h h1
 ·rename_i h1
  split at h
  ·cases h
  ·rename_i h2
   rw[if_neg h1,if_neg h2]
   exact⟨by simpa using h1,by omega,rfl,e⟩
theorem plyF_of{n:Int}(h1:(Qc n ls).1=0)(h2:ds.length<=200):plyF n ls ds=(0,0)/\plyW n ls ds=run n.toNat ls ds:=by
 have e:plyF n ls ds=(0,0):=by unfold plyF;rw[if_neg (by simpa using h1),if_neg (by omega)]
 exact⟨e,by unfold plyW;rw[e,if_neg (by simp)]⟩
def nmb (o:Wir.Od) (k:Int):Wir.Od:=⟨o.k,k,o.v,o.rs,o.fs⟩
def asL (x:Option Wir.Od) (k:Int):List Wir.Od:=match x with
 | none=>[]
 | some o=>[nmb o k]
def cn (ord:Nat->Option Wir.Od):Nat->Nat
 | 0=>0
 | m+1=>cn ord m+(if(ord m).isSome=true then 1 else 0)
def outL (ord:Nat->Option Wir.Od) (num:Int):Nat->List (Nat×Wir.Od)
 | 0=>[]
 | m+1=>outL ord num m++(match ord m with
  | none=>[]
  | some o=>[(m,nmb o (num+cn ord m+1))])
def nums (l:List (Nat×Wir.Od)):List Int:=l.map (fun x=>x.2.n)
theorem cn_le{ord:Nat->Option Wir.Od}:∀m,cn ord m<=m
 | 0=>Ql _
 | m+1=>by have:=cn_le (ord:=ord) m;unfold cn;split <;> omega
theorem cn_mono{ord:Nat->Option Wir.Od}{a:Nat}:∀{b:Nat},a<=b->cn ord a<=cn ord b
 | 0,h=>by have:a=0:=by omega
           subst this;exact Ql _
 | b+1,h=>by
  by_cases e:a=b+1
  ·subst e;exact Ql _
  ·have:=cn_mono (ord:=ord) (a:=a) (b:=b) (by omega)
   show cn ord a<=cn ord b+_
   omega
variable {ord:Nat->Option Wir.Od}
theorem cn_lt{a b:Nat}{o:Wir.Od}(h:a<b)(ho:ord a=some o):cn ord a<cn ord b:=by
 have h1:=cn_mono (ord:=ord) (a:=a+1) (b:=b) h
 have h2:cn ord (a+1)=cn ord a+1:=by show cn ord a+_=_;rw[ho];rfl
 omega
theorem tel_eq{ord:Nat->Option Wir.Od}{num:Int}{Qg:List Int}{out:List (Nat×Wir.Od)}(h0:0<=num)(h1:num<=90000):∀m,m<=8->tel ord ⟨num,Qg,out⟩ m=⟨num+cn ord m,Qg++nums (outL ord num m),out++outL ord num m⟩
 | 0,_=>by simp[tel,cn,outL,nums]
 | m+1,hm=>by
  have hc:=cn_le (ord:=ord) m
  rw[tel,tel_eq h0 h1 m (by omega),cn,outL]
  cases ho:ord m with
  | none=>simp[one]
  | some o=>
   have hn:nx (num+cn ord m)=num+cn ord m+1:=by unfold nx;rw[IntKind.wrap_i64];omega
   simp only[one,hn,Option.isSome_some,if_true,nums,List.map_append,List.map_cons,List.map_nil,List.append_assoc,nmb]
   congr 1
   simp[Int.add_assoc]
variable {m:Nat}
theorem z6e{g:Cg}(h0:0<=g.c.num)(h1:g.c.num<=90000)(hm:m<=8):told m ord g=⟨⟨g.c.st,g.c.now,g.c.Qd,g.c.num+cn ord m,g.c.Qg++nums (outL ord g.c.num m)⟩,g.out++outL ord g.c.num m⟩:=by
 unfold told;rw[tel_eq h0 h1 m hm]
theorem z2a{ord:Nat->Option Wir.Od}{num:Int}{x:Nat×Wir.Od}:∀{m:Nat},x∈outL ord num m↔∃s o,s<m/\ord s=some o/\x=(s,nmb o (num+cn ord s+1))
 | 0=>by simp[outL]
 | m+1=>by
  rw[outL,List.mem_append,z2a]
  constructor
  ·rintro(⟨s,o,h1,h2,h3⟩ | h)
   ·exact⟨s,o,by omega,h2,h3⟩
   ·cases ho:ord m with
    | none=>rw[ho] at h;simp at h
    | some o=>rw[ho] at h;simp at h;exact⟨m,o,by omega,ho,h⟩
  ·rintro⟨s,o,h1,h2,h3⟩
   by_cases e:s=m
   ·subst e;rw[h2];exact Or.inr (by simp[h3])
   ·exact Or.inl ⟨s,o,by omega,h2,h3⟩
theorem q8d{num k:Int}:k∈nums (outL ord num m)↔∃s o,s<m/\ord s=some o/\k=num+cn ord s+1:=by
 unfold nums
 rw[List.mem_map]
 constructor
 ·rintro⟨x,hx,rfl⟩
  obtain⟨s,o,h1,h2,rfl⟩:=z2a.1 hx
  exact⟨s,o,h1,h2,rfl⟩
 ·rintro⟨s,o,h1,h2,rfl⟩
  exact⟨_,z2a.2 ⟨s,o,h1,h2,rfl⟩,rfl⟩
theorem q9x{ord:Nat->Option Wir.Od}{num:Int}:∀m,(nums (outL ord num m)).Nodup
 | 0=>by simp[outL,nums]
 | m+1=>by
  have ih:=q9x (ord:=ord) (num:=num) m
  rw[outL]
  cases ho:ord m with
  | none=>simpa using ih
  | some o=>
   show(nums (outL ord num m++[_])).Nodup
   unfold nums at ih ⊢
   rw[List.map_append]
   refine List.nodup_append.2 ⟨ih,by simp,fun a ha b hb=>?_⟩
   obtain⟨s,o',h1,h2,h3⟩:=q8d.1 (show a∈nums (outL ord num m) from ha)
   simp[nmb] at hb
   have:=cn_lt h1 h2
   omega
theorem q3x{out:List (Nat×Wir.Od)}:∀{od:List (List Wir.Od)},(Zh od out).length=od.length:=by
 induction out with
 | nil=>intro od;rfl
 | cons x r ih=>intro od;show(Zh (od.set _ _) r).length=_;rw[ih];simp
theorem q7y{od:List (List Wir.Od)}{a b:List (Nat×Wir.Od)}:Zh od (a++b)=Zh (Zh od a) b:=by simp[Zh]
theorem q0p{α:Type}{l:List α}{i j:Nat}{x z:α}(hi:i<l.length):(l.set i x).getD j z=if j=i then x else l.getD j z:=by
 rw[Zt,Zt,List.getElem?_set]
 by_cases e:i=j
 ·subst e;rw[if_pos rfl,if_pos hi,if_pos rfl];rfl
 ·rw[if_neg e,if_neg (fun h=>e h.symm)]
theorem putO_get{ord:Nat->Option Wir.Od}{num:Int}{od:List (List Wir.Od)}:∀{m:Nat},m<=od.length->∀s,(Zh od (outL ord num m)).getD s []=od.getD s []++(if s<m then asL (ord s) (num+cn ord s+1) else [])
 | 0,_,s=>by simp[outL,Zh]
 | m+1,hm,s=>by
  have ih:=putO_get (ord:=ord) (num:=num) (m:=m) (by omega) (od:=od)
  rw[outL,q7y]
  cases ho:ord m with
  | none=>
   show(Zh od (outL ord num m)).getD s []=_
   rw[ih s]
   by_cases e:s=m
   ·subst e;rw[if_neg (by omega),if_pos (by omega),ho];rfl
   ·by_cases h:s<m
    ·rw[if_pos h,if_pos (by omega)]
    ·rw[if_neg h,if_neg (by omega)]
  | some o=>
   show((Zh od (outL ord num m)).set m ((Zh od (outL ord num m)).getD m []++[nmb o (num+cn ord m+1)])).getD s []=_
   rw[q0p (by rw[q3x];omega)]
   by_cases e:s=m
   ·subst e;rw[if_pos rfl,ih s,if_neg (by omega),if_pos (by omega),ho];simp[asL]
   ·rw[if_neg e,ih s]
    by_cases h:s<m
    ·rw[if_pos h,if_pos (by omega)]
    ·rw[if_neg h,if_neg (by omega)]
end Rm
namespace Ag
open Go.RowKit Go.Deep Tb Rul
abbrev s0:Int×Int:=(0,0)
def StAt (w:World) (ao:Option Addr) (st:List (Int×Int)):Prop:=
 st=[]\/∃g off,ao=some ⟨g,off,none⟩/\g<w.heap.size/\∀k,k<st.length->w.cell? ⟨g,off+k*2,none⟩=some (.int .i64 (st.getD k s0).1)/\w.cell? ⟨g,off+k*2+1,none⟩=some (.int .i64 (st.getD k s0).2)
variable {w:World} {ao:Option Addr}
theorem StAt.ext{w':World}{st:List (Int×Int)}(h:StAt w ao st)(E:Ext w w'):StAt w' ao st:=by
 rcases h with h | ⟨g,off,h1,h2,h3⟩
 ·exact Or.inl h
 ·exact Or.inr ⟨g,off,h1,Q5 h2 E.size,fun k hk=>⟨(E.cells.1 _ _ h2).trans (h3 k hk).1,(E.cells.1 _ _ h2).trans (h3 k hk).2⟩⟩
theorem StAt.get{st:List (Int×Int)}(h:StAt w ao st){k:Nat}(hk:k<st.length):∃g off,ao=some ⟨g,off,none⟩/\g<w.heap.size/\∀k,k<st.length->w.cell? ⟨g,off+k*2,none⟩=some (.int .i64 (st.getD k s0).1)/\w.cell? ⟨g,off+k*2+1,none⟩=some (.int .i64 (st.getD k s0).2):=by
 rcases h with h | h
 ·rw[h] at hk;simp at hk
 ·exact h
def svl (s:Agt.Sw) (ro so:Option Addr) (rc sc:Nat):Value:=.agg #[.slice ro s.rs.length rc,.slice so s.st.length sc]
structure Zn (w:World) (s:Agt.Sw) (ro so:Option Addr) (rc:Nat):Prop where
 hr:SlOk w ro s.rs.length rc s.rs
 hs:StAt w so s.st
 rl:s.rs.length*24<=140737488351232
 sl:s.st.length*16<=140737488351232
 rq:s.rs.length<=rc/\rc<=9223372036854775807
theorem Zn.ext{w w':World}{s:Agt.Sw}{ro so:Option Addr}{rc:Nat}(h:Zn w s ro so rc)(E:Ext w w'):Zn w' s ro so rc:=⟨h.hr.ext E,h.hs.ext E,h.rl,h.sl,h.rq⟩
variable {k:Nat}
theorem ver_step{st:List (Int×Int)}{f:Int}(hk:k<st.length):Agt.ver (st.drop k) f=if(st.getD k s0).1=f then(st.getD k s0).2 else Agt.ver (st.drop (k+1)) f:=by
 have e:st.getD k s0=st[k]:=by simp[hk]
 rw[List.drop_eq_getElem_cons hk,Agt.ver,e]
end Ag
namespace Rm
open Go.RowKit Go.Deep Stw Stp Tb Rul Ct
structure Qf (S:Nat->Prop) (tg tg':Nat->Nat) (w w':World):Prop where
 size:w.heap.size<=w'.heap.size
 blk:∀b,b<w.heap.size->S (tg b)->tg' b=tg b/\w'.heap[b]? =w.heap[b]?
variable {tg tg':Nat->Nat} {w w':World} {S:Nat->Prop}
theorem Qf.mono{S':Nat->Prop}(h:Qf S tg tg' w w')(hs:∀x,S' x->S x):Qf S' tg tg' w w':=⟨h.size,fun b hb hx=>h.blk b hb (hs _ hx)⟩
theorem Qf.trans{S:Nat->Prop}{tg tg1 tg2:Nat->Nat}{w w1 w2:World}(h:Qf S tg tg1 w w1)(k:Qf S tg1 tg2 w1 w2):Qf S tg tg2 w w2:=⟨ltr h.size k.size,fun b hb hx=>by
 obtain⟨e1,e2⟩:=h.blk b hb hx
 obtain⟨f1,f2⟩:=k.blk b (Q5 hb h.size) (by rw[e1];exact hx)
 exact⟨f1.trans e1,f2.trans e2⟩⟩
theorem Qf.refl(S:Nat->Prop)(tg:Nat->Nat)(w:World):Qf S tg tg w w:=⟨Ql _,fun _ _ _=>⟨rfl,rfl⟩⟩
theorem Qf.ext(E:Ext w w'):Qf S tg tg w w':=⟨E.size,fun b hb _=>⟨rfl,Below.block E b hb⟩⟩
variable {b t:Nat}
theorem Qf.set{o:Nat}(ht:tg b=t)(u:Value):Qf (fun x=>x≠t) tg tg w (w.setCell ⟨b,o,none⟩ u):=⟨by simp,fun k _ hk=>⟨rfl,Zm _ _ _ _ (fun e=>hk (by rw[e];exact ht))⟩⟩
theorem Qf.push{v:Value}{g:Nat}(ht:∀k,v.ownBlock=some k->tg k=t)(hg:w.grownBy w' v.ownBlock)(Q2:v.ownBlock=some g\/g=w.heap.size):Qf (fun x=>x≠t) tg (fun b=>if b=g then t else tg b) w w':=⟨hg.size,fun b hb hx=>by
 have hne:b≠g:=fun e=>by
  rcases Q2 with h | h
  ·exact hx (by rw[e];exact ht g h)
  ·omega
 exact⟨if_neg hne,hg.block b hb (fun e=>hx (ht b e.symm))⟩⟩
end Rm
namespace Ct
open Go.RowKit Go.Deep Rm
theorem Stb.Qh{S:Nat->Prop}{tg tg':Nat->Nat}{w w':World}{D:World->Prop}(h:Stb (fun b=>tg b=0) w D)(k:Qf S tg tg' w w')(h0:S 0):Stb (fun b=>tg' b=0) w' D:=fun U hU kU=>h U (ltr k.size hU) (fun b hb hlt=>by
 obtain⟨e1,e2⟩:=k.blk b hlt (by rw[show tg b=0 from hb];exact h0)
 exact(kU b (e1.trans hb) (Q5 hlt k.size)).trans e2)
end Ct
namespace Rm
open Go.RowKit Go.Deep Stw Stp Tb Rul Ct
variable {tg tg':Nat->Nat} {w w':World} {S:Nat->Prop}
variable {b t:Nat}
structure RwT (tg:Nat->Nat) (t:Nat) (w:World) (e:TypeId) (size:Nat) (v:Value) (n:Nat) (xs:List Value):Prop where
 rw:Rw w e size v n xs
 tg:∀g,v.ownBlock=some g->tg g=t
theorem RwT.nil(tg:Nat->Nat)(t:Nat)(w:World)(e:TypeId)(size:Nat):RwT tg t w e size (.slice none 0 0) 0 []:=⟨Rw.nil _ _ _,fun g h=>by cases h⟩
theorem RwT.Qh{S:Nat->Prop}{tg tg':Nat->Nat}{w w':World}{t:Nat}{e:TypeId}{size:Nat}{v:Value}{n:Nat}{xs:List Value}(h:RwT tg t w e size v n xs)(k:Qf S tg tg' w w')(ht:S t):RwT tg' t w' e size v n xs:=
 ⟨h.rw.Qh (fun g hg=>(k.blk g (h.rw.lt g hg) (by rw[h.tg g hg];exact ht)).2),fun g hg=>by rw[(k.blk g (h.rw.lt g hg) (by rw[h.tg g hg];exact ht)).1];exact h.tg g hg⟩
def Za (tg:Nat->Nat) (t:Nat) (w:World) (ns:List Int) (v:Value):Prop:=RwT tg t w 3 1 v ns.length (ns.map (Value.int .i64))
def OdAt (Y:Nat->Prop) (w:World) (o:Wir.Od) (c:Nat->Option Value):Prop:=∃ro rc fo fc,c 0=some (.int .i64 o.k)/\c 1=some (.int .i64 o.n)/\c 2=some (.int .i64 o.v)/\c 3=some (.slice ro o.rs.length rc)/\c 4=some (.slice fo o.fs.length fc)/\Stb Y w (fun U=>Zl U ro o.rs/\Qj U fo o.fs)
def q1a (tg:Nat->Nat) (t:Nat) (w:World) (os:List Wir.Od) (v:Value):Prop:=∃xs,RwT tg t w 69 5 v os.length xs/\∀i,i<os.length->OdAt (fun b=>tg b=0) w (os.getD i Wir.od0) (fun j=>xs[i*5+j]?)
theorem Za.Qh{S:Nat->Prop}{tg tg':Nat->Nat}{w w':World}{t:Nat}{ns:List Int}{v:Value}(h:Za tg t w ns v)(k:Qf S tg tg' w w')(ht:S t):Za tg' t w' ns v:=RwT.Qh h k ht
theorem q1a.Qh{S:Nat->Prop}{tg tg':Nat->Nat}{w w':World}{t:Nat}{os:List Wir.Od}{v:Value}(h:q1a tg t w os v)(k:Qf S tg tg' w w')(h0:S 0)(ht:S t):q1a tg' t w' os v:=by
 obtain⟨xs,h1,h2⟩:=h
 refine⟨xs,h1.Qh k ht,fun i hi=>?_⟩
 obtain⟨ro,rc,fo,fc,a0,a1,a2,a3,a4,a5⟩:=h2 i hi
 exact⟨ro,rc,fo,fc,a0,a1,a2,a3,a4,a5.Qh k h0⟩
theorem Za.nil(tg:Nat->Nat)(t:Nat)(w:World):Za tg t w [] (.slice none 0 0):=RwT.nil _ _ _ _ _
theorem q1a.nil(tg:Nat->Nat)(t:Nat)(w:World):q1a tg t w [] (.slice none 0 0):=⟨[],RwT.nil _ _ _ _ _,fun i hi=>by simp at hi⟩
def z2u (tg:Nat->Nat) (w:World) (sb n:Nat) (sw:List Agt.Sw):Prop:=tg sb=2/\∃f,w.rowIs sb 64 (n*2) f/\∀s,s<n->∃ro rc so sc,f (s*2)=.slice ro (sw.getD s Agt.Zq).rs.length rc/\f (s*2+1)=.slice so (sw.getD s Agt.Zq).st.length sc/\Stb (fun b=>tg b=0) w (fun U=>Ag.Zn U (sw.getD s Agt.Zq) ro so rc)
def q9i (tg:Nat->Nat) (w:World) (ob n:Nat) (od:List (List Wir.Od)):Prop:=tg ob=3/\∃f,w.rowIs ob 66 n f/\∀s,s<n->q1a tg (10+3*s) w (od.getD s []) (f s)
def q9j (tg:Nat->Nat) (w:World) (bb n:Nat) (bk:List (List Int)):Prop:=tg bb=4/\∃f,w.rowIs bb 30 n f/\∀s,s<n->Za tg (11+3*s) w (bk.getD s []) (f s)
def q8x (tg:Nat->Nat) (w:World) (pk:List Pk) (v:Value):Prop:=∃xs,RwT tg 5 w 71 4 v pk.length xs/\∀i,i<pk.length->∃tv,xs[i*4]? =some (.int .i64 (pk.getD i Q8).fl)/\xs[i*4+1]? =some (.int .i64 (pk.getD i Q8).v)/\xs[i*4+2]? =some tv/\xs[i*4+3]? =some (.bool (pk.getD i Q8).dn)/\Za tg (12+3*i) w (pk.getD i Q8).tr tv
def PlsAt (tg:Nat->Nat) (w:World) (pn:List Pl) (v:Value):Prop:=∃xs,RwT tg 6 w 29 3 v pn.length xs/\∀i,i<pn.length->∃a:PA,xs[i*3]? =some (.int .i64 (pn.getD i pl0).v)/\xs[i*3+1]? =some (.slice a.fo (pn.getD i pl0).fs.length a.fc)/\xs[i*3+2]? =some (.slice a.qo (pn.getD i pl0).ps.length a.qc)/\Stb (fun b=>tg b=0) w (fun U=>PlAt U (pn.getD i pl0) a)
variable {T:TypeId}
theorem Zf{n:Nat}{f:Nat->Value}(h:w.rowIs b T n f)(k:Qf S tg tg' w w')(ht:S (tg b)):tg' b=tg b/\w'.rowIs b T n f:=⟨(k.blk b h.lt ht).1,h.of_block (k.blk b h.lt ht).2⟩
theorem z2u.Qh{S:Nat->Prop}{tg tg':Nat->Nat}{w w':World}{sb n:Nat}{sw:List Agt.Sw}(h:z2u tg w sb n sw)(k:Qf S tg tg' w w')(h0:S 0)(h2:S 2):z2u tg' w' sb n sw:=by
 obtain⟨e,f,hr,hs⟩:=h
 obtain⟨e1,e2⟩:=Zf hr k (by rw[e];exact h2)
 refine⟨e1.trans e,f,e2,fun s h=>?_⟩
 obtain⟨ro,rc,so,sc,a1,a2,a3⟩:=hs s h
 exact⟨ro,rc,so,sc,a1,a2,a3.Qh k h0⟩
theorem q9i.Qh{S:Nat->Prop}{tg tg':Nat->Nat}{w w':World}{ob n:Nat}{od:List (List Wir.Od)}(h:q9i tg w ob n od)(k:Qf S tg tg' w w')(h0:S 0)(h3:S 3)(hr:∀s,S (10+3*s)):q9i tg' w' ob n od:=by
 obtain⟨e,f,hf,hs⟩:=h
 obtain⟨e1,e2⟩:=Zf hf k (by rw[e];exact h3)
 exact⟨e1.trans e,f,e2,fun s h=>(hs s h).Qh k h0 (hr s)⟩
theorem q9j.Qh{S:Nat->Prop}{tg tg':Nat->Nat}{w w':World}{bb n:Nat}{bk:List (List Int)}(h:q9j tg w bb n bk)(k:Qf S tg tg' w w')(h4:S 4)(hr:∀s,S (11+3*s)):q9j tg' w' bb n bk:=by
 obtain⟨e,f,hf,hs⟩:=h
 obtain⟨e1,e2⟩:=Zf hf k (by rw[e];exact h4)
 exact⟨e1.trans e,f,e2,fun s h=>(hs s h).Qh k (hr s)⟩
theorem q8x.Qh{S:Nat->Prop}{tg tg':Nat->Nat}{w w':World}{pk:List Pk}{v:Value}(h:q8x tg w pk v)(k:Qf S tg tg' w w')(h5:S 5)(hr:∀i,S (12+3*i)):q8x tg' w' pk v:=by
 obtain⟨xs,h1,h2⟩:=h
 refine⟨xs,h1.Qh k h5,fun i hi=>?_⟩
 obtain⟨tv,a0,a1,a2,a3,a4⟩:=h2 i hi
 exact⟨tv,a0,a1,a2,a3,a4.Qh k (hr i)⟩
theorem PlsAt.Qh{S:Nat->Prop}{tg tg':Nat->Nat}{w w':World}{pn:List Pl}{v:Value}(h:PlsAt tg w pn v)(k:Qf S tg tg' w w')(h0:S 0)(h6:S 6):PlsAt tg' w' pn v:=by
 obtain⟨xs,h1,h2⟩:=h
 refine⟨xs,h1.Qh k h6,fun i hi=>?_⟩
 obtain⟨a,a0,a1,a2,a3⟩:=h2 i hi
 exact⟨a,a0,a1,a2,a3.Qh k h0⟩
def wdL (c:Co) (a:CA) (n sb ob bb:Nat) (kv lv:Value) (tl:List Value):List Value:=
 [.int .i64 c.st,.int .i64 c.now.v,.slice a.n.fo c.now.fs.length a.n.fc,.slice a.n.qo c.now.ps.length a.n.qc,.int .i64 c.Qd.v,.slice a.x.fo c.Qd.fs.length a.x.fc,.slice a.x.qo c.Qd.ps.length a.x.qc,.int .i64 c.num,.slice a.wo c.Qg.length a.wc,.slice (some ⟨sb,0,none⟩) n n,.slice (some ⟨ob,0,none⟩) n n,.slice (some ⟨bb,0,none⟩) n n,kv,lv]++tl
structure Q0 (T:TypeId) (tl:List Value) (w0:World) (P n:Nat) (tg:Nat->Nat) (w:World) (W:Wd) (a:CA) (sb ob bb:Nat) (kv lv:Value):Prop where
 row:w.rowIs P T (14+tl.length) (fun j=>(wdL W.co a n sb ob bb kv lv tl).getD j vd)
 co:Stb (fun b=>tg b=0) w (fun U=>Zr U W.co a)
 sws:z2u tg w sb n W.sw
 ors:q9i tg w ob n W.od
 bks:q9j tg w bb n W.bk
 pks:q8x tg w W.pk kv
 pls:PlsAt tg w W.pn lv
 tP:tg P=1
 nw:∀b,w.heap.size<=b->tg b=0
 base:∀b,tg b≠0->w0.heap.size<=b
 ext:Ext w0 w
variable {tl:List Value} {w0:World} {P sb ob bb:Nat} {W:Wd} {a:CA} {kv lv:Value}
theorem Q0.Qm{n:Nat}(h:Q0 T tl w0 P n tg w W a sb ob bb kv lv)(E:Ext w w'):Q0 T tl w0 P n tg w' W a sb ob bb kv lv:=
 ⟨h.row.of_block (Below.block E _ h.row.lt),h.co.Qh (Qf.ext (S:=fun _=>True) E) trivial,h.sws.Qh (Qf.ext (S:=fun _=>True) E) trivial trivial,h.ors.Qh (Qf.ext (S:=fun _=>True) E) trivial trivial (fun _=>trivial),h.bks.Qh (Qf.ext (S:=fun _=>True) E) trivial (fun _=>trivial),h.pks.Qh (Qf.ext (S:=fun _=>True) E) trivial (fun _=>trivial),h.pls.Qh (Qf.ext (S:=fun _=>True) E) trivial trivial,h.tP,fun b hb=>h.nw b (ltr E.size hb),h.base,h.ext.trans E⟩
def Zv (tg tg':Nat->Nat) (w w':World):Prop:=Qf (fun x=>x=0\/x=7\/x=8) tg tg' w w'
theorem Zv.ext{tg:Nat->Nat}{w w':World}(E:Ext w w'):Zv tg tg w w':=Qf.ext E
theorem Q0.putP{n:Nat}{a':CA}{kv' lv':Value}{c':Co}{pk':List Pk}{pn':List Pl}(h:Q0 T tl w0 P n tg w W a sb ob bb kv lv)(hs:w'.heap.size=w.heap.size)(hb:∀b,b≠P->w'.heap[b]? =w.heap[b]?)(hE:Ext w0 w')(hr:w'.rowIs P T (14+tl.length) (fun j=>(wdL c' a' n sb ob bb kv' lv' tl).getD j vd))(hc:Stb (fun b=>tg b=0) w (fun U=>Zr U c' a'))(hk:q8x tg w pk' kv')(hl:PlsAt tg w pn' lv'):
  Q0 T tl w0 P n tg w' ⟨c',W.sw,W.od,W.bk,pk',pn'⟩ a' sb ob bb kv' lv'/\Zv tg tg w w':=by
  have k:Qf (fun x=>x≠1) tg tg w w':=⟨Nat.le_of_eq hs.symm,fun b _ hx=>⟨rfl,hb b (fun e=>hx (by rw[e];exact h.tP))⟩⟩
  exact⟨⟨hr,hc.Qh k (by decide),h.sws.Qh k (by decide) (by decide),h.ors.Qh k (by decide) (by decide) (fun s=>by omega),h.bks.Qh k (by decide) (fun s=>by omega),hk.Qh k (by decide) (fun s=>by omega),hl.Qh k (by decide) (by decide),h.tP,fun b hb'=>h.nw b (by omega),h.base,hE⟩,k.mono (fun x hx=>by omega)⟩
end Rm
end Go.Proofs.YthkpbefnkmmaiaaGreat
