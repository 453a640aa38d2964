import Derived.Test.YthkpbefnkmmaiaaGreate18
namespace Go.Proofs.YthkpbefnkmmaiaaGreat
open Go.Proofs.Tryz
namespace Rm
open Go.RowKit Go.Deep Stw Stp Tb Rul Ct
def stOf (p:Pl) (s:Nat):List (Int×Int):=Agt.stamps p.v (beg s p.fs p.fs.length)
def both (a b:Pl) (s:Nat):List Ru:=(add (rls a s) (rls b s)).1
def ordC (c:Co) (s:Nat):Option Wir.Od:=if c.st=1 then addO c.Qd s else if c.st=2 then Zz c.now c.Qd s else if c.st=4 then drpO c.now s else none
def bef (c:Co) (s:Nat):Agt.Sw:=
 if c.st=0\/c.st=1 then⟨rls c.now s,stOf c.now s⟩ else if c.st=2 then⟨both c.now c.Qd s,stOf c.now s⟩ else⟨both c.now c.Qd s,stOf c.Qd s⟩
def aft (c:Co) (s:Nat):Agt.Sw:=
 if c.st=0 then⟨rls c.now s,stOf c.now s⟩ else if c.st=1 then⟨both c.now c.Qd s,stOf c.now s⟩ else if c.st=4 then⟨rls c.Qd s,stOf c.Qd s⟩ else⟨both c.now c.Qd s,stOf c.Qd s⟩
structure Ok (n:Nat) (c:Co):Prop where
 n8:n<=8
 now:c.now=pl0\/Gd n c.now
 Qd:c.st≠0->Gd n c.Qd/\c.Qd.v=c.now.v+1/\full n c.now c.Qd=false
theorem rls_pl0(s:Nat):rls pl0 s=[]:=rfl
theorem stOf_pl0(s:Nat):stOf pl0 s=[]:=rfl
variable {s:Nat} {p:Pl} {r:Ru}
theorem q4t(h:r∈rls p s):r.1=p.v:=by
 obtain⟨i,_,k,_,_,rfl⟩:=q6l.1 h
 rfl
theorem q6f{n:Nat}(hn:n<=8)(h:p=pl0\/Gd n p):tab (rls p s):=by
 rcases h with rfl | h
 ·rw[rls_pl0];exact q0j.2 ⟨by simp,by simp,List.Pairwise.nil⟩
 ·exact rof_tab h.gp hn h.pl h.v1 h.v2
theorem z6x{n:Nat}(hn:n<=8)(h:p=pl0\/Gd n p):Ris (rls p s):=(q0j.1 (q6f hn h)).2.2
variable {a b:Pl}
theorem full_get{n:Nat}(h:full n a b=false)(hs:s<n):(rls a s).length+(rls b s).length<=16:=by
 unfold full at h
 rw[List.any_eq_false] at h
 have:=h s (by simpa using hs)
 simp only[decide_eq_true_eq] at this
 omega
theorem z8c{n:Nat}(hn:n<=8)(ha:a=pl0\/Gd n a)(hb:Gd n b)(hv:b.v=a.v+1)(hf:full n a b=false)(hs:s<n):(add (rls a s) (rls b s)).2=0:=by
 have ta:=q6f (s:=s) hn ha
 have tb:=q6f (s:=s) hn (Or.inr hb)
 have hl:=full_get hf hs
 obtain⟨a1,a2,a3⟩:=q0j.1 ta
 obtain⟨b1,b2,b3⟩:=q0j.1 tb
 have t:tab (dd (sst (rls a s++rls b s))):=by
  refine q0j.2 ⟨?_,fun r hr=>?_,?_⟩
  ·refine ltr (z5f _) ?_
   rw[q6b,lap];exact hl
  ·rcases add_mem.1 hr with h | h
   ·exact a2 r h
   ·exact b2 r h
  ·refine dd_pair (q6r _).1 (fun x hx y hy hk=>?_)
   have hx':=List.mem_append.1 ((q6r (rls a s++rls b s)).2.mem hx)
   have hy':=List.mem_append.1 ((q6r (rls a s++rls b s)).2.mem hy)
   have hk1:x.1=y.1:=(Prod.ext_iff.1 hk).1
   rcases hx' with hx' | hx' <;> rcases hy' with hy' | hy'
   ·exact a3.uniq x hx' y hy' hk
   ·have:=q4t hx';have:=q4t hy';omega
   ·have:=q4t hx';have:=q4t hy';omega
   ·exact b3.uniq x hx' y hy' hk
 have h1:(Rul.Qc (rls a s)).1=0:=ta
 have h2:(Rul.Qc (dd (sst (rls a s++rls b s)))).1=0:=t
 unfold add
 rw[if_neg (by simpa using h1),if_neg (by simpa using h2)]
theorem q7d{n:Nat}(hn:n<=8)(ha:a=pl0\/Gd n a)(hb:Gd n b)(hv:b.v=a.v+1)(hf:full n a b=false)(hs:s<n):r∈both a b s↔r∈rls a s\/r∈rls b s:=Agt.mem_add (z8c hn ha hb hv hf hs)
theorem q5v{n:Nat}(hn:n<=8)(ha:a=pl0\/Gd n a)(hb:Gd n b)(hv:b.v=a.v+1)(hf:full n a b=false)(hs:s<n):tab (both a b s):=(add_zero (z8c hn ha hb hv hf hs)).2.1
theorem both_left{n:Nat}(hn:n<=8)(ha:a=pl0\/Gd n a)(hb:Gd n b)(hv:b.v=a.v+1)(hf:full n a b=false)(hs:s<n)(h:rls b s=[]):both a b s=rls a s:=by
 refine ris_eq (q0j.1 (q5v hn ha hb hv hf hs)).2.2 (z6x hn ha) (fun r=>?_)
 rw[q7d hn ha hb hv hf hs,h];simp
theorem both_right{n:Nat}(hn:n<=8)(ha:a=pl0\/Gd n a)(hb:Gd n b)(hv:b.v=a.v+1)(hf:full n a b=false)(hs:s<n)(h:rls a s=[]):both a b s=rls b s:=by
 refine ris_eq (q0j.1 (q5v hn ha hb hv hf hs)).2.2 (z6x hn (Or.inr hb)) (fun r=>?_)
 rw[q7d hn ha hb hv hf hs,h];simp
theorem both_drp{n:Nat}(hn:n<=8)(ha:a=pl0\/Gd n a)(hb:Gd n b)(hv:b.v=a.v+1)(hf:full n a b=false)(hs:s<n):drp (both a b s) a.v=rls b s:=by
 refine ris_eq (Agt.drp_ris _ (q0j.1 (q5v hn ha hb hv hf hs)).2.2) (z6x hn (Or.inr hb)) (fun r=>?_)
 rw[drp_mem,q7d hn ha hb hv hf hs]
 constructor
 ·rintro⟨h | h,h2⟩
  ·exact absurd (q4t h) h2
  ·exact h
 ·intro h
  exact⟨Or.inr h,by have:=q4t h;omega⟩
theorem q1c{n:Nat}(h:p=pl0\/Gd n p):Agt.wst none (stOf p s)=0:=by
 rcases h with rfl | h
 ·rw[stOf_pl0];rfl
 ·exact Agt.q9k h.v1 h.v2 (last:= -1) (Int.le_refl _) (fun q hq=>by cases hq) (z2r _ h.fl)
variable {c:Co}
theorem z5r{n:Nat}(h:Ok n c)(hs:s<n):Agt.Qo (bef c s)=0:=by
 unfold bef
 split
 ·exact Agt.q1p (q6f h.n8 h.now) (q1c h.now)
 ·rename_i h0
  obtain⟨g1,g2,g3⟩:=h.Qd (fun e=>h0 (Or.inl e))
  have tb:=q5v h.n8 h.now g1 g2 g3 hs
  split
  ·exact Agt.q1p tb (q1c h.now)
  ·exact Agt.q1p tb (q1c (Or.inr g1))
theorem aft_right{n:Nat}(h:Ok n c)(hs:s<n):Agt.Qo (aft c s)=0:=by
 unfold aft
 split
 ·exact Agt.q1p (q6f h.n8 h.now) (q1c h.now)
 ·rename_i h0
  obtain⟨g1,g2,g3⟩:=h.Qd h0
  have tb:=q5v h.n8 h.now g1 g2 g3 hs
  split
  ·exact Agt.q1p tb (q1c h.now)
  ·split
   ·exact Agt.q1p (q6f h.n8 (Or.inr g1)) (q1c (Or.inr g1))
   ·exact Agt.q1p tb (q1c (Or.inr g1))
variable {o:Wir.Od} {k:Int}
theorem q8c{n:Nat}(h:Ok n c)(ho:ordC c s=some o)(hs:s<n)(h1:1<=k)(h2:k<=100000):Wir.Qc (nmb o k)=0/\o.rs.length<=16/\o.fs.length<=12:=by
 have hx:Wir.Qc ⟨o.k,1,o.v,o.rs,o.fs⟩=0/\o.rs.length<=16/\o.fs.length<=12:=by
  unfold ordC at ho
  split at ho
  ·rename_i e;exact z5x (h.Qd (by omega)).1 h.n8 ho
  ·split at ho
   ·rename_i e;exact q7m (h.Qd (by omega)).1 ho
   ·split at ho
    ·exact z5c h.now ho
    ·cases ho
 exact⟨Rgt.Qc (n:=n) (x:=(s,nmb o k)) ⟨hs,hx⟩ h1 h2,hx.2⟩
theorem do_ord{n:Nat}(h:Ok n c)(ho:ordC c s=some o)(hs:s<n)(h1:1<=k)(h2:k<=100000):Agt.doS (bef c s) (nmb o k)=(aft c s,0):=by
 have hw:=z5r h hs
 have hr:=(q8c h ho hs h1 h2).1
 unfold ordC at ho
 split at ho
 ·rename_i e
  obtain⟨g1,g2,g3⟩:=h.Qd (by omega)
  unfold addO at ho
  split at ho
  ·cases ho
  ·cases ho
   have eb:bef c s=⟨rls c.now s,stOf c.now s⟩:=by unfold bef;rw[if_pos (Or.inr e)]
   have ea:aft c s=⟨both c.now c.Qd s,stOf c.now s⟩:=by unfold aft;rw[if_neg (by omega),if_pos e]
   rw[eb] at hw
   rw[eb,ea,Agt.do_add hw hr rfl (z8c h.n8 h.now g1 g2 g3 hs)]
   rfl
 ·rename_i e1
  split at ho
  ·rename_i e
   unfold Zz at ho
   split at ho
   ·cases ho
   ·cases ho
    have eb:bef c s=⟨both c.now c.Qd s,stOf c.now s⟩:=by unfold bef;rw[if_neg (by omega),if_pos e]
    have ea:aft c s=⟨both c.now c.Qd s,stOf c.Qd s⟩:=by unfold aft;rw[if_neg (by omega),if_neg (by omega),if_neg (by omega)]
    rw[eb] at hw
    rw[eb,ea,Agt.do_stamp hw hr rfl]
    rfl
  ·rename_i e2
   split at ho
   ·rename_i e
    obtain⟨g1,g2,g3⟩:=h.Qd (by omega)
    unfold drpO at ho
    split at ho
    ·cases ho
    ·cases ho
     have eb:bef c s=⟨both c.now c.Qd s,stOf c.Qd s⟩:=by unfold bef;rw[if_neg (by omega),if_neg (by omega)]
     have ea:aft c s=⟨rls c.Qd s,stOf c.Qd s⟩:=by unfold aft;rw[if_neg (by omega),if_neg (by omega),if_pos e]
     rw[eb] at hw
     rw[eb,ea,Agt.do_drop hw hr rfl]
     show((⟨drp (both c.now c.Qd s) c.now.v,stOf c.Qd s⟩:Agt.Sw),(0:Int))=_
     rw[both_drp h.n8 h.now g1 g2 g3 hs]
   ·cases ho
theorem bef_aft{n:Nat}(h:Ok n c)(ho:ordC c s=none)(hs:s<n):bef c s=aft c s:=by
 by_cases e0:c.st=0
 ·unfold bef aft;rw[if_pos (Or.inl e0),if_pos e0]
 ·obtain⟨g1,g2,g3⟩:=h.Qd e0
  unfold ordC at ho
  split at ho
  ·rename_i e
   have eb:bef c s=⟨rls c.now s,stOf c.now s⟩:=by unfold bef;rw[if_pos (Or.inr e)]
   have ea:aft c s=⟨both c.now c.Qd s,stOf c.now s⟩:=by unfold aft;rw[if_neg (by omega),if_pos e]
   unfold addO at ho
   split at ho
   ·rename_i hr;rw[eb,ea,both_left h.n8 h.now g1 g2 g3 hs hr]
   ·cases ho
  ·rename_i e1
   split at ho
   ·rename_i e
    have eb:bef c s=⟨both c.now c.Qd s,stOf c.now s⟩:=by unfold bef;rw[if_neg (by omega),if_pos e]
    have ea:aft c s=⟨both c.now c.Qd s,stOf c.Qd s⟩:=by unfold aft;rw[if_neg (by omega),if_neg (by omega),if_neg (by omega)]
    unfold Zz at ho
    split at ho
    ·rename_i hb
     rw[eb,ea]
     unfold stOf
     rw[hb.1,hb.2]
     rfl
    ·cases ho
   ·rename_i e2
    split at ho
    ·rename_i e
     have eb:bef c s=⟨both c.now c.Qd s,stOf c.Qd s⟩:=by unfold bef;rw[if_neg (by omega),if_neg (by omega)]
     have ea:aft c s=⟨rls c.Qd s,stOf c.Qd s⟩:=by unfold aft;rw[if_neg (by omega),if_neg (by omega),if_pos e]
     unfold drpO at ho
     split at ho
     ·rename_i hr;rw[eb,ea,both_right h.n8 h.now g1 g2 g3 hs hr]
     ·cases ho
    ·rename_i e3
     unfold bef aft
     rw[if_neg (by omega),if_neg e2,if_neg e0,if_neg e1,if_neg e3]
theorem bef_cases(c:Co)(s:Nat):((bef c s).rs=rls c.now s\/(bef c s).rs=both c.now c.Qd s)/\((bef c s).st=stOf c.now s\/(bef c s).st=stOf c.Qd s):=by
 unfold bef
 split
 ·exact⟨Or.inl rfl,Or.inl rfl⟩
 ·split
  ·exact⟨Or.inr rfl,Or.inl rfl⟩
  ·exact⟨Or.inr rfl,Or.inr rfl⟩
def pend (os:List Wir.Od) (bs:List Int):List Int:=os.map (fun o=>o.n)++bs
def SwP (c:Co) (s:Nat) (x:Agt.Sw) (os:List Wir.Od) (bs:List Int):Prop:=
 (os=[]/\bs=[]/\x=aft c s)\/(∃o k,ordC c s=some o/\os=[nmb o k]/\bs=[]/\x=bef c s)\/(∃k,os=[]/\bs=[k]/\x=aft c s)
structure Core (n:Nat) (c:Co) (sw:List Agt.Sw) (od:List (List Wir.Od)) (bk:List (List Int)):Prop where
 sws:∀s,s<n->SwP c s (sw.getD s Agt.Zq) (od.getD s []) (bk.getD s [])
 wmem:∀k,k∈c.Qg↔∃s,s<n/\k∈pend (od.getD s []) (bk.getD s [])
 wnd:c.Qg.Nodup
 wone:∀s s' k,s<n->s'<n->k∈pend (od.getD s []) (bk.getD s [])->k∈pend (od.getD s' []) (bk.getD s' [])->s=s'
 nle:∀k∈c.Qg,1<=k/\k<=c.num
def Quiet (n:Nat) (od:List (List Wir.Od)) (bk:List (List Int)):Prop:=∀s,s<n->od.getD s []=[]/\bk.getD s []=[]
variable {sw:List Agt.Sw} {od:List (List Wir.Od)} {bk:List (List Int)}
theorem Core.quiet{n:Nat}(h:Core n c sw od bk)(hw:c.Qg=[]):Quiet n od bk/\∀s,s<n->sw.getD s Agt.Zq=aft c s:=by
 have hk:∀s k,s<n->¬k∈pend (od.getD s []) (bk.getD s []):=fun s k hs hk=>by
  have:=(h.wmem k).2 ⟨s,hs,hk⟩
  rw[hw] at this;cases this
 have key:∀s,s<n->od.getD s []=[]/\bk.getD s []=[]/\sw.getD s Agt.Zq=aft c s:=fun s hs=>by
  rcases h.sws s hs with h1 | ⟨o,k,_,e2,_,_⟩ | ⟨k,_,e2,_⟩
  ·exact h1
  ·exact absurd (by rw[e2];simp[pend,nmb]) (hk s k hs)
  ·exact absurd (by rw[e2];simp[pend]) (hk s k hs)
 exact⟨fun s hs=>⟨(key s hs).1,(key s hs).2.1⟩,fun s hs=>(key s hs).2.2⟩
theorem q5o{n:Nat}(hw:c.Qg=[])(hq:Quiet n od bk)(hs:∀s,s<n->sw.getD s Agt.Zq=aft c s):Core n c sw od bk:=by
 have hp:∀s k,s<n->¬k∈pend (od.getD s []) (bk.getD s []):=fun s k h=>by rw[(hq s h).1,(hq s h).2];simp[pend]
 refine⟨fun s h=>Or.inl ⟨(hq s h).1,(hq s h).2,hs s h⟩,fun k=>?_,by rw[hw];exact List.nodup_nil,fun s s' k h _ hk=>absurd hk (hp s k h),fun k hk=>by rw[hw] at hk;cases hk⟩
 rw[hw]
 exact⟨fun h=>(by cases h),fun⟨s,h,hk⟩=>absurd hk (hp s k h)⟩
theorem outL_len{ord:Nat->Option Wir.Od}{num:Int}:∀m,(outL ord num m).length=cn ord m
 | 0=>rfl
 | m+1=>by
  rw[outL,lap,outL_len m,cn]
  cases ord m <;> simp
theorem z3h{n:Nat}(hok:Ok n c)(hw:c.Qg=[])(h0:0<=c.num)(h1:c.num<=90000)(hl:n<=od.length)(hq:Quiet n od bk)(hs:∀s,s<n->sw.getD s Agt.Zq=bef c s):
 Core n (told n (ordC c) ⟨c,[]⟩).c sw (Zh od (told n (ordC c) ⟨c,[]⟩).out) bk:=by
 rw[z6e (g:=⟨c,[]⟩) h0 h1 hok.n8]
 simp only[hw,List.nil_append]
 have hod:∀s,s<n->(Zh od (outL (ordC c) c.num n)).getD s []=asL (ordC c s) (c.num+cn (ordC c) s+1):=fun s h=>by rw[putO_get hl s,(hq s h).1,if_pos h];rfl
 have hpd:∀s k,s<n->(k∈pend ((Zh od (outL (ordC c) c.num n)).getD s []) (bk.getD s [])↔∃o,ordC c s=some o/\k=c.num+cn (ordC c) s+1):=fun s k h=>by
  rw[hod s h,(hq s h).2]
  cases ho:ordC c s with
  | none=>simp[pend,asL]
  | some o=>simp[pend,nmb,asL]
 refine⟨fun s h=>?_,fun k=>?_,q9x n,fun s s' k h h' hk hk'=>?_,fun k hk=>?_⟩
 ·rw[hod s h]
  cases ho:ordC c s with
  | none=>exact Or.inl ⟨rfl,(hq s h).2,(hs s h).trans (bef_aft hok ho h)⟩
  | some o=>exact Or.inr (Or.inl ⟨o,_,ho,rfl,(hq s h).2,hs s h⟩)
 ·rw[q8d]
  constructor
  ·rintro⟨s,o,k1,k2,k3⟩;exact⟨s,k1,(hpd s k k1).2 ⟨o,k2,k3⟩⟩
  ·rintro⟨s,k1,k2⟩
   obtain⟨o,k3,k4⟩:=(hpd s k k1).1 k2
   exact⟨s,o,k1,k3,k4⟩
 ·obtain⟨o,k3,k4⟩:=(hpd s k h).1 hk
  obtain⟨o',k3',k4'⟩:=(hpd s' k h').1 hk'
  rcases Nat.lt_trichotomy s s' with e | e | e
  ·have:=cn_lt e k3;omega
  ·exact e
  ·have:=cn_lt e k3';omega
 ·obtain⟨s,o,k1,k2,k3⟩:=q8d.1 hk
  have:=cn_lt k1 k2
  simp only
  omega
def lp (pn:List Pl):Nat->Pl
 | 0=>pl0
 | m+1=>pn.getD m pl0
def Pln (n:Nat) (ls:List Lk) (v:Int) (p:Pl):Prop:=∃fs,p=⟨v,fs,Qs n ls fs⟩/\(plnF n v ls fs).1=0
def z8l (n:Nat) (ls:List Lk) (pn:List Pl):Prop:=∀m,m<pn.length->Pln n ls ((m:Int)+1) (pn.getD m pl0)
def Stg (n:Nat) (pn:List Pl) (c:Co):Prop:=
 (c.st=0/\c.Qd=pl0/\c.now=lp pn pn.length)\/
 ((c.st=1\/c.st=2\/c.st=3\/c.st=4)/\∃m,pn.length=m+1/\c.Qd=lp pn (m+1)/\c.now=lp pn m/\full n c.now c.Qd=false)
variable {ls:List Lk}
theorem Pln.gd{n:Nat}{v:Int}(h:Pln n ls v p):Gd n p:=by
 obtain⟨fs,rfl,h2⟩:=h
 have g:=q1u h2
 exact⟨g.v1,g.v2,by show(Qs n ls fs).length<=12;rw[g.len];exact g.few,g.few,g.gp⟩
theorem Pln.v{n:Nat}{v:Int}(h:Pln n ls v p):p.v=v:=by obtain⟨fs,rfl,_⟩:=h;rfl
theorem Pln.ok{n:Nat}{v:Int}(h:Pln n ls v p):PlOk p:=by obtain⟨fs,rfl,h2⟩:=h;exact z7g h2
theorem z8l.lp{n:Nat}{ls:List Lk}{pn:List Pl}(h:z8l n ls pn):∀{m:Nat},m<=pn.length->(Rm.lp pn m).v=m/\(Rm.lp pn m=pl0\/Gd n (Rm.lp pn m))/\PlOk (Rm.lp pn m)
 | 0,_=>⟨rfl,Or.inl rfl,PlOk.zero⟩
 | m+1,hm=>by
  have hp:=h m (by omega)
  exact⟨by rw[Rm.lp,hp.v];omega,Or.inr hp.gd,hp.ok⟩
variable {pn:List Pl}
theorem Stg.ok{n:Nat}(h:Stg n pn c)(hP:z8l n ls pn)(hn:n<=8):Ok n c:=by
 rcases h with⟨h1,h2,h3⟩ | ⟨h1,m,h2,h3,h4,h5⟩
 ·exact⟨hn,by rw[h3];exact(hP.lp (Ql _)).2.1,fun h=>absurd h1 h⟩
 ·refine⟨hn,by rw[h4];exact(hP.lp (by omega)).2.1,fun _=>⟨?_,?_,h5⟩⟩
  ·rw[h3];exact(hP m (by omega)).gd
  ·rw[h3,h4,(hP.lp (show m+1<=pn.length by omega)).1,(hP.lp (show m<=pn.length by omega)).1];omega
structure Dyn (n:Nat) (pn:List Pl) (c:Co) (sw:List Agt.Sw) (od:List (List Wir.Od)) (bk:List (List Int)):Prop where
 core:Core n c sw od bk
 stg:Stg n pn c
 wst:c.Qg=[]↔(c.st=0\/c.st=3)
 n0:0<=c.num
theorem adv{n:Nat}(hP:z8l n ls pn)(hn:n<=8)(hst:Stg n pn c)(h3:c.st=1\/c.st=2\/c.st=4)(hw:c.Qg=[])(h0:0<=c.num)(h1:c.num<=90000)(hl:n<=od.length)(hq:Quiet n od bk)(hs:∀s,s<n->sw.getD s Agt.Zq=aft c s):
 Dyn n pn (goS n ⟨c,[]⟩).c sw (Zh od (goS n ⟨c,[]⟩).out) bk/\(goS n ⟨c,[]⟩).c.num<=c.num+8:=by
 have hok:=hst.ok hP hn
 have hstg:∀(st num:Int) (Qg:List Int),(st=1\/st=2\/st=3\/st=4)->Stg n pn ⟨st,c.now,c.Qd,num,Qg⟩:=fun st num Qg h=>by
  rcases hst with⟨k,_,_⟩ | ⟨_,k⟩
  ·omega
  ·exact Or.inr ⟨h,k⟩
 rcases h3 with e | e | e
 ·have eg:goS n ⟨c,[]⟩=q6v (told n (Zz c.now c.Qd) (Zd ⟨c,[]⟩ 2)):=by unfold goS;rw[if_neg (by simpa using hw),if_pos e]
  have hok2:Ok n ⟨2,c.now,c.Qd,c.num,c.Qg⟩:=⟨hn,hok.now,fun _=>hok.Qd (by omega)⟩
  have hf:Zz c.now c.Qd=ordC ⟨2,c.now,c.Qd,c.num,c.Qg⟩:=by funext s;rfl
  have hb:∀s,s<n->sw.getD s Agt.Zq=bef ⟨2,c.now,c.Qd,c.num,c.Qg⟩ s:=fun s h=>by
   rw[hs s h];unfold aft bef;rw[if_neg (by omega),if_pos e];rfl
  have hc:=z3h (c:=⟨2,c.now,c.Qd,c.num,c.Qg⟩) hok2 hw h0 h1 hl hq hb
  rw[<-hf] at hc
  have et:=z6e (ord:=Zz c.now c.Qd) (g:=Zd ⟨c,[]⟩ 2) (m:=n) h0 h1 hn
  have hcn:=cn_le (ord:=Zz c.now c.Qd) n
  rw[eg]
  generalize hT:told n (Zz c.now c.Qd) (Zd ⟨c,[]⟩ 2)=T at et
  have hc':Core n T.c sw (Zh od T.out) bk:=by rw[<-hT];exact hc
  have t1:T.c.st=2:=by rw[et];rfl
  have t2:T.c.now=c.now:=by rw[et];rfl
  have t3:T.c.Qd=c.Qd:=by rw[et];rfl
  have t4:T.c.num=c.num+cn (Zz c.now c.Qd) n:=by rw[et];rfl
  unfold q6v
  split
  ·rename_i hne
   refine⟨⟨hc',?_,⟨fun h=>absurd h hne,fun h=>by omega⟩,by omega⟩,by omega⟩
   have:=hstg 2 T.c.num T.c.Qg (by omega)
   rw[<-t1, <-t2, <-t3] at this
   exact this
  ·rename_i hne
   have hne':T.c.Qg=[]:=by simpa using hne
   obtain⟨q1,q2⟩:=hc'.quiet hne'
   refine⟨⟨q5o (c:=⟨3,T.c.now,T.c.Qd,T.c.num,T.c.Qg⟩) hne' q1 (fun s h=>?_),?_,⟨fun _=>Or.inr rfl,fun _=>hne'⟩,by show 0<=T.c.num;omega⟩,by show T.c.num<=_;omega⟩
   ·rw[q2 s h];unfold aft;rw[t1];rfl
   ·have:=hstg 3 T.c.num T.c.Qg (by omega)
    rw[<-t2, <-t3] at this
    exact this
 ·have eg:goS n ⟨c,[]⟩=⟨⟨3,c.now,c.Qd,c.num,c.Qg⟩,[]⟩:=by unfold goS;rw[if_neg (by simpa using hw),if_neg (by show ¬c.st=1;omega),if_pos e];rfl
  rw[eg]
  refine⟨⟨q5o (c:=⟨3,c.now,c.Qd,c.num,c.Qg⟩) hw hq (fun s h=>?_),hstg 3 _ _ (by omega),⟨fun _=>Or.inr rfl,fun _=>hw⟩,h0⟩,by simp only;omega⟩
  rw[hs s h];unfold aft;rw[e];rfl
 ·have eg:goS n ⟨c,[]⟩=⟨⟨0,c.Qd,pl0,c.num,c.Qg⟩,[]⟩:=by unfold goS;rw[if_neg (by simpa using hw),if_neg (by show ¬c.st=1;omega),if_neg (by show ¬c.st=2;omega),if_pos e]
  rw[eg]
  refine⟨⟨q5o (c:=⟨0,c.Qd,pl0,c.num,c.Qg⟩) hw hq (fun s h=>?_),?_,⟨fun _=>Or.inl rfl,fun _=>hw⟩,h0⟩,by simp only;omega⟩
  ·rw[hs s h];unfold aft;rw[e];rfl
  ·rcases hst with⟨k,_,_⟩ | ⟨_,m,k1,k2,_,_⟩
   ·omega
   ·exact Or.inl ⟨rfl,rfl,by rw[k1];exact k2⟩
theorem tellgo{n:Nat}(hP:z8l n ls pn)(hn:n<=8)(hst:Stg n pn c)(h3:c.st=1\/c.st=4)(hw:c.Qg=[])(h0:0<=c.num)(h1:c.num<=80000)(hl:n<=od.length)(hq:Quiet n od bk)(hs:∀s,s<n->sw.getD s Agt.Zq=bef c s):
 Dyn n pn (goS n (told n (ordC c) ⟨c,[]⟩)).c sw (Zh od (goS n (told n (ordC c) ⟨c,[]⟩)).out) bk/\(goS n (told n (ordC c) ⟨c,[]⟩)).c.num<=c.num+16:=by
 have hok:=hst.ok hP hn
 have hc:=z3h hok hw h0 (by omega) hl hq hs
 have et:=z6e (ord:=ordC c) (g:=⟨c,[]⟩) (m:=n) h0 (by simp only;omega) hn
 have hcn:=cn_le (ord:=ordC c) n
 by_cases hne:nums (outL (ordC c) c.num n)=[]
 ·have e1:outL (ordC c) c.num n=[]:=List.map_eq_nil_iff.1 hne
  have e2:cn (ordC c) n=0:=by rw[<-outL_len (num:=c.num),e1];rfl
  have e3:told n (ordC c) ⟨c,[]⟩=⟨c,[]⟩:=by
   rw[et]
   simp only[e1,e2,hw,nums,List.map_nil,List.append_nil,Int.natCast_zero,Int.add_zero]
   obtain⟨a1,a2,a3,a4,a5⟩:=c
   simp only at hw
   rw[hw]
  rw[e3] at hc ⊢
  obtain⟨q1,q2⟩:=hc.quiet hw
  have:=adv hP hn hst (by omega) hw h0 (by omega) hl hq q2
  exact⟨this.1,by omega⟩
 ·generalize hT:told n (ordC c) ⟨c,[]⟩=T at et hc
  have t1:T.c.st=c.st:=by rw[et]
  have t2:T.c.now=c.now:=by rw[et]
  have t3:T.c.Qd=c.Qd:=by rw[et]
  have t4:T.c.num=c.num+cn (ordC c) n:=by rw[et]
  have t5:T.c.Qg≠[]:=by rw[et];simp only[hw,List.nil_append];exact hne
  have eg:goS n T=T:=by unfold goS;rw[if_pos t5]
  rw[eg]
  refine⟨⟨hc,?_,⟨fun h=>absurd h t5,fun h=>by omega⟩,by omega⟩,by omega⟩
  rcases hst with⟨k,_,_⟩ | ⟨_,m,k1,k2,k3,k4⟩
  ·omega
  ·exact Or.inr ⟨by omega,m,k1,by rw[t3];exact k2,by rw[t2];exact k3,by rw[t2,t3];exact k4⟩
def PkOk (n:Nat) (pn:List Pl) (p:Pk):Prop:=
 (p.v=0/\p.dn=true/\∃x,p.tr=[x]/\0<=x/\x<(n:Int))\/
 (∃m i j:Nat,m<pn.length/\p.v=(m:Int)+1/\p.fl=(i:Int)/\i<(pn.getD m pl0).ps.length/\1<=j/\j<=((pn.getD m pl0).ps.getD i []).length/\p.tr=((pn.getD m pl0).ps.getD i []).take j)
structure Inv (n:Nat) (ls:List Lk) (t:Nat) (W:Wd):Prop where
 wr:(Qc n ls).1=0
 lsw:W.sw.length=n
 lod:W.od.length=n
 lbk:W.bk.length=n
 pls:z8l n ls W.pn
 dyn:Dyn n W.pn W.co W.sw W.od W.bk
 num:W.co.num<=16*t
 pl:W.pn.length<=t
 pkl:W.pk.length<=40
 pks:∀p∈W.pk,PkOk n W.pn p
variable {t:Nat} {W:Wd}
theorem Inv.n8{n:Nat}(h:Inv n ls t W):1<=n/\n<=8:=by have:=(Zo h.wr).bounds;omega
theorem Inv.ok{n:Nat}{ls:List Lk}{t:Nat}{W:Wd}(h:Inv n ls t W):Ok n W.co:=h.dyn.stg.ok h.pls h.n8.2
theorem Inv.more{n:Nat}(h:Inv n ls t W):Inv n ls (t+1) W:=⟨h.wr,h.lsw,h.lod,h.lbk,h.pls,h.dyn,by have:=h.num;omega,by have:=h.pl;omega,h.pkl,h.pks⟩
theorem z2f{α:Type}{n:Nat}{z:α}:(List.replicate n z).getD s z=z:=by
 rw[Zt,List.getElem?_replicate];split <;> rfl
theorem Inv.start{n:Nat}(h:(Qc n ls).1=0):Inv n ls 0 (wdN n):=by
 refine⟨h,by simp[wdN],by simp[wdN],by simp[wdN],fun m hm=>by simp[wdN] at hm,⟨q5o rfl (fun s _=>⟨z2f,z2f⟩) (fun s _=>z2f.trans rfl),Or.inl ⟨rfl,rfl,rfl⟩,⟨fun _=>Or.inl rfl,fun _=>rfl⟩,Int.le_refl _⟩,by simp[wdN,co0],by simp[wdN],by simp[wdN],fun p hp=>by simp[wdN] at hp⟩
theorem q8g:∀{m:Nat},m<=pn.length->lp (pn++[p]) m=lp pn m
 | 0,_=>rfl
 | m+1,h=>by simp only[lp,Zt];rw[List.getElem?_append_left (by omega)]
theorem lp_last:lp (pn++[p]) (pn.length+1)=p:=by simp[lp]
theorem PkOk.push{n:Nat}{p:Pk}{q:Pl}(h:PkOk n pn p):PkOk n (pn++[q]) p:=by
 rcases h with h | ⟨m,i,j,h1,h2,h3,h4,h5,h6,h7⟩
 ·exact Or.inl h
 ·have e:(pn++[q]).getD m pl0=pn.getD m pl0:=q8g (m:=m+1) h1
  exact Or.inr ⟨m,i,j,by simp;omega,h2,h3,by rw[e];exact h4,h5,by rw[e];exact h6,by rw[e];exact h7⟩
variable {fs:List Stf.Fl}
theorem ask_idle{n:Int}(h:(Q1 c n ls fs).2=0):c.st=0:=by
 by_cases e:c.st=0
 ·exact e
 ·unfold Q1 at h;rw[if_pos e] at h;cases h
theorem hapA_inv{n:Nat}(h:Inv n ls t W)(ht:t<=1000):Inv n ls (t+1) (hapA n ls W fs).1:=by
 unfold hapA
 split
 ·exact h.more
 ·rename_i h0
  have h0':(Q1 W.co n ls fs).2=0:=by simpa using h0
  have hst:=ask_idle h0'
  have ha:=Ct.ask_cases h0'
  obtain⟨_,hA,_⟩:=ha.A
  have hn:=h.n8.2
  rcases h.dyn.stg with⟨_,hx,hnow⟩ | ⟨k,_⟩
  ·have hwt:W.co.Qg=[]:=h.dyn.wst.2 (Or.inl hst)
   have hv:=(h.pls.lp (Ql W.pn.length)).1
   rw[<-hnow] at hv
   have hnx:nx W.co.now.v=(W.pn.length:Int)+1:=by
    have:=h.pl
    unfold nx;rw[hv,IntKind.wrap_i64];omega
   have hP:z8l n ls (W.pn++[(Q1 W.co n ls fs).1.c.Qd]):=fun m hm=>by
    by_cases e:m=W.pn.length
    ·subst e
     rw[show(W.pn++[(Q1 W.co n ls fs).1.c.Qd]).getD W.pn.length pl0=(Q1 W.co n ls fs).1.c.Qd from lp_last,hA]
     exact⟨fs,by rw[hnx],by rw[<-hnx];exact ha.hp⟩
    ·have hm':m<W.pn.length:=by simp at hm;omega
     rw[show(W.pn++[(Q1 W.co n ls fs).1.c.Qd]).getD m pl0=W.pn.getD m pl0 from q8g (m:=m+1) hm']
     exact h.pls m hm'
   obtain⟨q1,q2⟩:=h.dyn.core.quiet hwt
   have hpl:=h.pl
   have hnum:=h.num
   have key:=tellgo (n:=n) (ls:=ls) (pn:=W.pn++[(Q1 W.co n ls fs).1.c.Qd]) (c:=⟨1,W.co.now,⟨nx W.co.now.v,fs,Qs n ls fs⟩,W.co.num,W.co.Qg⟩) (sw:=W.sw) (od:=W.od) (bk:=W.bk) hP hn
    (Or.inr ⟨Or.inl rfl,W.pn.length,by simp,by rw[lp_last,hA],by rw[q8g (Ql _)];exact hnow,ha.fl⟩) (Or.inl rfl) hwt h.dyn.n0 (by simp only;omega) (by rw[h.lod];exact Ql _) q1
    (fun s hs=>by rw[q2 s hs];unfold aft bef;rw[if_pos hst];rfl)
   have eg:(Q1 W.co n ls fs).1=goS n (told n (ordC ⟨1,W.co.now,⟨nx W.co.now.v,fs,Qs n ls fs⟩,W.co.num,W.co.Qg⟩) ⟨⟨1,W.co.now,⟨nx W.co.now.v,fs,Qs n ls fs⟩,W.co.num,W.co.Qg⟩,[]⟩):=by rw[ha.eq];rfl
   rw[<-eg] at key
   refine⟨h.wr,h.lsw,by show(Zh _ _).length=n;rw[q3x];exact h.lod,h.lbk,hP,key.1,?_,by simp;omega,h.pkl,fun p hp=>(h.pks p hp).push⟩
   have:=key.2
   simp only at this ⊢
   omega
  ·omega
theorem drop_calm'{n:Nat}(h:(Qq c n ls).2=0):c.st=3:=by
 by_cases e:c.st=3
 ·exact e
 ·unfold Qq at h
  split at h
  ·rename_i h1;exact absurd h h1
  ·cases h
theorem hapD_inv{n:Nat}(h:Inv n ls t W)(ht:t<=1000):Inv n ls (t+1) (hapD n ls W).1:=by
 unfold hapD
 split
 ·exact h.more
 ·rename_i h0
  have h0':(Qq W.co n ls).2=0:=by simpa using h0
  have hst:=drop_calm' h0'
  have hn:=h.n8.2
  have hwt:W.co.Qg=[]:=h.dyn.wst.2 (Or.inr hst)
  obtain⟨q1,q2⟩:=h.dyn.core.quiet hwt
  have hnum:=h.num
  rcases h.dyn.stg with⟨k,_⟩ | ⟨_,hs⟩
  ·omega
  ·have key:=tellgo (n:=n) (ls:=ls) (pn:=W.pn) (c:=⟨4,W.co.now,W.co.Qd,W.co.num,W.co.Qg⟩) (sw:=W.sw) (od:=W.od) (bk:=W.bk) h.pls hn
    (Or.inr ⟨Or.inr (Or.inr (Or.inr rfl)),hs⟩) (Or.inr rfl) hwt h.dyn.n0 (by simp only;omega) (by rw[h.lod];exact Ql _) q1
    (fun s hs=>by rw[q2 s hs];unfold aft bef;rw[hst];rfl)
   have eg:(Qq W.co n ls).1=goS n (told n (ordC ⟨4,W.co.now,W.co.Qd,W.co.num,W.co.Qg⟩) ⟨⟨4,W.co.now,W.co.Qd,W.co.num,W.co.Qg⟩,[]⟩):=by rw[q8q h.wr hst];rfl
   rw[<-eg] at key
   refine⟨h.wr,h.lsw,by show(Zh _ _).length=n;rw[q3x];exact h.lod,h.lbk,h.pls,key.1,?_,by have:=h.pl;simp only;omega,h.pkl,h.pks⟩
   have:=key.2
   simp only at this ⊢
   omega
theorem q2m{n:Nat}{r:List Wir.Od}(h:Inv n ls t W)(ht:t<=1000)(hs:s<n)(ho:W.od.getD s []=o::r):r=[]/\W.bk.getD s []=[]/\Agt.doS (W.sw.getD s Agt.Zq) o=(aft W.co s,0)/\o.rs.length<=16/\o.fs.length<=12/\W.sw.getD s Agt.Zq=bef W.co s:=by
 rcases h.dyn.core.sws s hs with⟨e,_,_⟩ | ⟨o',k,e1,e2,e3,e4⟩ | ⟨k,e,_,_⟩
 ·rw[ho] at e;cases e
 ·rw[ho] at e2
  injection e2 with e2 e5
  have hk:=h.dyn.core.nle k ((h.dyn.core.wmem k).2 ⟨s,hs,by rw[ho,e2];simp[pend,nmb]⟩)
  have hnum:=h.num
  have hr:=q8c (k:=k) h.ok e1 hs hk.1 (by omega)
  subst e2
  exact⟨e5,e3,by rw[e4];exact do_ord h.ok e1 hs hk.1 (by omega),hr.2.1,hr.2.2,e4⟩
 ·rw[ho] at e;cases e
variable {i:Int}
theorem hapO_inv{n:Nat}(h:Inv n ls t W)(ht:t<=1000):Inv n ls (t+1) (hapO n W i).1/\((hapO n W i).2=0\/(hapO n W i).2=6):=by
 unfold hapO
 split
 ·exact⟨h.more,Or.inr rfl⟩
 ·rename_i hi
  have hi':0<=i/\i<(n:Int):=by simpa using hi
  obtain⟨s,rfl⟩:=Int.eq_ofNat_of_zero_le hi'.1
  have hs:s<n:=by omega
  simp only[Int.toNat_natCast]
  split
  ·exact⟨h.more,Or.inr rfl⟩
  ·rename_i o r ho
   obtain⟨hr,hb,hd,_,_,_⟩:=q2m h ht hs ho
   subst hr
   rw[hd,hb]
   simp only[ne_eq,not_true_eq_false,if_false]
   refine⟨⟨h.wr,by simpa using h.lsw,by simpa using h.lod,by simpa using h.lbk,h.pls,⟨?_,h.dyn.stg,h.dyn.wst,h.dyn.n0⟩,by have:=h.num;simp only;omega,by have:=h.pl;simp only;omega,h.pkl,h.pks⟩,by simp⟩
   have g1:∀j,(W.od.set s []).getD j []=if j=s then [] else W.od.getD j []:=fun j=>q0p (by rw[h.lod];exact hs)
   have g2:∀j,(W.bk.set s ([]++[o.n])).getD j []=if j=s then [o.n] else W.bk.getD j []:=fun j=>q0p (by rw[h.lbk];exact hs)
   have g3:∀j,(W.sw.set s (aft W.co s)).getD j Agt.Zq=if j=s then aft W.co s else W.sw.getD j Agt.Zq:=fun j=>q0p (by rw[h.lsw];exact hs)
   have gp:∀j,pend ((W.od.set s []).getD j []) ((W.bk.set s ([]++[o.n])).getD j [])=pend (W.od.getD j []) (W.bk.getD j []):=fun j=>by
    rw[g1 j,g2 j]
    by_cases e:j=s
    ·subst e;rw[if_pos rfl,if_pos rfl,ho,hb];simp[pend]
    ·rw[if_neg e,if_neg e]
   refine⟨fun j hj=>?_,fun k=>?_,h.dyn.core.wnd,fun a b k ha hb' hka hkb=>?_,h.dyn.core.nle⟩
   ·show SwP W.co j ((W.sw.set s (aft W.co s)).getD j Agt.Zq) ((W.od.set s []).getD j []) ((W.bk.set s ([]++[o.n])).getD j [])
    rw[g1 j,g2 j,g3 j]
    by_cases e:j=s
    ·subst e;rw[if_pos rfl,if_pos rfl,if_pos rfl];exact Or.inr (Or.inr ⟨o.n,rfl,rfl,rfl⟩)
    ·rw[if_neg e,if_neg e,if_neg e];exact h.dyn.core.sws j hj
   ·simp only[gp];exact h.dyn.core.wmem k
   ·simp only[gp] at hka hkb;exact h.dyn.core.wone a b k ha hb' hka hkb
theorem q5x{n:Nat}{r:List Int}(h:Inv n ls t W)(hs:s<n)(hb:W.bk.getD s []=k::r):r=[]/\W.od.getD s []=[]/\k∈W.co.Qg/\W.sw.getD s Agt.Zq=aft W.co s/\Qw W.co n ls k=(goS n ⟨⟨W.co.st,W.co.now,W.co.Qd,W.co.num,W.co.Qg.erase k⟩,[]⟩,0):=by
 have hk:k∈W.co.Qg:=(h.dyn.core.wmem k).2 ⟨s,hs,by rw[hb];simp[pend]⟩
 have e:=z8f (c:=W.co) h.wr hk
 rcases h.dyn.core.sws s hs with⟨_,e1,_⟩ | ⟨_,_,_,_,e1,_⟩ | ⟨k',e1,e2,e3⟩
 ·rw[hb] at e1;cases e1
 ·rw[hb] at e1;cases e1
 ·rw[hb] at e2
  injection e2 with _ e5
  exact⟨e5,e1,hk,e3,e⟩
theorem hapK_inv{n:Nat}(h:Inv n ls t W)(ht:t<=1000):Inv n ls (t+1) (hapK n ls W i).1/\((hapK n ls W i).2=0\/(hapK n ls W i).2=6):=by
 unfold hapK
 split
 ·exact⟨h.more,Or.inr rfl⟩
 ·rename_i hi
  have hi':0<=i/\i<(n:Int):=by simpa using hi
  obtain⟨s,rfl⟩:=Int.eq_ofNat_of_zero_le hi'.1
  have hs:s<n:=by omega
  simp only[Int.toNat_natCast]
  split
  ·exact⟨h.more,Or.inr rfl⟩
  ·rename_i k r hb
   obtain⟨hr,ho,hk,hsw,hB⟩:=q5x h hs hb
   subst hr
   rw[hB]
   simp only[ne_eq,not_true_eq_false,if_false]
   refine⟨?_,by simp⟩
   have hnum:=h.num
   have g2:∀j,(W.bk.set s []).getD j []=if j=s then [] else W.bk.getD j []:=fun j=>q0p (by rw[h.lbk];exact hs)
   have hpd:∀j x,j<n->(x∈pend (W.od.getD j []) ((W.bk.set s []).getD j [])↔x∈pend (W.od.getD j []) (W.bk.getD j [])/\x≠k):=fun j x hj=>by
    rw[g2 j]
    by_cases e:j=s
    ·subst e;rw[if_pos rfl,ho,hb];simp[pend]
    ·rw[if_neg e]
     refine⟨fun hx=>⟨hx,fun ex=>e ?_⟩,fun hx=>hx.1⟩
     exact h.dyn.core.wone j s k hj hs (by rw[<-ex];exact hx) (by rw[hb];simp[pend])
   have hcore:Core n ⟨W.co.st,W.co.now,W.co.Qd,W.co.num,W.co.Qg.erase k⟩ W.sw W.od (W.bk.set s []):=by
    refine⟨fun j hj=>?_,fun x=>?_,h.dyn.core.wnd.erase k,fun a b x ha hb' hka hkb=>h.dyn.core.wone a b x ha hb' ((hpd a x ha).1 hka).1 ((hpd b x hb').1 hkb).1,fun x hx=>h.dyn.core.nle x (List.mem_of_mem_erase hx)⟩
    ·show SwP W.co j _ _ _
     rw[g2 j]
     by_cases e:j=s
     ·subst e;rw[if_pos rfl];exact Or.inl ⟨ho,rfl,hsw⟩
     ·rw[if_neg e];exact h.dyn.core.sws j hj
    ·show x∈W.co.Qg.erase k↔_
     rw[h.dyn.core.wnd.mem_erase_iff,h.dyn.core.wmem x]
     constructor
     ·rintro⟨hx,j,hj,hp⟩;exact⟨j,hj,(hpd j x hj).2 ⟨hp,hx⟩⟩
     ·rintro⟨j,hj,hp⟩
      have:=(hpd j x hj).1 hp
      exact⟨this.2,j,hj,this.1⟩
   have hns:¬(W.co.st=0\/W.co.st=3):=fun e=>by rw[h.dyn.wst.2 e] at hk;cases hk
   by_cases he:W.co.Qg.erase k=[]
   ·have h4:W.co.st=1\/W.co.st=2\/W.co.st=4:=by
     rcases h.dyn.stg with⟨e,_⟩ | ⟨e,_⟩ <;> omega
    obtain⟨q1,q2⟩:=hcore.quiet he
    have key:=adv (n:=n) (ls:=ls) (pn:=W.pn) (c:=⟨W.co.st,W.co.now,W.co.Qd,W.co.num,W.co.Qg.erase k⟩) (sw:=W.sw) (od:=W.od) (bk:=W.bk.set s []) h.pls h.n8.2 h.dyn.stg h4 he h.dyn.n0 (by simp only;omega) (by rw[h.lod];exact Ql _) q1 q2
    refine⟨h.wr,h.lsw,by show(Zh _ _).length=n;rw[q3x];exact h.lod,by simpa using h.lbk,h.pls,key.1,?_,by have:=h.pl;simp only;omega,h.pkl,h.pks⟩
    have:=key.2
    simp only at this ⊢
    omega
   ·have eg:goS n ⟨⟨W.co.st,W.co.now,W.co.Qd,W.co.num,W.co.Qg.erase k⟩,[]⟩=⟨⟨W.co.st,W.co.now,W.co.Qd,W.co.num,W.co.Qg.erase k⟩,[]⟩:=by unfold goS;rw[if_pos he]
    rw[eg]
    exact⟨h.wr,h.lsw,h.lod,by simpa using h.lbk,h.pls,⟨hcore,h.dyn.stg,⟨fun e=>absurd e he,fun e=>absurd e hns⟩,h.dyn.n0⟩,by simp only;omega,by have:=h.pl;simp only;omega,h.pkl,h.pks⟩
end Rm
end Go.Proofs.YthkpbefnkmmaiaaGreat
