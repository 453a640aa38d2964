import Derived.Test.YthkpbefnkmmaiaaGreate22
import Derived.Test.YthkpbefnkmmaiaaGreate20
set_option maxRecDepth 100000
set_option maxHeartbeats 4000000
namespace Go.Proofs.YthkpbefnkmmaiaaGreat
open Go.Proofs.Tryz
namespace Rm
open Go.RowKit Go.Deep Stw Stp Tb Rul Ct
variable {W:Wd} {ls:List Lk} {t s:Nat}
theorem Inv.sw_is{n:Nat}(h:Inv n ls t W)(hs:s<n):W.sw.getD s Agt.Zq=bef W.co s\/W.sw.getD s Agt.Zq=aft W.co s:=by
 rcases h.dyn.core.sws s hs with⟨_,_,e⟩ | ⟨_,_,_,_,_,e⟩ | ⟨_,_,_,e⟩
 ·exact Or.inr e
 ·exact Or.inl e
 ·exact Or.inr e
theorem Inv.sw_right{n:Nat}(h:Inv n ls t W)(hs:s<n):Agt.Qo (W.sw.getD s Agt.Zq)=0:=by
 rcases h.sw_is hs with e | e
 ·rw[e];exact z5r h.ok hs
 ·rw[e];exact aft_right h.ok hs
theorem Inv.sw_mem{n:Nat}(h:Inv n ls t W)(hs:s<n){r:Ru}(hr:r∈(W.sw.getD s Agt.Zq).rs):r∈rls W.co.now s\/r∈rls W.co.Qd s:=by
 have hb:W.co.st≠0->r∈both W.co.now W.co.Qd s->r∈rls W.co.now s\/r∈rls W.co.Qd s:=fun h0 hr=>by
  obtain⟨g1,g2,g3⟩:=h.ok.Qd h0
  exact(q7d h.n8.2 h.ok.now g1 g2 g3 hs).1 hr
 rcases h.sw_is hs with e | e
 ·rw[e] at hr
  unfold bef at hr
  split at hr
  ·exact Or.inl hr
  ·rename_i h0
   split at hr
   ·exact hb (by omega) hr
   ·exact hb (by omega) hr
 ·rw[e] at hr
  unfold aft at hr
  split at hr
  ·exact Or.inl hr
  ·rename_i h0
   split at hr
   ·exact hb h0 hr
   ·split at hr
    ·exact Or.inr hr
    ·exact hb h0 hr
theorem Inv.sw_st{n:Nat}(h:Inv n ls t W)(hs:s<n):(W.sw.getD s Agt.Zq).st=stOf W.co.now s\/(W.sw.getD s Agt.Zq).st=stOf W.co.Qd s:=by
 rcases h.sw_is hs with e | e
 ·rw[e];exact(bef_cases W.co s).2
 ·rw[e]
  unfold aft
  split
  ·exact Or.inl rfl
  ·split
   ·exact Or.inl rfl
   ·split
    ·exact Or.inr rfl
    ·exact Or.inr rfl
variable {p:Pl}
theorem Inv.z1q{n:Nat}(h:Inv n ls t W)(hp:p=W.co.now\/p=W.co.Qd):∃m,m<=W.pn.length/\p=lp W.pn m:=by
 rcases h.dyn.stg with⟨_,h2,h3⟩ | ⟨_,m,h2,h3,h4,_⟩
 ·rcases hp with rfl | rfl
  ·exact⟨_,Ql _,h3⟩
  ·exact⟨0,Zu _,h2⟩
 ·rcases hp with rfl | rfl
  ·exact⟨m,by omega,h4⟩
  ·exact⟨m+1,by omega,h3⟩
variable {m:Nat}
theorem Inv.plan_v{n:Nat}(h:Inv n ls t W)(hp:p=W.co.now\/p=W.co.Qd)(hv:p.v=(m:Int)+1):m<W.pn.length/\p=W.pn.getD m pl0:=by
 obtain⟨k,hk,e⟩:=h.z1q hp
 have:=(h.pls.lp hk).1
 rw[<-e,hv] at this
 have hkm:k=m+1:=by omega
 subst hkm
 exact⟨by omega,e⟩
variable {j:Nat}
theorem Inv.leads{n:Nat}(h:Inv n ls t W){i:Nat}{y:Int}(hm:m<W.pn.length)(hi:i<(W.pn.getD m pl0).ps.length)(hj:j<((W.pn.getD m pl0).ps.getD i []).length)(hr:((m:Int)+1,(i:Int),y)∈(W.sw.getD (((W.pn.getD m pl0).ps.getD i []).getD j 0).toNat Agt.Zq).rs):j+1<((W.pn.getD m pl0).ps.getD i []).length/\y=((W.pn.getD m pl0).ps.getD i []).getD (j+1) 0:=by
  have hg:=(h.pls m hm).gd
  obtain⟨_,g2,g3⟩:=hg.gp i hi
  have hx:=g3 _ (get_mem (l:=(W.pn.getD m pl0).ps.getD i []) (i:=j) hj)
  have hs:(((W.pn.getD m pl0).ps.getD i []).getD j 0).toNat<n:=by omega
  have key:∀p,(p=W.co.now\/p=W.co.Qd)->((m:Int)+1,(i:Int),y)∈rls p (((W.pn.getD m pl0).ps.getD i []).getD j 0).toNat->j+1<((W.pn.getD m pl0).ps.getD i []).length/\y=((W.pn.getD m pl0).ps.getD i []).getD (j+1) 0:=fun p hp hr=>by
   obtain⟨_,e⟩:=h.plan_v hp (q4t hr).symm
   rw[e] at hr
   obtain⟨i',h1,k,h2,h3,h4⟩:=q6l.1 hr
   have e1:i'=i:=by
    have:=(Prod.ext_iff.1 (Prod.ext_iff.1 h4).2).1
    simp only at this
    omega
   subst e1
   have e2:k=j:=nd_get g2 (by omega) hj (by rw[h3];omega)
   subst e2
   exact⟨h2,(Prod.ext_iff.1 (Prod.ext_iff.1 h4).2).2⟩
  rcases h.sw_mem hs hr with hr | hr
  ·exact key _ (Or.inl rfl) hr
  ·exact key _ (Or.inr rfl) hr
variable {l:List Int}
theorem take_at(h1:1<=j)(h2:j<=l.length):(l.take j).getD ((l.take j).length - 1) 0=l.getD (j - 1) 0:=by
 rw[List.length_take,Nat.min_eq_left h2,Zt,Zt,List.getElem?_take_of_lt (by omega)]
theorem z3i(h:j<l.length):l.take (j+1)=l.take j++[l.getD j 0]:=by
 rw[List.take_succ_eq_append_getElem h];simp[h]
theorem mov_ok{n:Nat}{p:Pk}(h:Inv n ls t W)(hp:PkOk n W.pn p)(hd:p.dn=false):PkOk n W.pn (movP W.sw p):=by
 rcases hp with⟨_,e,_⟩ | ⟨m,i,j,h1,h2,h3,h4,h5,h6,h7⟩
 ·rw[hd] at e;cases e
 ·unfold movP
  split
  ·rename_i hn
   have Q2:atP p=((W.pn.getD m pl0).ps.getD i []).getD (j - 1) 0:=by unfold atP;rw[h7];exact take_at h5 h6
   have hr:=nxt_mem hn
   rw[Q2,h2,h3] at hr
   obtain⟨k1,k2⟩:=h.leads h1 h4 (by omega) hr
   refine Or.inr ⟨m,i,j+1,h1,h2,h3,h4,by omega,by omega,?_⟩
   show p.tr++[_]=_
   rw[z3i (by omega),h7,Q2,h2,h3,k2,show j - 1+1=j by omega]
  ·exact Or.inr ⟨m,i,j,h1,h2,h3,h4,h5,h6,h7⟩
theorem q7a{f:Int}:∀{sw:List Agt.Sw} {b:Nat} {x:Nat×Int},sat f b sw=some x->b<=x.1/\x.1<b+sw.length/\x.2=Agt.ver (sw.getD (x.1 - b) Agt.Zq).st f/\x.2≠0/\∀k,k<x.1 - b->Agt.ver (sw.getD k Agt.Zq).st f=0
 | [],_,_,h=>by cases h
 | y::r,b,x,h=>by
  unfold sat at h
  split at h
  ·rename_i hv
   cases h
   exact⟨Ql _,by simp,by simp,hv,fun k hk=>by simp at hk⟩
  ·rename_i hv
   obtain⟨h1,h2,h3,h4,h5⟩:=q7a h
   obtain⟨d,hd⟩:∃d,x.1 - b=d+1:=⟨x.1 - (b+1),by omega⟩
   refine⟨by omega,by simp;omega,?_,h4,fun k hk=>?_⟩
   ·rw[hd,List.getD_cons_succ,h3,show x.1 - (b+1)=d by omega]
   ·cases k with
    | zero=>simpa using hv
    | succ k=>rw[List.getD_cons_succ];exact h5 k (by omega)
theorem sat_none{f:Int}:∀{sw:List Agt.Sw} {b:Nat},sat f b sw=none->∀k,Agt.ver (sw.getD k Agt.Zq).st f=0
 | [],_,_,k=>by simp[Agt.Zq,Agt.ver]
 | y::r,b,h,k=>by
  unfold sat at h
  split at h
  ·cases h
  ·rename_i hv
   cases k with
   | zero=>simpa using hv
   | succ k=>rw[List.getD_cons_succ];exact sat_none h k
theorem q9q{v f:Int}:∀{l:List Int},Agt.ver (Agt.stamps v l) f≠0->f∈l/\Agt.ver (Agt.stamps v l) f=v
 | [],h=>absurd rfl h
 | x::r,h=>by
  unfold Agt.stamps at h ⊢
  rw[List.map_cons] at h ⊢
  unfold Agt.ver at h ⊢
  split
  ·rename_i e;exact⟨by simp at e;simp[e],rfl⟩
  ·rename_i e
   rw[if_neg e] at h
   have:=q9q (v:=v) (f:=f) (l:=r) h
   exact⟨by simp[this.1],this.2⟩
theorem mem_beg{s:Int}{fs:List Stf.Fl}{x:Int}:∀{K:Nat},x∈beg s fs K↔∃k:Nat,k<K/\x=(k:Int)/\(fs.getD k Fw.f0).fr=s
 | 0=>by simp[beg]
 | K+1=>by
  unfold beg
  rw[List.mem_append,mem_beg]
  constructor
  ·rintro(⟨k,h1,h2,h3⟩ | h)
   ·exact⟨k,by omega,h2,h3⟩
   ·split at h
    ·rename_i e;rw[List.mem_singleton] at h;exact⟨K,by omega,h,e⟩
    ·simp at h
  ·rintro⟨k,h1,h2,h3⟩
   by_cases e:k=K
   ·subst e;exact Or.inr (by rw[if_pos h3];simp[h2])
   ·exact Or.inl ⟨k,by omega,h2,h3⟩
theorem Pln.head{n:Nat}{ls:List Lk}{v:Int}{p:Pl}(h:Pln n ls v p):p.ps.length=p.fs.length/\(∀i,i<p.fs.length->(p.ps.getD i []).getD 0 0=(p.fs.getD i Fw.f0).fr/\1<=(p.ps.getD i []).length/\0<=(p.fs.getD i Fw.f0).fr/\(p.fs.getD i Fw.f0).fr<(n:Int))/\∀i,(p.ps.getD i []).length<=8:=by
 obtain⟨fs,rfl,h2⟩:=h
 have g:=q1u h2
 refine⟨g.len,fun i hi=>?_,g.short⟩
 have hgp:=g.gp i (by rw[g.len];exact hi)
 have hl:1<=((Qs n ls fs).getD i []).length:=by
  cases e:(Qs n ls fs).getD i [] with
  | nil=>exact absurd e hgp.1
  | cons=>simp
 have:=hgp.2.2 _ (get_mem (i:=0) hl)
 have hh:=g.head i hi
 refine⟨hh,hl,?_⟩
 simp only
 rw[<-hh]
 exact⟨this.1,by have:=this.2;omega⟩
variable {f:Int}
theorem Inv.stamp{n:Nat}{v:Int}(h:Inv n ls t W)(hs:s<n)(hv:Agt.ver (W.sw.getD s Agt.Zq).st f=v)(h0:v≠0):∃m i:Nat,m<W.pn.length/\v=(m:Int)+1/\f=(i:Int)/\i<(W.pn.getD m pl0).fs.length/\((W.pn.getD m pl0).fs.getD i Fw.f0).fr=(s:Int)/\(W.pn.getD m pl0=W.co.now\/W.pn.getD m pl0=W.co.Qd)/\(W.sw.getD s Agt.Zq).st=stOf (W.pn.getD m pl0) s:=by
 have key:∀p,(p=W.co.now\/p=W.co.Qd)->(W.sw.getD s Agt.Zq).st=stOf p s->∃m i:Nat,m<W.pn.length/\v=(m:Int)+1/\f=(i:Int)/\i<(W.pn.getD m pl0).fs.length/\((W.pn.getD m pl0).fs.getD i Fw.f0).fr=(s:Int)/\(W.pn.getD m pl0=W.co.now\/W.pn.getD m pl0=W.co.Qd)/\(W.sw.getD s Agt.Zq).st=stOf (W.pn.getD m pl0) s:=fun p hp e=>by
  rw[e] at hv
  obtain⟨h1,h2⟩:=q9q (v:=p.v) (f:=f) (by unfold stOf at hv;rw[hv];exact h0)
  have hpv:p.v=v:=by unfold stOf at hv;rw[<-hv,h2]
  obtain⟨k,k1,k2,k3⟩:=mem_beg.1 h1
  obtain⟨m,hm,em⟩:=h.z1q hp
  have hmv:=(h.pls.lp hm).1
  rw[<-em] at hmv
  cases m with
  | zero=>omega
  | succ m=>
   have em':p=W.pn.getD m pl0:=em
   refine⟨m,k,by omega,by omega,k2,?_,?_,?_,?_⟩
   ·rw[<-em'];exact k1
   ·rw[<-em'];exact k3
   ·rw[<-em'];exact hp
   ·rw[<-em'];exact e
 rcases h.sw_st hs with e | e
 ·exact key _ (Or.inl rfl) e
 ·exact key _ (Or.inr rfl) e
theorem frm_some{n:Nat}{a:Int}(h:Inv n ls t W)(hf:frm W.co f=some a):0<=a/\a<(n:Int)/\0<=f/\f<12:=by
 have key:∀p,(p=W.co.now\/p=W.co.Qd)->0<=f/\f<(p.fs.length:Int)->(p.fs.getD f.toNat Fw.f0).fr=a->0<=a/\a<(n:Int)/\0<=f/\f<12:=fun p hp hr ha=>by
  obtain⟨m,hm,em⟩:=h.z1q hp
  cases m with
  | zero=>rw[em] at hr;simp[lp,pl0] at hr;omega
  | succ m=>
   have hpl:=h.pls m (by omega)
   have e:W.pn.getD m pl0=p:=em.symm
   rw[e] at hpl
   have:=hpl.head.2.1 f.toNat (by omega)
   have:=hpl.gd.fl
   rw[<-ha];omega
 unfold frm at hf
 split at hf
 ·rename_i hr;cases hf;exact key _ (Or.inr rfl) hr rfl
 ·split at hf
  ·rename_i hr;cases hf;exact key _ (Or.inl rfl) hr rfl
  ·cases hf
theorem new_ok{n:Nat}{a:Int}(h:Inv n ls t W)(hf:frm W.co f=some a):PkOk n W.pn (newP W.sw f a):=by
 have ha:=frm_some h hf
 unfold newP
 split
 ·rename_i x hx
  obtain⟨h1,h2,h3,h4,_⟩:=q7a hx
  rw[h.lsw] at h2
  rw[Nat.sub_zero] at h3
  obtain⟨m,i,k1,k2,k3,k4,k5,_,_⟩:=h.stamp (s:=x.1) (f:=f) (by omega) h3.symm h4
  have hh:=(h.pls m k1).head
  obtain⟨e1,e2,_⟩:=hh.2.1 i k4
  refine Or.inr ⟨m,i,1,k1,k2,k3,by rw[hh.1];exact k4,Ql _,e2,?_⟩
  show [(x.1:Int)]=_
  rw[z3i (j:=0) (by omega),e1,k5]
  rfl
 ·exact Or.inl ⟨rfl,rfl,a,rfl,ha.1,ha.2.1⟩
theorem hapB_inv{n:Nat}(h:Inv n ls t W):Inv n ls (t+1) (hapB W f).1:=by
 unfold hapB
 split
 ·exact h.more
 ·rename_i hl
  split
  ·exact h.more
  ·rename_i a ha
   refine⟨h.wr,h.lsw,h.lod,h.lbk,h.pls,h.dyn,by have:=h.num;simp only;omega,by have:=h.pl;simp only;omega,by simp;omega,fun p hp=>?_⟩
   rcases List.mem_append.1 hp with hp | hp
   ·exact h.pks p hp
   ·rw[List.mem_singleton] at hp;subst hp;show PkOk n W.pn _;exact new_ok h ha
theorem hapM_inv{n:Nat}{i:Int}(h:Inv n ls t W):Inv n ls (t+1) (hapM W i).1:=by
 unfold hapM
 split
 ·exact h.more
 ·rename_i hi
  split
  ·exact h.more
  ·rename_i hd
   have hi':0<=i/\i<(W.pk.length:Int):=by simpa using hi
   refine⟨h.wr,h.lsw,h.lod,h.lbk,h.pls,h.dyn,by have:=h.num;simp only;omega,by have:=h.pl;simp only;omega,by simpa using h.pkl,fun p hp=>?_⟩
   rcases List.mem_or_eq_of_mem_set hp with hp | hp
   ·exact h.pks p hp
   ·rw[hp]
    have hlt:i.toNat<W.pk.length:=by omega
    show PkOk n W.pn _
    refine mov_ok h (h.pks _ ?_) (by simpa using hd)
    rw[Zt,List.getElem?_eq_getElem hlt]
    exact List.getElem_mem _
theorem hap_inv{n:Nat}{d:Dd}(h:Inv n ls t W)(ht:t<=1000):Inv n ls (t+1) (hap n ls W d).1:=by
 unfold hap
 split
 ·exact hapA_inv h ht
 ·split
  ·exact(hapO_inv h ht).1
  ·split
   ·exact(hapK_inv h ht).1
   ·split
    ·exact hapB_inv h
    ·split
     ·exact hapM_inv h
     ·split
      ·exact hapD_inv h ht
      ·exact h.more
theorem runR_inv{n:Nat}{ls:List Lk}:∀{ds:List Dd} {q:Wd×List Int} {t:Nat},Inv n ls t q.1->t+ds.length<=1000->Inv n ls (t+ds.length) (runR n ls q ds).1
 | [],q,t,h,_=>h
 | d::r,q,t,h,ht=>by
  rw[z3w]
  simp only[List.length_cons] at ht ⊢
  have:=runR_inv (ds:=r) (q:=z6j n ls q d) (t:=t+1) (hap_inv h (by omega)) (by omega)
  rw[show t+(r.length+1)=t+1+r.length by omega]
  exact this
theorem q7s{n:Nat}{ds:List Dd}(h:(Qc n ls).1=0)(hl:ds.length<=1000):Inv n ls ds.length (run n ls ds).1:=by
 have:=runR_inv (ds:=ds) (q:=(wdN n,[])) (Inv.start h) (by omega)
 rwa [Nat.zero_add] at this
theorem rngs_len{l:List Int}(h:l.Nodup)(hr:∀x∈l,1<=x/\x<=(m:Int)):l.length<=m+1:=q7w (m+1) l h (fun x hx=>by have:=hr x hx;omega)
theorem Inv.small{n:Nat}{ls:List Lk}{t:Nat}{W:Wd}(h:Inv n ls t W)(ht:t<=1000):CoOk W.co:=by
 have key:∀p,(p=W.co.now\/p=W.co.Qd)->PlOk p:=fun p hp=>by
  obtain⟨m,hm,e⟩:=h.z1q hp
  rw[e];exact(h.pls.lp hm).2.2
 refine⟨key _ (Or.inl rfl),key _ (Or.inr rfl),?_⟩
 have:=rngs_len (m:=16000) h.dyn.core.wnd (fun x hx=>by have:=h.dyn.core.nle x hx;have:=h.num;omega)
 omega
theorem Inv.one{n:Nat}(h:Inv n ls t W)(hs:s<n):(W.od.getD s []=[]/\W.bk.getD s []=[])\/(∃o,W.od.getD s []=[o]/\W.bk.getD s []=[])\/(∃k,W.od.getD s []=[]/\W.bk.getD s []=[k]):=by
 rcases h.dyn.core.sws s hs with⟨e1,e2,_⟩ | ⟨o,k,_,e1,e2,_⟩ | ⟨k,e1,e2,_⟩
 ·exact Or.inl ⟨e1,e2⟩
 ·exact Or.inr (Or.inl ⟨_,e1,e2⟩)
 ·exact Or.inr (Or.inr ⟨k,e1,e2⟩)
def MOut (tl:List Value) (w0:World) (P n:Nat) (tg:Nat->Nat) (w:World) (sb ob bb:Nat) (R:Wd×Int) (e:Ending) (w':World):Prop:=
 e=.returned (.int .i64 R.2)/\∃tg' a' kv' lv',Q0 56 tl w0 P n tg' w' R.1 a' sb ob bb kv' lv'/\Zv tg tg' w w'
theorem Inv.rows{n:Nat}(h:Inv n ls t W)(s:Nat):(W.od.getD s []).length<=1/\(W.bk.getD s []).length<=1:=by
 by_cases hs:s<n
 ·rcases h.one hs with⟨e1,e2⟩ | ⟨o,e1,e2⟩ | ⟨k,e1,e2⟩ <;> rw[e1,e2] <;> simp
 ·have e1:W.od.getD s []=[]:=by rw[Zt,List.getElem?_eq_none (by rw[h.lod];omega)];rfl
  have e2:W.bk.getD s []=[]:=by rw[Zt,List.getElem?_eq_none (by rw[h.lbk];omega)];rfl
  rw[e1,e2];simp
variable {w w0:World} {a:CA} {tl:List Value} {P sb ob bb:Nat} {tg:Nat->Nat} {kv lv:Value} {D:World->Prop}
theorem Q0.fresh{T:TypeId}{w':World}{n:Nat}(h:Q0 T tl w0 P n tg w W a sb ob bb kv lv)(hD:∀U:World,w'.heap.size<=U.heap.size->(∀b,w.heap.size<=b->b<w'.heap.size->U.heap[b]? =w'.heap[b]?)->D U):Stb (fun b=>tg b=0) w' D:=
 fun U hU kU=>hD U hU (fun b hb hlt=>kU b (h.nw b hb) hlt)
theorem Q0.fresh1{T:TypeId}{w3 w4:World}{n:Nat}(h:Q0 T tl w0 P n tg w W a sb ob bb kv lv)(hD:∀U:World,w3.heap.size<=U.heap.size->(∀b,w.heap.size+1<=b->b<w3.heap.size->U.heap[b]? =w3.heap[b]?)->D U)(hs:w4.heap.size=w3.heap.size)(hb:∀b,b≠w.heap.size->w4.heap[b]? =w3.heap[b]?):Stb (fun b=>tg b=0) w4 D:=
 fun U hU kU=>hD U (by omega) (fun b h1 h2=>(kU b (h.nw b (by omega)) (by omega)).trans (hb b (by omega)))
theorem q9p{V:World}{R:Nat}{T:TypeId}{f:Nat->Value}{x0 x1 x2 x3 x4 x5 x6 x7 x8:Value}(h:V.rowIs R T 9 f):(W9 V R x0 x1 x2 x3 x4 x5 x6 x7 x8).rowIs R T 9 (fun j=>[x0,x1,x2,x3,x4,x5,x6,x7,x8].getD j vd):=by
 unfold W9
 refine(((((((((h.set 0 _).set 1 _).set 2 _).set 3 _).set 4 _).set 5 _).set 6 _).set 7 _).set 8 _).congr (fun j hj=>?_)
 obtain rfl | rfl | rfl | rfl | rfl | rfl | rfl | rfl | rfl:j=0\/j=1\/j=2\/j=3\/j=4\/j=5\/j=6\/j=7\/j=8:=by omega
 all_goals rfl
theorem z0f{n:Nat}{ls:List Lk}{W:Wd}(h:Inv n ls t W)(ht:t<=1000)(h0:(Qq W.co n ls).2=0):(∀x∈(Qq W.co n ls).1.out,x.1<n)/\(Qq W.co n ls).1.out.length<=1000:=by
 have hst:=drop_calm' h0
 have hnum:=h.num
 have h1:=drop_told (c:=W.co) h.wr h.n8.2 hst h.ok.now h.dyn.n0 (by omega)
 have h2:=drop_few (c:=W.co) h.wr h.n8.2 hst
 exact⟨fun x hx=>(h1.ok x hx).1,by omega⟩
theorem hapD_no{n:Nat}(h:(Qq W.co n ls).2≠0):hapD n ls W=(W,(Qq W.co n ls).2):=by unfold hapD;rw[if_pos h]
theorem hapD_yes{n:Nat}(h:(Qq W.co n ls).2=0):hapD n ls W=(⟨(Qq W.co n ls).1.c,W.sw,Zh W.od (Qq W.co n ls).1.out,W.bk,W.pk,W.pn⟩,0):=by unfold hapD;rw[if_neg (by simpa using h)]
theorem drop_any(n len cap:Nat)(ls:List Lk)(ao:Option Addr)(t:Nat)(w0:World)(P:Nat)(tg:Nat->Nat)(w:World)(W:Wd)(a:CA)(sb ob bb:Nat)(kv lv:Value)(h:Q0 56 [.int .i64 n,.slice ao len cap] w0 P n tg w W a sb ob bb kv lv)(hI:Inv n ls t W)(ht:t<=1000)(hlen:ls.length=len)(hnet:Zg w0 ao ls)(hx:len<=9223372036854775807):
 Calls prog 27 #[.pointer (some ⟨P,0,none⟩)] w fun e w'=>MOut [.int .i64 n,.slice ao len cap] w0 P n tg w sb ob bb (hapD n ls W) e w':=by
 have HW:=Qa h
 have HI:=Qa hI
 have hP:=h.row.lt
 have HS:Hid (∀V,Ext w V->cl V P 0 (.int .i64 W.co.st)/\cl V P 1 (.int .i64 W.co.now.v)/\cl V P 2 (.slice a.n.fo W.co.now.fs.length a.n.fc)/\cl V P 3 (.slice a.n.qo W.co.now.ps.length a.n.qc)/\cl V P 4 (.int .i64 W.co.Qd.v)/\cl V P 5 (.slice a.x.fo W.co.Qd.fs.length a.x.fc)/\cl V P 6 (.slice a.x.qo W.co.Qd.ps.length a.x.qc)/\cl V P 7 (.int .i64 W.co.num)/\cl V P 8 (.slice a.wo W.co.Qg.length a.wc)/\cl V P 14 (.int .i64 n)/\cl V P 15 (.slice ao len cap)):=fun V hV=>by
  have hr:=HW.out.row.of_block (Below.block hV P hP)
  exact⟨hr.cell (i:=0) (by simp),hr.cell (i:=1) (by simp),hr.cell (i:=2) (by simp),hr.cell (i:=3) (by simp),hr.cell (i:=4) (by simp),hr.cell (i:=5) (by simp),hr.cell (i:=6) (by simp),hr.cell (i:=7) (by simp),hr.cell (i:=8) (by simp),hr.cell (i:=14) (by simp),hr.cell (i:=15) (by simp)⟩
 have HCA:Hid (∀V,Ext w V->Calls prog 50 #[cvl W.co a,.agg #[.int .i64 n,.slice ao len cap]] V fun e w'=>q8y V.heap.size V (Qq W.co n ls).1 (Qq W.co n ls).2 e w'):=fun V hV=>z2y W.co a n ao len cap ls V ((HW.out.Qm hV).co.at) (HI.out.small ht) hlen (hnet.ext (HW.out.ext.trans hV)) hx
 clear h hI hlen hnet hx
 unfold cvl at HCA
 go_enter func27,ntmps27
 go_wp2
 have hd:Ext w w.drew:=(Ext.refl w).drew
 have hda:Ext w (w.alloc (.cells #[.int .i64 0,.int .i64 0,.slice none 0 0,.slice none 0 0,.int .i64 0,.slice none 0 0,.slice none 0 0,.int .i64 0,.slice none 0 0] 32)).drew:=((Ext.refl w).alloc _).drew
 go_region_held3 (fun V=>cl V P 0 (.int .i64 W.co.st)/\cl V P 1 (.int .i64 W.co.now.v)/\cl V P 2 (.slice a.n.fo W.co.now.fs.length a.n.fc)/\cl V P 3 (.slice a.n.qo W.co.now.ps.length a.n.qc)/\cl V P 4 (.int .i64 W.co.Qd.v)/\cl V P 5 (.slice a.x.fo W.co.Qd.fs.length a.x.fc)/\cl V P 6 (.slice a.x.qo W.co.Qd.ps.length a.x.qc)/\cl V P 7 (.int .i64 W.co.num)/\cl V P 8 (.slice a.wo W.co.Qg.length a.wc)/\cl V P 14 (.int .i64 n)/\cl V P 15 (.slice ao len cap))
  (first | (with_reducible exact HS.out _ hd) | (with_reducible exact HS.out _ hda) | (with_reducible exact HS.out _ mk1) | (with_reducible exact HS.out _ mk2) | (with_reducible exact HS.out _ (mk1.alloc _)) | (with_reducible exact HS.out _ mk3) | fail)
  (first
  | (go_at_call 50
     with_reducible refine(HCA.out _ hd).mono ?_
     intro e w3 hG
     obtain⟨k0,k1,o2,l2,q2,o3,l3,q3,k4,o5,l5,q5,o6,l6,q6,k7,o8,l8,q8,tO,l9,tc,rfl,E9,HF⟩:=hG.q1e
     have mk1:=hd.trans E9)
  | (go_at_call 50
     with_reducible refine(HCA.out _ hda).mono ?_
     intro e w3 hG
     obtain⟨k0,k1,o2,l2,q2,o3,l3,q3,k4,o5,l5,q5,o6,l6,q6,k7,o8,l8,q8,tO,l9,tc,rfl,E9,HF⟩:=hG.q1e
     have mk2:=hda.trans E9
     have mk3:=q0g mk2 (Ql w.heap.size) (x0:=.int .i64 k0) (x1:=.int .i64 k1) (x2:=.slice o2 l2 q2) (x3:=.slice o3 l3 q3) (x4:=.int .i64 k4) (x5:=.slice o5 l5 q5) (x6:=.slice o6 l6 q6) (x7:=.int .i64 k7) (x8:=.slice o8 l8 q8)
     unfold W9 at mk3
     have HB:w3.rowIs w.heap.size 32 9 _:=(q0k (T:=32) (show w.heap.size=w.heap.size from rfl) _ _ _ _ _ _ _ _ _).of_block (Below.block E9 _ (by simp))
     obtain⟨u0,u1,u2,u3,u4,u5,u6,u7,u8⟩:=q2p HB
     have uz:=HB.frozen
     have HHB:=Qa HB
     clear HB))
 all_goals
  first
  | (have _t:=mk1
     obtain⟨w4,hw4⟩:=Qy (w3.alloc (.cells #[.int .i64 k0,.int .i64 k1,.slice o2 l2 q2,.slice o3 l3 q3,.int .i64 k4,.slice o5 l5 q5,.slice o6 l6 q6,.int .i64 k7,.slice o8 l8 q8] 32))
     have R4:w4.rowIs w3.heap.size 32 9 (fun j=>[.int .i64 k0,.int .i64 k1,.slice o2 l2 q2,.slice o3 l3 q3,.int .i64 k4,.slice o5 l5 q5,.slice o6 l6 q6,.int .i64 k7,.slice o8 l8 q8].getD j vd):=by rw[hw4];exact q0k rfl _ _ _ _ _ _ _ _ _
     have E4:Ext w w4:=by rw[hw4];exact mk1.alloc _
     have HST:Hid (∃a',Value.agg #[.int .i64 k0,.int .i64 k1,.slice o2 l2 q2,.slice o3 l3 q3,.int .i64 k4,.slice o5 l5 q5,.slice o6 l6 q6,.int .i64 k7,.slice o8 l8 q8]=cvl (Qq W.co n ls).1.c a'/\l9=(Qq W.co n ls).1.out.length/\Stb (fun b=>tg b=0) w4 (fun U=>Zr U (Qq W.co n ls).1.c a'/\Zw U tO (Qq W.co n ls).1.out)):=by
      obtain⟨a',ea,el,hU⟩:=HF.out
      exact⟨a',ea,el,(HW.out.fresh hU).ext (by rw[hw4];exact(Ext.refl w3).alloc _)⟩
     rw[<-hw4]
     clear hw4 mk1 E9 hG HF _t)
  | (have _t:=mk2
     obtain⟨w4,hw4⟩:=Qy (W9 w3 w.heap.size (.int .i64 k0) (.int .i64 k1) (.slice o2 l2 q2) (.slice o3 l3 q3) (.int .i64 k4) (.slice o5 l5 q5) (.slice o6 l6 q6) (.int .i64 k7) (.slice o8 l8 q8))
     have R4:w4.rowIs w.heap.size 32 9 (fun j=>[.int .i64 k0,.int .i64 k1,.slice o2 l2 q2,.slice o3 l3 q3,.int .i64 k4,.slice o5 l5 q5,.slice o6 l6 q6,.int .i64 k7,.slice o8 l8 q8].getD j vd):=by rw[hw4];exact q9p HHB.out
     have E4:Ext w w4:=by rw[hw4];exact q0g mk2 (Ql _)
     have HST:Hid (∃a',Value.agg #[.int .i64 k0,.int .i64 k1,.slice o2 l2 q2,.slice o3 l3 q3,.int .i64 k4,.slice o5 l5 q5,.slice o6 l6 q6,.int .i64 k7,.slice o8 l8 q8]=cvl (Qq W.co n ls).1.c a'/\l9=(Qq W.co n ls).1.out.length/\Stb (fun b=>tg b=0) w4 (fun U=>Zr U (Qq W.co n ls).1.c a'/\Zw U tO (Qq W.co n ls).1.out)):=by
      obtain⟨a',ea,el,hU⟩:=HF.out
      refine⟨a',ea,el,?_⟩
      rw[hw4]
      exact HW.out.fresh1 (fun U h1 h2=>hU U h1 (fun b hb h3=>h2 b (by simpa using hb) h3)) q1n q0z
     unfold W9 at hw4
     rw[<-hw4]
     clear hw4 mk2 mk3 E9 hG HF _t u0 u1 u2 u3 u4 u5 u6 u7 u8 uz HHB)
  obtain⟨x0,x1,x2,x3,x4,x5,x6,x7,x8⟩:=q2p R4
  simp only[List.getD_cons_zero,List.getD_cons_succ] at x0 x1 x2 x3 x4 x5 x6 x7 x8
  clear R4
  by_cases h0:(Qq W.co n ls).2=0
  ·have HD:=Qa (hapD_yes h0)
   have HDW:=Qa (z0f HI.out ht h0)
   rw[h0]
   clear h0
   go_wp2_with fail
   have HT:Hid (Calls prog 41 #[.pointer (some ⟨P,0,none⟩),.agg #[.int .i64 k0,.int .i64 k1,.slice o2 l2 q2,.slice o3 l3 q3,.int .i64 k4,.slice o5 l5 q5,.slice o6 l6 q6,.int .i64 k7,.slice o8 l8 q8],.slice tO l9 tc] w4 fun e w'=>e=.returned (.tuple #[])/\∃tg' a',Q0 56 [.int .i64 n,.slice ao len cap] w0 P n tg' w' ⟨(Qq W.co n ls).1.c,W.sw,Zh W.od (Qq W.co n ls).1.out,W.bk,W.pk,W.pn⟩ a' sb ob bb kv lv/\Zv tg tg' w4 w'):=by
    obtain⟨a',ea,el,hS⟩:=HST.out
    show Calls _ _ _ _ _
    rw[ea,el]
    exact(z0t _ w0 P n tg w4 W a sb ob bb kv lv _ a' _ tO tc (HW.out.Qm E4) HI.out.lod hS HDW.out.1 HDW.out.2 (fun s=>by have:=(HI.out.rows s).1;omega)).mono (fun e w' ⟨h1,tg',h2,h3⟩=>⟨h1,tg',a',h2,h3⟩)
   refine Calls.mono HT.out ?_
   rintro e w5 ⟨rfl,tg5,a5,hW5,hK5⟩
   have HW5:=Qa hW5
   have HK5:=Qa hK5
   clear hW5 hK5 HT x0 x1 x2 x3 x4 x5 x6 x7 x8
   go_wp2
   go_ret
   rw[HD.out]
   exact⟨rfl,tg5,a5,kv,lv,HW5.out,(Zv.ext E4).trans HK5.out⟩
  ·have HD:=Qa (hapD_no h0)
   have b0:((Qq W.co n ls).2 != 0)=true:=by simpa using h0
   clear h0
   go_wp2
   go_ret
   rw[HD.out]
   exact⟨rfl,tg,a,kv,lv,HW.out.Qm E4,Zv.ext E4⟩
theorem z5u{n:Nat}{ls:List Lk}{W:Wd}{fs:List Stf.Fl}(h:Inv n ls t W)(ht:t<=1000)(h0:(Q1 W.co n ls fs).2=0):(∀x∈(Q1 W.co n ls fs).1.out,x.1<n)/\(Q1 W.co n ls fs).1.out.length<=1000:=by
 have ha:=Ct.ask_cases h0
 have hnum:=h.num
 have h1:=ha.told h.dyn.n0 (by omega)
 have h2:=ha.few
 exact⟨fun x hx=>(h1.ok x hx).1,by omega⟩
variable {fs:List Stf.Fl}
theorem hapA_no{n:Nat}(h:(Q1 W.co n ls fs).2≠0):hapA n ls W fs=(W,(Q1 W.co n ls fs).2):=by unfold hapA;rw[if_pos h]
theorem hapA_yes{n:Nat}(h:(Q1 W.co n ls fs).2=0):hapA n ls W fs=(⟨(Q1 W.co n ls fs).1.c,W.sw,Zh W.od (Q1 W.co n ls fs).1.out,W.bk,W.pk,W.pn++[(Q1 W.co n ls fs).1.c.Qd]⟩,0):=by unfold hapA;rw[if_neg (by simpa using h)]
theorem cvl_nxt{k0 k1 k4 k7:Int}{o2 o3 o5 o6 o8:Option Addr}{l2 q2 l3 q3 l5 q5 l6 q6 l8 q8:Nat}{c:Co}(h:Value.agg #[.int .i64 k0,.int .i64 k1,.slice o2 l2 q2,.slice o3 l3 q3,.int .i64 k4,.slice o5 l5 q5,.slice o6 l6 q6,.int .i64 k7,.slice o8 l8 q8]=cvl c a):Value.agg #[.int .i64 k4,.slice o5 l5 q5,.slice o6 l6 q6]=pvl c.Qd a.x:=by
 unfold cvl at h
 unfold pvl
 simp only[Value.agg.injEq,Array.mk.injEq,List.cons.injEq,Value.int.injEq,Value.slice.injEq,true_and,and_true] at h ⊢
 exact⟨h.2.2.2.2.1,h.2.2.2.2.2.1,h.2.2.2.2.2.2.1⟩
theorem news3{W:World}{H:Nat}(hH:w.heap.size=H){a b c:Value}{T:TypeId}(E:Ext (w.alloc (.cells #[a,b,c] T)) W):∀(j:Nat) (u:Value),[a,b,c][j]? =some u->W.cell? ((⟨H,0,none⟩:Addr).add j)=some u:=fun j u hu=>by
 have hb:(w.alloc (.cells #[a,b,c] T)).heap[H]? =some (.cells #[a,b,c] T):=by rw[<-hH];exact blk_alloc_new _ _
 have hb2:W.heap[H]? =some (.cells #[a,b,c] T):=(Below.block E H (by simp;omega)).trans hb
 have hadd:(⟨H,0,none⟩:Addr).add j=⟨H,j,none⟩:=by unfold Addr.add;split <;> simp_all
 rw[hadd,cell_of_row _ _ _ _ _ _ hb2]
 have:j<3:=(List.getElem?_eq_some_iff.1 hu).1
 obtain rfl | rfl | rfl:j=0\/j=1\/j=2:=by omega
 all_goals exact hu
theorem one3p(a:Int)(o o':Option Addr)(l c l' c':Nat):∀u∈[Value.int .i64 a,.slice o l c,.slice o' l' c'],u.oneCell'=true:=by
 intro u hu
 simp at hu
 rcases hu with rfl | rfl | rfl <;> rfl
theorem infoPlan:(prog.info? 29).map (fun i=>(i.zero,i.size,i.bytes))=some (some (.agg #[.int .i64 0,.slice none 0 0,.slice none 0 0]),3,56):=by kernel_rfl
theorem ask_any(n len cap:Nat)(lo:Option Addr)(lc:Nat)(fs:List Stf.Fl)(ls:List Lk)(ao:Option Addr)(t:Nat)(w0:World)(P:Nat)(tg:Nat->Nat)(w:World)(W:Wd)(a:CA)(sb ob bb:Nat)(kv lv:Value)(h:Q0 56 [.int .i64 n,.slice ao len cap] w0 P n tg w W a sb ob bb kv lv)(hI:Inv n ls t W)(ht:t<=900)(hlen:ls.length=len)(hnet:Zg w0 ao ls)(hx:len<=9223372036854775807)(hf:Fw.Qk w0 lo fs)(hS:Fw.Sm fs)(hlx:fs.length<=9223372036854775807):
 Calls prog 22 #[.pointer (some ⟨P,0,none⟩),.slice lo fs.length lc] w fun e w'=>MOut [.int .i64 n,.slice ao len cap] w0 P n tg w sb ob bb (hapA n ls W fs) e w':=by
 obtain⟨i0,hi0,hz00,hz01,hz02⟩:=info_parts infoPlan
 have HW:=Qa h
 have HI:=Qa hI
 have hP:=h.row.lt
 have HS:Hid (∀V,Ext w V->cl V P 0 (.int .i64 W.co.st)/\cl V P 1 (.int .i64 W.co.now.v)/\cl V P 2 (.slice a.n.fo W.co.now.fs.length a.n.fc)/\cl V P 3 (.slice a.n.qo W.co.now.ps.length a.n.qc)/\cl V P 4 (.int .i64 W.co.Qd.v)/\cl V P 5 (.slice a.x.fo W.co.Qd.fs.length a.x.fc)/\cl V P 6 (.slice a.x.qo W.co.Qd.ps.length a.x.qc)/\cl V P 7 (.int .i64 W.co.num)/\cl V P 8 (.slice a.wo W.co.Qg.length a.wc)/\cl V P 14 (.int .i64 n)/\cl V P 15 (.slice ao len cap)):=fun V hV=>by
  have hr:=HW.out.row.of_block (Below.block hV P hP)
  exact⟨hr.cell (i:=0) (by simp),hr.cell (i:=1) (by simp),hr.cell (i:=2) (by simp),hr.cell (i:=3) (by simp),hr.cell (i:=4) (by simp),hr.cell (i:=5) (by simp),hr.cell (i:=6) (by simp),hr.cell (i:=7) (by simp),hr.cell (i:=8) (by simp),hr.cell (i:=14) (by simp),hr.cell (i:=15) (by simp)⟩
 have HCA:Hid (∀V,Ext w V->Calls prog 40 #[cvl W.co a,.agg #[.int .i64 n,.slice ao len cap],.slice lo fs.length lc] V fun e w'=>q8y V.heap.size V (Q1 W.co n ls fs).1 (Q1 W.co n ls fs).2 e w'):=fun V hV=>Ask_any W.co a n ao len cap ls lo fs.length lc fs V ((HW.out.Qm hV).co.at) (HI.out.small (by omega)) hlen (hnet.ext (HW.out.ext.trans hV)) hx (Zi (by omega) (by have:=HI.out.n8;omega)) rfl (hf.ext (HW.out.ext.trans hV)) hS hlx
 clear h hI hlen hnet hx hf hS hlx
 unfold cvl at HCA
 go_enter func22,ntmps22
 go_wp2
 have hd:Ext w w.drew:=(Ext.refl w).drew
 have hda:Ext w (w.alloc (.cells #[.int .i64 0,.int .i64 0,.slice none 0 0,.slice none 0 0,.int .i64 0,.slice none 0 0,.slice none 0 0,.int .i64 0,.slice none 0 0] 32)).drew:=((Ext.refl w).alloc _).drew
 go_region_held3 (fun V=>cl V P 0 (.int .i64 W.co.st)/\cl V P 1 (.int .i64 W.co.now.v)/\cl V P 2 (.slice a.n.fo W.co.now.fs.length a.n.fc)/\cl V P 3 (.slice a.n.qo W.co.now.ps.length a.n.qc)/\cl V P 4 (.int .i64 W.co.Qd.v)/\cl V P 5 (.slice a.x.fo W.co.Qd.fs.length a.x.fc)/\cl V P 6 (.slice a.x.qo W.co.Qd.ps.length a.x.qc)/\cl V P 7 (.int .i64 W.co.num)/\cl V P 8 (.slice a.wo W.co.Qg.length a.wc)/\cl V P 14 (.int .i64 n)/\cl V P 15 (.slice ao len cap))
  (first | (with_reducible exact HS.out _ hd) | (with_reducible exact HS.out _ hda) | (with_reducible exact HS.out _ mk1) | (with_reducible exact HS.out _ mk2) | (with_reducible exact HS.out _ (mk1.alloc _)) | (with_reducible exact HS.out _ mk3) | fail)
  (first
  | (go_at_call 40
     with_reducible refine(HCA.out _ hd).mono ?_
     intro e w3 hG
     obtain⟨k0,k1,o2,l2,q2,o3,l3,q3,k4,o5,l5,q5,o6,l6,q6,k7,o8,l8,q8,tO,l9,tc,rfl,E9,HF⟩:=hG.q1e
     have mk1:=hd.trans E9)
  | (go_at_call 40
     with_reducible refine(HCA.out _ hda).mono ?_
     intro e w3 hG
     obtain⟨k0,k1,o2,l2,q2,o3,l3,q3,k4,o5,l5,q5,o6,l6,q6,k7,o8,l8,q8,tO,l9,tc,rfl,E9,HF⟩:=hG.q1e
     have mk2:=hda.trans E9
     have mk3:=q0g mk2 (Ql w.heap.size) (x0:=.int .i64 k0) (x1:=.int .i64 k1) (x2:=.slice o2 l2 q2) (x3:=.slice o3 l3 q3) (x4:=.int .i64 k4) (x5:=.slice o5 l5 q5) (x6:=.slice o6 l6 q6) (x7:=.int .i64 k7) (x8:=.slice o8 l8 q8)
     unfold W9 at mk3
     have HB:w3.rowIs w.heap.size 32 9 _:=(q0k (T:=32) (show w.heap.size=w.heap.size from rfl) _ _ _ _ _ _ _ _ _).of_block (Below.block E9 _ (by simp))
     obtain⟨u0,u1,u2,u3,u4,u5,u6,u7,u8⟩:=q2p HB
     have uz:=HB.frozen
     have HHB:=Qa HB
     clear HB))
 focus
  have _t:=mk1
  obtain⟨w4,hw4⟩:=Qy (w3.alloc (.cells #[.int .i64 k0,.int .i64 k1,.slice o2 l2 q2,.slice o3 l3 q3,.int .i64 k4,.slice o5 l5 q5,.slice o6 l6 q6,.int .i64 k7,.slice o8 l8 q8] 32))
  have R4:w4.rowIs w3.heap.size 32 9 (fun j=>[.int .i64 k0,.int .i64 k1,.slice o2 l2 q2,.slice o3 l3 q3,.int .i64 k4,.slice o5 l5 q5,.slice o6 l6 q6,.int .i64 k7,.slice o8 l8 q8].getD j vd):=by rw[hw4];exact q0k rfl _ _ _ _ _ _ _ _ _
  have E4:Ext w w4:=by rw[hw4];exact mk1.alloc _
  have HST:Hid (∃a',Value.agg #[.int .i64 k0,.int .i64 k1,.slice o2 l2 q2,.slice o3 l3 q3,.int .i64 k4,.slice o5 l5 q5,.slice o6 l6 q6,.int .i64 k7,.slice o8 l8 q8]=cvl (Q1 W.co n ls fs).1.c a'/\l9=(Q1 W.co n ls fs).1.out.length/\Stb (fun b=>tg b=0) w4 (fun U=>Zr U (Q1 W.co n ls fs).1.c a'/\Zw U tO (Q1 W.co n ls fs).1.out)):=by
   obtain⟨a',ea,el,hU⟩:=HF.out
   exact⟨a',ea,el,(HW.out.fresh hU).ext (by rw[hw4];exact(Ext.refl w3).alloc _)⟩
  have HX0:Hid (tg w3.heap.size=0):=HW.out.nw _ mk1.size
  rw[<-hw4]
  clear hw4 E9 hG HF _t
  generalize w3.heap.size=X at R4 HX0 ⊢
  clear mk1
 rotate_left
 focus
  have _t:=mk2
  obtain⟨w4,hw4⟩:=Qy (W9 w3 w.heap.size (.int .i64 k0) (.int .i64 k1) (.slice o2 l2 q2) (.slice o3 l3 q3) (.int .i64 k4) (.slice o5 l5 q5) (.slice o6 l6 q6) (.int .i64 k7) (.slice o8 l8 q8))
  have R4:w4.rowIs w.heap.size 32 9 (fun j=>[.int .i64 k0,.int .i64 k1,.slice o2 l2 q2,.slice o3 l3 q3,.int .i64 k4,.slice o5 l5 q5,.slice o6 l6 q6,.int .i64 k7,.slice o8 l8 q8].getD j vd):=by rw[hw4];exact q9p HHB.out
  have E4:Ext w w4:=by rw[hw4];exact q0g mk2 (Ql _)
  have HST:Hid (∃a',Value.agg #[.int .i64 k0,.int .i64 k1,.slice o2 l2 q2,.slice o3 l3 q3,.int .i64 k4,.slice o5 l5 q5,.slice o6 l6 q6,.int .i64 k7,.slice o8 l8 q8]=cvl (Q1 W.co n ls fs).1.c a'/\l9=(Q1 W.co n ls fs).1.out.length/\Stb (fun b=>tg b=0) w4 (fun U=>Zr U (Q1 W.co n ls fs).1.c a'/\Zw U tO (Q1 W.co n ls fs).1.out)):=by
   obtain⟨a',ea,el,hU⟩:=HF.out
   refine⟨a',ea,el,?_⟩
   rw[hw4]
   exact HW.out.fresh1 (fun U h1 h2=>hU U h1 (fun b hb h3=>h2 b (by simpa using hb) h3)) q1n q0z
  have HX0:Hid (tg w.heap.size=0):=HW.out.nw _ (Ql _)
  unfold W9 at hw4
  rw[<-hw4]
  clear hda
  generalize w.heap.size=X at R4 HX0 ⊢
  clear hw4 mk2 mk3 E9 hG HF _t u0 u1 u2 u3 u4 u5 u6 u7 u8 uz HHB
 rotate_left
 all_goals(
  obtain⟨x0,x1,x2,x3,x4,x5,x6,x7,x8⟩:=q2p R4
  simp only[List.getD_cons_zero,List.getD_cons_succ] at x0 x1 x2 x3 x4 x5 x6 x7 x8
  have hXl:=R4.lt
  clear R4
  by_cases h0:(Q1 W.co n ls fs).2=0
  ·have HD:=Qa (hapA_yes h0)
   have HDW:=Qa (z5u HI.out (by omega) h0)
   rw[h0]
   clear h0
   go_wp2_with fail
   have HT:Hid (Calls prog 41 #[.pointer (some ⟨P,0,none⟩),.agg #[.int .i64 k0,.int .i64 k1,.slice o2 l2 q2,.slice o3 l3 q3,.int .i64 k4,.slice o5 l5 q5,.slice o6 l6 q6,.int .i64 k7,.slice o8 l8 q8],.slice tO l9 tc] w4 fun e w'=>e=.returned (.tuple #[])/\∃tg' a',Value.agg #[.int .i64 k4,.slice o5 l5 q5,.slice o6 l6 q6]=pvl (Q1 W.co n ls fs).1.c.Qd a'.x/\Q0 56 [.int .i64 n,.slice ao len cap] w0 P n tg' w' ⟨(Q1 W.co n ls fs).1.c,W.sw,Zh W.od (Q1 W.co n ls fs).1.out,W.bk,W.pk,W.pn⟩ a' sb ob bb kv lv/\Zv tg tg' w4 w'):=by
    obtain⟨a',ea,el,hS⟩:=HST.out
    show Calls _ _ _ _ _
    have en:=cvl_nxt ea
    rw[ea,el]
    exact(z0t _ w0 P n tg w4 W a sb ob bb kv lv _ a' _ tO tc (HW.out.Qm E4) HI.out.lod hS HDW.out.1 HDW.out.2 (fun s=>by have:=(HI.out.rows s).1;omega)).mono (fun e w' ⟨h1,tg',h2,h3⟩=>⟨h1,tg',a',en,h2,h3⟩)
   refine Calls.mono HT.out ?_
   rintro e w5 ⟨rfl,tg5,a5,en,hW5,hK5⟩
   have HW5:=Qa hW5
   have HK5:=Qa hK5
   obtain⟨p,hp⟩:=Qy ((Q1 W.co n ls fs).1.c.Qd)
   have HP:=Qa hp
   have hP5:=hW5.row.lt
   have HCP:Hid (∀V,Ext w5 V->Calls prog 42 #[.agg #[.int .i64 k4,.slice o5 l5 q5,.slice o6 l6 q6]] V fun e w'=>∃ap:PA,e=.returned (.agg #[.int .i64 p.v,.slice ap.fo p.fs.length ap.fc,.slice ap.qo p.ps.length ap.qc])/\q3u V.heap.size w' p ap/\Ext V w'):=fun V hV=>by
    rw[en,hp]
    have hok:PlOk (Q1 W.co n ls fs).1.c.Qd:=by
     have h1:=(hapA_inv (fs:=fs) HI.out (by omega)).small (by omega)
     rw[HD.out] at h1
     exact h1.x
    exact z3c _ a5.x V ((HW5.out.Qm hV).co.at.hx) hok
   have HSX:Hid (∀V,Ext w5 V->cl V P 13 lv/\cl V X 4 (.int .i64 k4)/\cl V X 5 (.slice o5 l5 q5)/\cl V X 6 (.slice o6 l6 q6)):=fun V hV=>by
    have hbX:w5.heap[X]? =w4.heap[X]?:=(hK5.blk X hXl (Or.inl HX0.out)).2
    have hX5:X<w5.heap.size:=Q5 hXl hK5.size
    exact⟨(hV.cells.1 _ _ hP5).trans (HW5.out.row.cell (i:=13) (by simp)),(hV.cells.1 _ _ hX5).trans ((cob (a:=⟨X,4,none⟩) hbX).trans x4),(hV.cells.1 _ _ hX5).trans ((cob (a:=⟨X,5,none⟩) hbX).trans x5),(hV.cells.1 _ _ hX5).trans ((cob (a:=⟨X,6,none⟩) hbX).trans x6)⟩
   obtain⟨xs,hrw,hpl⟩:=hW5.pls
   have HRW:=Qa hrw
   have HPL:=Qa hpl
   have hpn:W.pn.length<=1000:=by have:=HI.out.pl;omega
   clear hW5 hK5 HT x0 x1 x2 x3 x4 x5 x6 x7 x8 en hrw hpl hp
   go_wp2
   refine Last.LH.start (m:=14) (S:=fun V=>cl V P 13 lv/\cl V X 4 (.int .i64 k4)/\cl V X 5 (.slice o5 l5 q5)/\cl V X 6 (.slice o6 l6 q6)) (by kernel_rfl) ?_
   have Qe:=HSX.out w5.drew (Ext.refl _).drew
   refine ltk 0 Qe ?_
   refine ltk 1 Qe ?_
   refine ltk 2 Qe ?_
   refine ltk 3 Qe ?_
   refine ltk 4 Qe ?_
   refine ltk 5 Qe ?_
   refine ltk 6 Qe ?_
   refine ltk 7 Qe ?_
   refine lon 8 (fun K hK=>?_)
   go_simp
   refine(HCP.out _ (Ext.refl _).drew).mono ?_
   rintro e w6 ⟨ap,rfl,hN,E6⟩
   have HN:=Qa hN
   have E56:Ext w5 w6:=(Ext.refl _).drew.trans E6
   refine hK _ _ (fun _=>HSX.out _ E56) ?_
   clear hK K Qe hN E6
   refine lon 9 (fun K hK=>?_)
   go_simp
   refine hK _ _ (fun _=>HSX.out _ (E56.alloc _)) ?_
   clear hK K
   have EA:Ext w5 (w6.alloc (.cells #[.int .i64 p.v,.slice ap.fo p.fs.length ap.fc,.slice ap.qo p.ps.length ap.qc] 29)):=E56.alloc _
   refine lon 10 (fun K hK=>?_)
   refine Q4 _ rfl (.tmp 35) (.tmp 39) 37 rfl 29 i0 _ 3 56 underlying37 hi0 hz00 hz01 hz02 rfl (by decide) lv W.pn.length xs rfl (by with_reducible exact(HRW.out.Qh (Qf.ext (S:=fun _=>True) EA) trivial).rw) ⟨w6.heap.size,0,none⟩ 1 [.int .i64 p.v,.slice ap.fo p.fs.length ap.fc,.slice ap.qo p.ps.length ap.qc] rfl rfl (by with_reducible exact news3 rfl (Ext.refl _)) (one3p p.v ap.fo ap.qo p.fs.length ap.fc p.ps.length ap.qc) (by unfold maxLen;omega) (by omega) ?_
   intro g off cap2 w7 hr7 hg7 hat7
   have HPU:=Qa (Q0.pushL (p:=p) (ap:=ap) (HW5.out.Qm EA) (HRW.out.Qh (Qf.ext (S:=fun _=>True) EA) trivial) (fun i hi=>by
    obtain⟨b,b0,b1,b2,b3⟩:=HPL.out i hi
    exact⟨b,b0,b1,b2,b3.Qh (Qf.ext (S:=fun _=>True) EA) trivial⟩) ((HW5.out.fresh (HN.out)).ext ((Ext.refl w6).alloc _)) hr7 hg7 hat7)
   obtain⟨c13,d4,d5,d6⟩:=HSX.out _ EA
   have t1:=HW5.out.tP
   have tX:tg5 X=0:=by
    have h1:=(HK5.out.blk X hXl (Or.inl HX0.out)).1
    rw[h1];exact HX0.out
   have hX5:X<w5.heap.size:=Q5 hXl HK5.out.size
   have gP:=Qz hg7 HRW.out.tg (b:=P) (by rw[t1];decide) (Q5 hP5 EA.size)
   have gX:=(Qz hg7 HRW.out.tg (b:=X) (by rw[tX];decide) (Q5 hX5 EA.size)).1
   have fP7:w7.frozen? ⟨P,13,none⟩=false:=(gP.2 13).trans ((EA.cells.2 _ _ hP5).trans (HW5.out.row.frozen 13))
   have hP7:P<w7.heap.size:=Q5 (Q5 hP5 EA.size) hg7.size
   have hS7:=And.intro ((gP.1 13).trans c13) (And.intro ((gX 4).trans d4) (And.intro ((gX 5).trans d5) ((gX 6).trans d6)))
   clear gP gX c13 d4 d5 d6 hr7 hg7 hat7 t1 tX
   have co7:=hS7.1
   refine hK _ _ (fun _=>hS7) ?_
   clear hK K
   refine lon 11 (fun K hK=>?_)
   go_simp
   refine hK _ _ (fun _=>hS7) ?_
   clear hK K
   refine lon 12 (fun K hK=>?_)
   go_simp
   refine hK _ _ (fun _=>hS7) ?_
   clear hK K
   refine lon 13 (fun K hK=>?_)
   go_simp
   refine hK _ _ (fun _=>hS7) ?_
   clear hK K
   refine lon 14 (fun K hK=>?_)
   go_simp
   refine hK _ _ (fun h=>absurd rfl h) ?_
   clear hK K
   refine ldn ?_
   clear hS7 co7 fP7
   go_wp2
   go_ret
   rw[HD.out]
   obtain⟨tg7,hW7,hK7⟩:=HPU.out
   rw[HP.out] at hW7
   exact⟨rfl,tg7,a5,kv,_,hW7,((Zv.ext E4).trans HK5.out).trans ((Zv.ext EA).trans hK7)⟩
  ·have HD:=Qa (hapA_no h0)
   have b0:((Q1 W.co n ls fs).2 != 0)=true:=by simpa using h0
   clear h0
   go_wp2
   go_ret
   rw[HD.out]
   exact⟨rfl,tg,a,kv,lv,HW.out.Qm E4,Zv.ext E4⟩)
end Rm
end Go.Proofs.YthkpbefnkmmaiaaGreat
