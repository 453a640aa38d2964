/- All orders and answers come, round by round, in words: in the end nothing is on its way. -/
import Derived.Test.YtolclgbpjiokfaaU24
namespace Go.Proofs.Ytolclgbpjiokfaa.Rm
open Go.RowKit Go.Deep Stw Stp Tb Rul Ct
theorem Inv.sw_is {n:Nat} {ls:List Lk} {t:Nat} {W:Wd} {s:Nat} (h:Inv n ls t W) (hs:s<n):W.sw.getD s Agt.sw0=bef W.co s∨W.sw.getD s Agt.sw0=aft W.co s:=by
 rcases h.dyn.core.sws s hs with⟨_,_,e⟩ | ⟨_,_,_,_,_,e⟩ | ⟨_,_,_,e⟩
 ·exact Or.inr e
 ·exact Or.inl e
 ·exact Or.inr e
theorem Inv.sw_right {n:Nat} {ls:List Lk} {t:Nat} {W:Wd} {s:Nat} (h:Inv n ls t W) (hs:s<n):Agt.wrongS (W.sw.getD s Agt.sw0)=0:=by
 rcases h.sw_is hs with e | e
 ·rw[e];exact bef_right h.ok hs
 ·rw[e];exact aft_right h.ok hs
theorem Inv.sw_mem {n:Nat} {ls:List Lk} {t:Nat} {W:Wd} {s:Nat} (h:Inv n ls t W) (hs:s<n) {r:Ru} (hr:r∈(W.sw.getD s Agt.sw0).rs):r∈rls W.co.now s∨r∈rls W.co.nxt s:=by
 have hb:W.co.st≠0→r∈both W.co.now W.co.nxt s→r∈rls W.co.now s∨r∈rls W.co.nxt s:=fun h0 hr=>by
  obtain⟨g1,g2,g3⟩:=h.ok.nxt h0
  exact(both_mem h.n8.2 h.ok.now g1 g2 g3 hs).1 hr
 rcases h.sw_is hs with e | e
 ·rw[e] at hr
  unfold bef at hr
  split at hr
  ·exact Or.inl hr
  ·rename_i h0
   split at hr
   ·exact hb (by omega) hr
   ·exact hb (by omega) hr
 ·rw[e] at hr
  unfold aft at hr
  split at hr
  ·exact Or.inl hr
  ·rename_i h0
   split at hr
   ·exact hb h0 hr
   ·split at hr
    ·exact Or.inr hr
    ·exact hb h0 hr
theorem Inv.sw_st {n:Nat} {ls:List Lk} {t:Nat} {W:Wd} {s:Nat} (h:Inv n ls t W) (hs:s<n):(W.sw.getD s Agt.sw0).st=stOf W.co.now s∨(W.sw.getD s Agt.sw0).st=stOf W.co.nxt s:=by
 rcases h.sw_is hs with e | e
 ·rw[e];exact(bef_cases W.co s).2
 ·rw[e]
  unfold aft
  split
  ·exact Or.inl rfl
  ·split
   ·exact Or.inl rfl
   ·split
    ·exact Or.inr rfl
    ·exact Or.inr rfl
theorem Inv.plan_is {n:Nat} {ls:List Lk} {t:Nat} {W:Wd} (h:Inv n ls t W) {p:Pl} (hp:p=W.co.now∨p=W.co.nxt):∃m,m≤W.pn.length∧p=lp W.pn m:=by
 rcases h.dyn.stg with⟨_,h2,h3⟩ | ⟨_,m,h2,h3,h4,_⟩
 ·rcases hp with rfl | rfl
  ·exact⟨_,Nat.le_refl _,h3⟩
  ·exact⟨0,Nat.zero_le _,h2⟩
 ·rcases hp with rfl | rfl
  ·exact⟨m,by omega,h4⟩
  ·exact⟨m+1,by omega,h3⟩
theorem Inv.plan_v {n:Nat} {ls:List Lk} {t:Nat} {W:Wd} (h:Inv n ls t W) {p:Pl} (hp:p=W.co.now∨p=W.co.nxt) {m:Nat} (hv:p.v=(m:Int)+1):m<W.pn.length∧p=W.pn.getD m pl0:=by
 obtain⟨k,hk,e⟩:=h.plan_is hp
 have:=(h.pls.lp hk).1
 rw[←e,hv] at this
 have hkm:k=m+1:=by omega
 subst hkm
 exact⟨by omega,e⟩
theorem Inv.leads {n:Nat} {ls:List Lk} {t:Nat} {W:Wd} (h:Inv n ls t W) {m i j:Nat} {y:Int} (hm:m<W.pn.length) (hi:i<(W.pn.getD m pl0).ps.length) (hj:j<((W.pn.getD m pl0).ps.getD i []).length)
 (hr:((m:Int)+1,(i:Int),y)∈(W.sw.getD (((W.pn.getD m pl0).ps.getD i []).getD j 0).toNat Agt.sw0).rs):j+1<((W.pn.getD m pl0).ps.getD i []).length∧y=((W.pn.getD m pl0).ps.getD i []).getD (j+1) 0:=by
 have hg:=(h.pls m hm).gd
 obtain⟨_,g2,g3⟩:=hg.gp i hi
 have hx:=g3 _ (get_mem (l:=(W.pn.getD m pl0).ps.getD i []) (i:=j) hj)
 have hs:(((W.pn.getD m pl0).ps.getD i []).getD j 0).toNat<n:=by omega
 have key:∀p,(p=W.co.now∨p=W.co.nxt)→((m:Int)+1,(i:Int),y)∈rls p (((W.pn.getD m pl0).ps.getD i []).getD j 0).toNat→j+1<((W.pn.getD m pl0).ps.getD i []).length∧y=((W.pn.getD m pl0).ps.getD i []).getD (j+1) 0:=fun p hp hr=>by
  obtain⟨_,e⟩:=h.plan_v hp (rls_ver hr).symm
  rw[e] at hr
  obtain⟨i',h1,k,h2,h3,h4⟩:=mem_rof.1 hr
  have e1:i'=i:=by
   have:=(Prod.ext_iff.1 (Prod.ext_iff.1 h4).2).1
   simp only at this
   omega
  subst e1
  have e2:k=j:=nd_get g2 (by omega) hj (by rw[h3];omega)
  subst e2
  exact⟨h2,(Prod.ext_iff.1 (Prod.ext_iff.1 h4).2).2⟩
 rcases h.sw_mem hs hr with hr | hr
 ·exact key _ (Or.inl rfl) hr
 ·exact key _ (Or.inr rfl) hr
theorem take_at {l:List Int} {j:Nat} (h1:1≤j) (h2:j≤l.length):(l.take j).getD ((l.take j).length - 1) 0=l.getD (j - 1) 0:=by
 rw[List.length_take,Nat.min_eq_left h2,List.getD_eq_getElem?_getD,List.getD_eq_getElem?_getD,List.getElem?_take_of_lt (by omega)]
theorem take_more {l:List Int} {j:Nat} (h:j<l.length):l.take (j+1)=l.take j++[l.getD j 0]:=by
 rw[List.take_succ_eq_append_getElem h];simp[List.getD_eq_getElem?_getD,h]
theorem mov_ok {n:Nat} {ls:List Lk} {t:Nat} {W:Wd} {p:Pk} (h:Inv n ls t W) (hp:PkOk n W.pn p) (hd:p.dn=false):PkOk n W.pn (movP W.sw p):=by
 rcases hp with⟨_,e,_⟩ | ⟨m,i,j,h1,h2,h3,h4,h5,h6,h7⟩
 ·rw[hd] at e;cases e
 ·unfold movP
  split
  ·rename_i hn
   have hat:atP p=((W.pn.getD m pl0).ps.getD i []).getD (j - 1) 0:=by unfold atP;rw[h7];exact take_at h5 h6
   have hr:=nxt_mem hn
   rw[hat,h2,h3] at hr
   obtain⟨k1,k2⟩:=h.leads h1 h4 (by omega) hr
   refine Or.inr ⟨m,i,j+1,h1,h2,h3,h4,by omega,by omega,?_⟩
   show p.tr++[_]=_
   rw[take_more (by omega),h7,hat,h2,h3,k2,show j - 1+1=j by omega]
  ·exact Or.inr ⟨m,i,j,h1,h2,h3,h4,h5,h6,h7⟩
theorem sat_some {f:Int}:∀{sw:List Agt.Sw} {b:Nat} {x:Nat×Int},sat f b sw=some x→b≤x.1∧x.1<b+sw.length∧x.2=Agt.ver (sw.getD (x.1 - b) Agt.sw0).st f∧x.2≠0∧∀k,k<x.1 - b→Agt.ver (sw.getD k Agt.sw0).st f=0
 | [],_,_,h=>by cases h
 | y::r,b,x,h=>by
  unfold sat at h
  split at h
  ·rename_i hv
   cases h
   exact⟨Nat.le_refl _,by simp,by simp,hv,fun k hk=>by simp at hk⟩
  ·rename_i hv
   obtain⟨h1,h2,h3,h4,h5⟩:=sat_some h
   obtain⟨d,hd⟩:∃d,x.1 - b=d+1:=⟨x.1 - (b+1),by omega⟩
   refine⟨by omega,by simp;omega,?_,h4,fun k hk=>?_⟩
   ·rw[hd,List.getD_cons_succ,h3,show x.1 - (b+1)=d by omega]
   ·cases k with
    | zero=>simpa using hv
    | succ k=>rw[List.getD_cons_succ];exact h5 k (by omega)
theorem sat_none {f:Int}:∀{sw:List Agt.Sw} {b:Nat},sat f b sw=none→∀k,Agt.ver (sw.getD k Agt.sw0).st f=0
 | [],_,_,k=>by simp[Agt.sw0,Agt.ver]
 | y::r,b,h,k=>by
  unfold sat at h
  split at h
  ·cases h
  ·rename_i hv
   cases k with
   | zero=>simpa using hv
   | succ k=>rw[List.getD_cons_succ];exact sat_none h k
theorem ver_stamps {v f:Int}:∀{l:List Int},Agt.ver (Agt.stamps v l) f≠0→f∈l∧Agt.ver (Agt.stamps v l) f=v
 | [],h=>absurd rfl h
 | x::r,h=>by
  unfold Agt.stamps at h ⊢
  rw[List.map_cons] at h ⊢
  unfold Agt.ver at h ⊢
  split
  ·rename_i e;exact⟨by simp at e;simp[e],rfl⟩
  ·rename_i e
   rw[if_neg e] at h
   have:=ver_stamps (v:=v) (f:=f) (l:=r) h
   exact⟨by simp[this.1],this.2⟩
theorem ver_stamps_of {v f:Int}:∀{l:List Int},f∈l→Agt.ver (Agt.stamps v l) f=v
 | x::r,h=>by
  unfold Agt.stamps
  rw[List.map_cons]
  unfold Agt.ver
  split
  ·rfl
  ·rename_i e
   have e':¬x=f:=by simpa using e
   rcases List.mem_cons.1 h with h | h
   ·exact absurd h.symm e'
   ·exact ver_stamps_of (v:=v) h
theorem mem_beg {s:Int} {fs:List Stf.Fl} {x:Int}:∀{K:Nat},x∈beg s fs K↔∃k:Nat,k<K∧x=(k:Int)∧(fs.getD k Fw.f0).fr=s
 | 0=>by simp[beg]
 | K+1=>by
  unfold beg
  rw[List.mem_append,mem_beg]
  constructor
  ·rintro(⟨k,h1,h2,h3⟩ | h)
   ·exact⟨k,by omega,h2,h3⟩
   ·split at h
    ·rename_i e;rw[List.mem_singleton] at h;exact⟨K,by omega,h,e⟩
    ·simp at h
  ·rintro⟨k,h1,h2,h3⟩
   by_cases e:k=K
   ·subst e;exact Or.inr (by rw[if_pos h3];simp[h2])
   ·exact Or.inl ⟨k,by omega,h2,h3⟩
theorem Pln.head {n:Nat} {ls:List Lk} {v:Int} {p:Pl} (h:Pln n ls v p):p.ps.length=p.fs.length∧(∀i,i<p.fs.length→(p.ps.getD i []).getD 0 0=(p.fs.getD i Fw.f0).fr∧1≤(p.ps.getD i []).length∧0≤(p.fs.getD i Fw.f0).fr∧(p.fs.getD i Fw.f0).fr<(n:Int))∧∀i,(p.ps.getD i []).length≤8:=by
 obtain⟨fs,rfl,h2⟩:=h
 have g:=plan_good h2
 refine⟨g.len,fun i hi=>?_,g.short⟩
 have hgp:=g.gp i (by rw[g.len];exact hi)
 have hl:1≤((plnP n ls fs).getD i []).length:=by
  cases e:(plnP n ls fs).getD i [] with
  | nil=>exact absurd e hgp.1
  | cons=>simp
 have:=hgp.2.2 _ (get_mem (i:=0) hl)
 have hh:=g.head i hi
 refine⟨hh,hl,?_⟩
 simp only
 rw[←hh]
 exact⟨this.1,by have:=this.2;omega⟩
theorem Inv.stamp {n:Nat} {ls:List Lk} {t:Nat} {W:Wd} {s:Nat} {f v:Int} (h:Inv n ls t W) (hs:s<n) (hv:Agt.ver (W.sw.getD s Agt.sw0).st f=v) (h0:v≠0):∃m i:Nat,m<W.pn.length∧v=(m:Int)+1∧f=(i:Int)∧i<(W.pn.getD m pl0).fs.length∧((W.pn.getD m pl0).fs.getD i Fw.f0).fr=(s:Int)∧(W.pn.getD m pl0=W.co.now∨W.pn.getD m pl0=W.co.nxt)∧(W.sw.getD s Agt.sw0).st=stOf (W.pn.getD m pl0) s:=by
 have key:∀p,(p=W.co.now∨p=W.co.nxt)→(W.sw.getD s Agt.sw0).st=stOf p s→∃m i:Nat,m<W.pn.length∧v=(m:Int)+1∧f=(i:Int)∧i<(W.pn.getD m pl0).fs.length∧((W.pn.getD m pl0).fs.getD i Fw.f0).fr=(s:Int)∧(W.pn.getD m pl0=W.co.now∨W.pn.getD m pl0=W.co.nxt)∧(W.sw.getD s Agt.sw0).st=stOf (W.pn.getD m pl0) s:=fun p hp e=>by
  rw[e] at hv
  obtain⟨h1,h2⟩:=ver_stamps (v:=p.v) (f:=f) (by unfold stOf at hv;rw[hv];exact h0)
  have hpv:p.v=v:=by unfold stOf at hv;rw[←hv,h2]
  obtain⟨k,k1,k2,k3⟩:=mem_beg.1 h1
  obtain⟨m,hm,em⟩:=h.plan_is hp
  have hmv:=(h.pls.lp hm).1
  rw[←em] at hmv
  cases m with
  | zero=>omega
  | succ m=>
   have em':p=W.pn.getD m pl0:=em
   refine⟨m,k,by omega,by omega,k2,?_,?_,?_,?_⟩
   ·rw[←em'];exact k1
   ·rw[←em'];exact k3
   ·rw[←em'];exact hp
   ·rw[←em'];exact e
 rcases h.sw_st hs with e | e
 ·exact key _ (Or.inl rfl) e
 ·exact key _ (Or.inr rfl) e
theorem frm_some {n:Nat} {ls:List Lk} {t:Nat} {W:Wd} {f a:Int} (h:Inv n ls t W) (hf:frm W.co f=some a):0≤a∧a<(n:Int)∧0≤f∧f<12:=by
 have key:∀p,(p=W.co.now∨p=W.co.nxt)→0≤f∧f<(p.fs.length:Int)→(p.fs.getD f.toNat Fw.f0).fr=a→0≤a∧a<(n:Int)∧0≤f∧f<12:=fun p hp hr ha=>by
  obtain⟨m,hm,em⟩:=h.plan_is hp
  cases m with
  | zero=>rw[em] at hr;simp[lp,pl0] at hr;omega
  | succ m=>
   have hpl:=h.pls m (by omega)
   have e:W.pn.getD m pl0=p:=em.symm
   rw[e] at hpl
   have:=hpl.head.2.1 f.toNat (by omega)
   have:=hpl.gd.fl
   rw[←ha];omega
 unfold frm at hf
 split at hf
 ·rename_i hr;cases hf;exact key _ (Or.inr rfl) hr rfl
 ·split at hf
  ·rename_i hr;cases hf;exact key _ (Or.inl rfl) hr rfl
  ·cases hf
theorem new_ok {n:Nat} {ls:List Lk} {t:Nat} {W:Wd} {f a:Int} (h:Inv n ls t W) (hf:frm W.co f=some a):PkOk n W.pn (newP W.sw f a):=by
 have ha:=frm_some h hf
 unfold newP
 split
 ·rename_i x hx
  obtain⟨h1,h2,h3,h4,_⟩:=sat_some hx
  rw[h.lsw] at h2
  rw[Nat.sub_zero] at h3
  obtain⟨m,i,k1,k2,k3,k4,k5,_,_⟩:=h.stamp (s:=x.1) (f:=f) (by omega) h3.symm h4
  have hh:=(h.pls m k1).head
  obtain⟨e1,e2,_⟩:=hh.2.1 i k4
  refine Or.inr ⟨m,i,1,k1,k2,k3,by rw[hh.1];exact k4,Nat.le_refl _,e2,?_⟩
  show [(x.1:Int)]=_
  rw[take_more (j:=0) (by omega),e1,k5]
  rfl
 ·exact Or.inl ⟨rfl,rfl,a,rfl,ha.1,ha.2.1⟩
theorem hapB_inv {n:Nat} {ls:List Lk} {t:Nat} {W:Wd} {f:Int} (h:Inv n ls t W):Inv n ls (t+1) (hapB W f).1:=by
 unfold hapB
 split
 ·exact h.more
 ·rename_i hl
  split
  ·exact h.more
  ·rename_i a ha
   refine⟨h.wr,h.lsw,h.lod,h.lbk,h.pls,h.dyn,by have:=h.num;simp only;omega,by have:=h.pl;simp only;omega,by simp;omega,fun p hp=>?_⟩
   rcases List.mem_append.1 hp with hp | hp
   ·exact h.pks p hp
   ·rw[List.mem_singleton] at hp;subst hp;show PkOk n W.pn _;exact new_ok h ha
theorem hapM_inv {n:Nat} {ls:List Lk} {t:Nat} {W:Wd} {i:Int} (h:Inv n ls t W):Inv n ls (t+1) (hapM W i).1:=by
 unfold hapM
 split
 ·exact h.more
 ·rename_i hi
  split
  ·exact h.more
  ·rename_i hd
   have hi':0≤i∧i<(W.pk.length:Int):=by simpa using hi
   refine⟨h.wr,h.lsw,h.lod,h.lbk,h.pls,h.dyn,by have:=h.num;simp only;omega,by have:=h.pl;simp only;omega,by simpa using h.pkl,fun p hp=>?_⟩
   rcases List.mem_or_eq_of_mem_set hp with hp | hp
   ·exact h.pks p hp
   ·rw[hp]
    have hlt:i.toNat<W.pk.length:=by omega
    show PkOk n W.pn _
    refine mov_ok h (h.pks _ ?_) (by simpa using hd)
    rw[List.getD_eq_getElem?_getD,List.getElem?_eq_getElem hlt]
    exact List.getElem_mem _
theorem hap_inv {n:Nat} {ls:List Lk} {t:Nat} {W:Wd} {d:Dd} (h:Inv n ls t W) (ht:t≤1000):Inv n ls (t+1) (hap n ls W d).1:=by
 unfold hap
 split
 ·exact hapA_inv h ht
 ·split
  ·exact(hapO_inv h ht).1
  ·split
   ·exact(hapK_inv h ht).1
   ·split
    ·exact hapB_inv h
    ·split
     ·exact hapM_inv h
     ·split
      ·exact hapD_inv h ht
      ·exact h.more
theorem runR_inv {n:Nat} {ls:List Lk}:∀{ds:List Dd} {q:Wd×List Int} {t:Nat},Inv n ls t q.1→t+ds.length≤1000→Inv n ls (t+ds.length) (runR n ls q ds).1
 | [],q,t,h,_=>h
 | d::r,q,t,h,ht=>by
  rw[runR_cons]
  simp only[List.length_cons] at ht ⊢
  have:=runR_inv (ds:=r) (q:=stepR n ls q d) (t:=t+1) (hap_inv h (by omega)) (by omega)
  rw[show t+(r.length+1)=t+1+r.length by omega]
  exact this
theorem run_inv {n:Nat} {ls:List Lk} {ds:List Dd} (h:(wrong n ls).1=0) (hl:ds.length≤1000):Inv n ls ds.length (run n ls ds).1:=by
 have:=runR_inv (ds:=ds) (q:=(wdN n,[])) (Inv.start h) (by omega)
 rwa [Nat.zero_add] at this
theorem rngs_len {l:List Int} {m:Nat} (h:l.Nodup) (hr:∀x∈l,1≤x∧x≤(m:Int)):l.length≤m+1:=rng_len (m+1) l h (fun x hx=>by have:=hr x hx;omega)
theorem Inv.small {n:Nat} {ls:List Lk} {t:Nat} {W:Wd} (h:Inv n ls t W) (ht:t≤1000):CoOk W.co:=by
 have key:∀p,(p=W.co.now∨p=W.co.nxt)→PlOk p:=fun p hp=>by
  obtain⟨m,hm,e⟩:=h.plan_is hp
  rw[e];exact(h.pls.lp hm).2.2
 refine⟨key _ (Or.inl rfl),key _ (Or.inr rfl),?_⟩
 have:=rngs_len (m:=16000) h.dyn.core.wnd (fun x hx=>by have:=h.dyn.core.nle x hx;have:=h.num;omega)
 omega
end Go.Proofs.Ytolclgbpjiokfaa.Rm
namespace Go.Proofs.Ytolclgbpjiokfaa.Rm
open Go.RowKit Go.Deep Stw Stp Tb Rul Ct
theorem hap_refused {n:Nat} {ls:List Lk} {W:Wd} {d:Dd} (h:(hap n ls W d).2≠0):(hap n ls W d).1=W:=by
 unfold hap at h ⊢
 split
 ·rename_i h1
  rw[if_pos h1] at h
  unfold hapA at h ⊢
  split
  ·rfl
  ·rename_i h2;rw[if_neg h2] at h;exact absurd rfl h
 ·rename_i h1
  rw[if_neg h1] at h
  split
  ·rename_i h1
   rw[if_pos h1] at h
   unfold hapO at h ⊢
   split
   ·rfl
   ·rename_i h2
    rw[if_neg h2] at h
    split
    ·rfl
    ·rename_i o r ho
     simp only[ho] at h
     split
     ·rfl
     ·rename_i h3;rw[if_neg h3] at h;exact absurd rfl h
  ·rename_i h1
   rw[if_neg h1] at h
   split
   ·rename_i h1
    rw[if_pos h1] at h
    unfold hapK at h ⊢
    split
    ·rfl
    ·rename_i h2
     rw[if_neg h2] at h
     split
     ·rfl
     ·rename_i o r ho
      simp only[ho] at h
      split
      ·rfl
      ·rename_i h3;rw[if_neg h3] at h;exact absurd rfl h
   ·rename_i h1
    rw[if_neg h1] at h
    split
    ·rename_i h1
     rw[if_pos h1] at h
     unfold hapB at h ⊢
     split
     ·rfl
     ·rename_i h2
      rw[if_neg h2] at h
      split
      ·rfl
      ·rename_i a ha
       simp only[ha] at h
       exact absurd rfl h
    ·rename_i h1
     rw[if_neg h1] at h
     split
     ·rename_i h1
      rw[if_pos h1] at h
      unfold hapM at h ⊢
      split
      ·rfl
      ·rename_i h2
       rw[if_neg h2] at h
       split
       ·rfl
       ·rename_i h3;rw[if_neg h3] at h;exact absurd rfl h
     ·rename_i h1
      rw[if_neg h1] at h
      split
      ·rename_i h1
       rw[if_pos h1] at h
       unfold hapD at h ⊢
       split
       ·rfl
       ·rename_i h2;rw[if_neg h2] at h;exact absurd rfl h
      ·rfl
def goodD:List Dd→List Int→List Dd
 | d::r,e::c=>if e=0 then d::goodD r c else goodD r c
 | _,_=>[]
theorem goodD_run {n:Nat} {ls:List Lk}:∀{ds:List Dd} {W:Wd},(runR n ls (W,[]) (goodD ds (runR n ls (W,[]) ds).2)).1=(runR n ls (W,[]) ds).1∧∀e∈(runR n ls (W,[]) (goodD ds (runR n ls (W,[]) ds).2)).2,e=0
 | [],W=>⟨rfl,fun e he=>by simp[goodD,runR] at he⟩
 | d::r,W=>by
  have e1:runR n ls (W,[]) (d::r)=((runR n ls ((hap n ls W d).1,[]) r).1,(hap n ls W d).2::(runR n ls ((hap n ls W d).1,[]) r).2):=by
   rw[runR_cons]
   show runR n ls ((hap n ls W d).1,[]++[(hap n ls W d).2]) r=_
   rw[runR_came];rfl
  obtain⟨h1,h2⟩:=goodD_run (ds:=r) (W:=(hap n ls W d).1)
  rw[e1]
  by_cases h0:(hap n ls W d).2=0
  ·have e2:goodD (d::r) ((hap n ls W d).2::(runR n ls ((hap n ls W d).1,[]) r).2)=d::goodD r (runR n ls ((hap n ls W d).1,[]) r).2:=by rw[goodD,if_pos h0]
   simp only[e2]
   rw[runR_cons]
   show(runR n ls ((hap n ls W d).1,[]++[(hap n ls W d).2]) _).1=_∧∀e∈(runR n ls ((hap n ls W d).1,[]++[(hap n ls W d).2]) _).2,e=0
   rw[runR_came]
   refine⟨h1,fun e he=>?_⟩
   rcases List.mem_append.1 he with he | he
   ·simp at he;rw[he,h0]
   ·exact h2 e he
  ·have e2:goodD (d::r) ((hap n ls W d).2::(runR n ls ((hap n ls W d).1,[]) r).2)=goodD r (runR n ls ((hap n ls W d).1,[]) r).2:=by rw[goodD,if_neg h0]
   simp only[e2]
   have e3:=hap_refused h0
   rw[e3] at h1 h2 ⊢
   exact⟨h1,h2⟩
theorem goodD_le:∀{ds:List Dd} {c:List Int},(goodD ds c).length≤ds.length
 | [],c=>by simp[goodD]
 | d::r,[]=>by simp[goodD]
 | d::r,e::c=>by
  have:=goodD_le (ds:=r) (c:=c)
  unfold goodD
  split <;> simp <;> omega
theorem goodD_take:∀{ds:List Dd} {c:List Int} {k:Nat},k<ds.length→c.length=ds.length→goodD (ds.take (k+1)) (c.take (k+1))=goodD (ds.take k) (c.take k)++(if c.getD k 0=0 then [ds.getD k dd0] else [])
 | d::r,e::c,0,_,_=>by simp[goodD]
 | d::r,e::c,k+1,h,hl=>by
  have:=goodD_take (ds:=r) (c:=c) (k:=k) (by simpa using h) (by simpa using hl)
  rw[List.take_succ_cons,List.take_succ_cons,List.take_succ_cons,List.take_succ_cons,goodD,goodD,this]
  simp only[List.getD_cons_succ]
  by_cases he:e=0
  ·rw[if_pos he,if_pos he];rfl
  ·rw[if_neg he,if_neg he]
 | [],_,_,h,_=>by simp at h
 | _::_,[],_,_,hl=>by simp at hl
def PkLe (p q:Pk):Prop:=q.v=p.v∧(∃r,q.tr=p.tr++r)∧(p.dn=true→q=p)
theorem PkLe.refl (p:Pk):PkLe p p:=⟨rfl,⟨[],by simp⟩,fun _=>rfl⟩
theorem PkLe.trans {p q r:Pk} (h:PkLe p q) (k:PkLe q r):PkLe p r:=by
 obtain⟨h1,⟨a,h2⟩,h3⟩:=h
 obtain⟨k1,⟨b,k2⟩,k3⟩:=k
 refine⟨k1.trans h1,⟨a++b,by rw[k2,h2,List.append_assoc]⟩,fun hd=>?_⟩
 have e:=h3 hd
 subst e
 exact k3 hd
def WdLe (V W:Wd):Prop:=V.pk.length≤W.pk.length∧V.pn.length≤W.pn.length∧∀i,i<V.pk.length→PkLe (V.pk.getD i pk0) (W.pk.getD i pk0)
theorem WdLe.refl (V:Wd):WdLe V V:=⟨Nat.le_refl _,Nat.le_refl _,fun _ _=>PkLe.refl _⟩
theorem WdLe.trans {U V W:Wd} (h:WdLe U V) (k:WdLe V W):WdLe U W:=⟨Nat.le_trans h.1 k.1,Nat.le_trans h.2.1 k.2.1,fun i hi=>(h.2.2 i hi).trans (k.2.2 i (by have:=h.1;omega))⟩
theorem mov_le {sw:List Agt.Sw} {p:Pk} (h:p.dn=false):PkLe p (movP sw p):=by
 unfold movP
 split
 ·exact⟨rfl,⟨_,rfl⟩,fun e=>by rw[h] at e;cases e⟩
 ·exact⟨rfl,⟨[],by simp⟩,fun e=>by rw[h] at e;cases e⟩
theorem hap_le {n:Nat} {ls:List Lk} {W:Wd} {d:Dd}:WdLe W (hap n ls W d).1:=by
 by_cases h0:(hap n ls W d).2=0
 ·have hk:∀(V:Wd),V.pk=W.pk→W.pn.length≤V.pn.length→WdLe W V:=fun V e1 e2=>⟨by rw[e1];exact Nat.le_refl _,e2,fun i _=>by rw[e1];exact PkLe.refl _⟩
  unfold hap
  split
  ·unfold hapA
   split
   ·exact WdLe.refl W
   ·exact hk _ rfl (by simp)
  ·split
   ·unfold hapO
    split
    ·exact WdLe.refl W
    ·split
     ·exact WdLe.refl W
     ·split
      ·exact WdLe.refl W
      ·exact hk _ rfl (Nat.le_refl _)
   ·split
    ·unfold hapK
     split
     ·exact WdLe.refl W
     ·split
      ·exact WdLe.refl W
      ·split
       ·exact WdLe.refl W
       ·exact hk _ rfl (Nat.le_refl _)
    ·split
     ·unfold hapB
      split
      ·exact WdLe.refl W
      ·split
       ·exact WdLe.refl W
       ·refine⟨by simp,Nat.le_refl _,fun i hi=>?_⟩
        show PkLe _ ((W.pk++[_]).getD i pk0)
        rw[List.getD_eq_getElem?_getD,List.getD_eq_getElem?_getD,List.getElem?_append_left hi]
        exact PkLe.refl _
     ·split
      ·unfold hapM
       split
       ·exact WdLe.refl W
       ·rename_i hi
        split
        ·exact WdLe.refl W
        ·rename_i hd
         have hi':0≤d.n∧d.n<(W.pk.length:Int):=by simpa using hi
         refine⟨by simp,Nat.le_refl _,fun i hi=>?_⟩
         show PkLe _ ((W.pk.set d.n.toNat _).getD i pk0)
         rw[getD_set (by omega)]
         split
         ·rename_i e;rw[e];exact mov_le (by simpa using hd)
         ·exact PkLe.refl _
      ·split
       ·unfold hapD
        split
        ·exact WdLe.refl W
        ·exact hk _ rfl (Nat.le_refl _)
       ·exact WdLe.refl W
 ·rw[hap_refused h0];exact WdLe.refl W
theorem runR_le {n:Nat} {ls:List Lk}:∀{ds:List Dd} {q:Wd×List Int},WdLe q.1 (runR n ls q ds).1
 | [],q=>WdLe.refl _
 | d::r,q=>by rw[runR_cons];exact WdLe.trans (hap_le (d:=d)) (runR_le (q:=stepR n ls q d))
theorem run_past {n:Nat} {ls:List Lk} {ds:List Dd} {k:Nat} (hk:k≤ds.length):WdLe (run n ls (ds.take k)).1 (run n ls ds).1∧(run n ls (ds.take k)).2=(run n ls ds).2.take k:=by
 have e:run n ls ds=runR n ls (run n ls (ds.take k)) (ds.drop k):=by
  unfold run
  rw[←runR_append,List.take_append_drop]
 refine⟨by rw[e];exact runR_le,?_⟩
 rw[e]
 generalize hq:run n ls (ds.take k)=q
 have hl:q.2.length=k:=by rw[←hq,run_len,List.length_take];omega
 obtain⟨W,c⟩:=q
 rw[runR_came]
 simp only at hl ⊢
 rw[←hl,List.take_left]
end Go.Proofs.Ytolclgbpjiokfaa.Rm
namespace Go.Proofs.Ytolclgbpjiokfaa.Rm
open Go.RowKit Go.Deep Stw Stp Tb Rul Ct
def acts (W:Wd) (s:Nat):List Dd:=(W.od.getD s []).flatMap (fun _=>[⟨2,s,[]⟩,⟨3,s,[]⟩])++(W.bk.getD s []).map (fun _=>⟨3,s,[]⟩)
def drn1 (W:Wd):List Dd:=(List.range W.sw.length).flatMap (acts W)
def drn (n:Int) (ls:List Lk):Nat→List Dd→List Dd
 | 0,ds=>ds
 | k+1,ds=>if drn1 (plyW n ls ds).1=[] then ds else drn n ls k (ds++drn1 (plyW n ls ds).1)
theorem order_step {n:Nat} {ls:List Lk} {t:Nat} {W:Wd} {s:Nat} {o:Wir.Od} (h:Inv n ls t W) (ht:t≤1000) (hs:s<n) (ho:W.od.getD s []=[o]):hap n ls W ⟨2,s,[]⟩=(⟨W.co,W.sw.set s (aft W.co s),W.od.set s [],W.bk.set s [o.n],W.pk,W.pn⟩,0):=by
 obtain⟨_,hb,hd,_⟩:=order_done h ht hs ho
 unfold hap
 rw[if_neg (by simp),if_pos rfl]
 unfold hapO
 rw[if_neg (by simp only;omega)]
 simp only[Int.toNat_natCast,ho,hd,hb]
 simp
theorem back_step {n:Nat} {ls:List Lk} {t:Nat} {W:Wd} {s:Nat} {k:Int} (h:Inv n ls t W) (hs:s<n) (hb:W.bk.getD s []=[k]):hap n ls W ⟨3,s,[]⟩=(⟨(goS n ⟨⟨W.co.st,W.co.now,W.co.nxt,W.co.num,W.co.wts.erase k⟩,[]⟩).c,W.sw,putO W.od (goS n ⟨⟨W.co.st,W.co.now,W.co.nxt,W.co.num,W.co.wts.erase k⟩,[]⟩).out,W.bk.set s [],W.pk,W.pn⟩,0):=by
 obtain⟨_,_,_,_,hB⟩:=back_done h hs hb
 unfold hap
 rw[if_neg (by simp),if_neg (by simp),if_pos rfl]
 unfold hapK
 rw[if_neg (by simp only;omega)]
 simp only[Int.toNat_natCast,hb,hB]
 simp
theorem Inv.one {n:Nat} {ls:List Lk} {t:Nat} {W:Wd} {s:Nat} (h:Inv n ls t W) (hs:s<n):(W.od.getD s []=[]∧W.bk.getD s []=[])∨(∃o,W.od.getD s []=[o]∧W.bk.getD s []=[])∨(∃k,W.od.getD s []=[]∧W.bk.getD s []=[k]):=by
 rcases h.dyn.core.sws s hs with⟨e1,e2,_⟩ | ⟨o,k,_,e1,e2,_⟩ | ⟨k,e1,e2,_⟩
 ·exact Or.inl ⟨e1,e2⟩
 ·exact Or.inr (Or.inl ⟨_,e1,e2⟩)
 ·exact Or.inr (Or.inr ⟨k,e1,e2⟩)
theorem acts_len {n:Nat} {ls:List Lk} {t:Nat} {W:Wd} {s:Nat} (h:Inv n ls t W) (hs:s<n):(acts W s).length≤2∧(pend (W.od.getD s []) (W.bk.getD s [])=[]↔acts W s=[]):=by
 unfold acts pend
 rcases h.one hs with⟨e1,e2⟩ | ⟨o,e1,e2⟩ | ⟨k,e1,e2⟩ <;> rw[e1,e2] <;> simp
theorem acts_run {n:Nat} {ls:List Lk} {t:Nat} {W:Wd} {s:Nat} {c:List Int} (h:Inv n ls t W) (ht:t+2≤1000) (hs:s<n) (hp:pend (W.od.getD s []) (W.bk.getD s [])≠[]):
 ∃k z W1,pend (W.od.getD s []) (W.bk.getD s [])=[k]∧runR n ls (W,c) (acts W s)=(W1,c++z)∧(∀e∈z,e=0)∧W1.co=(goS n ⟨⟨W.co.st,W.co.now,W.co.nxt,W.co.num,W.co.wts.erase k⟩,[]⟩).c∧W1.pk=W.pk∧W1.pn=W.pn∧
  (∀j,(putO (W.od.set s []) (goS n ⟨⟨W.co.st,W.co.now,W.co.nxt,W.co.num,W.co.wts.erase k⟩,[]⟩).out).getD j []=W1.od.getD j [])∧(∀j,W1.bk.getD j []=if j=s then [] else W.bk.getD j []):=by
 rcases h.one hs with⟨e1,e2⟩ | ⟨o,e1,e2⟩ | ⟨k,e1,e2⟩
 ·exact absurd (by rw[e1,e2];rfl) hp
 ·have ea:acts W s=[⟨2,s,[]⟩,⟨3,s,[]⟩]:=by unfold acts;rw[e1,e2];rfl
  have h1:=order_step (ls:=ls) h (by omega) hs e1
  have i1:Inv n ls (t+1) ⟨W.co,W.sw.set s (aft W.co s),W.od.set s [],W.bk.set s [o.n],W.pk,W.pn⟩:=by
   have:=hap_inv (d:=⟨2,s,[]⟩) h (by omega)
   rwa [h1] at this
  have h2:=back_step (k:=o.n) i1 hs (by show(W.bk.set s [o.n]).getD s []=_;rw[getD_set (by rw[h.lbk];exact hs),if_pos rfl])
  refine⟨o.n,[0,0],⟨(goS n ⟨⟨W.co.st,W.co.now,W.co.nxt,W.co.num,W.co.wts.erase o.n⟩,[]⟩).c,W.sw.set s (aft W.co s),putO (W.od.set s []) (goS n ⟨⟨W.co.st,W.co.now,W.co.nxt,W.co.num,W.co.wts.erase o.n⟩,[]⟩).out,(W.bk.set s [o.n]).set s [],W.pk,W.pn⟩,by rw[e1,e2];rfl,?_,by simp,rfl,rfl,rfl,fun j=>rfl,fun j=>?_⟩
  ·rw[ea]
   show stepR n ls (stepR n ls (W,c) ⟨2,s,[]⟩) ⟨3,s,[]⟩=_
   unfold stepR
   rw[h1]
   simp only
   rw[h2]
   simp
  ·show((W.bk.set s [o.n]).set s []).getD j []=_
   rw[List.set_set,getD_set (by rw[h.lbk];exact hs)]
 ·have ea:acts W s=[⟨3,s,[]⟩]:=by unfold acts;rw[e1,e2];rfl
  have h2:=back_step (k:=k) h hs e2
  refine⟨k,[0],⟨(goS n ⟨⟨W.co.st,W.co.now,W.co.nxt,W.co.num,W.co.wts.erase k⟩,[]⟩).c,W.sw,putO W.od (goS n ⟨⟨W.co.st,W.co.now,W.co.nxt,W.co.num,W.co.wts.erase k⟩,[]⟩).out,W.bk.set s [],W.pk,W.pn⟩,by rw[e1,e2];rfl,?_,by simp,rfl,rfl,rfl,fun j=>?_,fun j=>?_⟩
  ·rw[ea]
   show stepR n ls (W,c) ⟨3,s,[]⟩=_
   unfold stepR
   rw[h2]
  ·have:W.od.set s []=W.od:=by
    have hlt:s<W.od.length:=by rw[h.lod];exact hs
    have e:W.od[s]=[]:=by have:=e1;rwa [List.getD_eq_getElem?_getD,List.getElem?_eq_getElem hlt] at this
    rw[←e];exact List.set_getElem_self hlt
   rw[this]
  ·show(W.bk.set s []).getD j []=_
   rw[getD_set (by rw[h.lbk];exact hs)]
theorem acts_other {V W:Wd} {j:Nat} (h1:V.od.getD j []=W.od.getD j []) (h2:V.bk.getD j []=W.bk.getD j []):acts V j=acts W j:=by unfold acts;rw[h1,h2]
theorem round_run {n:Nat} {ls:List Lk}:∀(S:List Nat) {W:Wd} {t:Nat} {c:List Int},Inv n ls t W→t+2*S.length≤990→S.Nodup→(∀s∈S,s<n)→(∀s,s<n→(pend (W.od.getD s []) (W.bk.getD s [])≠[]↔s∈S))→S≠[]→
 ∃W' z,runR n ls (W,c) (S.flatMap (acts W))=(W',c++z)∧(∀e∈z,e=0)∧W'.co=(goS n ⟨⟨W.co.st,W.co.now,W.co.nxt,W.co.num,[]⟩,[]⟩).c∧W'.pk=W.pk∧W'.pn=W.pn
 | [],_,_,_,_,_,_,_,_,h0=>absurd rfl h0
 | s::S,W,t,c,h,ht,hnd,hlt,hpd,_=>by
  simp only[List.length_cons] at ht
  have hs:=hlt s (by simp)
  obtain⟨k,z,W1,p1,p2,p3,p4,p5,p6,p7,p8⟩:=acts_run (c:=c) h (by omega) hs ((hpd s hs).2 (by simp))
  have hal:=(acts_len h hs).1
  have hk:k∈W.co.wts:=(h.dyn.core.wmem k).2 ⟨s,hs,by rw[p1];simp⟩
  have i1:Inv n ls (t+(acts W s).length) W1:=by
   have:=runR_inv (ds:=acts W s) (q:=(W,c)) h (by omega)
   rwa [p2] at this
  rw[List.flatMap_cons,runR_append,p2]
  cases S with
  | nil=>
   have he:W.co.wts.erase k=[]:=by
    cases e:W.co.wts.erase k with
    | nil=>rfl
    | cons x r=>
     exfalso
     have hx:x∈W.co.wts.erase k:=by rw[e];simp
     obtain⟨hx1,hx2⟩:=h.dyn.core.wnd.mem_erase_iff.1 hx
     obtain⟨j,hj,hxj⟩:=(h.dyn.core.wmem x).1 hx2
     have:j∈[s]:=(hpd j hj).1 (fun e=>by rw[e] at hxj;cases hxj)
     rw[List.mem_singleton] at this
     subst this
     rw[p1,List.mem_singleton] at hxj
     exact hx1 hxj
   rw[he] at p4
   exact⟨W1,z,rfl,p3,p4,p5,p6⟩
  | cons s' S'=>
   have hs':=hlt s' (by simp)
   have hne:s'≠s:=fun e=>by subst e;simp at hnd
   have he:W.co.wts.erase k≠[]:=fun e=>by
    have hq:=(hpd s' hs').2 (by simp)
    obtain⟨x,hx⟩:=List.exists_mem_of_ne_nil _ hq
    have hxw:=(h.dyn.core.wmem x).2 ⟨s',hs',hx⟩
    have hxk:x≠k:=fun ek=>hne (h.dyn.core.wone s' s k hs' hs (by rw[←ek];exact hx) (by rw[p1];simp))
    have:=h.dyn.core.wnd.mem_erase_iff.2 ⟨hxk,hxw⟩
    rw[e] at this;cases this
   have eg:goS n ⟨⟨W.co.st,W.co.now,W.co.nxt,W.co.num,W.co.wts.erase k⟩,[]⟩=⟨⟨W.co.st,W.co.now,W.co.nxt,W.co.num,W.co.wts.erase k⟩,[]⟩:=by unfold goS;rw[if_pos he]
   rw[eg] at p4 p7
   have p7':∀j,W1.od.getD j []=if j=s then [] else W.od.getD j []:=fun j=>by
    rw[←p7 j];show(W.od.set s []).getD j []=_
    exact getD_set (by rw[h.lod];exact hs)
   have hoth:∀j,j≠s→W1.od.getD j []=W.od.getD j []∧W1.bk.getD j []=W.bk.getD j []:=fun j hj=>⟨by rw[p7' j,if_neg hj],by rw[p8 j,if_neg hj]⟩
   have hmap:(s'::S').flatMap (acts W)=(s'::S').flatMap (acts W1):=by
    rw[List.flatMap_def,List.flatMap_def]
    congr 1
    refine List.map_congr_left (fun j hj=>?_)
    have hjs:j≠s:=fun e=>by subst e;exact(List.nodup_cons.1 hnd).1 hj
    exact(acts_other (hoth j hjs).1 (hoth j hjs).2).symm
   rw[hmap]
   obtain⟨W',z',q1,q2,q3,q4,q5⟩:=round_run (s'::S') (W:=W1) (t:=t+(acts W s).length) (c:=c++z) i1 (by simp only[List.length_cons] at ht ⊢;omega) (List.nodup_cons.1 hnd).2 (fun j hj=>hlt j (by simp at hj ⊢;exact Or.inr hj)) (fun j hj=>by
    by_cases e:j=s
    ·subst e
     rw[p7' j,p8 j,if_pos rfl,if_pos rfl]
     exact⟨fun hq=>absurd rfl hq,fun hq=>absurd hq (List.nodup_cons.1 hnd).1⟩
    ·rw[(hoth j e).1,(hoth j e).2,hpd j hj]
     simp[e]) (by simp)
   refine⟨W',z++z',by rw[q1,List.append_assoc],fun e he=>?_,?_,q4.trans p5,q5.trans p6⟩
   ·rcases List.mem_append.1 he with he | he
    ·exact p3 e he
    ·exact q2 e he
   ·rw[q3,p4]
theorem flatMap_filter {α β:Type} (f:α→List β) (p:α→Bool):∀(l:List α),(∀x∈l,p x=false→f x=[])→l.flatMap f=(l.filter p).flatMap f
 | [],_=>rfl
 | x::r,h=>by
  have ih:=flatMap_filter f p r (fun y hy=>h y (by simp[hy]))
  cases hp:p x with
  | true=>rw[List.filter_cons_of_pos hp,List.flatMap_cons,List.flatMap_cons,ih]
  | false=>rw[List.filter_cons_of_neg (by simp[hp]),List.flatMap_cons,h x (by simp) hp,List.nil_append,ih]
theorem len_flat {f:Nat→List Dd}:∀{l:List Nat},(∀x∈l,(f x).length≤2)→(l.flatMap f).length≤2*l.length
 | [],_=>by simp
 | x::r,h=>by
  have:=len_flat (f:=f) (l:=r) (fun y hy=>h y (by simp[hy]))
  have:=h x (by simp)
  rw[List.flatMap_cons,List.length_append,List.length_cons];omega
theorem drn1_len {n:Nat} {ls:List Lk} {t:Nat} {W:Wd} (h:Inv n ls t W):(drn1 W).length≤2*n:=by
 unfold drn1
 have:=len_flat (f:=acts W) (l:=List.range W.sw.length) (fun s hs=>(acts_len h (by rw[List.mem_range,h.lsw] at hs;exact hs)).1)
 rw[List.length_range,h.lsw] at this
 rw[h.lsw]
 exact this
theorem drn1_nil {n:Nat} {ls:List Lk} {t:Nat} {W:Wd} (h:Inv n ls t W):drn1 W=[]↔W.co.wts=[]:=by
 unfold drn1
 rw[List.flatMap_eq_nil_iff]
 constructor
 ·intro hq
  cases e:W.co.wts with
  | nil=>rfl
  | cons k r=>
   exfalso
   obtain⟨s,hs,hk⟩:=(h.dyn.core.wmem k).1 (by rw[e];simp)
   have:=(acts_len h hs).2.2 (hq s (by rw[List.mem_range,h.lsw];exact hs))
   rw[this] at hk;cases hk
 ·intro hq s hs
  rw[List.mem_range,h.lsw] at hs
  have:=(h.dyn.core.quiet hq).1 s hs
  unfold acts
  rw[this.1,this.2];rfl
theorem drn1_run {n:Nat} {ls:List Lk} {t:Nat} {W:Wd} {c:List Int} (h:Inv n ls t W) (ht:t≤900) (hne:W.co.wts≠[]):
 ∃W' z,runR n ls (W,c) (drn1 W)=(W',c++z)∧(∀e∈z,e=0)∧W'.co=(goS n ⟨⟨W.co.st,W.co.now,W.co.nxt,W.co.num,[]⟩,[]⟩).c∧W'.pk=W.pk∧W'.pn=W.pn:=by
 have hn:=h.n8
 have e:drn1 W=((List.range n).filter (fun s=>!(acts W s).isEmpty)).flatMap (acts W):=by
  unfold drn1
  rw[h.lsw]
  exact flatMap_filter _ _ _ (fun s _ hp=>by simpa using hp)
 have hmem:∀s,s∈(List.range n).filter (fun s=>!(acts W s).isEmpty)↔s<n∧acts W s≠[]:=fun s=>by simp[List.mem_filter]
 rw[e]
 refine round_run _ h ?_ (List.Pairwise.filter _ List.nodup_range) (fun s hs=>((hmem s).1 hs).1) (fun s hs=>?_) (fun e0=>?_)
 ·have:=List.length_filter_le (fun s=>!(acts W s).isEmpty) (List.range n)
  rw[List.length_range] at this
  omega
 ·rw[hmem]
  exact⟨fun hq=>⟨hs,fun e=>hq ((acts_len h hs).2.2 e)⟩,fun hq e=>hq.2 ((acts_len h hs).2.1 e)⟩
 ·rw[e0] at e
  exact hne ((drn1_nil h).1 e)
def rk (st:Int):Nat:=if st=1 then 2 else if st=2∨st=4 then 1 else 0
def Settled (W W':Wd):Prop:=
 W'.co.wts=[]∧W'.pk=W.pk∧W'.pn=W.pn∧((W.co.st=0→W'.co.st=0∧W'.co.now=W.co.now)∧(W.co.st=4→W'.co.st=0∧W'.co.now=W.co.nxt)∧(W.co.st=1∨W.co.st=2∨W.co.st=3→W'.co.st=3∧W'.co.now=W.co.now∧W'.co.nxt=W.co.nxt))
theorem Inv.sts {n:Nat} {ls:List Lk} {t:Nat} {W:Wd} (h:Inv n ls t W):W.co.st=0∨W.co.st=1∨W.co.st=2∨W.co.st=3∨W.co.st=4:=by
 rcases h.dyn.stg with⟨e,_⟩ | ⟨e,_⟩ <;> omega
theorem drn_long {n:Int} {ls:List Lk} {ds:List Dd} (h:200<ds.length):∀k,drn n ls k ds=ds
 | 0=>rfl
 | k+1=>by
  have e:(plyW n ls ds).1=wd0:=by
   unfold plyW plyF
   by_cases h1:(wrong n ls).1≠0
   ·rw[if_pos h1,if_pos h1]
   ·rw[if_neg h1,if_pos h,if_pos (by simp)]
  rw[drn,e,if_pos (show drn1 wd0=[] from rfl)]
theorem run_append {n:Nat} {ls:List Lk} {a b:List Dd}:run n ls (a++b)=runR n ls (run n ls a) b:=by unfold run;exact runR_append
theorem drn_ok {n:Nat} {ls:List Lk} (hw:(wrong n ls).1=0):∀(k:Nat) (ds:List Dd),ds.length≤200→rk (run n ls ds).1.co.st≤k→
 ∃z,drn n ls k ds=ds++z∧z.length≤2*n*rk (run n ls ds).1.co.st∧((ds++z).length≤200→Settled (run n ls ds).1 (run n ls (ds++z)).1∧∃c,(run n ls (ds++z)).2=(run n ls ds).2++c∧∀e∈c,e=0):=by
 intro k
 induction k with
 | zero=>
  intro ds hl hk
  have hI:=run_inv (n:=n) (ls:=ls) hw (show ds.length≤1000 by omega)
  refine⟨[],by simp[drn],by simp,fun _=>?_⟩
  rw[List.append_nil]
  have hr:rk (run n ls ds).1.co.st=0:=by omega
  have hst:(run n ls ds).1.co.st=0∨(run n ls ds).1.co.st=3:=by
   unfold rk at hr
   have:=hI.sts
   split at hr
   ·cases hr
   ·split at hr
    ·cases hr
    ·omega
  exact⟨⟨hI.dyn.wst.2 hst,rfl,rfl,fun e=>⟨e,rfl⟩,fun e=>by omega,fun e=>⟨by omega,rfl,rfl⟩⟩,[],by simp,by simp⟩
 | succ k ih=>
  intro ds hl hk
  have hI:=run_inv (n:=n) (ls:=ls) hw (show ds.length≤1000 by omega)
  have hpl:=(plyF_of (n:=(n:Int)) (ds:=ds) hw hl).2
  have hpl':(plyW n ls ds).1=(run n ls ds).1:=by rw[hpl];rfl
  rw[drn,hpl']
  by_cases h0:drn1 (run n ls ds).1=[]
  ·rw[if_pos h0]
   have hwt:=(drn1_nil hI).1 h0
   have hst:=hI.dyn.wst.1 hwt
   refine⟨[],by simp,by simp,fun _=>?_⟩
   rw[List.append_nil]
   exact⟨⟨hwt,rfl,rfl,fun e=>⟨e,rfl⟩,fun e=>by omega,fun e=>⟨by omega,rfl,rfl⟩⟩,[],by simp,by simp⟩
  ·rw[if_neg h0]
   have hne:(run n ls ds).1.co.wts≠[]:=fun e=>h0 ((drn1_nil hI).2 e)
   have h1l:=drn1_len hI
   have hst:(run n ls ds).1.co.st=1∨(run n ls ds).1.co.st=2∨(run n ls ds).1.co.st=4:=by
    have:=hI.sts
    have h2:¬((run n ls ds).1.co.st=0∨(run n ls ds).1.co.st=3):=fun e=>hne (hI.dyn.wst.2 e)
    omega
   obtain⟨W',z,q1,q2,q3,q4,q5⟩:=drn1_run (c:=(run n ls ds).2) hI (by omega) hne
   have e1:run n ls (ds++drn1 (run n ls ds).1)=(W',(run n ls ds).2++z):=by rw[run_append];exact q1
   have hI':Inv n ls (ds++drn1 (run n ls ds).1).length (run n ls (ds++drn1 (run n ls ds).1)).1:=run_inv hw (by have:=hI.n8;rw[List.length_append];omega)
   have hW:(run n ls (ds++drn1 (run n ls ds).1)).1=W':=by rw[e1]
   rw[hW] at hI'
   have hrk:rk W'.co.st+1≤rk (run n ls ds).1.co.st∧((run n ls ds).1.co.st=1∨(run n ls ds).1.co.st=2→(W'.co.st=2∨W'.co.st=3)∧W'.co.now=(run n ls ds).1.co.now∧W'.co.nxt=(run n ls ds).1.co.nxt)∧((run n ls ds).1.co.st=4→W'.co.st=0∧W'.co.now=(run n ls ds).1.co.nxt):=by
    rcases hst with e | e | e
    ·have hA:=goS_A (n:=n) (g:=⟨⟨(run n ls ds).1.co.st,(run n ls ds).1.co.now,(run n ls ds).1.co.nxt,(run n ls ds).1.co.num,[]⟩,[]⟩) (Or.inl e)
     rw[←q3] at hA
     have h12:W'.co.st=2∨W'.co.st=3:=by
      rw[q3,e]
      unfold goS
      rw[if_neg (by simp),if_pos rfl]
      unfold calmS
      split
      ·exact Or.inl rfl
      ·exact Or.inr rfl
     refine⟨?_,fun _=>⟨h12,hA.1,hA.2.1⟩,fun e4=>by omega⟩
     rw[e]
     rcases h12 with e2 | e2 <;> rw[e2] <;> decide
    ·have h3:W'.co=⟨3,(run n ls ds).1.co.now,(run n ls ds).1.co.nxt,(run n ls ds).1.co.num,[]⟩:=by
      rw[q3,e];rfl
     refine⟨by rw[e,h3];show rk 3+1≤rk 2;decide,fun _=>⟨Or.inr (by rw[h3]),by rw[h3],by rw[h3]⟩,fun e4=>by omega⟩
    ·have h3:W'.co=⟨0,(run n ls ds).1.co.nxt,pl0,(run n ls ds).1.co.num,[]⟩:=by
      rw[q3,e];rfl
     exact⟨by rw[e,h3];show rk 0+1≤rk 4;decide,fun e4=>by omega,fun _=>⟨by rw[h3],by rw[h3]⟩⟩
   by_cases hlong:(ds++drn1 (run n ls ds).1).length≤200
   ·obtain⟨z2,r1,r2,r3⟩:=ih (ds++drn1 (run n ls ds).1) hlong (by rw[hW];omega)
    rw[hW] at r2 r3
    refine⟨drn1 (run n ls ds).1++z2,by rw[r1,List.append_assoc],?_,fun hl2=>?_⟩
    ·rw[List.length_append]
     have:2*n*(rk W'.co.st+1)≤2*n*rk (run n ls ds).1.co.st:=Nat.mul_le_mul_left _ hrk.1
     rw[Nat.mul_add] at this
     omega
    ·rw[←List.append_assoc] at hl2 ⊢
     obtain⟨⟨s1,s2,s3,s4,s5,s6⟩,c,c1,c2⟩:=r3 hl2
     refine⟨⟨s1,s2.trans q4,s3.trans q5,fun e=>by omega,fun e=>?_,fun e=>?_⟩,z++c,by rw[c1,e1,List.append_assoc],fun x hx=>?_⟩
     ·obtain⟨a1,a2⟩:=hrk.2.2 e
      obtain⟨b1,b2⟩:=s4 a1
      exact⟨b1,b2.trans a2⟩
     ·obtain⟨a1,a2,a3⟩:=hrk.2.1 (by omega)
      obtain⟨b1,b2,b3⟩:=s6 (by omega)
      exact⟨b1,b2.trans a2,b3.trans a3⟩
     ·rcases List.mem_append.1 hx with hx | hx
      ·exact q2 x hx
      ·exact c2 x hx
   ·refine⟨drn1 (run n ls ds).1,drn_long (by omega) k,?_,fun hl2=>absurd hl2 hlong⟩
    have:2*n*1≤2*n*rk (run n ls ds).1.co.st:=Nat.mul_le_mul_left _ (by have:=hrk.1;omega)
    omega
end Go.Proofs.Ytolclgbpjiokfaa.Rm
