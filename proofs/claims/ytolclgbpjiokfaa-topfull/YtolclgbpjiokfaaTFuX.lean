/- TopFull: in a line of two switches so many changes of so many flows may follow each other as tables hold both versions of; for every input. -/
import Derived.Test.YtolclgbpjiokfaaU38
import Derived.Test.YtolclgbpjiokfaaU45
import Derived.Test.YtolclgbpjiokfaaU39
import Derived.Test.YtolclgbpjiokfaaU36
import Derived.Test.YtolclgbpjiokfaaU24
namespace Go.Proofs.Ytolclgbpjiokfaa.Rm
open Go.RowKit Go.Deep Stw Stp Tb Rul Ct
theorem hap_drop {n:Nat} {ls:List Lk} {W:Wd}:hap n ls W ⟨6,0,[]⟩=hapD n ls W:=by
 unfold hap
 simp only[show((6:Int)=1)=False by simp,show((6:Int)=2)=False by simp,show((6:Int)=3)=False by simp,show((6:Int)=4)=False by simp,show((6:Int)=5)=False by simp,if_false,if_true]
theorem run_snoc {n:Nat} {ls:List Lk} {ds:List Dd} {d:Dd}:run n ls (ds++[d])=((hap n ls (run n ls ds).1 d).1,(run n ls ds).2++[(hap n ls (run n ls ds).1 d).2]):=by
 rw[run_append];rfl
theorem rk_le (st:Int):rk st≤2:=by unfold rk;split;· omega
                                   split <;> omega
theorem drop_rest {n:Nat} {ls:List Lk} {t:Nat} {W:Wd} (h:Inv n ls t W) (hs:W.co.st=0∨W.co.st=3):((hapD n ls W).1.co.st=0∨(hapD n ls W).1.co.st=4)∧(hapD n ls W).1.pn=W.pn∧(hapD n ls W).1.pk=W.pk:=by
 rcases hs with e | e
 ·have h1:(dropS W.co n ls).2≠0:=by
   unfold dropS
   rw[if_neg (by simpa using h.wr),if_pos (by omega)]
   simp
  unfold hapD
  rw[if_pos h1]
  exact⟨Or.inl e,rfl,rfl⟩
 ·have h1:=drop_calm (n:=n) (ls:=ls) h.wr e
  have h2:=drop_B (n:=n) (ls:=ls) h.wr e
  unfold hapD
  rw[if_neg (by rw[h1];simp)]
  refine⟨?_,rfl,rfl⟩
  rcases h2 with⟨e1,_⟩ | ⟨e1,_⟩
  ·exact Or.inr e1
  ·exact Or.inl e1
theorem settle2 {n:Nat} {ls:List Lk} (hw:(wrong n ls).1=0) {ds:List Dd} (hl:ds.length≤200):
 ∃z1 z2,drn n ls 10 ds=ds++z1∧drn n ls 10 (ds++z1++[(⟨6,0,[]⟩:Dd)])=ds++z1++[(⟨6,0,[]⟩:Dd)]++z2∧z1.length≤32∧z2.length≤16∧
  ((ds++z1).length≤200→Settled (run n ls ds).1 (run n ls (ds++z1)).1∧∃c,(run n ls (ds++z1)).2=(run n ls ds).2++c∧∀e∈c,e=0)∧
  ((ds++z1++[(⟨6,0,[]⟩:Dd)]++z2).length≤200→(run n ls (ds++z1++[(⟨6,0,[]⟩:Dd)]++z2)).1.co.st=0∧(run n ls (ds++z1++[(⟨6,0,[]⟩:Dd)]++z2)).1.co.wts=[]∧(run n ls (ds++z1++[(⟨6,0,[]⟩:Dd)]++z2)).1.pn=(run n ls ds).1.pn∧(run n ls (ds++z1++[(⟨6,0,[]⟩:Dd)]++z2)).1.pk=(run n ls ds).1.pk):=by
 have hI:=run_inv (n:=n) (ls:=ls) hw (show ds.length≤1000 by omega)
 have hn:=hI.n8.2
 obtain⟨z1,a1,a2,a3⟩:=drn_ok (n:=n) (ls:=ls) hw 10 ds hl (by have:=rk_le (run n ls ds).1.co.st;omega)
 have b1:z1.length≤32:=by
  have h1:2*n*rk (run n ls ds).1.co.st≤16*2:=Nat.mul_le_mul (by omega) (rk_le _)
  omega
 by_cases hlong:200<(ds++z1++[(⟨6,0,[]⟩:Dd)]).length
 ·refine⟨z1,[],a1,?_,b1,by simp,a3,fun h=>?_⟩
  ·rw[drn_long hlong,List.append_nil]
  ·rw[List.append_nil] at h;omega
 ·have hm1:(ds++z1).length≤200:=by simp only[List.length_append,List.length_cons,List.length_nil] at hlong ⊢;omega
  obtain⟨hset,hc⟩:=a3 hm1
  have hI1:=run_inv (n:=n) (ls:=ls) hw (show(ds++z1).length≤1000 by omega)
  have hs1:(run n ls (ds++z1)).1.co.st=0∨(run n ls (ds++z1)).1.co.st=3:=by
   obtain⟨_,_,_,s4,s5,s6⟩:=hset
   rcases hI.sts with e | e | e | e | e
   ·exact Or.inl (s4 e).1
   ·exact Or.inr (s6 (Or.inl e)).1
   ·exact Or.inr (s6 (Or.inr (Or.inl e))).1
   ·exact Or.inr (s6 (Or.inr (Or.inr e))).1
   ·exact Or.inl (s5 e).1
  obtain⟨d1,d2,d3⟩:=drop_rest hI1 hs1
  have er:(run n ls (ds++z1++[(⟨6,0,[]⟩:Dd)])).1=(hapD n ls (run n ls (ds++z1)).1).1:=by rw[run_snoc,hap_drop]
  have hrk:rk (run n ls (ds++z1++[(⟨6,0,[]⟩:Dd)])).1.co.st≤1:=by
   rw[er]
   rcases d1 with e | e <;> rw[e] <;> decide
  obtain⟨z2,c1,c2,c3⟩:=drn_ok (n:=n) (ls:=ls) hw 10 (ds++z1++[(⟨6,0,[]⟩:Dd)]) (by omega) (by omega)
  refine⟨z1,z2,a1,c1,b1,?_,a3,fun h=>?_⟩
  ·have h1:2*n*rk (run n ls (ds++z1++[(⟨6,0,[]⟩:Dd)])).1.co.st≤16*1:=Nat.mul_le_mul (by omega) hrk
   omega
  ·obtain⟨⟨s1,s2,s3,s4,s5,s6⟩,_⟩:=c3 h
   rw[er] at s2 s3 s4 s5
   refine⟨?_,s1,s3.trans (d2.trans hset.2.2.1),s2.trans (d3.trans hset.2.1)⟩
   rcases d1 with e | e
   ·exact(s4 e).1
   ·exact(s5 e).1
theorem Inv.rest {n:Nat} {ls:List Lk} {t:Nat} {W:Wd} (h:Inv n ls t W) (hs:W.co.st=0) (hw:W.co.wts=[]):W.co.now=lp W.pn W.pn.length∧W.co.nxt=pl0∧W.co.now.v=W.pn.length∧∀s,s<n→W.sw.getD s Agt.sw0=⟨rls W.co.now s,stOf W.co.now s⟩:=by
 rcases h.dyn.stg with⟨_,h2,h3⟩ | ⟨h1,_⟩
 ·refine⟨h3,h2,by rw[h3];exact(h.pls.lp (Nat.le_refl _)).1,fun s hsn=>?_⟩
  rw[(h.dyn.core.quiet hw).2 s hsn]
  unfold aft
  rw[if_pos hs]
 ·omega
theorem ver_at {p:Pl} {s i:Nat} (hi:i<p.fs.length):Agt.ver (stOf p s) i=if(p.fs.getD i Fw.f0).fr=(s:Int) then p.v else 0:=by
 unfold stOf
 by_cases h:(p.fs.getD i Fw.f0).fr=(s:Int)
 ·rw[if_pos h]
  exact ver_stamps_of (mem_beg.2 ⟨i,hi,rfl,h⟩)
 ·rw[if_neg h]
  cases e:decide (Agt.ver (Agt.stamps p.v (beg s p.fs p.fs.length)) i=0) with
  | true=>exact of_decide_eq_true e
  | false=>
   exfalso
   obtain⟨k,_,k2,k3⟩:=mem_beg.1 (ver_stamps (of_decide_eq_false e)).1
   have:k=i:=by omega
   subst this
   exact h k3
end Go.Proofs.Ytolclgbpjiokfaa.Rm
namespace Go.Proofs.Ytolclgbpjiokfaa.Rm
open Go.RowKit Go.Deep Stw Stp Tb Rul Ct
theorem fnd_right {n:Int} {ls:List Lk} {f:Stf.Fl} (h:(fnd n ls f).1=0):(wrong n ls).1=0∧Stf.wflow f n=0:=by
 unfold fnd at h
 by_cases h1:(wrong n ls).1=0
 ·rw[if_neg (by simpa using h1)] at h
  by_cases h2:Stf.wflow f n=0
  ·exact⟨h1,h2⟩
  ·rw[if_pos h2] at h;exact absurd h h2
 ·rw[if_pos h1] at h;exact absurd h h1
theorem plan_one {n:Int} {ls:List Lk} {f:Stf.Fl} {v:Int} (h:(fnd n ls f).1=0) (h1:1≤v) (h2:v≤1000):(plnF n v ls [f]).1=0:=by
 obtain⟨a,b⟩:=fnd_right h
 have hb:(Stf.wflows [f] n).1=0:=by
  unfold Stf.wflows
  rw[if_neg (by simp),Stf.firstBad_none (fun k hk=>by
   have hk0:k=0:=by simp at hk;omega
   subst hk0;exact b)]
 unfold plnF
 rw[if_neg (by simpa using a),if_neg (by omega),if_neg (by simpa using hb),Stf.firstBad_none (fun k hk=>by
  have hk0:k=0:=by simp at hk;omega
  subst hk0;exact h)]
theorem plnP_one {n:Int} {ls:List Lk} {f:Stf.Fl}:plnP n ls [f]=[(fnd n ls f).2]:=rfl
theorem same_len {l:List Ru} (h:Ris l) (hs:∀a∈l,∀b∈l,a=b):l.length≤1:=by
 match l,h with
 | [],_=>simp
 | [_],_=>simp
 | a::b::r,h=>
  exfalso
  have e:=hs a (by simp) b (by simp)
  have hl:=(List.pairwise_cons.1 h).1 b (by simp)
  rw[e] at hl
  have:=lt_asymm hl
  rw[hl] at this
  cases this
theorem rls_one {n:Nat} {p:Pl} {q:List Int} {s:Nat} (hn:n≤8) (h:Gd n p) (hp:p.ps=[q]):(rls p s).length≤1:=by
 refine same_len (rls_ris hn (Or.inr h)) (fun a ha b hb=>?_)
 obtain⟨i,i1,k,k1,k2,rfl⟩:=mem_rof.1 ha
 obtain⟨j,j1,m,m1,m2,rfl⟩:=mem_rof.1 hb
 rw[hp] at i1 j1 k1 k2 m1 m2 ⊢
 simp only[List.length_cons,List.length_nil] at i1 j1
 have hi:i=0:=by omega
 have hj:j=0:=by omega
 subst hi hj
 simp only[List.getD_cons_zero] at k1 k2 m1 m2 ⊢
 have hnd:=(h.gp 0 (by rw[hp];simp)).2.1
 rw[hp] at hnd
 have e:k=m:=nd_get hnd (by simpa using(by omega:k<q.length)) (by simpa using(by omega:m<q.length)) (by simp only[List.getD_cons_zero];omega)
 rw[e]
theorem hap_pn {n:Nat} {ls:List Lk} {W:Wd} {d:Dd}:(hap n ls W d).1.pn=W.pn∨(d.k=1∧(hap n ls W d).2=0∧(hap n ls W d).1.pn=W.pn++[⟨nx W.co.now.v,d.fs,plnP n ls d.fs⟩]):=by
 unfold hap
 split
 ·rename_i h1
  unfold hapA
  split
  ·exact Or.inl rfl
  ·rename_i h0
   have h0':(askS W.co n ls d.fs).2=0:=by simpa using h0
   obtain⟨_,hA,_⟩:=(Ct.ask_cases h0').A
   exact Or.inr ⟨h1,rfl,by rw[hA]⟩
 ·left
  split
  ·unfold hapO
   split
   ·rfl
   ·split
    ·rfl
    ·split <;> rfl
  ·split
   ·unfold hapK
    split
    ·rfl
    ·split
     ·rfl
     ·split <;> rfl
   ·split
    ·unfold hapB
     split
     ·rfl
     ·split <;> rfl
    ·split
     ·unfold hapM
      split
      ·rfl
      ·split <;> rfl
     ·split
      ·unfold hapD
       split <;> rfl
      ·rfl
theorem runR_fs {n:Nat} {ls:List Lk} {fs0:List Stf.Fl}:∀{ds:List Dd} {q:Wd×List Int},(∀d∈ds,d.k=1→d.fs=fs0)→(∀P∈q.1.pn,P.fs=fs0)→∀P∈(runR n ls q ds).1.pn,P.fs=fs0
 | [],q,_,h=>h
 | d::r,q,hd,h=>by
  rw[runR_cons]
  refine runR_fs (fun e he=>hd e (by simp[he])) (fun P hP=>?_)
  have hP':P∈(hap n ls q.1 d).1.pn:=hP
  rcases hap_pn (n:=n) (ls:=ls) (W:=q.1) (d:=d) with e | ⟨e1,_,e2⟩
  ·rw[e] at hP';exact h P hP'
  ·rw[e2] at hP'
   rcases List.mem_append.1 hP' with hP' | hP'
   ·exact h P hP'
   ·rw[List.mem_singleton] at hP';rw[hP'];exact hd d (by simp) e1
theorem run_fs {n:Nat} {ls:List Lk} {fs0:List Stf.Fl} {ds:List Dd} (h:∀d∈ds,d.k=1→d.fs=fs0):∀P∈(run n ls ds).1.pn,P.fs=fs0:=runR_fs h (fun P hP=>by simp[wdN] at hP)
theorem Inv.one_path {n:Nat} {ls:List Lk} {t:Nat} {W:Wd} {f:Stf.Fl} (h:Inv n ls t W) (hall:∀P∈W.pn,P.fs=[f]) {m:Nat} (hm:m<W.pn.length):(W.pn.getD m pl0).ps=[(fnd n ls f).2]∧(W.pn.getD m pl0).fs=[f]:=by
 have h1:=hall (W.pn.getD m pl0) (by rw[List.getD_eq_getElem?_getD,List.getElem?_eq_getElem hm];exact List.getElem_mem _)
 obtain⟨fs,e,_⟩:=h.pls m hm
 rw[e] at h1 ⊢
 simp only at h1 ⊢
 rw[h1]
 exact⟨plnP_one,rfl⟩
theorem ask_ok {n:Nat} {ls:List Lk} {t:Nat} {W:Wd} {f:Stf.Fl} (h:Inv n ls t W) (ht:t≤900) (hst:W.co.st=0) (hf:(fnd n ls f).1=0) (hall:∀P∈W.pn,P.fs=[f]):(askS W.co n ls [f]).2=0:=by
 have hn:=h.n8.2
 have hnow:W.co.now=lp W.pn W.pn.length:=by
  rcases h.dyn.stg with⟨_,_,h3⟩ | ⟨h1,_⟩
  ·exact h3
  ·omega
 have hv:=(h.pls.lp (Nat.le_refl W.pn.length)).1
 have hpl:=h.pl
 have hnx:nx W.co.now.v=(W.pn.length:Int)+1:=by unfold nx;rw[hnow,hv,IntKind.wrap_i64];omega
 have hp:(plnF n (nx W.co.now.v) ls [f]).1=0:=plan_one hf (by omega) (by omega)
 have hg:Pln n ls (nx W.co.now.v) ⟨nx W.co.now.v,[f],plnP n ls [f]⟩:=⟨[f],rfl,hp⟩
 have hfl:full n W.co.now ⟨nx W.co.now.v,[f],plnP n ls [f]⟩=false:=by
  refine full_false (fun j _=>?_)
  have h1:=rls_one (s:=j) hn hg.gd plnP_one
  have h2:(rls W.co.now j).length≤1:=by
   rw[hnow]
   cases e:W.pn.length with
   | zero=>simp[lp,rls_pl0]
   | succ m=>
    have hm:m<W.pn.length:=by omega
    exact rls_one (s:=j) hn (h.pls m hm).gd (h.one_path hall hm).1
  omega
 unfold askS
 rw[if_neg (by omega),if_neg (by simpa using hp),if_neg (by rw[Int.toNat_natCast,hfl];simp)]
theorem hap_ask {n:Nat} {ls:List Lk} {W:Wd} {fs:List Stf.Fl}:hap n ls W ⟨1,0,fs⟩=hapA n ls W fs:=by
 unfold hap
 rw[if_pos rfl]
theorem drn1_kind {W:Wd} {d:Dd} (h:d∈drn1 W):d.k≠1:=by
 obtain⟨s,_,h2⟩:=List.mem_flatMap.1 h
 unfold acts at h2
 rcases List.mem_append.1 h2 with h | h
 ·obtain⟨_,_,h2⟩:=List.mem_flatMap.1 h
  simp only[List.mem_cons,List.not_mem_nil,or_false] at h2
  rcases h2 with rfl | rfl <;> simp
 ·obtain⟨_,_,rfl⟩:=List.mem_map.1 h;simp
theorem drn_kind {N:Int} {ls:List Lk} {fs0:List Stf.Fl}:∀(k:Nat) {es:List Dd},(∀d∈es,d.k=1→d.fs=fs0)→∀d∈drn N ls k es,d.k=1→d.fs=fs0
 | 0,_,h=>h
 | k+1,es,h=>by
  rw[drn]
  split
  ·exact h
  ·refine drn_kind k (fun d hd=>?_)
   rcases List.mem_append.1 hd with h1 | h1
   ·exact h d h1
   ·exact fun e=>absurd e (drn1_kind h1)
theorem kind_snoc {fs0:List Stf.Fl} {es:List Dd} {d:Dd} (h:∀d∈es,d.k=1→d.fs=fs0) (hd:d.k=1→d.fs=fs0):∀e∈es++[d],e.k=1→e.fs=fs0:=fun e he=>by
 rcases List.mem_append.1 he with h1 | h1
 ·exact h e h1
 ·rw[List.mem_singleton] at h1;rw[h1];exact hd
def mny (n:Int) (ls:List Lk) (f:Stf.Fl):Nat→List Dd
 | 0=>[]
 | j+1=>drn n ls 10 (drn n ls 10 (mny n ls f j++[⟨1,0,[f]⟩])++[⟨6,0,[]⟩])
theorem mny_kind {n:Int} {ls:List Lk} {f:Stf.Fl}:∀j,∀d∈mny n ls f j,d.k=1→d.fs=[f]
 | 0=>fun d hd=>by simp[mny] at hd
 | j+1=>drn_kind 10 (kind_snoc (drn_kind 10 (kind_snoc (mny_kind j) (fun _=>rfl))) (fun h=>by cases h))
theorem mny_ok {n:Nat} {ls:List Lk} {f:Stf.Fl} (hf:(fnd n ls f).1=0):∀j,j≤4→(mny n ls f j).length≤50*j∧(run n ls (mny n ls f j)).1.co.st=0∧(run n ls (mny n ls f j)).1.co.wts=[]∧(run n ls (mny n ls f j)).1.pn.length=j
 | 0,_=>⟨by simp[mny],rfl,rfl,rfl⟩
 | j+1,hj=>by
  obtain⟨h1,h2,h3,h4⟩:=mny_ok hf j (by omega)
  have hw:=(fnd_right hf).1
  have hI:=run_inv (n:=n) (ls:=ls) hw (show(mny n ls f j).length≤1000 by omega)
  have hl:(mny n ls f j++[(⟨1,0,[f]⟩:Dd)]).length≤50*j+1:=by simp;omega
  obtain⟨z1,z2,a1,a2,a3,a4,_,a6⟩:=settle2 (n:=n) (ls:=ls) hw (ds:=mny n ls f j++[⟨1,0,[f]⟩]) (by omega)
  have e:mny n ls f (j+1)=mny n ls f j++[⟨1,0,[f]⟩]++z1++[⟨6,0,[]⟩]++z2:=by rw[mny,a1,a2]
  have hlen:(mny n ls f (j+1)).length≤50*(j+1):=by
   rw[e]
   simp only[List.length_append,List.length_cons,List.length_nil] at hl ⊢
   omega
  obtain⟨b1,b2,b3,_⟩:=a6 (by rw[←e];omega)
  rw[←e] at b1 b2 b3
  have hask:=ask_ok hI (by omega) h2 hf (run_fs (mny_kind j))
  have hpn:(run n ls (mny n ls f j++[⟨1,0,[f]⟩])).1.pn.length=j+1:=by
   rw[run_snoc,hap_ask]
   unfold hapA
   rw[if_neg (by simpa using hask)]
   simp[h4]
  exact⟨hlen,b1,b2,by rw[b3,hpn]⟩
theorem busy {n:Nat} {ls:List Lk} {f:Stf.Fl} (hf:(fnd n ls f).1=0) {k:Nat} (hk:k≤(mny n ls f 1).length):
 ((run n ls ((mny n ls f 1).take k++[⟨1,0,[f]⟩])).2.getD k 0=0∧(run n ls ((mny n ls f 1).take k)).1.co.st=0)∨((run n ls ((mny n ls f 1).take k++[⟨1,0,[f]⟩])).2.getD k 0=11∧(run n ls ((mny n ls f 1).take k)).1.co.st≠0):=by
 have h1:=(mny_ok hf 1 (by omega)).1
 have hl:((mny n ls f 1).take k).length=k:=by rw[List.length_take];omega
 have hI:=run_inv (n:=n) (ls:=ls) (fnd_right hf).1 (show((mny n ls f 1).take k).length≤1000 by omega)
 have hc:(run n ls ((mny n ls f 1).take k)).2.length=k:=by rw[run_len];exact hl
 have e:(run n ls ((mny n ls f 1).take k++[⟨1,0,[f]⟩])).2.getD k 0=(hapA n ls (run n ls ((mny n ls f 1).take k)).1 [f]).2:=by
  rw[run_snoc,hap_ask]
  simp only
  rw[List.getD_eq_getElem?_getD,List.getElem?_append_right (by omega),hc]
  simp
 rw[e]
 by_cases hst:(run n ls ((mny n ls f 1).take k)).1.co.st=0
 ·left
  have hask:=ask_ok hI (by omega) hst hf (run_fs (fun d hd=>mny_kind 1 d (List.mem_of_mem_take hd)))
  unfold hapA
  rw[if_neg (by simpa using hask)]
  exact⟨rfl,hst⟩
 ·right
  have hask:(askS (run n ls ((mny n ls f 1).take k)).1.co n ls [f]).2=11:=by unfold askS;rw[if_pos hst]
  unfold hapA
  rw[if_pos (by rw[hask];decide)]
  exact⟨hask,hst⟩
end Go.Proofs.Ytolclgbpjiokfaa.Rm
namespace Go.Proofs.Ytolclgbpjiokfaa.Rm
open Go.RowKit Go.Deep Stw Stp Tb Rul Ct
set_option maxRecDepth 100000 in
set_option maxHeartbeats 4000000 in
theorem t_drain_anyN (N:Int) (ao:Option Addr) (len cap:Nat) (ls:List Lk) (v0:Value) (ds:List Dd) (z w:World) (hlen:ls.length=len) (hl:∀V,w.grownBy V v0.ownBlock→NetAt V ao ls) (hx:len≤9223372036854775807) (hrow:DO z w v0 ds) (hE:Ext z w) (hS:DsSm ds) (hdl:ds.length≤1000):
 Calls Try.prog 30 #[.agg #[.int .i64 N,.slice ao len cap],v0] w fun e w'=>∃v',e=.returned v'∧Hid (RS z w v0.ownBlock w' v' (drn N ls 10 ds)):=by
 obtain⟨g,hg⟩:∃g,g=v0.ownBlock:=⟨_,rfl⟩
 have HG:Hid (∀k,g=some k→z.heap.size≤k∧k<w.heap.size):=fun k hk=>hrow.lt k (by rw[←hg];exact hk)
 obtain⟨lo0,lc0,hv0,_⟩:=hrow.form
 obtain⟨w1,hw1⟩:∃w1,w1=w.alloc (.cells #[.int .i64 N,.slice ao len cap] 24):=⟨_,rfl⟩
 have E1:Ext w w1:=by rw[hw1];exact(Ext.refl w).alloc _
 have hz1:w1.heap.size=w.heap.size+1:=by rw[hw1];simp
 have HST:Hid (RS z w1 g w1 v0 ds):=⟨hrow.ext E1,hE.trans E1,Gb.refl _ _,fun k hk=>Or.inl (by rw[hg];exact hk)⟩
 have HT:Hid (∀V,w1.grownBy V g→V.cell? ⟨w.heap.size,0,none⟩=some (.int .i64 N)∧V.cell? ⟨w.heap.size,1,none⟩=some (.slice ao len cap)∧w.heap.size<V.heap.size):=fun V hV=>by
  have hne:some w.heap.size≠g:=fun e=>by have:=(HG.out _ e.symm).2;omega
  refine⟨hV.cell (by rw[hw1];simp) hne,hV.cell (by rw[hw1];simp) hne,?_⟩
  have:=hV.size
  omega
 have HE1:=hidp E1
 have HNT:Hid (∀V,w.grownBy V g→NetAt V ao ls):=fun V hV=>hl V (by rw[←hg];exact hV)
 have HS:=hidp (And.intro hS hdl)
 rw[←hg]
 clear hg hrow hE hl hS hdl E1
 subst hv0
 go_enter Try.func30,Try.ntmps30
 go_wp2
 rw[←hw1]
 clear hw1
 go_loopw [1,10] (fun lv iv wd=>∃(r:Nat) (v:Value) (es:List Dd),r≤10∧iv=.int .i64 r∧lv=v∧Hid (RS z w1 g wd v es∧drn N ls (10 - r) es=drn N ls 10 ds∧DsSm es∧es.length≤1000)) (fun _ iv _=>10 - (intOf iv).toNat)
 case atStart=>exact⟨0,_,ds,by omega,rfl,rfl,HST.out,rfl,HS.out.1,HS.out.2⟩
 case round=>
  obtain⟨r,v,es,hr,rfl,hlv,HI⟩:=hrel
  obtain rfl:=hlv.symm
  by_cases hlt:r<10
  ·have i1:(r:Int)<10:=by omega
   obtain⟨t0,t1,tl⟩:=HT.out wr HI.out.1.gr
   obtain⟨lo,lc,hv,hDI,_⟩:=HI.out.1.row.form
   have HPL:Hid (Calls Try.prog 18 #[.agg #[.int .i64 N,.slice ao len cap],.slice lo es.length lc] wr fun e w'=>PlyAll z wr (plyW N ls es).1 (plyW N ls es).2 (plyF N ls es) e w'):=Play_inN N ao len cap ls lo lc es z wr HI.out.1.ext hlen (HNT.out wr (HI.out.1.low HE1.out).gr) hx hDI HI.out.2.2.1 (by have:=HI.out.2.2.2;omega)
   have HSM:=hidp (ply_small (N:=N) (ls:=ls) (es:=es))
   have HDR:Hid (drn N ls (10 - r) es=if drn1 (plyW N ls es).1=[] then es else drn N ls (10 - (r+1)) (es++drn1 (plyW N ls es).1)):=by
    show _=_
    rw[show 10 - r=(10 - (r+1))+1 by omega,drn]
   have HDL:=hidp (drn1_le (N:=N) (ls:=ls) (es:=es))
   generalize plyW N ls es=q at HPL HSM HDR HDL
   generalize plyF N ls es=f at HPL
   obtain⟨W,came⟩:=q
   obtain⟨f0,f1⟩:=f
   simp only at HPL HSM HDR HDL
   obtain⟨g5,hg5⟩:∃g5,g5=v.ownBlock:=⟨_,rfl⟩
   have HG5:Hid (∀k,g5=some k→z.heap.size≤k∧k<wr.heap.size):=fun k hk=>HI.out.1.row.lt k (by rw[←hg5];exact hk)
   have HGE:=hidp hg5
   clear hg5 hDI
   subst hv
   go_wp2_with fail
   refine Calls.mono HPL.out ?_
   rintro e w4 ⟨A,co,cc,rfl,E4,HP⟩
   unfold wvl
   have hs4:w.heap.size<w4.heap.size:=by have:=E4.size;omega
   clear t0 t1
   go_upto_region 5 with fail
   obtain⟨w5,hw5⟩:∃w5,w5=(w4.alloc (.cells #[.int .i64 W.co.st,.int .i64 W.co.now.v,.slice A.ca.n.fo W.co.now.fs.length A.ca.n.fc,.slice A.ca.n.qo W.co.now.ps.length A.ca.n.qc,.int .i64 W.co.nxt.v,.slice A.ca.x.fo W.co.nxt.fs.length A.ca.x.fc,.slice A.ca.x.qo W.co.nxt.ps.length A.ca.x.qc,.int .i64 W.co.num,.slice A.ca.wo W.co.wts.length A.ca.wc,.slice A.so W.sw.length A.sc,.slice A.oo W.od.length A.oc,.slice A.bo W.bk.length A.bc,.slice A.ko W.pk.length A.kc,.slice A.lo W.pn.length A.lc] 40)).alloc (.cells #[.int .i64 f0,.int .i64 f1] 44):=⟨_,rfl⟩
   rw[←hw5]
   have E45:Ext w4 w5:=by rw[hw5];exact((Ext.refl w4).alloc _).alloc _
   have hz5:w5.heap.size=w4.heap.size+1+1:=by rw[hw5];simp
   have H5:Hid (RS z w1 g w5 (.slice lo es.length lc) es):=HI.out.1.toExt (E4.trans E45)
   have HBX:Hid (∀V,w5.grownBy V g5→Ext z V→(V.cell? ⟨w4.heap.size,9,none⟩=some (.slice A.so W.sw.length A.sc)∧V.cell? ⟨w4.heap.size,10,none⟩=some (.slice A.oo W.od.length A.oc)∧V.cell? ⟨w4.heap.size,11,none⟩=some (.slice A.bo W.bk.length A.bc)∧w4.heap.size<V.heap.size)∧WoAt V W A):=fun V hV hEV=>by
    have hne:∀b,wr.heap.size≤b→some b≠g5:=fun b hb e=>by have:=(HG5.out _ e.symm).2;omega
    have h4:=E4.size
    have hsV:=hV.size
    refine⟨⟨hV.cell (by rw[hw5];simp) (hne _ h4),hV.cell (by rw[hw5];simp) (hne _ h4),hV.cell (by rw[hw5];simp) (hne _ h4),by omega⟩,?_⟩
    refine(HP.out V (by omega) hEV (fun b hb hnb=>?_)).1
    rw[hV.block b (by omega) (fun e=>by have:=HG5.out b e.symm;omega)]
    exact E45.block b hb
   have H50:Hid (RS z w5 g5 w5 (.slice lo es.length lc) es):=by
    have:=RS.start H5.out.row H5.out.ext
    rw[←HGE.out] at this
    exact this
   obtain⟨⟨p9,_,_,pl⟩,_⟩:=HBX.out w5 (Gb.refl _ _) H5.out.ext
   clear hw5 E45 HP E4 HPL HG5
   go_wp2
   go_loopw [1,8,22] (fun lv bv iv wd=>∃(s:Nat) (v:Value) (β:Bool) (cu:List Dd),s≤W.sw.length∧iv=.int .i64 s∧lv=v∧bv=.bool β∧Hid (RS z w5 g5 wd v cu∧cu=es++(List.range s).flatMap (acts W)∧β=decide (es.length<cu.length)∧cu.length≤es.length+3*s)) (fun _ _ iv _=>W.sw.length - (intOf iv).toNat)
   case atStart=>exact⟨0,_,false,es,Nat.zero_le _,rfl,rfl,rfl,H50.out,by simp,by simp,by omega⟩
   case round=>
    obtain⟨s,v,β,cu,hs,rfl,hlv,rfl,HC⟩:=hrel
    obtain rfl:=hlv.symm
    clear p9 pl
    by_cases hst:s<W.sw.length
    ·have j1:(s:Int)<(W.sw.length:Int):=by omega
     obtain⟨e200,n8,eod,ebk,e1⟩:=HSM.out.resolve_left (by omega)
     obtain⟨o1,b1⟩:=e1 s hst
     obtain⟨⟨_,p10,_,pl⟩,hWo⟩:=HBX.out wr HC.out.1.gr HC.out.1.ext
     obtain⟨og,ooff,hoo,hog,hoc⟩:=hWo.od.resolve_left (fun e=>by rw[e] at eod;simp at eod;omega)
     obtain⟨ov,o0,oO,oC,hov,_⟩:=hoc s (by omega)
     subst hov
     rw[hoo,eod] at p10
     have HAE:=hidp (acts_eq W s)
     generalize (W.od.getD s []).length=ol at o0 o1 HAE
     obtain⟨bl,hbl⟩:∃bl,bl=(W.bk.getD s []).length:=⟨_,rfl⟩
     have HBL:=hidp hbl
     rw[←hbl] at b1 HAE
     clear hbl
     have HOO:=hidp (And.intro hoo (And.intro eod ebk))
     clear hoc hWo hoo eod ebk e1
     go_wp2
     go_loopw [1,8,31] (fun lv bv iv wd=>∃(j:Nat) (v:Value) (β:Bool) (cx:List Dd),j≤ol∧iv=.int .i64 j∧lv=v∧bv=.bool β∧Hid (RS z w5 g5 wd v cx∧cx=cu++act2 s j∧β=decide (es.length<cx.length)∧cx.length=cu.length+2*j)) (fun _ _ iv _=>ol - (intOf iv).toNat)
     case atStart=>exact⟨0,_,β,cu,Nat.zero_le _,rfl,rfl,rfl,HC.out.1,by simp[act2],HC.out.2.2.1,by omega⟩
     case round=>
      obtain⟨j,v,β,cx,hj,rfl,hlv,rfl,HX⟩:=hrel
      obtain rfl:=hlv.symm
      clear p10 pl o0 hog
      by_cases hjo:j<ol
      ·have j2:(j:Int)<(ol:Int):=by omega
       obtain⟨lo2,lc2,hv2,_⟩:=HX.out.1.row.form
       have HLL:Hid (es.length<cx.length+2∧cx.length+2≤1000000):=by
        have h1:=HC.out.2.1
        have h2:=HX.out.2.2.2
        have h3:=HC.out.2.2.2
        have h4:es.length≤cu.length:=by rw[h1,List.length_append];omega
        exact⟨by omega,by omega⟩
       have HR2:Hid (RS z w5 g5 ((doW (doW wr 2 s) 3 s).alloc (.cells #[.int .i64 2,.int .i64 s,.slice none 0 0,.int .i64 3,.int .i64 s,.slice none 0 0] 66)) v cx):=HX.out.1.toExt (((doW_ext (doW_ext (Ext.refl wr)))).alloc _)
       have HD2:Hid (DosIn z ((doW (doW wr 2 s) 3 s).alloc (.cells #[.int .i64 2,.int .i64 s,.slice none 0 0,.int .i64 3,.int .i64 s,.slice none 0 0] 66)) (some ⟨wr.heap.size+1+1,0,none⟩) [⟨2,s,[]⟩,⟨3,s,[]⟩]):=two_in (by simp[doW])
       subst hv2
       go_wp2_with fail
       refine(t_do_any _ _ _).mono ?_
       rintro e _ ⟨rfl,rfl⟩
       go_wp2_with fail
       refine(t_do_any _ _ _).mono ?_
       rintro e _ ⟨rfl,rfl⟩
       have hdw:(doW (doW wr 2 s) 3 s).heap.size=wr.heap.size+1+1:=by simp[doW]
       go_wp2_with (first | (at_builtin;refine wpList_append_rs rfl _ _ rfl rfl rfl HR2.out rfl (by decide) HD2.out HLL.out.2 ?_) | fail)
       intro bb off cp W7 h7
       have H7:=hidp h7
       clear h7 HR2 HD2 hdw
       go_wp2
       refine⟨⟨j+1,_,true,cx++[⟨2,s,[]⟩,⟨3,s,[]⟩],by omega,by go_num,rfl,rfl,H7.out,?_,?_,?_⟩,by simp[intOf];omega⟩
       ·rw[HX.out.2.1,act2_succ,List.append_assoc]
       ·rw[eq_comm,decide_eq_true_iff,List.length_append];exact HLL.out.1
       ·rw[List.length_append,HX.out.2.2.2];simp;omega
      ·have j2:¬(j:Int)<(ol:Int):=by omega
       have hjl:j=ol:=by omega
       obtain⟨⟨_,_,p11,pl⟩,hWo⟩:=HBX.out wr HX.out.1.gr HX.out.1.ext
       obtain⟨bg,boff,hbo,hbg,hbc⟩:=hWo.bk.resolve_left (fun e=>by have:=HOO.out.2.2;rw[e] at this;simp at this;omega)
       obtain⟨bO,bC,b0,_⟩:=hbc s (by rw[HOO.out.2.2];exact hst)
       rw[hbo,HOO.out.2.2] at p11
       rw[←HBL.out] at b0
       have HJL:=hidp hjl
       clear hWo hbc hjl hbo
       go_wp2
       go_loopw [1,8,47] (fun lv bv iv wd=>∃(k:Nat) (v:Value) (β:Bool) (cy:List Dd),k≤bl∧iv=.int .i64 k∧lv=v∧bv=.bool β∧Hid (RS z w5 g5 wd v cy∧cy=cx++act1 s k∧β=decide (es.length<cy.length)∧cy.length=cx.length+k)) (fun _ _ iv _=>bl - (intOf iv).toNat)
       case atStart=>exact⟨0,_,β,cx,Nat.zero_le _,rfl,rfl,rfl,HX.out.1,by simp[act1],HX.out.2.2.1,by omega⟩
       case round=>
        obtain⟨k,v,β,cy,hk,rfl,hlv,rfl,HY⟩:=hrel
        obtain rfl:=hlv.symm
        clear p11 pl b0 hbg
        by_cases hkb:k<bl
        ·have j3:(k:Int)<(bl:Int):=by omega
         obtain⟨lo2,lc2,hv2,_⟩:=HY.out.1.row.form
         have HLL:Hid (es.length<cy.length+1∧cy.length+1≤1000000):=by
          have h1:=HC.out.2.1
          have h2:=HX.out.2.2.2
          have h3:=HC.out.2.2.2
          have h5:=HY.out.2.2.2
          have h4:es.length≤cu.length:=by rw[h1,List.length_append];omega
          exact⟨by omega,by omega⟩
         have HR2:Hid (RS z w5 g5 ((doW wr 3 s).alloc (.cells #[.int .i64 3,.int .i64 s,.slice none 0 0] 66)) v cy):=HY.out.1.toExt ((doW_ext (Ext.refl wr)).alloc _)
         have HD2:Hid (DosIn z ((doW wr 3 s).alloc (.cells #[.int .i64 3,.int .i64 s,.slice none 0 0] 66)) (some ⟨wr.heap.size+1,0,none⟩) [⟨3,s,[]⟩]):=one_in (d:=⟨3,s,[]⟩) (by simp[doW]) (Or.inl rfl)
         subst hv2
         go_wp2_with fail
         refine(t_do_any _ _ _).mono ?_
         rintro e _ ⟨rfl,rfl⟩
         have hdw:(doW wr 3 s).heap.size=wr.heap.size+1:=by simp[doW]
         go_wp2_with (first | (at_builtin;refine wpList_append_rs rfl _ _ rfl rfl rfl HR2.out rfl (by decide) HD2.out HLL.out.2 ?_) | fail)
         intro bb off cp W7 h7
         have H7:=hidp h7
         clear h7 HR2 HD2 hdw
         go_wp2
         refine⟨⟨k+1,_,true,cy++[⟨3,s,[]⟩],by omega,by go_num,rfl,rfl,H7.out,?_,?_,?_⟩,by simp[intOf];omega⟩
         ·rw[HY.out.2.1,act1_succ,List.append_assoc]
         ·rw[eq_comm,decide_eq_true_iff,List.length_append];exact HLL.out.1
         ·rw[List.length_append,HY.out.2.2.2];simp;omega
        ·have j3:¬(k:Int)<(bl:Int):=by omega
         have hkl:k=bl:=by omega
         have HKL:=hidp hkl
         clear hkl
         go_wp2
         refine⟨⟨s+1,_,β,cy,by omega,by go_num,rfl,rfl,HY.out.1,?_,HY.out.2.2.1,?_⟩,by simp[intOf];omega⟩
         ·rw[HY.out.2.1,HX.out.2.1,HC.out.2.1,HJL.out,HKL.out,List.range_succ,List.flatMap_append,List.append_assoc,List.append_assoc]
          simp[HAE.out]
         ·have h1:=HY.out.2.2.2
          have h2:=HX.out.2.2.2
          have h3:=HC.out.2.2.2
          omega
    ·have j1:¬(s:Int)<(W.sw.length:Int):=by omega
     have HFI:Hid (cu=es++drn1 W):=by
      have:s=W.sw.length:=by omega
      have h:=HC.out.2.1
      rw[this] at h
      exact h
     have HRT:Hid (RS z w1 g wr v cu):=by
      have h:=HC.out.1
      rw[HGE.out] at h
      exact H5.out.trans h
     cases β with
     | false=>
      have HDN:Hid (drn1 W=[]):=by
       have h:=HC.out.2.2.1
       rw[eq_comm,decide_eq_false_iff_not,HFI.out,List.length_append] at h
       exact List.eq_nil_of_length_eq_zero (by omega)
      go_wp2
      go_ret
      refine⟨_,rfl,?_⟩
      have h:=HRT.out.low HE1.out
      rw[←HI.out.2.1,HDR.out,if_pos HDN.out]
      rw[HFI.out,HDN.out,List.append_nil] at h
      exact h
     | true=>
      have HDN:Hid (drn1 W≠[]):=fun e=>by
       have h:=HC.out.2.2.1
       rw[eq_comm,decide_eq_true_iff,HFI.out,e] at h
       simp at h
      go_wp2
      refine⟨⟨r+1,_,cu,by omega,by go_num,rfl,HRT.out,?_,?_,?_⟩,by simp[intOf];omega⟩
      ·rw[←HI.out.2.1,HDR.out,if_neg HDN.out,HFI.out]
      ·rw[HFI.out];exact HI.out.2.2.1.append (DsSm.of_nil fun d hd=>drn1_fs hd)
      ·rw[HFI.out,List.length_append]
       have h1:=HDL.out.1
       have h2:es.length≤200:=by
        by_cases h3:200<es.length
        ·exact absurd (HDL.out.2 h3) HDN.out
        ·omega
       omega
  ·have i1:¬(r:Int)<10:=by omega
   have hr10:r=10:=by omega
   have HR10:=hidp hr10
   clear hr10
   go_wp2
   go_ret
   refine⟨_,rfl,?_⟩
   have h:=HI.out.1.low HE1.out
   have e:=HI.out.2.1
   rw[HR10.out] at e
   rw[←e]
   exact h
end Go.Proofs.Ytolclgbpjiokfaa.Rm
namespace Go.Proofs.Ytolclgbpjiokfaa.Rm
open Go.RowKit Go.Deep Stw Stp Tb Rul Ct
def f01:Stf.Fl:=⟨0,1,[],[]⟩
def fcs (j:Nat):List Value:=(List.replicate j [Value.int .i64 0,.int .i64 1,.slice none 0 0,.slice none 0 0]).flatten
theorem fcs_succ (j:Nat):fcs (j+1)=fcs j++[Value.int .i64 0,.int .i64 1,.slice none 0 0,.slice none 0 0]:=by
 unfold fcs;rw[List.replicate_succ',List.flatten_append];simp
theorem fcs_cons (j:Nat):fcs (j+1)=[Value.int .i64 0,.int .i64 1,.slice none 0 0,.slice none 0 0]++fcs j:=by
 unfold fcs;rw[List.replicate_succ,List.flatten_cons]
theorem fcs_at:∀(j k:Nat),k<j→(fcs j)[k*4]? =some (.int .i64 0)∧(fcs j)[k*4+1]? =some (.int .i64 1)∧(fcs j)[k*4+2]? =some (.slice none 0 0)∧(fcs j)[k*4+3]? =some (.slice none 0 0)
 | 0,k,h=>by omega
 | j+1,0,_=>by rw[fcs_cons];simp
 | j+1,k+1,h=>by
  have ih:=fcs_at j k (by omega)
  rw[fcs_cons]
  simp only[List.getElem?_append,List.length_cons,List.length_nil,show ¬(k+1)*4<0+1+1+1+1 by omega,show ¬(k+1)*4+1<0+1+1+1+1 by omega,show ¬(k+1)*4+2<0+1+1+1+1 by omega,show ¬(k+1)*4+3<0+1+1+1+1 by omega,if_false,show(k+1)*4 - (0+1+1+1+1)=k*4 by omega,show(k+1)*4+1 - (0+1+1+1+1)=k*4+1 by omega,show(k+1)*4+2 - (0+1+1+1+1)=k*4+2 by omega,show(k+1)*4+3 - (0+1+1+1+1)=k*4+3 by omega]
  exact ih
theorem infoFw:(Try.prog.info? 55).map (fun i=>(i.zero,i.size,i.bytes))=some (some (.agg #[.int .i64 0,.int .i64 0,.slice none 0 0,.slice none 0 0]),4,64):=by kernel_rfl
theorem Rw.flows {w:World} {ao:Option Addr} {m cap:Nat} (h:Rw w 55 4 (.slice ao m cap) m (fcs m)):Fw.FlowsAt w ao (List.replicate m f01):=by
 by_cases h0:m=0
 ·subst h0;exact Or.inl rfl
 ·obtain⟨g,off,cap',hv',hg,_,_,hc⟩:=h.cells (by omega)
  cases hv'
  refine Or.inr ⟨g,off,rfl,hg,fun k hk=>?_⟩
  have hk':k<m:=by simpa using hk
  obtain⟨a0,a1,a2,a3⟩:=fcs_at m k hk'
  have e:(List.replicate m f01)[k]=f01:=List.getElem_replicate _
  rw[e]
  exact⟨.slice none 0 0,.slice none 0 0,by rw[hc _ (by omega)];exact a0,by rw[Nat.add_assoc,hc _ (by omega)];exact a1,by rw[Nat.add_assoc,hc _ (by omega)];exact a2,by rw[Nat.add_assoc,hc _ (by omega)];exact a3,⟨none,0,rfl,Or.inl rfl,Nat.le_refl _⟩,⟨none,0,rfl,Or.inl rfl,Nat.le_refl _⟩⟩
theorem one4f:∀u∈[Value.int .i64 0,.int .i64 1,.slice none 0 0,.slice none 0 0],u.oneCell'=true:=by
 intro u hu
 simp at hu
 rcases hu with rfl | rfl | rfl <;> rfl
def FsOut (w w':World) (e:Ending) (m:Nat):Prop:=∃fo fc,e=.returned (.slice fo m fc)∧Ext w w'∧Hid (Rw w' 55 4 (.slice fo m fc) m (fcs m)∧∀k,(Value.slice fo m fc).ownBlock=some k→w.heap.size≤k)
set_option maxRecDepth 100000 in
set_option maxHeartbeats 2000000 in
theorem flows_any (m:Nat) (w:World) (hm:m≤100):Calls Try.prog 32 #[.int .i64 m] w fun e w'=>FsOut w w' e m:=by
 obtain⟨i0,hi0,hz00,hz01,hz02⟩:=info_parts infoFw
 go_enter Try.func32,Try.ntmps32
 go_wp2
 go_loopw [3,5] (fun lv iv wd=>∃(j:Nat) (v:Value),j≤m∧iv=.int .i64 j∧lv=v∧Hid (Rw wd 55 4 v j (fcs j)∧(∀k,v.ownBlock=some k→w.heap.size≤k)∧Ext w wd)) (fun _ iv _=>m - (intOf iv).toNat)
 case atStart=>exact⟨0,_,Nat.zero_le _,rfl,rfl,Rw.nil _ _ _,fun k hk=>by simp[Value.ownBlock] at hk,Ext.refl w⟩
 case round=>
  obtain⟨j,v,hj,rfl,hlv,HI⟩:=hrel
  obtain rfl:=hlv.symm
  obtain⟨ao,cap,hv⟩:=HI.out.1.form
  by_cases hjm:j<m
  ·have i1:(j:Int)<(m:Int):=by omega
   have HR:Hid (Rw (wr.alloc (.cells #[.int .i64 0,.int .i64 1,.slice none 0 0,.slice none 0 0] 55)) 55 4 v j (fcs j)):=HI.out.1.keep (fun k hk=>blk_alloc_lt _ _ _ (HI.out.1.lt k hk))
   have HOW:=hidp HI.out.2.1
   have HEX:=hidp HI.out.2.2
   subst hv
   go_wp2_with (first | (at_builtin;refine wpList_append_rw _ rfl _ _ 27 rfl 55 i0 _ 4 64 Try.underlying27 hi0 hz00 hz01 hz02 rfl (by decide) _ j (fcs j) rfl HR.out ⟨wr.heap.size,0,none⟩ 1 [.int .i64 0,.int .i64 1,.slice none 0 0,.slice none 0 0] rfl rfl (news4 rfl (Ext.refl _)) one4f (by unfold maxLen;omega) (by omega) ?_) | fail)
   intro g off cp w7 hr7 hg7 hat7
   have HP:Hid (Rw w7 55 4 (.slice (some ⟨g,off,none⟩) (j+1) cp) (j+1) (fcs (j+1))∧(∀k,(Value.slice (some ⟨g,off,none⟩) (j+1) cp).ownBlock=some k→w.heap.size≤k)∧Ext w w7):=by
    refine⟨by rw[fcs_succ];exact hr7,fun k hk=>?_,Below.grown (HEX.out.alloc _) hg7 (HEX.out.alloc _).size (fun k hk=>HOW.out k hk)⟩
    simp[Value.ownBlock] at hk
    have hs:=HEX.out.size
    rcases hat7 with e | e
    ·exact HOW.out k (by rw[e,hk])
    ·omega
   clear hr7 hg7 hat7 HR HI
   go_wp2
   refine⟨⟨j+1,_,by omega,by go_num,rfl,HP.out⟩,by simp[intOf];omega⟩
  ·have i1:¬(j:Int)<(m:Int):=by omega
   have hjm2:j=m:=by omega
   have HJ:=hidp hjm2
   clear hjm2
   subst hv
   go_wp2
   go_ret
   have h:=HI.out
   have e:=HJ.out
   subst e
   exact⟨_,_,rfl,h.2.2,h.1,h.2.1⟩
theorem append_free {z W:World} {v:Value} {ds:List Dd} {d:Dd} {fo:Option Addr} {fc:Nat} {a:Addr} {cb:Nat} (ho:DO z W v ds) (hE:Ext z W) (hcells:∀j u,[Value.int .i64 d.k,.int .i64 d.n,.slice fo d.fs.length fc][j]? =some u→W.cell? (a.add j)=some u) (hn:ds.length+1≤1000000):
 ∃g off cap W',(∀ty,(Builtin.append_ #[25,25] ty #[v,.slice (some a) 1 cb]).run Try.prog W=.ok (.slice (some ⟨g,off,none⟩) (ds.length+1) cap) W')∧W.grownBy W' v.ownBlock∧Ext z W'∧(Fw.FlowsAt W' fo d.fs→DosAt W' (some ⟨g,off,none⟩) (ds++[d])):=by
 obtain⟨i3,hi3,hz0,hz1,hz2⟩:=info_parts infoDo
 obtain⟨ys,h,h1,hC⟩:=ho
 obtain⟨g,off,cap,W',hr,h2,h3,h4⟩:=run_append_rw (P:=Try.prog) W 25 25 66 i3 (.agg #[.int .i64 0,.int .i64 0,.slice none 0 0]) 3 40 Try.underlying25 hi3 hz0 hz1 hz2 rfl (by decide) v ds.length ys h a 1 cb [.int .i64 d.k,.int .i64 d.n,.slice fo d.fs.length fc] (by simp) hcells (fun u hu=>by
  simp at hu
  rcases hu with rfl | rfl | rfl <;> rfl) (by omega) (by unfold maxLen;omega) (by omega)
 have hE':Ext z W':=Below.grown hE h3 hE.size (fun k hk=>h1 k hk)
 refine⟨g,off,cap,W',fun ty=>hr,h3,hE',fun hf=>?_⟩
 obtain⟨g',off',cap',hv',hg,_,_,hc⟩:=h2.cells (by omega)
 cases hv'
 have hyl:=h.len
 refine Or.inr ⟨g,off,rfl,hg,fun k hk=>?_⟩
 simp only[List.length_append,List.length_cons,List.length_nil] at hk
 by_cases hkd:k<ds.length
 ·obtain⟨fo',fc',a0,a1,a2,a3⟩:=hC k hkd
  have e:(ds++[d]).getD k dd0=ds.getD k dd0:=by rw[List.getD_eq_getElem?_getD,List.getD_eq_getElem?_getD,List.getElem?_append_left hkd]
  rw[e]
  refine⟨fo',fc',?_,?_,?_,a3.ext hE'⟩
  ·rw[hc _ (by omega),List.getElem?_append_left (by omega)];exact a0
  ·rw[Nat.add_assoc,hc _ (by omega),List.getElem?_append_left (by omega)];exact a1
  ·rw[Nat.add_assoc,hc _ (by omega),List.getElem?_append_left (by omega)];exact a2
 ·have hk2:k=ds.length:=by omega
  subst hk2
  have e:(ds++[d]).getD ds.length dd0=d:=by simp[List.getD_eq_getElem?_getD]
  rw[e]
  refine⟨fo,fc,?_,?_,?_,hf⟩
  ·rw[hc _ (by omega),List.getElem?_append_right (by omega),show ds.length*3 - ys.length=0 by omega];rfl
  ·rw[Nat.add_assoc,hc _ (by omega),List.getElem?_append_right (by omega),show ds.length*3+1 - ys.length=1 by omega];rfl
  ·rw[Nat.add_assoc,hc _ (by omega),List.getElem?_append_right (by omega),show ds.length*3+2 - ys.length=2 by omega];rfl
theorem wpList_append_free {ops:Array Oper} {rest:List Oper} {o:Oper} {a:Act} {Q:Exit→Act→World→Prop} {W:World} (hgd:o.guard=none) (s x:Operand)
 (ho:o.op=.call {callee:=.builtin .append,args:=#[s,x],argTypes:=#[25,25]}) {z:World} {v:Value} {ds:List Dd} {d:Dd} {fo:Option Addr} {fc:Nat} {ad:Addr} {cb:Nat}
 (hs:a.eval s=v) (hx:a.eval x=.slice (some ad) 1 cb) (h:DO z W v ds) (hE:Ext z W) (hcells:∀j u,[Value.int .i64 d.k,.int .i64 d.n,.slice fo d.fs.length fc][j]? =some u→W.cell? (ad.add j)=some u) (hn:ds.length+1≤1000000)
 (hK:∀b off cap W',W.grownBy W' v.ownBlock→Ext z W'→(Fw.FlowsAt W' fo d.fs→DosAt W' (some ⟨b,off,none⟩) (ds++[d]))→wpList Try.prog ops Q rest (a.put o.dst (.slice (some ⟨b,off,none⟩) (ds.length+1) cap)) W'):wpList Try.prog ops Q (o::rest) a W:=by
 refine wpList_plain hgd fun K hK'=>?_
 obtain⟨b,off,cap,W',hr,h2,h3,h4⟩:=append_free (cb:=cb) h hE hcells hn
 unfold Oper.wp execOp
 simp only[ho,resolve,invoke,builtin,Sem.run_bind,Sem.run_pure,Result.andThen_ok,List.map_toArray,List.map_cons,List.map_nil,hs,hx,hr]
 exact hK' _ _ (hK b off cap W' h2 h3 h4)
end Go.Proofs.Ytolclgbpjiokfaa.Rm
namespace Go.Proofs.Ytolclgbpjiokfaa.Rm
open Go.RowKit Go.Deep Stw Stp Tb Rul Ct
theorem fnd01:fnd 2 (lnk 1) f01=(0,[0,1]):=by decide+kernel
theorem wfl01:Stf.wflow f01 2=0:=by decide+kernel
theorem net2:(wrong ((2:Nat):Int) (lnk 1)).1=0:=by decide+kernel
theorem rep_get {α:Type} {k i:Nat} {x z:α} (h:i<k):(List.replicate k x).getD i z=x:=by
 rw[List.getD_eq_getElem?_getD,List.getElem?_replicate,if_pos h];rfl
theorem plan_rep {k:Nat} {v:Int} (hk:k≤12) (h1:1≤v) (h2:v≤1000):(plnF ((2:Nat):Int) v (lnk 1) (List.replicate k f01)).1=0:=by
 have hb:(Stf.wflows (List.replicate k f01) ((2:Nat):Int)).1=0:=by
  unfold Stf.wflows
  rw[if_neg (by simp;omega),Stf.firstBad_none (fun i hi=>by
   rw[rep_get (by simpa using hi)];exact wfl01)]
 unfold plnF
 rw[if_neg (by simpa using net2),if_neg (by omega),if_neg (by simpa using hb),Stf.firstBad_none (fun i hi=>by
  rw[rep_get (by simpa using hi)]
  exact congrArg Prod.fst fnd01)]
theorem plnP_rep {k:Nat}:plnP ((2:Nat):Int) (lnk 1) (List.replicate k f01)=List.replicate k [0,1]:=by
 unfold plnP
 rw[List.map_replicate]
 congr 1
theorem rof_rep {v:Int} {k:Nat}:∀{j:Nat},j≤k→(rof v 0 (List.replicate k [0,1]) j).length=j∧(rof v 1 (List.replicate k [0,1]) j).length=0
 | 0,_=>⟨rfl,rfl⟩
 | j+1,h=>by
  obtain⟨a,b⟩:=rof_rep (v:=v) (k:=k) (j:=j) (by omega)
  have e:(List.replicate k [(0:Int),1]).getD j []=[0,1]:=rep_get (by omega)
  constructor
  ·rw[rof,List.length_append,a,e];rfl
  ·rw[rof,List.length_append,b,e];rfl
theorem full_rep {p q:Pl} {a b:Nat} (hp:p.ps=List.replicate a [0,1]) (hq:q.ps=List.replicate b [0,1]):full 2 p q=decide (16<a+b):=by
 have h0:∀{r:Pl} {c:Nat},r.ps=List.replicate c [0,1]→(rls r 0).length=c∧(rls r 1).length=0:=fun {r c} hr=>by
  have:=rof_rep (v:=r.v) (k:=c) (Nat.le_refl c)
  unfold rls
  rw[hr,List.length_replicate]
  exact this
 obtain⟨p0,p1⟩:=h0 hp
 obtain⟨q0,q1⟩:=h0 hq
 unfold full
 rw[show List.range 2=[0,1] from rfl]
 simp[p0,p1,q0,q1]
theorem ask_rep {t:Nat} {W:Wd} {a b:Nat} (h:Inv 2 (lnk 1) t W) (ht:t≤900) (hst:W.co.st=0) (hb:b≤12) (hp:W.co.now.ps=List.replicate a [0,1]):(askS W.co ((2:Nat):Int) (lnk 1) (List.replicate b f01)).2=if a+b≤16 then 0 else 10:=by
 have hnow:W.co.now=lp W.pn W.pn.length:=by
  rcases h.dyn.stg with⟨_,_,h3⟩ | ⟨h1,_⟩
  ·exact h3
  ·omega
 have hv:=(h.pls.lp (Nat.le_refl W.pn.length)).1
 have hpl:=h.pl
 have hnx:nx W.co.now.v=(W.pn.length:Int)+1:=by unfold nx;rw[hnow,hv,IntKind.wrap_i64];omega
 have hpf:=plan_rep (v:=nx W.co.now.v) hb (by omega) (by omega)
 have hf:=full_rep (p:=W.co.now) (q:=⟨nx W.co.now.v,List.replicate b f01,plnP ((2:Nat):Int) (lnk 1) (List.replicate b f01)⟩) hp plnP_rep
 unfold askS
 rw[if_neg (by omega),if_neg (by simpa using hpf),Int.toNat_natCast,hf]
 by_cases hab:a+b≤16
 ·rw[if_neg (by simp;omega),if_pos hab]
 ·rw[if_pos (by simp;omega),if_neg hab]
def fll (a:Nat):List Dd:=drn 2 (lnk 1) 10 (drn 2 (lnk 1) 10 [⟨1,0,List.replicate a f01⟩]++[⟨6,0,[]⟩])
theorem fll_ok {a b:Nat} (ha:a≤12) (hb:b≤12):(fll a).length≤50∧(run 2 (lnk 1) (fll a++[⟨1,0,List.replicate b f01⟩])).2.getD (fll a).length 0=if a+b≤16 then 0 else 10:=by
 obtain⟨z1,z2,a1,a2,a3,a4,_,a6⟩:=settle2 (n:=2) (ls:=lnk 1) net2 (ds:=[⟨1,0,List.replicate a f01⟩]) (by simp)
 have e:fll a=[⟨1,0,List.replicate a f01⟩]++z1++[⟨6,0,[]⟩]++z2:=by
  have b1:drn 2 (lnk 1) 10 [⟨1,0,List.replicate a f01⟩]=[⟨1,0,List.replicate a f01⟩]++z1:=a1
  have b2:drn 2 (lnk 1) 10 ([⟨1,0,List.replicate a f01⟩]++z1++[⟨6,0,[]⟩])=[⟨1,0,List.replicate a f01⟩]++z1++[⟨6,0,[]⟩]++z2:=a2
  unfold fll
  rw[b1,b2]
 have hlen:(fll a).length≤50:=by
  rw[e]
  simp only[List.length_append,List.length_cons,List.length_nil]
  omega
 obtain⟨c1,c2,c3,_⟩:=a6 (by rw[←e];omega)
 rw[←e] at c1 c2 c3
 have hI:=run_inv (n:=2) (ls:=lnk 1) (ds:=fll a) net2 (by omega)
 have hI0:=Inv.start (n:=2) (ls:=lnk 1) net2
 have h0:=ask_rep (W:=wdN 2) (a:=0) (b:=a) hI0 (by omega) rfl ha rfl
 rw[if_pos (by omega)] at h0
 have hA:=(Ct.ask_cases h0).A
 have hpn:(run 2 (lnk 1) [⟨1,0,List.replicate a f01⟩]).1.pn=[(askS (wdN 2).co ((2:Nat):Int) (lnk 1) (List.replicate a f01)).1.c.nxt]:=by
  have e1:run 2 (lnk 1) [⟨1,0,List.replicate a f01⟩]=((hap 2 (lnk 1) (wdN 2) ⟨1,0,List.replicate a f01⟩).1,[(hap 2 (lnk 1) (wdN 2) ⟨1,0,List.replicate a f01⟩).2]):=rfl
  rw[e1,hap_ask]
  unfold hapA
  rw[if_neg (by simpa using h0)]
  rfl
 have hps:(run 2 (lnk 1) (fll a)).1.co.now.ps=List.replicate a [0,1]:=by
  have hr:=(hI.rest c1 c2).1
  rw[hr,c3,hpn,hA.2.1]
  exact plnP_rep
 refine⟨hlen,?_⟩
 have hk:=ask_rep (W:=(run 2 (lnk 1) (fll a)).1) (a:=a) (b:=b) hI (by omega) c1 hb hps
 have hr:(run 2 (lnk 1) (fll a)).2.length=(fll a).length:=run_len
 have hsn:=run_snoc (n:=2) (ls:=lnk 1) (ds:=fll a) (d:=⟨1,0,List.replicate b f01⟩)
 rw[hap_ask] at hsn
 rw[hsn]
 generalize run 2 (lnk 1) (fll a)=q at hk hr
 obtain⟨V,cm⟩:=q
 simp only at hk hr ⊢
 rw[List.getD_eq_getElem?_getD,List.getElem?_append_right (by omega),hr,Nat.sub_self]
 simp only[List.getElem?_cons_zero,Option.getD_some]
 by_cases hab:a+b≤16
 ·rw[if_pos hab] at hk ⊢
  have h2:hapA 2 (lnk 1) V (List.replicate b f01)=(⟨(askS V.co ((2:Nat):Int) (lnk 1) (List.replicate b f01)).1.c,V.sw,putO V.od (askS V.co ((2:Nat):Int) (lnk 1) (List.replicate b f01)).1.out,V.bk,V.pk,V.pn++[(askS V.co ((2:Nat):Int) (lnk 1) (List.replicate b f01)).1.c.nxt]⟩,0):=hapA_yes hk
  rw[h2]
 ·rw[if_neg hab] at hk ⊢
  have h2:hapA 2 (lnk 1) V (List.replicate b f01)=(V,(askS V.co ((2:Nat):Int) (lnk 1) (List.replicate b f01)).2):=hapA_no (by rw[hk];decide)
  rw[h2,hk]
theorem fll_ply (N:Int) (hN:N=((2:Nat):Int)) {a b:Nat} (ha:a≤12) (hb:b≤12):plyF N (lnk 1) (fll a++[⟨1,0,List.replicate b f01⟩])=(0,0)∧∃X c,plyW N (lnk 1) (fll a++[⟨1,0,List.replicate b f01⟩])=(X,c)∧c.length=(fll a).length+1∧c.getD (fll a).length 0=if a+b≤16 then 0 else 10:=by
 subst hN
 obtain⟨h1,h2⟩:=fll_ok ha hb
 generalize fll a=l at h1 h2 ⊢
 have hln:(l++[(⟨1,0,List.replicate b f01⟩:Dd)]).length=l.length+1:=by simp
 obtain⟨p1,p2⟩:=plyF_of (n:=((2:Nat):Int)) (ls:=lnk 1) (ds:=l++[⟨1,0,List.replicate b f01⟩]) net2 (by omega)
 rw[Int.toNat_natCast] at p2
 have hc:(run 2 (lnk 1) (l++[⟨1,0,List.replicate b f01⟩])).2.length=l.length+1:=by rw[run_len];exact hln
 refine⟨p1,_,_,p2,hc,h2⟩
theorem rep_sm (k:Nat):Fw.Sm (List.replicate k f01):=fun i h=>by
 have hi:i<k:=by simpa using h
 rw[List.getElem_replicate]
 simp[f01]
end Go.Proofs.Ytolclgbpjiokfaa.Rm
namespace Go.Proofs.Ytolclgbpjiokfaa.Rm
open Go.RowKit Go.Deep Stw Stp Tb Rul Ct
theorem line2 (w:World):Calls Try.prog 33 #[.int .i64 2] w fun e w'=>∃ao cap,e=.returned (.agg #[.int .i64 2,.slice ao 1 cap])∧Ext w w'∧Hid (Rw w' 88 3 (.slice ao 1 cap) 1 (lcs (lnk 1))∧(∀k,(Value.slice ao 1 cap).ownBlock=some k→w.heap.size≤k)∧NetAt w' ao (lnk 1)):=line_any 2 w (by omega)
theorem net_keep {w V:World} {ao:Option Addr} {cap:Nat} (h:Rw w 88 3 (.slice ao 1 cap) 1 (lcs (lnk 1))) (hk:∀k,(Value.slice ao 1 cap).ownBlock=some k→V.heap[k]? =w.heap[k]?):NetAt V ao (lnk 1):=by
 obtain⟨ao',cap',e,hn⟩:=Rw.net (ls:=lnk 1) (h.keep hk)
 simp only[Value.slice.injEq] at e
 rw[e.1]
 exact hn
set_option maxRecDepth 100000 in
set_option maxHeartbeats 4000000 in
theorem topFull_any (a0 b0:Int) (w:World):
 Calls Try.prog 12 #[.int .i64 a0,.int .i64 b0] w fun e w'=>e=.returned (.bool true)∧Ext w w':=by
 go_enter Try.func12,Try.ntmps12
 go_wp2_with fail
 refine(t_alive_any _).mono ?_
 rintro e w1 ⟨rfl,E1⟩
 by_cases h1:a0<0
 ·go_wp2
  go_ret
  exact⟨rfl,E1⟩
 by_cases h2:b0<0
 ·go_wp2
  go_ret
  exact⟨rfl,E1⟩
 by_cases h3:12<a0
 ·go_wp2
  go_ret
  exact⟨rfl,E1⟩
 by_cases h4:12<b0
 ·go_wp2
  go_ret
  exact⟨rfl,E1⟩
 obtain⟨a,rfl⟩:=Int.eq_ofNat_of_zero_le (show 0≤a0 by omega)
 obtain⟨b,rfl⟩:=Int.eq_ofNat_of_zero_le (show 0≤b0 by omega)
 have ha:a≤12:=by omega
 have hb:b≤12:=by omega
 obtain⟨fl,hfle⟩:∃fl,fl=fll a:=⟨_,rfl⟩
 have hfl:=(fll_ok ha hb).1
 have hfe:=fll_ply 2 rfl ha hb
 rw[←hfle] at hfl hfe
 have HFL:=hidp (And.intro hfl hfe)
 have HFE:=hidp hfle
 clear hfle
 clear hfl hfe
 go_wp2_with fail
 refine(line2 _).mono ?_
 rintro e w2 ⟨ao,cap,rfl,E2,HL⟩
 go_wp2_with fail
 refine(flows_any a w2 (by omega)).mono ?_
 rintro e z ⟨fo,fc,rfl,E3,HF⟩
 have HEz:=hidp (E1.trans (E2.trans E3))
 have HSA:Hid (DsSm [⟨1,0,List.replicate a f01⟩]):=fun d hd=>by rw[List.mem_singleton] at hd;rw[hd];exact⟨rep_sm a,by simp;omega⟩
 have HRW:Hid (DO z (z.alloc (.cells #[.int .i64 1,.int .i64 0,.slice fo a fc] 66)) (.slice (some ⟨z.heap.size,0,none⟩) 1 1) [⟨1,0,List.replicate a f01⟩]):=by
  have h:=ask_row (z:=z) (W:=z) (fs:=List.replicate a f01) (fo:=fo) (fc:=fc) rfl (Ext.refl z) HF.out.1.flows
  rw[List.length_replicate] at h
  exact h
 obtain⟨c0,hc0⟩:∃c0,c0=drn 2 (lnk 1) 10 [⟨1,0,List.replicate a f01⟩]:=⟨_,rfl⟩
 have hcs:=drn_small (N:=2) (ls:=lnk 1) 10 HSA.out (by simp)
 have HDR:=hidp (t_drain_any 2 ao 1 cap (lnk 1) (.slice (some ⟨z.heap.size,0,none⟩) 1 1) [⟨1,0,List.replicate a f01⟩] z _ rfl (HL.out.2.2.ext E3) (by omega) HRW.out ((Ext.refl z).alloc _) HSA.out (by simp))
 have hcl:c0.length≤900:=by
  obtain⟨z1,a1,a2,_⟩:=drn_ok (n:=2) (ls:=lnk 1) net2 10 [⟨1,0,List.replicate a f01⟩] (by simp) (by have:=rk_le (run 2 (lnk 1) [⟨1,0,List.replicate a f01⟩]).1.co.st;omega)
  have a1':drn 2 (lnk 1) 10 [⟨1,0,List.replicate a f01⟩]=[⟨1,0,List.replicate a f01⟩]++z1:=a1
  rw[hc0,a1',List.length_append]
  have h1:2*2*rk (run 2 (lnk 1) [⟨1,0,List.replicate a f01⟩]).1.co.st≤4*2:=Nat.mul_le_mul (by omega) (rk_le _)
  simp only[List.length_cons,List.length_nil]
  omega
 have HC2:Hid (fl=drn 2 (lnk 1) 10 (c0++[⟨6,0,[]⟩])):=by show _=_;rw[HFE.out,hc0,fll]
 rw[←hc0] at HDR hcs
 have HC0:Hid (DsSm (c0++[⟨6,0,[]⟩])∧(c0++[(⟨6,0,[]⟩:Dd)]).length≤1000):=⟨hcs.1.append (DsSm.of_nil (fun d hd=>by simp at hd;rw[hd])),by simp;omega⟩
 have HFS:Hid (DsSm fl):=by
  show DsSm fl
  rw[HC2.out]
  exact(drn_small 10 HC0.out.1 HC0.out.2).1
 clear hc0 hcs HRW HL HF E1 E2 E3
 go_wp2_with fail
 refine Calls.mono HDR.out ?_
 rintro e w4 ⟨v4,rfl,H4⟩
 obtain⟨lo4,lc4,hv4,_⟩:=H4.out.row.form
 have hE4:=H4.out.ext
 have HDO4:=hidp H4.out.row
 obtain⟨g4,hg4⟩:∃g4,g4=v4.ownBlock:=⟨_,rfl⟩
 have HG4:Hid (∀k,g4=some k→k<w4.heap.size):=fun k hk=>(HDO4.out.lt k (by rw[←hg4];exact hk)).2
 have HRS:Hid (∀V,Ext w4 V→RS z V g4 V v4 c0):=fun V hV=>by rw[hg4];exact RS.start (HDO4.out.ext hV) (hE4.trans hV)
 clear HDR H4 hg4
 subst hv4
 go_wp2_with fail
 refine(line2 _).mono ?_
 rintro e w5 ⟨ao5,cap5,rfl,E5,HL5⟩
 obtain⟨y7,hy7⟩:∃y7,y7=(doW w5 6 0).alloc (.cells #[.int .i64 6,.int .i64 0,.slice none 0 0] 66):=⟨_,rfl⟩
 have E57:Ext w5 y7:=by rw[hy7];exact(doW_ext (Ext.refl w5)).alloc _
 have HR7:Hid (RS z y7 g4 y7 (.slice lo4 c0.length lc4) c0):=HRS.out y7 (E5.trans E57)
 have HD7:Hid (DosIn z y7 (some ⟨w5.heap.size+1,0,none⟩) [⟨6,0,[]⟩]):=by rw[hy7];exact one_in (d:=⟨6,0,[]⟩) (by simp[doW]) (Or.inl rfl)
 have HY7:=hidp hy7
 have HE57:=hidp E57
 clear hy7 E57
 go_wp2_with fail
 refine(t_do_any _ _ _).mono ?_
 rintro e _ ⟨rfl,rfl⟩
 have hdw:(doW w5 6 0).heap.size=w5.heap.size+1:=by simp[doW]
 rw[HY7.out] at HR7 HD7
 go_wp2_with (first | (at_builtin;refine wpList_append_rs (z:=z) (g:=g4) rfl _ _ rfl rfl rfl HR7.out rfl (by decide) HD7.out (by omega) ?_) | fail)
 intro b7 off7 cp7 w7 h7
 have hE7:=h7.ext
 have HN7:Hid (∀V,w7.grownBy V (Value.slice (some ⟨b7,off7,none⟩) (c0.length+1) cp7).ownBlock→NetAt V ao5 (lnk 1)):=fun V hV=>net_keep HL5.out.1 (fun k hk=>by
  have k1:=HL5.out.2.1 k hk
  have k2:=HL5.out.1.lt k hk
  have s57:=HE57.out.size
  have s7:=h7.gr.size
  rw[←HY7.out] at s7
  have n1:some k≠(Value.slice (some ⟨b7,off7,none⟩) (c0.length+1) cp7).ownBlock:=fun e=>by
   rcases h7.own k e.symm with e2 | e2
   ·have:=HG4.out k e2;omega
   ·rw[←HY7.out] at e2;omega
  have n2:some k≠g4:=fun e=>by have:=HG4.out k e.symm;omega
  rw[hV.block k (by omega) n1,h7.gr.block k (by rw[←HY7.out];omega) n2, ←HY7.out]
  exact HE57.out.block k k2)
 have HD8:=hidp (t_drain_anyN 2 ao5 1 cap5 (lnk 1) _ (c0++[⟨6,0,[]⟩]) z w7 rfl HN7.out (by omega) h7.row h7.ext HC0.out.1 HC0.out.2)
 rw[←HC2.out] at HD8
 clear h7 HR7 HD7 hdw HN7 HL5 HRS HDO4 HC0 HY7 HE57 E5
 go_wp2_with fail
 refine Calls.mono HD8.out ?_
 rintro e w8 ⟨v8,rfl,H8⟩
 obtain⟨lo8,lc8,hv8,_⟩:=H8.out.row.form
 have hE8:=H8.out.ext
 have HDO8:=hidp H8.out.row
 have HG8:Hid (∀k,v8.ownBlock=some k→k<w8.heap.size):=fun k hk=>(HDO8.out.lt k hk).2
 clear HD8 H8
 subst hv8
 go_wp2_with fail
 refine(line2 _).mono ?_
 rintro e w9 ⟨ao9,cap9,rfl,E9,HL9⟩
 go_wp2_with fail
 refine(flows_any b w9 (by omega)).mono ?_
 rintro e w10 ⟨fo10,fc10,rfl,E10,HF10⟩
 obtain⟨y,hy⟩:∃y,y=w10.alloc (.cells #[.int .i64 1,.int .i64 0,.slice fo10 b fc10] 66):=⟨_,rfl⟩
 have E10y:Ext w10 y:=by rw[hy];exact(Ext.refl w10).alloc _
 have HDY:=hidp (HDO8.out.ext (E9.trans (E10.trans E10y)))
 have HEY:=hidp (hE8.trans (E9.trans (E10.trans E10y)))
 have HCY:Hid (∀j u,[Value.int .i64 1,.int .i64 0,.slice fo10 (List.replicate b f01).length fc10][j]? =some u→y.cell? ((⟨w10.heap.size,0,none⟩:Addr).add j)=some u):=fun j u hu=>by
  rw[List.length_replicate] at hu
  rw[hy]
  exact cells3n rfl _ _ _ _ j u hu
 have HYE:=hidp hy
 have HE10y:=hidp (And.intro E9 (And.intro E10 E10y))
 clear hy E10y
 rw[HYE.out] at HDY HEY HCY
 have hfl50:(fl).length≤50:=HFL.out.1
 go_wp2_with (first | (at_builtin;refine wpList_append_free (z:=z) (d:=⟨1,0,List.replicate b f01⟩) rfl _ _ rfl rfl rfl HDY.out HEY.out HCY.out (by omega) ?_) | fail)
 intro b11 off11 cp11 w11 hg11 hE11 hD11
 rw[←HYE.out] at hg11
 have hsy:w8.heap.size≤w9.heap.size∧w9.heap.size≤w10.heap.size∧w10.heap.size≤y.heap.size:=⟨HE10y.out.1.size,HE10y.out.2.1.size,HE10y.out.2.2.size⟩
 have hkeep:∀k,w8.heap.size≤k→k<w10.heap.size→w11.heap[k]? =w10.heap[k]?:=fun k k1 k2=>by
  rw[hg11.block k (by omega) (fun e=>by have:=HG8.out k e.symm;omega)]
  exact HE10y.out.2.2.block k k2
 have hNet:NetAt w11 ao9 (lnk 1):=net_keep HL9.out.1 (fun k hk=>by
  have k1:=HL9.out.2.1 k hk
  have k2:=HL9.out.1.lt k hk
  rw[hkeep k k1 (by omega)]
  exact HE10y.out.2.1.block k k2)
 have hFw:Fw.FlowsAt w11 fo10 (List.replicate b f01):=Rw.flows (HF10.out.1.keep (fun k hk=>hkeep k (by have:=HF10.out.2 k hk;omega) (HF10.out.1.lt k hk)))
 have hDA:=hD11 hFw
 have hsm:DsSm (fl++[⟨1,0,List.replicate b f01⟩]):=HFS.out.append (fun d hd=>by rw[List.mem_singleton] at hd;rw[hd];exact⟨rep_sm b,by simp;omega⟩)
 have hln:(fl++[(⟨1,0,List.replicate b f01⟩:Dd)]).length=(fl).length+1:=by simp
 have HPL:=hidp (Play_any 2 ao9 1 cap9 (lnk 1) (some ⟨b11,off11,none⟩) cp11 (fl++[⟨1,0,List.replicate b f01⟩]) w11 rfl hNet (by omega) hDA hsm (by omega))
 obtain⟨hpl1,X,dame,hrn,hcm,her⟩:=HFL.out.2
 rw[hrn,hpl1,hln] at HPL
 simp only at HPL
 have HE11:=hidp (HEz.out.trans hE11)
 have HER:=hidp (And.intro her hcm)
 obtain⟨m,hm⟩:∃m,m=(fl).length:=⟨_,rfl⟩
 rw[←hm] at HER HPL hfl50 ⊢
 clear hpl1 hrn hsm hDA hFw hNet hkeep hsy hg11 hD11 hE11 her hcm hln hm HDY HEY HCY HYE HE10y HF10 HL9 HDO8 HG8 HFS HFL HC2 E9 E10
 go_wp2_with fail
 refine Calls.mono HPL.out ?_
 rintro e w12 ⟨B,bo,bc,rfl,E12,HB⟩
 unfold wvl
 obtain⟨db,doff,hbo,hdb,hdc⟩:=HB.out.2.get (k:=m) (by have:=HER.out.2;omega)
 have d0:=hdc m (by have:=HER.out.2;omega)
 rw[HER.out.1] at d0
 have i9:(m:Int)<(dame.length:Int):=by have:=HER.out.2;omega
 have hwab:IntKind.i64.wrap ((a:Int)+(b:Int))=(a:Int)+(b:Int):=by rw[IntKind.wrap_i64];omega
 have HE12:=hidp (HE11.out.trans E12)
 rw[hbo]
 clear hdc hbo HPL HB E12
 by_cases hab:a+b≤16
 ·rw[if_pos hab] at d0
  have j1:(a:Int)+(b:Int)≤16:=by omega
  clear hab
  go_wp2
  go_ret
  exact⟨rfl,(HE12.out.alloc _).alloc _⟩
 ·rw[if_neg hab] at d0
  have j1:¬(a:Int)+(b:Int)≤16:=by omega
  have j2:decide ((a:Int)+(b:Int)≤16)=false:=decide_eq_false j1
  clear hab j1
  go_wp2
  go_ret
  exact⟨rfl,(HE12.out.alloc _).alloc _⟩
end Go.Proofs.Ytolclgbpjiokfaa.Rm
namespace Go.Proofs.Ytolclgbpjiokfaa
open Go.ChangeShapes Go.WideShapes Go.ChangeAt Go.RowKit Go.Deep Go.Joins Stw
set_option maxRecDepth 100000 in
theorem topFull_lifted (os:Os) (started:os.Started) (H:Type) (enc:TypeId×Value→H):
 ReturnsInHanded {} Try.checked os 12 .any (Rows.topFullSpec.pre6 enc Try.prog Try.f12 Rows.topFullRow.domain false) (Rows.topFullSpec.post enc Try.prog Try.f12 false true false false):=by
 refine returnsInHanded_of_change_sized (C:=Try.checked) Try.own started (by kernel_rfl) Try.func12
  (ChangeSpec.witness6 (enc:=enc) (C:=Try.checked) false ⟨#[],#[.int .i64 0,.int .i64 0],[]⟩ 8 (by kernel_rfl) (by kernel_rfl) (by kernel_rfl) (by kernel_rfl)) ?_
 intro W base args ds gs before hval0 hW hcnd hsz0 _
 have hval:∀(j:Nat) t v,Try.f12.params[j]? =some t→args[j]? =some v→Value.okWide Try.prog W .any base t v:=hval0
 have hsz:(DataW.weightsEach Try.prog (Try.f12.params.toList++Rows.topFullSpec.plain.varTypes Try.prog) (ds++gs)).all (· ≤reachBytes)=true:=hsz0
 have hW':=hW
 obtain⟨p,q,hA0,hV,rfl,hfz,hnd⟩:=hW
 have hA:DataW.TrodAll enc Try.prog W 0 (fun _=>true) true Try.f12.params.toList args.toList ds p:=hA0
 rw[Try.params12] at hA hval hsz
 obtain⟨v0,vs0,d0,dt0,p0,q0,hargs,rfl,rfl,h0,r0⟩:=trodAll_cons hA
 obtain⟨v1,vs1,d1,dt1,p1,q1,rfl,rfl,rfl,h1,r1⟩:=trodAll_cons r0
 obtain⟨rfl,rfl,rfl⟩:=trodAll_nil r1
 obtain rfl:args=#[v0,v1]:=by cases args;simp_all
 obtain⟨rfl,rfl⟩:=trodVars_none hV
 obtain⟨a0,rfl,rfl,rfl,w0⟩:=open_int Try.underlying3 (hval 0 3 v0 rfl rfl) h0
 obtain⟨a1,rfl,rfl,rfl,w1⟩:=open_int Try.underlying3 (hval 1 3 v1 rfl rfl) h1
 clear hA0 hval0 hsz0
 refine(Rm.topFull_any a0 a1 W).mono fun e W' ⟨he,bel0⟩=>?_
 subst he
 have bel:Below W.heap.size W W':=bel0
 exact⟨_,rfl,_,_,_,[],_,[],hW',trodAll_mk1 (shut_bool Try.underlying4 _),(trodAll_cons_mk (shut_int Try.underlying3 w0) (trodAll_cons_mk (shut_int Try.underlying3 w1) trodAll_mk0)),rfl,bel.frame _,fun h=>by cases h⟩
theorem topFull_holds:Rows.TopFullSaid:=
 OpenClaim.holds_of_wide 12 Try.f12 rfl rfl rfl rfl rfl rfl rfl ⟨rfl,rfl,rfl,rfl,rfl⟩ rfl rfl rfl rfl rfl (by kernel_rfl) Try.func12 (by kernel_rfl)
  (of_decide_eq_true (by kernel_rfl)) (by unfold Func.isWrapper;first | (rw[if_pos (by decide+kernel)];kernel_rfl) | (rw[if_neg (by decide+kernel)];exact⟨rfl,rfl⟩))
  (fun os started H enc _=>topFull_lifted os started H enc)
#print axioms topFull_holds
end Go.Proofs.Ytolclgbpjiokfaa
