/- OLD OR NEW, NEVER BOTH, in words. -/
import Derived.Test.YtkfapjenckhmkaaGreatDoorTTb
namespace Go.Proofs.YtkfapjenckhmkaaGreatDoor.Rm
open Go.RowKit Go.Deep Stw Stp Tb Rul Ct
theorem hap_drop {n:Nat} {ls:List Lk} {W:Wd}:hap n ls W ⟨6,0,[]⟩=hapD n ls W:=by
 unfold hap
 simp only[show((6:Int)=1)=False by simp,show((6:Int)=2)=False by simp,show((6:Int)=3)=False by simp,show((6:Int)=4)=False by simp,show((6:Int)=5)=False by simp,if_false,if_true]
theorem run_snoc {n:Nat} {ls:List Lk} {ds:List Dd} {d:Dd}:run n ls (ds++[d])=((hap n ls (run n ls ds).1 d).1,(run n ls ds).2++[(hap n ls (run n ls ds).1 d).2]):=by
 rw[run_append];rfl
theorem rk_le (st:Int):rk st≤2:=by unfold rk;split;· omega
                                   split <;> omega
theorem drop_rest {n:Nat} {ls:List Lk} {t:Nat} {W:Wd} (h:Inv n ls t W) (hs:W.co.st=0∨W.co.st=3):((hapD n ls W).1.co.st=0∨(hapD n ls W).1.co.st=4)∧(hapD n ls W).1.pn=W.pn∧(hapD n ls W).1.pk=W.pk:=by
 rcases hs with e | e
 ·have h1:(dropS W.co n ls).2≠0:=by
   unfold dropS
   rw[if_neg (by simpa using h.wr),if_pos (by omega)]
   simp
  unfold hapD
  rw[if_pos h1]
  exact⟨Or.inl e,rfl,rfl⟩
 ·have h1:=drop_calm (n:=n) (ls:=ls) h.wr e
  have h2:=drop_B (n:=n) (ls:=ls) h.wr e
  unfold hapD
  rw[if_neg (by rw[h1];simp)]
  refine⟨?_,rfl,rfl⟩
  rcases h2 with⟨e1,_⟩ | ⟨e1,_⟩
  ·exact Or.inr e1
  ·exact Or.inl e1
theorem settle2 {n:Nat} {ls:List Lk} (hw:(wrong n ls).1=0) {ds:List Dd} (hl:ds.length≤200):
 ∃z1 z2,drn n ls 10 ds=ds++z1∧drn n ls 10 (ds++z1++[(⟨6,0,[]⟩:Dd)])=ds++z1++[(⟨6,0,[]⟩:Dd)]++z2∧z1.length≤32∧z2.length≤16∧
  ((ds++z1).length≤200→Settled (run n ls ds).1 (run n ls (ds++z1)).1∧∃c,(run n ls (ds++z1)).2=(run n ls ds).2++c∧∀e∈c,e=0)∧
  ((ds++z1++[(⟨6,0,[]⟩:Dd)]++z2).length≤200→(run n ls (ds++z1++[(⟨6,0,[]⟩:Dd)]++z2)).1.co.st=0∧(run n ls (ds++z1++[(⟨6,0,[]⟩:Dd)]++z2)).1.co.wts=[]∧(run n ls (ds++z1++[(⟨6,0,[]⟩:Dd)]++z2)).1.pn=(run n ls ds).1.pn∧(run n ls (ds++z1++[(⟨6,0,[]⟩:Dd)]++z2)).1.pk=(run n ls ds).1.pk):=by
 have hI:=run_inv (n:=n) (ls:=ls) hw (show ds.length≤1000 by omega)
 have hn:=hI.n8.2
 obtain⟨z1,a1,a2,a3⟩:=drn_ok (n:=n) (ls:=ls) hw 10 ds hl (by have:=rk_le (run n ls ds).1.co.st;omega)
 have b1:z1.length≤32:=by
  have h1:2*n*rk (run n ls ds).1.co.st≤16*2:=Nat.mul_le_mul (by omega) (rk_le _)
  omega
 by_cases hlong:200<(ds++z1++[(⟨6,0,[]⟩:Dd)]).length
 ·refine⟨z1,[],a1,?_,b1,by simp,a3,fun h=>?_⟩
  ·rw[drn_long hlong,List.append_nil]
  ·rw[List.append_nil] at h;omega
 ·have hm1:(ds++z1).length≤200:=by simp only[List.length_append,List.length_cons,List.length_nil] at hlong ⊢;omega
  obtain⟨hset,hc⟩:=a3 hm1
  have hI1:=run_inv (n:=n) (ls:=ls) hw (show(ds++z1).length≤1000 by omega)
  have hs1:(run n ls (ds++z1)).1.co.st=0∨(run n ls (ds++z1)).1.co.st=3:=by
   obtain⟨_,_,_,s4,s5,s6⟩:=hset
   rcases hI.sts with e | e | e | e | e
   ·exact Or.inl (s4 e).1
   ·exact Or.inr (s6 (Or.inl e)).1
   ·exact Or.inr (s6 (Or.inr (Or.inl e))).1
   ·exact Or.inr (s6 (Or.inr (Or.inr e))).1
   ·exact Or.inl (s5 e).1
  obtain⟨d1,d2,d3⟩:=drop_rest hI1 hs1
  have er:(run n ls (ds++z1++[(⟨6,0,[]⟩:Dd)])).1=(hapD n ls (run n ls (ds++z1)).1).1:=by rw[run_snoc,hap_drop]
  have hrk:rk (run n ls (ds++z1++[(⟨6,0,[]⟩:Dd)])).1.co.st≤1:=by
   rw[er]
   rcases d1 with e | e <;> rw[e] <;> decide
  obtain⟨z2,c1,c2,c3⟩:=drn_ok (n:=n) (ls:=ls) hw 10 (ds++z1++[(⟨6,0,[]⟩:Dd)]) (by omega) (by omega)
  refine⟨z1,z2,a1,c1,b1,?_,a3,fun h=>?_⟩
  ·have h1:2*n*rk (run n ls (ds++z1++[(⟨6,0,[]⟩:Dd)])).1.co.st≤16*1:=Nat.mul_le_mul (by omega) hrk
   omega
  ·obtain⟨⟨s1,s2,s3,s4,s5,s6⟩,_⟩:=c3 h
   rw[er] at s2 s3 s4 s5
   refine⟨?_,s1,s3.trans (d2.trans hset.2.2.1),s2.trans (d3.trans hset.2.1)⟩
   rcases d1 with e | e
   ·exact(s4 e).1
   ·exact(s5 e).1
theorem Inv.rest {n:Nat} {ls:List Lk} {t:Nat} {W:Wd} (h:Inv n ls t W) (hs:W.co.st=0) (hw:W.co.wts=[]):W.co.now=lp W.pn W.pn.length∧W.co.nxt=pl0∧W.co.now.v=W.pn.length∧∀s,s<n→W.sw.getD s Agt.sw0=⟨rls W.co.now s,stOf W.co.now s⟩:=by
 rcases h.dyn.stg with⟨_,h2,h3⟩ | ⟨h1,_⟩
 ·refine⟨h3,h2,by rw[h3];exact(h.pls.lp (Nat.le_refl _)).1,fun s hsn=>?_⟩
  rw[(h.dyn.core.quiet hw).2 s hsn]
  unfold aft
  rw[if_pos hs]
 ·omega
theorem ver_at {p:Pl} {s i:Nat} (hi:i<p.fs.length):Agt.ver (stOf p s) i=if(p.fs.getD i Fw.f0).fr=(s:Int) then p.v else 0:=by
 unfold stOf
 by_cases h:(p.fs.getD i Fw.f0).fr=(s:Int)
 ·rw[if_pos h]
  exact ver_stamps_of (mem_beg.2 ⟨i,hi,rfl,h⟩)
 ·rw[if_neg h]
  cases e:decide (Agt.ver (Agt.stamps p.v (beg s p.fs p.fs.length)) i=0) with
  | true=>exact of_decide_eq_true e
  | false=>
   exfalso
   obtain⟨k,_,k2,k3⟩:=mem_beg.1 (ver_stamps (of_decide_eq_false e)).1
   have:k=i:=by omega
   subst this
   exact h k3
end Go.Proofs.YtkfapjenckhmkaaGreatDoor.Rm
namespace Go.Proofs.YtkfapjenckhmkaaGreatDoor.Rm
open Go.RowKit Go.Deep Stw Stp Tb Rul Ct
theorem fnd_right {n:Int} {ls:List Lk} {f:Stf.Fl} (h:(fnd n ls f).1=0):(wrong n ls).1=0∧Stf.wflow f n=0:=by
 unfold fnd at h
 by_cases h1:(wrong n ls).1=0
 ·rw[if_neg (by simpa using h1)] at h
  by_cases h2:Stf.wflow f n=0
  ·exact⟨h1,h2⟩
  ·rw[if_pos h2] at h;exact absurd h h2
 ·rw[if_pos h1] at h;exact absurd h h1
theorem plan_one {n:Int} {ls:List Lk} {f:Stf.Fl} {v:Int} (h:(fnd n ls f).1=0) (h1:1≤v) (h2:v≤1000):(plnF n v ls [f]).1=0:=by
 obtain⟨a,b⟩:=fnd_right h
 have hb:(Stf.wflows [f] n).1=0:=by
  unfold Stf.wflows
  rw[if_neg (by simp),Stf.firstBad_none (fun k hk=>by
   have hk0:k=0:=by simp at hk;omega
   subst hk0;exact b)]
 unfold plnF
 rw[if_neg (by simpa using a),if_neg (by omega),if_neg (by simpa using hb),Stf.firstBad_none (fun k hk=>by
  have hk0:k=0:=by simp at hk;omega
  subst hk0;exact h)]
theorem plnP_one {n:Int} {ls:List Lk} {f:Stf.Fl}:plnP n ls [f]=[(fnd n ls f).2]:=rfl
theorem same_len {l:List Ru} (h:Ris l) (hs:∀a∈l,∀b∈l,a=b):l.length≤1:=by
 match l,h with
 | [],_=>simp
 | [_],_=>simp
 | a::b::r,h=>
  exfalso
  have e:=hs a (by simp) b (by simp)
  have hl:=(List.pairwise_cons.1 h).1 b (by simp)
  rw[e] at hl
  have:=lt_asymm hl
  rw[hl] at this
  cases this
theorem rls_one {n:Nat} {p:Pl} {q:List Int} {s:Nat} (hn:n≤8) (h:Gd n p) (hp:p.ps=[q]):(rls p s).length≤1:=by
 refine same_len (rls_ris hn (Or.inr h)) (fun a ha b hb=>?_)
 obtain⟨i,i1,k,k1,k2,rfl⟩:=mem_rof.1 ha
 obtain⟨j,j1,m,m1,m2,rfl⟩:=mem_rof.1 hb
 rw[hp] at i1 j1 k1 k2 m1 m2 ⊢
 simp only[List.length_cons,List.length_nil] at i1 j1
 have hi:i=0:=by omega
 have hj:j=0:=by omega
 subst hi hj
 simp only[List.getD_cons_zero] at k1 k2 m1 m2 ⊢
 have hnd:=(h.gp 0 (by rw[hp];simp)).2.1
 rw[hp] at hnd
 have e:k=m:=nd_get hnd (by simpa using(by omega:k<q.length)) (by simpa using(by omega:m<q.length)) (by simp only[List.getD_cons_zero];omega)
 rw[e]
theorem hap_pn {n:Nat} {ls:List Lk} {W:Wd} {d:Dd}:(hap n ls W d).1.pn=W.pn∨(d.k=1∧(hap n ls W d).2=0∧(hap n ls W d).1.pn=W.pn++[⟨nx W.co.now.v,d.fs,plnP n ls d.fs⟩]):=by
 unfold hap
 split
 ·rename_i h1
  unfold hapA
  split
  ·exact Or.inl rfl
  ·rename_i h0
   have h0':(askS W.co n ls d.fs).2=0:=by simpa using h0
   obtain⟨_,hA,_⟩:=(Ct.ask_cases h0').A
   exact Or.inr ⟨h1,rfl,by rw[hA]⟩
 ·left
  split
  ·unfold hapO
   split
   ·rfl
   ·split
    ·rfl
    ·split <;> rfl
  ·split
   ·unfold hapK
    split
    ·rfl
    ·split
     ·rfl
     ·split <;> rfl
   ·split
    ·unfold hapB
     split
     ·rfl
     ·split <;> rfl
    ·split
     ·unfold hapM
      split
      ·rfl
      ·split <;> rfl
     ·split
      ·unfold hapD
       split <;> rfl
      ·rfl
theorem runR_fs {n:Nat} {ls:List Lk} {fs0:List Stf.Fl}:∀{ds:List Dd} {q:Wd×List Int},(∀d∈ds,d.k=1→d.fs=fs0)→(∀P∈q.1.pn,P.fs=fs0)→∀P∈(runR n ls q ds).1.pn,P.fs=fs0
 | [],q,_,h=>h
 | d::r,q,hd,h=>by
  rw[runR_cons]
  refine runR_fs (fun e he=>hd e (by simp[he])) (fun P hP=>?_)
  have hP':P∈(hap n ls q.1 d).1.pn:=hP
  rcases hap_pn (n:=n) (ls:=ls) (W:=q.1) (d:=d) with e | ⟨e1,_,e2⟩
  ·rw[e] at hP';exact h P hP'
  ·rw[e2] at hP'
   rcases List.mem_append.1 hP' with hP' | hP'
   ·exact h P hP'
   ·rw[List.mem_singleton] at hP';rw[hP'];exact hd d (by simp) e1
theorem run_fs {n:Nat} {ls:List Lk} {fs0:List Stf.Fl} {ds:List Dd} (h:∀d∈ds,d.k=1→d.fs=fs0):∀P∈(run n ls ds).1.pn,P.fs=fs0:=runR_fs h (fun P hP=>by simp[wdN] at hP)
theorem Inv.one_path {n:Nat} {ls:List Lk} {t:Nat} {W:Wd} {f:Stf.Fl} (h:Inv n ls t W) (hall:∀P∈W.pn,P.fs=[f]) {m:Nat} (hm:m<W.pn.length):(W.pn.getD m pl0).ps=[(fnd n ls f).2]∧(W.pn.getD m pl0).fs=[f]:=by
 have h1:=hall (W.pn.getD m pl0) (by rw[List.getD_eq_getElem?_getD,List.getElem?_eq_getElem hm];exact List.getElem_mem _)
 obtain⟨fs,e,_⟩:=h.pls m hm
 rw[e] at h1 ⊢
 simp only at h1 ⊢
 rw[h1]
 exact⟨plnP_one,rfl⟩
theorem ask_ok {n:Nat} {ls:List Lk} {t:Nat} {W:Wd} {f:Stf.Fl} (h:Inv n ls t W) (ht:t≤900) (hst:W.co.st=0) (hf:(fnd n ls f).1=0) (hall:∀P∈W.pn,P.fs=[f]):(askS W.co n ls [f]).2=0:=by
 have hn:=h.n8.2
 have hnow:W.co.now=lp W.pn W.pn.length:=by
  rcases h.dyn.stg with⟨_,_,h3⟩ | ⟨h1,_⟩
  ·exact h3
  ·omega
 have hv:=(h.pls.lp (Nat.le_refl W.pn.length)).1
 have hpl:=h.pl
 have hnx:nx W.co.now.v=(W.pn.length:Int)+1:=by unfold nx;rw[hnow,hv,IntKind.wrap_i64];omega
 have hp:(plnF n (nx W.co.now.v) ls [f]).1=0:=plan_one hf (by omega) (by omega)
 have hg:Pln n ls (nx W.co.now.v) ⟨nx W.co.now.v,[f],plnP n ls [f]⟩:=⟨[f],rfl,hp⟩
 have hfl:full n W.co.now ⟨nx W.co.now.v,[f],plnP n ls [f]⟩=false:=by
  refine full_false (fun j _=>?_)
  have h1:=rls_one (s:=j) hn hg.gd plnP_one
  have h2:(rls W.co.now j).length≤1:=by
   rw[hnow]
   cases e:W.pn.length with
   | zero=>simp[lp,rls_pl0]
   | succ m=>
    have hm:m<W.pn.length:=by omega
    exact rls_one (s:=j) hn (h.pls m hm).gd (h.one_path hall hm).1
  omega
 unfold askS
 rw[if_neg (by omega),if_neg (by simpa using hp),if_neg (by rw[Int.toNat_natCast,hfl];simp)]
theorem hap_ask {n:Nat} {ls:List Lk} {W:Wd} {fs:List Stf.Fl}:hap n ls W ⟨1,0,fs⟩=hapA n ls W fs:=by
 unfold hap
 rw[if_pos rfl]
theorem drn1_kind {W:Wd} {d:Dd} (h:d∈drn1 W):d.k≠1:=by
 obtain⟨s,_,h2⟩:=List.mem_flatMap.1 h
 unfold acts at h2
 rcases List.mem_append.1 h2 with h | h
 ·obtain⟨_,_,h2⟩:=List.mem_flatMap.1 h
  simp only[List.mem_cons,List.not_mem_nil,or_false] at h2
  rcases h2 with rfl | rfl <;> simp
 ·obtain⟨_,_,rfl⟩:=List.mem_map.1 h;simp
theorem drn_kind {N:Int} {ls:List Lk} {fs0:List Stf.Fl}:∀(k:Nat) {es:List Dd},(∀d∈es,d.k=1→d.fs=fs0)→∀d∈drn N ls k es,d.k=1→d.fs=fs0
 | 0,_,h=>h
 | k+1,es,h=>by
  rw[drn]
  split
  ·exact h
  ·refine drn_kind k (fun d hd=>?_)
   rcases List.mem_append.1 hd with h1 | h1
   ·exact h d h1
   ·exact fun e=>absurd e (drn1_kind h1)
theorem kind_snoc {fs0:List Stf.Fl} {es:List Dd} {d:Dd} (h:∀d∈es,d.k=1→d.fs=fs0) (hd:d.k=1→d.fs=fs0):∀e∈es++[d],e.k=1→e.fs=fs0:=fun e he=>by
 rcases List.mem_append.1 he with h1 | h1
 ·exact h e h1
 ·rw[List.mem_singleton] at h1;rw[h1];exact hd
def mny (n:Int) (ls:List Lk) (f:Stf.Fl):Nat→List Dd
 | 0=>[]
 | j+1=>drn n ls 10 (drn n ls 10 (mny n ls f j++[⟨1,0,[f]⟩])++[⟨6,0,[]⟩])
theorem mny_kind {n:Int} {ls:List Lk} {f:Stf.Fl}:∀j,∀d∈mny n ls f j,d.k=1→d.fs=[f]
 | 0=>fun d hd=>by simp[mny] at hd
 | j+1=>drn_kind 10 (kind_snoc (drn_kind 10 (kind_snoc (mny_kind j) (fun _=>rfl))) (fun h=>by cases h))
theorem mny_ok {n:Nat} {ls:List Lk} {f:Stf.Fl} (hf:(fnd n ls f).1=0):∀j,j≤4→(mny n ls f j).length≤50*j∧(run n ls (mny n ls f j)).1.co.st=0∧(run n ls (mny n ls f j)).1.co.wts=[]∧(run n ls (mny n ls f j)).1.pn.length=j
 | 0,_=>⟨by simp[mny],rfl,rfl,rfl⟩
 | j+1,hj=>by
  obtain⟨h1,h2,h3,h4⟩:=mny_ok hf j (by omega)
  have hw:=(fnd_right hf).1
  have hI:=run_inv (n:=n) (ls:=ls) hw (show(mny n ls f j).length≤1000 by omega)
  have hl:(mny n ls f j++[(⟨1,0,[f]⟩:Dd)]).length≤50*j+1:=by simp;omega
  obtain⟨z1,z2,a1,a2,a3,a4,_,a6⟩:=settle2 (n:=n) (ls:=ls) hw (ds:=mny n ls f j++[⟨1,0,[f]⟩]) (by omega)
  have e:mny n ls f (j+1)=mny n ls f j++[⟨1,0,[f]⟩]++z1++[⟨6,0,[]⟩]++z2:=by rw[mny,a1,a2]
  have hlen:(mny n ls f (j+1)).length≤50*(j+1):=by
   rw[e]
   simp only[List.length_append,List.length_cons,List.length_nil] at hl ⊢
   omega
  obtain⟨b1,b2,b3,_⟩:=a6 (by rw[←e];omega)
  rw[←e] at b1 b2 b3
  have hask:=ask_ok hI (by omega) h2 hf (run_fs (mny_kind j))
  have hpn:(run n ls (mny n ls f j++[⟨1,0,[f]⟩])).1.pn.length=j+1:=by
   rw[run_snoc,hap_ask]
   unfold hapA
   rw[if_neg (by simpa using hask)]
   simp[h4]
  exact⟨hlen,b1,b2,by rw[b3,hpn]⟩
theorem busy {n:Nat} {ls:List Lk} {f:Stf.Fl} (hf:(fnd n ls f).1=0) {k:Nat} (hk:k≤(mny n ls f 1).length):
 ((run n ls ((mny n ls f 1).take k++[⟨1,0,[f]⟩])).2.getD k 0=0∧(run n ls ((mny n ls f 1).take k)).1.co.st=0)∨((run n ls ((mny n ls f 1).take k++[⟨1,0,[f]⟩])).2.getD k 0=11∧(run n ls ((mny n ls f 1).take k)).1.co.st≠0):=by
 have h1:=(mny_ok hf 1 (by omega)).1
 have hl:((mny n ls f 1).take k).length=k:=by rw[List.length_take];omega
 have hI:=run_inv (n:=n) (ls:=ls) (fnd_right hf).1 (show((mny n ls f 1).take k).length≤1000 by omega)
 have hc:(run n ls ((mny n ls f 1).take k)).2.length=k:=by rw[run_len];exact hl
 have e:(run n ls ((mny n ls f 1).take k++[⟨1,0,[f]⟩])).2.getD k 0=(hapA n ls (run n ls ((mny n ls f 1).take k)).1 [f]).2:=by
  rw[run_snoc,hap_ask]
  simp only
  rw[List.getD_eq_getElem?_getD,List.getElem?_append_right (by omega),hc]
  simp
 rw[e]
 by_cases hst:(run n ls ((mny n ls f 1).take k)).1.co.st=0
 ·left
  have hask:=ask_ok hI (by omega) hst hf (run_fs (fun d hd=>mny_kind 1 d (List.mem_of_mem_take hd)))
  unfold hapA
  rw[if_neg (by simpa using hask)]
  exact⟨rfl,hst⟩
 ·right
  have hask:(askS (run n ls ((mny n ls f 1).take k)).1.co n ls [f]).2=11:=by unfold askS;rw[if_pos hst]
  unfold hapA
  rw[if_pos (by rw[hask];decide)]
  exact⟨hask,hst⟩
end Go.Proofs.YtkfapjenckhmkaaGreatDoor.Rm
namespace Go.Proofs.YtkfapjenckhmkaaGreatDoor.Rm
open Go.RowKit Go.Deep Stw Stp Tb Rul Ct
def Goes (W:Wd):Prop:=W.co.st=1∨W.co.st=2∨W.co.st=3
theorem step23 {n:Nat} {ls:List Lk} {t:Nat} {W:Wd} {d:Dd} (h:Inv n ls t W) (hg:Goes W) (hd:d.k=2∨d.k=3):Goes (hap n ls W d).1∧(hap n ls W d).1.co.now=W.co.now∧(hap n ls W d).1.co.nxt=W.co.nxt∧(W.co.st≠1→(hap n ls W d).1.co.st≠1)∧(hap n ls W d).1.pn=W.pn∧(hap n ls W d).1.pk=W.pk:=by
 have same:∀x:Int,Goes (W,x).1∧(W,x).1.co.now=W.co.now∧(W,x).1.co.nxt=W.co.nxt∧(W.co.st≠1→(W,x).1.co.st≠1)∧(W,x).1.pn=W.pn∧(W,x).1.pk=W.pk:=fun _=>⟨hg,rfl,rfl,id,rfl,rfl⟩
 rcases hd with e | e
 ·have eh:hap n ls W d=hapO n W d.n:=by unfold hap;rw[if_neg (by omega),if_pos e]
  rw[eh]
  unfold hapO
  split
  ·exact same _
  ·split
   ·exact same _
   ·split
    ·exact same _
    ·exact⟨hg,rfl,rfl,id,rfl,rfl⟩
 ·have eh:hap n ls W d=hapK n ls W d.n:=by unfold hap;rw[if_neg (by omega),if_neg (by omega),if_pos e]
  rw[eh]
  unfold hapK
  split
  ·exact same _
  ·rename_i hr
   split
   ·exact same _
   ·rename_i k r hb
    obtain⟨_,_,hk,_,hB⟩:=back_done (ls:=ls) h (s:=d.n.toNat) (by omega) hb
    rw[hB]
    rw[if_neg (by simp)]
    have hne:W.co.st≠3:=fun e3=>by
     have:=h.dyn.wst.2 (Or.inr e3)
     rw[this] at hk;cases hk
    have h12:W.co.st=1∨W.co.st=2:=by rcases hg with e | e | e <;> first | exact Or.inl e | exact Or.inr e | exact absurd e hne
    obtain⟨a1,a2,a3⟩:=goS_A (n:=n) (g:=⟨⟨W.co.st,W.co.now,W.co.nxt,W.co.num,W.co.wts.erase k⟩,[]⟩) h12
    refine⟨?_,a1,a2,fun h1=>?_,rfl,rfl⟩
    ·show(goS n ⟨⟨W.co.st,W.co.now,W.co.nxt,W.co.num,W.co.wts.erase k⟩,[]⟩).c.st=1∨_
     rcases a3 with⟨b,_⟩ | ⟨b,_⟩
     ·exact b.imp id Or.inl
     ·exact Or.inr (Or.inr b)
    ·exact(goS_out2 (n:=n) (g:=⟨⟨W.co.st,W.co.now,W.co.nxt,W.co.num,W.co.wts.erase k⟩,[]⟩) h12 rfl).2.2.1 (by simp only;omega)
theorem Live.step {W V:Wd} {m:Nat} (h:Live W m) (hg:Goes V) (h1:V.co.now=W.co.now) (h2:V.co.nxt=W.co.nxt) (h3:W.co.st≠1→V.co.st≠1) (h4:V.pn=W.pn):Live V m:=by
 refine⟨by rw[h4];exact h.1,?_⟩
 rw[h4,h1,h2]
 refine h.2.imp id (fun⟨e,_,e1⟩=>⟨e,?_,h3 e1⟩)
 rcases hg with e | e | e <;> omega
theorem runR_23 {n:Nat} {ls:List Lk}:∀{ds:List Dd} {q:Wd×List Int} {t:Nat},Inv n ls t q.1→t+ds.length≤1000→Goes q.1→(∀d∈ds,d.k=2∨d.k=3)→Goes (runR n ls q ds).1∧(runR n ls q ds).1.co.now=q.1.co.now∧(runR n ls q ds).1.co.nxt=q.1.co.nxt∧(runR n ls q ds).1.pn=q.1.pn∧(runR n ls q ds).1.pk=q.1.pk
 | [],q,_,_,_,hg,_=>⟨hg,rfl,rfl,rfl,rfl⟩
 | d::r,q,t,h,ht,hg,hd=>by
  simp only[List.length_cons] at ht
  obtain⟨a1,a2,a3,_,a5,a6⟩:=step23 h hg (hd d (by simp))
  rw[runR_cons]
  obtain⟨b1,b2,b3,b4,b5⟩:=runR_23 (ds:=r) (q:=stepR n ls q d) (t:=t+1) (hap_inv h (by omega)) (by omega) a1 (fun e he=>hd e (by simp[he]))
  exact⟨b1,b2.trans a2,b3.trans a3,b4.trans a5,b5.trans a6⟩
structure Pak (n:Nat) (ls:List Lk) (W:Wd) (m j:Nat):Prop where
 gs:Goes W
 lv:Live W m
 ln:0<(W.pn.getD m pl0).ps.length
 l1:1≤((W.pn.getD m pl0).ps.getD 0 []).length
 pk:(j<((W.pn.getD m pl0).ps.getD 0 []).length∧1≤j∧W.pk=[⟨0,(m:Int)+1,((W.pn.getD m pl0).ps.getD 0 []).take j,false⟩])∨(((W.pn.getD m pl0).ps.getD 0 []).length≤j∧∃b,W.pk=[⟨0,(m:Int)+1,(W.pn.getD m pl0).ps.getD 0 [],b⟩])
theorem Pak.step {n:Nat} {ls:List Lk} {t:Nat} {W:Wd} {m j:Nat} {d:Dd} (h:Pak n ls W m j) (hI:Inv n ls t W) (hd:d.k=2∨d.k=3):Pak n ls (hap n ls W d).1 m j∧(hap n ls W d).1.pn=W.pn:=by
 obtain⟨a1,a2,a3,a4,a5,a6⟩:=step23 hI h.gs hd
 exact⟨⟨a1,h.lv.step a1 a2 a3 a4 a5,by rw[a5];exact h.ln,by rw[a5];exact h.l1,by rw[a5,a6];exact h.pk⟩,a5⟩
theorem hap_move {n:Nat} {ls:List Lk} {W:Wd}:hap n ls W ⟨5,0,[]⟩=hapM W 0:=by
 unfold hap
 simp only[show((5:Int)=1)=False by simp,show((5:Int)=2)=False by simp,show((5:Int)=3)=False by simp,show((5:Int)=4)=False by simp,if_false,if_true]
theorem Pak.move {n:Nat} {ls:List Lk} {t:Nat} {W:Wd} {m j:Nat} (h:Pak n ls W m j) (hI:Inv n ls t W):Pak n ls (hap n ls W ⟨5,0,[]⟩).1 m (j+1)∧(hap n ls W ⟨5,0,[]⟩).1.pn=W.pn:=by
 have h4:W.co.st≠4:=by rcases h.gs with e | e | e <;> omega
 rw[hap_move]
 have hl1:=h.l1
 rcases h.pk with⟨h1,h2,e⟩ | ⟨h1,b,e⟩
 ·have hm:=hI.live_mov h4 h.lv (p:=⟨0,(m:Int)+1,((W.pn.getD m pl0).ps.getD 0 []).take j,false⟩) (i:=0) (j:=j) rfl rfl h.ln h2 (by omega) rfl rfl
  rw[if_pos h1] at hm
  unfold hapM
  rw[e]
  simp only[List.length_cons,List.length_nil,Int.toNat_zero,List.getD_cons_zero,List.set_cons_zero]
  rw[if_neg (by omega),if_neg (by simp),hm]
  refine⟨⟨h.gs,h.lv,h.ln,h.l1,?_⟩,rfl⟩
  by_cases hj:j+1<((W.pn.getD m pl0).ps.getD 0 []).length
  ·exact Or.inl ⟨hj,by omega,rfl⟩
  ·refine Or.inr ⟨by simp only;omega,false,?_⟩
   simp only
   rw[List.take_of_length_le (by omega)]
   rfl
 ·cases b with
  | true=>
   have e2:hapM W 0=(W,6):=by
    unfold hapM
    rw[e]
    simp
   rw[e2]
   exact⟨⟨h.gs,h.lv,h.ln,h.l1,Or.inr ⟨by simp only;omega,true,e⟩⟩,rfl⟩
  | false=>
   have hm:=hI.live_mov h4 h.lv (p:=⟨0,(m:Int)+1,(W.pn.getD m pl0).ps.getD 0 [],false⟩) (i:=0) (j:=((W.pn.getD m pl0).ps.getD 0 []).length) rfl rfl h.ln hl1 (Nat.le_refl _) (by simp) rfl
   rw[if_neg (by omega)] at hm
   unfold hapM
   rw[e]
   simp only[List.length_cons,List.length_nil,Int.toNat_zero,List.getD_cons_zero,List.set_cons_zero]
   rw[if_neg (by omega),if_neg (by simp),hm]
   exact⟨⟨h.gs,h.lv,h.ln,h.l1,Or.inr ⟨by simp only;omega,true,rfl⟩⟩,rfl⟩
def wv (rest:List Dd):Nat→List Dd
 | 0=>[]
 | k+1=>wv rest k++(if k<rest.length then [rest.getD k dd0] else [])++[⟨5,0,[]⟩]
theorem wv_len (rest:List Dd):∀k,(wv rest k).length=k+min k rest.length
 | 0=>by simp[wv]
 | k+1=>by
  rw[wv,List.length_append,List.length_append,wv_len rest k]
  by_cases h:k<rest.length
  ·rw[if_pos h];simp;omega
  ·rw[if_neg h];simp;omega
theorem wv_fs {rest:List Dd} (h:∀d∈rest,d.fs=[]):∀k,∀d∈wv rest k,d.fs=[]
 | 0=>fun d hd=>by simp[wv] at hd
 | k+1=>fun d hd=>by
  rw[wv] at hd
  rcases List.mem_append.1 hd with hd | hd
  ·rcases List.mem_append.1 hd with hd | hd
   ·exact wv_fs h k d hd
   ·by_cases hk:k<rest.length
    ·rw[if_pos hk,List.mem_singleton] at hd
     rw[hd]
     exact h _ (by rw[List.getD_eq_getElem?_getD,List.getElem?_eq_getElem hk];exact List.getElem_mem _)
    ·rw[if_neg hk] at hd;cases hd
  ·rw[List.mem_singleton] at hd;rw[hd]
theorem wv_run {n:Nat} {ls:List Lk} {rest:List Dd} (hr:∀d∈rest,d.k=2∨d.k=3) {ds:List Dd} (hw:(wrong n ls).1=0) {m:Nat} (h:Pak n ls (run n ls ds).1 m 1):∀k,(ds++wv rest k).length≤990→Pak n ls (run n ls (ds++wv rest k)).1 m (k+1)∧(run n ls (ds++wv rest k)).1.pn=(run n ls ds).1.pn
 | 0,_=>by rw[wv,List.append_nil];exact⟨h,rfl⟩
 | k+1,hl=>by
  have hlk:(ds++wv rest k).length≤989:=by
   rw[wv] at hl
   simp only[List.length_append,List.length_cons,List.length_nil] at hl ⊢
   omega
  obtain⟨ih,ip⟩:=wv_run hr hw h k (by omega)
  have hI:=run_inv (n:=n) (ls:=ls) hw (show(ds++wv rest k).length≤1000 by omega)
  by_cases hk:k<rest.length
  ·have hd:rest.getD k dd0∈rest:=by rw[List.getD_eq_getElem?_getD,List.getElem?_eq_getElem hk];exact List.getElem_mem _
   obtain⟨p1,p2⟩:=ih.step hI (hr _ hd)
   have e1:(run n ls (ds++wv rest k++[rest.getD k dd0])).1=(hap n ls (run n ls (ds++wv rest k)).1 (rest.getD k dd0)).1:=by rw[run_snoc]
   rw[←e1] at p1 p2
   have hI2:=run_inv (n:=n) (ls:=ls) hw (show(ds++wv rest k++[rest.getD k dd0]).length≤1000 by rw[List.length_append];simp;simp at hlk;omega)
   obtain⟨q1,q2⟩:=p1.move hI2
   have e2:ds++wv rest (k+1)=ds++wv rest k++[rest.getD k dd0]++[⟨5,0,[]⟩]:=by rw[wv,if_pos hk];simp
   rw[e2,run_snoc]
   exact⟨q1,q2.trans (p2.trans ip)⟩
  ·obtain⟨q1,q2⟩:=ih.move hI
   have e2:ds++wv rest (k+1)=ds++wv rest k++[⟨5,0,[]⟩]:=by rw[wv,if_neg hk];simp
   rw[e2,run_snoc]
   exact⟨q1,q2.trans ip⟩
end Go.Proofs.YtkfapjenckhmkaaGreatDoor.Rm
namespace Go.Proofs.YtkfapjenckhmkaaGreatDoor.Rm
open Go.RowKit Go.Deep Stw Stp Tb Rul Ct
theorem ask_gen {n:Nat} {ls:List Lk} {t:Nat} {W:Wd} {g:Stf.Fl} (h:Inv n ls t W) (ht:t≤900) (hst:W.co.st=0) (hf:(fnd n ls g).1=0) (hall:∀m,m<W.pn.length→∃q,(W.pn.getD m pl0).ps=[q]):(askS W.co n ls [g]).2=0:=by
 have hn:=h.n8.2
 have hnow:W.co.now=lp W.pn W.pn.length:=by
  rcases h.dyn.stg with⟨_,_,h3⟩ | ⟨h1,_⟩
  ·exact h3
  ·omega
 have hv:=(h.pls.lp (Nat.le_refl W.pn.length)).1
 have hpl:=h.pl
 have hnx:nx W.co.now.v=(W.pn.length:Int)+1:=by unfold nx;rw[hnow,hv,IntKind.wrap_i64];omega
 have hp:(plnF n (nx W.co.now.v) ls [g]).1=0:=plan_one hf (by omega) (by omega)
 have hg:Pln n ls (nx W.co.now.v) ⟨nx W.co.now.v,[g],plnP n ls [g]⟩:=⟨[g],rfl,hp⟩
 have hfl:full n W.co.now ⟨nx W.co.now.v,[g],plnP n ls [g]⟩=false:=by
  refine full_false (fun j _=>?_)
  have h1:=rls_one (s:=j) hn hg.gd plnP_one
  have h2:(rls W.co.now j).length≤1:=by
   rw[hnow]
   cases e:W.pn.length with
   | zero=>simp[lp,rls_pl0]
   | succ m=>
    have hm:m<W.pn.length:=by omega
    obtain⟨q,hq⟩:=hall m hm
    exact rls_one (s:=j) hn (h.pls m hm).gd hq
  omega
 unfold askS
 rw[if_neg (by omega),if_neg (by simpa using hp),if_neg (by rw[Int.toNat_natCast,hfl];simp)]
theorem hap_pk {n:Nat} {ls:List Lk} {W:Wd} {d:Dd} (h:W.pk=[]) (hd:d.k≠4):(hap n ls W d).1.pk=[]:=by
 unfold hap
 split
 ·unfold hapA;split <;> exact h
 ·split
  ·unfold hapO
   split
   ·exact h
   ·split
    ·exact h
    ·split <;> exact h
  ·split
   ·unfold hapK
    split
    ·exact h
    ·split
     ·exact h
     ·split <;> exact h
   ·skip
    split
    ·unfold hapM
     rw[if_pos (by rw[h];simp)]
     exact h
    ·split
     ·unfold hapD;split <;> exact h
     ·exact h
theorem runR_pk {n:Nat} {ls:List Lk}:∀{ds:List Dd} {q:Wd×List Int},q.1.pk=[]→(∀d∈ds,d.k≠4)→(runR n ls q ds).1.pk=[]
 | [],q,h,_=>h
 | d::r,q,h,hd=>by rw[runR_cons];exact runR_pk (hap_pk h (hd d (by simp))) (fun e he=>hd e (by simp[he]))
theorem drn1_is {W:Wd} {d:Dd} (h:d∈drn1 W):(d.k=2∨d.k=3)∧d.fs=[]:=by
 obtain⟨s,_,h2⟩:=List.mem_flatMap.1 h
 unfold acts at h2
 rcases List.mem_append.1 h2 with h | h
 ·obtain⟨_,_,h2⟩:=List.mem_flatMap.1 h
  simp only[List.mem_cons,List.not_mem_nil,or_false] at h2
  rcases h2 with rfl | rfl
  ·exact⟨Or.inl rfl,rfl⟩
  ·exact⟨Or.inr rfl,rfl⟩
 ·obtain⟨_,_,rfl⟩:=List.mem_map.1 h;exact⟨Or.inr rfl,rfl⟩
theorem drn_suf {N:Int} {ls:List Lk}:∀(k:Nat) (es:List Dd),∃z,drn N ls k es=es++z∧∀d∈z,(d.k=2∨d.k=3)∧d.fs=[]
 | 0,es=>⟨[],by simp[drn],by simp⟩
 | k+1,es=>by
  rw[drn]
  split
  ·exact⟨[],by simp,by simp⟩
  ·obtain⟨z,h1,h2⟩:=drn_suf (N:=N) (ls:=ls) k (es++drn1 (plyW N ls es).1)
   refine⟨drn1 (plyW N ls es).1++z,by rw[h1,List.append_assoc],fun d hd=>?_⟩
   rcases List.mem_append.1 hd with h | h
   ·exact drn1_is h
   ·exact h2 d h
theorem mny_no4 {n:Int} {ls:List Lk} {f:Stf.Fl}:∀j,∀d∈mny n ls f j,d.k≠4
 | 0=>fun d hd=>by simp[mny] at hd
 | j+1=>fun d hd=>by
  rw[mny] at hd
  obtain⟨z1,a1,a2⟩:=drn_suf (N:=n) (ls:=ls) 10 (mny n ls f j++[⟨1,0,[f]⟩])
  obtain⟨z2,b1,b2⟩:=drn_suf (N:=n) (ls:=ls) 10 (drn n ls 10 (mny n ls f j++[⟨1,0,[f]⟩])++[⟨6,0,[]⟩])
  rw[b1,a1] at hd
  simp only[List.mem_append,List.mem_singleton] at hd
  rcases hd with(((h | rfl) | h) | rfl) | h
  ·exact mny_no4 j d h
  ·simp
  ·have:=(a2 d h).1;omega
  ·simp
  ·have:=(b2 d h).1;omega
theorem two_asked {n:Nat} {ls:List Lk} {f g:Stf.Fl} (hf:(fnd n ls f).1=0) (hg:(fnd n ls g).1=0) (hfg:g.fr=f.fr):
 ∃W,(run n ls (mny n ls f 1++[⟨1,0,[g]⟩])).1=W∧Goes W∧W.pk=[]∧W.pn.length=2∧(W.pn.getD 0 pl0).ps=[(fnd n ls f).2]∧(W.pn.getD 1 pl0).ps=[(fnd n ls g).2]∧W.co.now.fs.length=1∧(W.co.now.fs.getD 0 Fw.f0).fr=f.fr∧W.co.now.v=1∧W.co.nxt.fs.length=1∧(W.co.nxt.fs.getD 0 Fw.f0).fr=f.fr∧W.co.nxt.v=2:=by
 obtain⟨o1,o2,o3,o4⟩:=mny_ok hf 1 (by omega)
 have hw:=(fnd_right hf).1
 have hI:=run_inv (n:=n) (ls:=ls) hw (show(mny n ls f 1).length≤1000 by omega)
 have hall:=run_fs (n:=n) (ls:=ls) (mny_kind (n:=n) (ls:=ls) (f:=f) 1)
 have hpk:(run n ls (mny n ls f 1)).1.pk=[]:=runR_pk (by rfl) (mny_no4 1)
 rw[run_snoc,hap_ask]
 simp only
 generalize (run n ls (mny n ls f 1)).1=V at hI o2 o3 o4 hall hpk
 have h0:0<V.pn.length:=by omega
 obtain⟨k1,k2⟩:=hI.one_path hall h0
 have hask:=ask_gen hI (by omega) o2 hg (fun m hm=>by
  have hm0:m=0:=by omega
  subst hm0;exact⟨_,k1⟩)
 obtain⟨a1,a2,a3⟩:=(Ct.ask_cases hask).A
 obtain⟨r1,_,r3,_⟩:=hI.rest o2 o3
 have hnow:V.co.now=V.pn.getD 0 pl0:=by rw[r1,o4];rfl
 have hv:V.co.now.v=1:=by rw[r3,o4];rfl
 have hnx:nx V.co.now.v=2:=by rw[hv];rfl
 unfold hapA
 rw[if_neg (by simpa using hask)]
 refine⟨_,rfl,?_,hpk,by simp[o4],?_,?_,?_,?_,?_,?_,?_,?_⟩
 ·rcases a3 with⟨b,_⟩ | ⟨b,_⟩
  ·exact b.imp id Or.inl
  ·exact Or.inr (Or.inr b)
 ·simp only
  rw[show(V.pn++[(askS V.co n ls [g]).1.c.nxt]).getD 0 pl0=V.pn.getD 0 pl0 from lp_append (m:=1) (by omega)]
  exact k1
 ·simp only
  have e:=lp_last (pn:=V.pn) (p:=(askS V.co n ls [g]).1.c.nxt)
  rw[o4] at e
  rw[show(V.pn++[(askS V.co n ls [g]).1.c.nxt]).getD 1 pl0=(askS V.co n ls [g]).1.c.nxt from e,a2]
  exact plnP_one
 ·simp only;rw[a1,hnow,k2];rfl
 ·simp only;rw[a1,hnow,k2];rfl
 ·simp only;rw[a1];exact hv
 ·simp only;rw[a2];rfl
 ·simp only;rw[a2];exact hfg
 ·simp only;rw[a2];exact hnx
theorem Inv.begins {n:Nat} {ls:List Lk} {t:Nat} {V:Wd} {fr:Int} (h:Inv n ls t V) (hg:Goes V) (hpk:V.pk=[]) (hr:0≤fr∧fr<(n:Int)) (h1:V.co.now.fs.length=1) (h2:(V.co.now.fs.getD 0 Fw.f0).fr=fr) (h3:V.co.now.v=1) (h4:V.co.nxt.fs.length=1) (h5:(V.co.nxt.fs.getD 0 Fw.f0).fr=fr) (h6:V.co.nxt.v=2):
 ∃m,Pak n ls (hap n ls V ⟨4,0,[]⟩).1 m 1∧m<V.pn.length∧(hap n ls V ⟨4,0,[]⟩).1.pn=V.pn:=by
 have hh:hap n ls V ⟨4,0,[]⟩=(⟨V.co,V.sw,V.od,V.bk,[newP V.sw 0 fr],V.pn⟩,0):=by
  unfold hap
  simp only[show((4:Int)=1)=False by simp,show((4:Int)=2)=False by simp,show((4:Int)=3)=False by simp,if_false,if_true]
  unfold hapB
  have hfr:frm V.co 0=some fr:=by unfold frm;rw[if_pos (by omega)];simp only[Int.toNat_zero,h5]
  rw[if_neg (by rw[hpk];simp),hfr,hpk]
  rfl
 rw[hh]
 obtain⟨s,hs⟩:=Int.eq_ofNat_of_zero_le hr.1
 have hsn:s<n:=by omega
 have hst:Agt.ver (V.sw.getD s Agt.sw0).st 0≠0:=by
  rcases h.sw_st hsn with e | e
  ·rw[e]
   have hva:=ver_at (p:=V.co.now) (s:=s) (i:=0) (by omega)
   rw[if_pos (by rw[h2];exact hs)] at hva
   show Agt.ver (stOf V.co.now s) ((0:Nat):Int)≠0
   rw[hva,h3];decide
  ·rw[e]
   have hva:=ver_at (p:=V.co.nxt) (s:=s) (i:=0) (by omega)
   rw[if_pos (by rw[h5];exact hs)] at hva
   show Agt.ver (stOf V.co.nxt s) ((0:Nat):Int)≠0
   rw[hva,h6];decide
 rcases h.new_live (f:=0) (a:=fr) with e | ⟨m,i,hv,hi0,hi,hl,e⟩
 ·exfalso
  unfold newP at e
  split at e
  ·rename_i x hx
   have h4:=(sat_some hx).2.2.2.1
   have e2:x.2=0:=congrArg Pk.v e
   exact h4 e2
  ·rename_i hx
   exact hst (sat_none hx s)
 ·have hi00:i=0:=by omega
  subst hi00
  refine⟨m,⟨hg,hv,hi,hl,?_⟩,hv.1,rfl⟩
  simp only
  rw[e]
  by_cases hl1:1<((V.pn.getD m pl0).ps.getD 0 []).length
  ·exact Or.inl ⟨hl1,Nat.le_refl _,rfl⟩
  ·refine Or.inr ⟨by omega,false,?_⟩
   rw[List.take_of_length_le (by omega)]
   rfl
theorem two_all {n:Nat} {ls:List Lk} {f g:Stf.Fl} (hf:(fnd n ls f).1=0) (hg:(fnd n ls g).1=0) (hfg:g.fr=f.fr) (hr:0≤f.fr∧f.fr<(n:Int)):
 ∃z,drn n ls 10 (mny n ls f 1++[⟨1,0,[g]⟩])=mny n ls f 1++[⟨1,0,[g]⟩]++z∧(mny n ls f 1).length≤50∧z.length≤32∧(∀d∈z,d.fs=[])∧
  ∀j k,j≤z.length→8≤k→k≤100→∃X c,run n ls (mny n ls f 1++[⟨1,0,[g]⟩]++z.take j++[⟨4,0,[]⟩]++wv (z.drop j) k)=(X,c)∧X.pk.length=1∧((X.pk.getD 0 pk0).tr=(fnd n ls f).2∨(X.pk.getD 0 pk0).tr=(fnd n ls g).2):=by
 have hw:=(fnd_right hf).1
 have hm:=(mny_ok hf 1 (by omega)).1
 have hn8:=(run_inv (n:=n) (ls:=ls) (ds:=[]) hw (by simp)).n8.2
 obtain⟨W,w0,w1,w2,w3,w4,w5,w6,w7,w8,w9,w10,w11⟩:=two_asked hf hg hfg
 obtain⟨z,a1,a2⟩:=drn_suf (N:=n) (ls:=ls) 10 (mny n ls f 1++[⟨1,0,[g]⟩])
 obtain⟨z',b1,b2,_⟩:=drn_ok (n:=n) (ls:=ls) hw 10 (mny n ls f 1++[⟨1,0,[g]⟩]) (by simp;omega) (by have:=rk_le (run n ls (mny n ls f 1++[⟨1,0,[g]⟩])).1.co.st;omega)
 have hzz:z'=z:=by rw[a1] at b1;exact(List.append_cancel_left b1).symm
 have hz32:z.length≤32:=by
  rw[←hzz]
  have h1:2*n*rk (run n ls (mny n ls f 1++[⟨1,0,[g]⟩])).1.co.st≤16*2:=Nat.mul_le_mul (by omega) (rk_le _)
  omega
 refine⟨z,a1,by omega,hz32,fun d hd=>(a2 d hd).2,fun j k hj hk hk2=>?_⟩
 have hlen:(mny n ls f 1++[(⟨1,0,[g]⟩:Dd)]).length≤51:=by simp;omega
 have hI:=run_inv (n:=n) (ls:=ls) hw (show(mny n ls f 1++[(⟨1,0,[g]⟩:Dd)]).length≤1000 by omega)
 have htl:(z.take j).length≤32:=by rw[List.length_take];omega
 have hI2:=run_inv (n:=n) (ls:=ls) hw (show(mny n ls f 1++[(⟨1,0,[g]⟩:Dd)]++z.take j).length≤1000 by rw[List.length_append];omega)
 have h23:=runR_23 (n:=n) (ls:=ls) (ds:=z.take j) (q:=run n ls (mny n ls f 1++[⟨1,0,[g]⟩])) hI (by omega) (by rw[w0];exact w1) (fun d hd=>(a2 d (List.mem_of_mem_take hd)).1)
 rw[←run_append,w0] at h23
 obtain⟨g1,g2,g3,g4,g5⟩:=h23
 generalize hV:(run n ls (mny n ls f 1++[⟨1,0,[g]⟩]++z.take j)).1=V at hI2 g1 g2 g3 g4 g5
 obtain⟨m,p1,p2,p3⟩:=hI2.begins (fr:=f.fr) g1 (by rw[g5];exact w2) hr (by rw[g2];exact w6) (by rw[g2];exact w7) (by rw[g2];exact w8) (by rw[g3];exact w9) (by rw[g3];exact w10) (by rw[g3];exact w11)
 have hB:(run n ls (mny n ls f 1++[⟨1,0,[g]⟩]++z.take j++[⟨4,0,[]⟩])).1=(hap n ls V ⟨4,0,[]⟩).1:=by rw[run_snoc,hV]
 have hpk:Pak n ls (run n ls (mny n ls f 1++[⟨1,0,[g]⟩]++z.take j++[⟨4,0,[]⟩])).1 m 1:=by rw[hB];exact p1
 have hwl:=wv_len (z.drop j) k
 have hdl:(z.drop j).length≤32:=by rw[List.length_drop];omega
 obtain⟨q1,q2⟩:=wv_run (n:=n) (ls:=ls) (rest:=z.drop j) (fun d hd=>(a2 d (List.mem_of_mem_drop hd)).1) hw hpk k (by simp only[List.length_append,List.length_cons,List.length_nil] at hlen htl ⊢;omega)
 rw[hB,p3,g4] at q2
 generalize run n ls (mny n ls f 1++[⟨1,0,[g]⟩]++z.take j++[⟨4,0,[]⟩]++wv (z.drop j) k)=q at q1 q2
 obtain⟨X,c⟩:=q
 simp only at q1 q2
 have hm2:m<W.pn.length:=by rw[←g4];exact p2
 have hps:((W.pn.getD m pl0).ps.getD 0 []=(fnd n ls f).2∨(W.pn.getD m pl0).ps.getD 0 []=(fnd n ls g).2):=by
  rw[w3] at hm2
  rcases(show m=0∨m=1 by omega) with e | e
  ·subst e;rw[w4];exact Or.inl rfl
  ·subst e;rw[w5];exact Or.inr rfl
 have hl8:((W.pn.getD m pl0).ps.getD 0 []).length≤8:=by
  have hIW:=hI
  rw[w0] at hIW
  exact(hIW.pls m hm2).head.2.2 0
 refine⟨X,c,rfl,?_⟩
 have hk1:=q1.pk
 rw[q2] at hk1
 rcases hk1 with⟨e1,_⟩ | ⟨_,b,e⟩
 ·omega
 ·rw[e]
  exact⟨rfl,hps⟩
end Go.Proofs.YtkfapjenckhmkaaGreatDoor.Rm
