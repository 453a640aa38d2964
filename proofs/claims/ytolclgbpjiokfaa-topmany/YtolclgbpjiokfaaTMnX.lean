/- TopMany: so many changes that are asked for, and settled, give as many versions; of flows that stay the same paths stay so; for every input. -/
import Derived.Test.YtolclgbpjiokfaaU38
import Derived.Test.YtolclgbpjiokfaaU39
import Derived.Test.YtolclgbpjiokfaaU36
import Derived.Test.YtolclgbpjiokfaaU43
import Derived.Test.YtolclgbpjiokfaaU24
namespace Go.Proofs.Ytolclgbpjiokfaa.Rm
open Go.RowKit Go.Deep Stw Stp Tb Rul Ct
theorem step_append_rs {ops:Array Oper} {o:Oper} {a:Act} {W:World} {K:Act→World→Prop} {Q:Exit→Act→World→Prop} {E:Prop} (hgd:o.guard=none) (s x:Operand)
 (ho:o.op=.call {callee:=.builtin .append,args:=#[s,x],argTypes:=#[25,25]}) {z y:World} {g:Option Nat} {v:Value} {ds es:List Dd} {ad:Addr} {lb cb:Nat}
 (hs:a.eval s=v) (hx:a.eval x=.slice (some ad) lb cb) (h:RS z y g W v ds) (hlen:es.length=lb) (h0:0<lb) (hb:DosIn z W (some ad) es) (hn:ds.length+lb≤1000000)
 (hK:∀b off cap W',RS z y g W' (.slice (some ⟨b,off,none⟩) (ds.length+lb) cap) (ds++es)→K (a.put o.dst (.slice (some ⟨b,off,none⟩) (ds.length+lb) cap)) W'):
 if Region.wanted o (yielded ops a.tmps)=true then Oper.wp Try.prog o a W K Q else E:=by
 have hw:Region.wanted o (yielded ops a.tmps)=true:=by simp[Region.wanted,hgd]
 rw[if_pos hw]
 obtain⟨b,off,cap,W',hr,h2⟩:=h.append (cb:=cb) hlen h0 hb hn
 unfold Oper.wp execOp
 simp only[ho,resolve,invoke,builtin,Sem.run_bind,Sem.run_pure,Result.andThen_ok,List.map_toArray,List.map_cons,List.map_nil,hs,hx,hr]
 exact hK b off cap W' h2
theorem step_copy_dos {ops:Array Oper} {o:Oper} {a:Act} {W:World} {K:Act→World→Prop} {Q:Exit→Act→World→Prop} {E:Prop} (hgd:o.guard=none) (s x:Operand)
 (ho:o.op=.call {callee:=.builtin .append,args:=#[s,x],argTypes:=#[25,25]}) {z:World} {g:Nat} {es:List Dd} {bo:Option Addr} {lb cb:Nat}
 (hs:a.eval s=.slice (some ⟨g,0,none⟩) 0 0) (hx:a.eval x=.slice bo lb cb) (hg:W.heap[g]? =some (.cells #[] 66 (0,0))) (hz:z.heap.size≤g) (hlen:es.length=lb) (hb:DosIn z W bo es) (hnil:bo=none→lb=0∧cb=0) (hn:lb≤1000000)
 (hK:∀ao cap W',DO z W' (.slice ao lb cap) es→W.grownBy W' (some g)→(∀k,(Value.slice ao lb cap).ownBlock=some k→g≤k)→K (a.put o.dst (.slice ao lb cap)) W'):
 if Region.wanted o (yielded ops a.tmps)=true then Oper.wp Try.prog o a W K Q else E:=by
 have hw:Region.wanted o (yielded ops a.tmps)=true:=by simp[Region.wanted,hgd]
 rw[if_pos hw]
 obtain⟨ao,cap,W',hr,h1,h2,h3⟩:=copy_dos (cb:=cb) hg hz hlen hb hnil hn
 unfold Oper.wp execOp
 simp only[ho,resolve,invoke,builtin,Sem.run_bind,Sem.run_pure,Result.andThen_ok,List.map_toArray,List.map_cons,List.map_nil,hs,hx,hr]
 exact hK ao cap W' h1 h2 h3
end Go.Proofs.Ytolclgbpjiokfaa.Rm
namespace Go.Proofs.Ytolclgbpjiokfaa.Rm
open Go.RowKit Go.Deep Stw Stp Tb Rul Ct
theorem hap_drop {n:Nat} {ls:List Lk} {W:Wd}:hap n ls W ⟨6,0,[]⟩=hapD n ls W:=by
 unfold hap
 simp only[show((6:Int)=1)=False by simp,show((6:Int)=2)=False by simp,show((6:Int)=3)=False by simp,show((6:Int)=4)=False by simp,show((6:Int)=5)=False by simp,if_false,if_true]
theorem run_snoc {n:Nat} {ls:List Lk} {ds:List Dd} {d:Dd}:run n ls (ds++[d])=((hap n ls (run n ls ds).1 d).1,(run n ls ds).2++[(hap n ls (run n ls ds).1 d).2]):=by
 rw[run_append];rfl
theorem rk_le (st:Int):rk st≤2:=by unfold rk;split;· omega
                                   split <;> omega
theorem drop_rest {n:Nat} {ls:List Lk} {t:Nat} {W:Wd} (h:Inv n ls t W) (hs:W.co.st=0∨W.co.st=3):((hapD n ls W).1.co.st=0∨(hapD n ls W).1.co.st=4)∧(hapD n ls W).1.pn=W.pn∧(hapD n ls W).1.pk=W.pk:=by
 rcases hs with e | e
 ·have h1:(dropS W.co n ls).2≠0:=by
   unfold dropS
   rw[if_neg (by simpa using h.wr),if_pos (by omega)]
   simp
  unfold hapD
  rw[if_pos h1]
  exact⟨Or.inl e,rfl,rfl⟩
 ·have h1:=drop_calm (n:=n) (ls:=ls) h.wr e
  have h2:=drop_B (n:=n) (ls:=ls) h.wr e
  unfold hapD
  rw[if_neg (by rw[h1];simp)]
  refine⟨?_,rfl,rfl⟩
  rcases h2 with⟨e1,_⟩ | ⟨e1,_⟩
  ·exact Or.inr e1
  ·exact Or.inl e1
theorem settle2 {n:Nat} {ls:List Lk} (hw:(wrong n ls).1=0) {ds:List Dd} (hl:ds.length≤200):
 ∃z1 z2,drn n ls 10 ds=ds++z1∧drn n ls 10 (ds++z1++[(⟨6,0,[]⟩:Dd)])=ds++z1++[(⟨6,0,[]⟩:Dd)]++z2∧z1.length≤32∧z2.length≤16∧
  ((ds++z1).length≤200→Settled (run n ls ds).1 (run n ls (ds++z1)).1∧∃c,(run n ls (ds++z1)).2=(run n ls ds).2++c∧∀e∈c,e=0)∧
  ((ds++z1++[(⟨6,0,[]⟩:Dd)]++z2).length≤200→(run n ls (ds++z1++[(⟨6,0,[]⟩:Dd)]++z2)).1.co.st=0∧(run n ls (ds++z1++[(⟨6,0,[]⟩:Dd)]++z2)).1.co.wts=[]∧(run n ls (ds++z1++[(⟨6,0,[]⟩:Dd)]++z2)).1.pn=(run n ls ds).1.pn∧(run n ls (ds++z1++[(⟨6,0,[]⟩:Dd)]++z2)).1.pk=(run n ls ds).1.pk):=by
 have hI:=run_inv (n:=n) (ls:=ls) hw (show ds.length≤1000 by omega)
 have hn:=hI.n8.2
 obtain⟨z1,a1,a2,a3⟩:=drn_ok (n:=n) (ls:=ls) hw 10 ds hl (by have:=rk_le (run n ls ds).1.co.st;omega)
 have b1:z1.length≤32:=by
  have h1:2*n*rk (run n ls ds).1.co.st≤16*2:=Nat.mul_le_mul (by omega) (rk_le _)
  omega
 by_cases hlong:200<(ds++z1++[(⟨6,0,[]⟩:Dd)]).length
 ·refine⟨z1,[],a1,?_,b1,by simp,a3,fun h=>?_⟩
  ·rw[drn_long hlong,List.append_nil]
  ·rw[List.append_nil] at h;omega
 ·have hm1:(ds++z1).length≤200:=by simp only[List.length_append,List.length_cons,List.length_nil] at hlong ⊢;omega
  obtain⟨hset,hc⟩:=a3 hm1
  have hI1:=run_inv (n:=n) (ls:=ls) hw (show(ds++z1).length≤1000 by omega)
  have hs1:(run n ls (ds++z1)).1.co.st=0∨(run n ls (ds++z1)).1.co.st=3:=by
   obtain⟨_,_,_,s4,s5,s6⟩:=hset
   rcases hI.sts with e | e | e | e | e
   ·exact Or.inl (s4 e).1
   ·exact Or.inr (s6 (Or.inl e)).1
   ·exact Or.inr (s6 (Or.inr (Or.inl e))).1
   ·exact Or.inr (s6 (Or.inr (Or.inr e))).1
   ·exact Or.inl (s5 e).1
  obtain⟨d1,d2,d3⟩:=drop_rest hI1 hs1
  have er:(run n ls (ds++z1++[(⟨6,0,[]⟩:Dd)])).1=(hapD n ls (run n ls (ds++z1)).1).1:=by rw[run_snoc,hap_drop]
  have hrk:rk (run n ls (ds++z1++[(⟨6,0,[]⟩:Dd)])).1.co.st≤1:=by
   rw[er]
   rcases d1 with e | e <;> rw[e] <;> decide
  obtain⟨z2,c1,c2,c3⟩:=drn_ok (n:=n) (ls:=ls) hw 10 (ds++z1++[(⟨6,0,[]⟩:Dd)]) (by omega) (by omega)
  refine⟨z1,z2,a1,c1,b1,?_,a3,fun h=>?_⟩
  ·have h1:2*n*rk (run n ls (ds++z1++[(⟨6,0,[]⟩:Dd)])).1.co.st≤16*1:=Nat.mul_le_mul (by omega) hrk
   omega
  ·obtain⟨⟨s1,s2,s3,s4,s5,s6⟩,_⟩:=c3 h
   rw[er] at s2 s3 s4 s5
   refine⟨?_,s1,s3.trans (d2.trans hset.2.2.1),s2.trans (d3.trans hset.2.1)⟩
   rcases d1 with e | e
   ·exact(s4 e).1
   ·exact(s5 e).1
theorem Inv.rest {n:Nat} {ls:List Lk} {t:Nat} {W:Wd} (h:Inv n ls t W) (hs:W.co.st=0) (hw:W.co.wts=[]):W.co.now=lp W.pn W.pn.length∧W.co.nxt=pl0∧W.co.now.v=W.pn.length∧∀s,s<n→W.sw.getD s Agt.sw0=⟨rls W.co.now s,stOf W.co.now s⟩:=by
 rcases h.dyn.stg with⟨_,h2,h3⟩ | ⟨h1,_⟩
 ·refine⟨h3,h2,by rw[h3];exact(h.pls.lp (Nat.le_refl _)).1,fun s hsn=>?_⟩
  rw[(h.dyn.core.quiet hw).2 s hsn]
  unfold aft
  rw[if_pos hs]
 ·omega
theorem ver_at {p:Pl} {s i:Nat} (hi:i<p.fs.length):Agt.ver (stOf p s) i=if(p.fs.getD i Fw.f0).fr=(s:Int) then p.v else 0:=by
 unfold stOf
 by_cases h:(p.fs.getD i Fw.f0).fr=(s:Int)
 ·rw[if_pos h]
  exact ver_stamps_of (mem_beg.2 ⟨i,hi,rfl,h⟩)
 ·rw[if_neg h]
  cases e:decide (Agt.ver (Agt.stamps p.v (beg s p.fs p.fs.length)) i=0) with
  | true=>exact of_decide_eq_true e
  | false=>
   exfalso
   obtain⟨k,_,k2,k3⟩:=mem_beg.1 (ver_stamps (of_decide_eq_false e)).1
   have:k=i:=by omega
   subst this
   exact h k3
end Go.Proofs.Ytolclgbpjiokfaa.Rm
namespace Go.Proofs.Ytolclgbpjiokfaa.Rm
open Go.RowKit Go.Deep Stw Stp Tb Rul Ct
theorem fnd_right {n:Int} {ls:List Lk} {f:Stf.Fl} (h:(fnd n ls f).1=0):(wrong n ls).1=0∧Stf.wflow f n=0:=by
 unfold fnd at h
 by_cases h1:(wrong n ls).1=0
 ·rw[if_neg (by simpa using h1)] at h
  by_cases h2:Stf.wflow f n=0
  ·exact⟨h1,h2⟩
  ·rw[if_pos h2] at h;exact absurd h h2
 ·rw[if_pos h1] at h;exact absurd h h1
theorem plan_one {n:Int} {ls:List Lk} {f:Stf.Fl} {v:Int} (h:(fnd n ls f).1=0) (h1:1≤v) (h2:v≤1000):(plnF n v ls [f]).1=0:=by
 obtain⟨a,b⟩:=fnd_right h
 have hb:(Stf.wflows [f] n).1=0:=by
  unfold Stf.wflows
  rw[if_neg (by simp),Stf.firstBad_none (fun k hk=>by
   have hk0:k=0:=by simp at hk;omega
   subst hk0;exact b)]
 unfold plnF
 rw[if_neg (by simpa using a),if_neg (by omega),if_neg (by simpa using hb),Stf.firstBad_none (fun k hk=>by
  have hk0:k=0:=by simp at hk;omega
  subst hk0;exact h)]
theorem plnP_one {n:Int} {ls:List Lk} {f:Stf.Fl}:plnP n ls [f]=[(fnd n ls f).2]:=rfl
theorem same_len {l:List Ru} (h:Ris l) (hs:∀a∈l,∀b∈l,a=b):l.length≤1:=by
 match l,h with
 | [],_=>simp
 | [_],_=>simp
 | a::b::r,h=>
  exfalso
  have e:=hs a (by simp) b (by simp)
  have hl:=(List.pairwise_cons.1 h).1 b (by simp)
  rw[e] at hl
  have:=lt_asymm hl
  rw[hl] at this
  cases this
theorem rls_one {n:Nat} {p:Pl} {q:List Int} {s:Nat} (hn:n≤8) (h:Gd n p) (hp:p.ps=[q]):(rls p s).length≤1:=by
 refine same_len (rls_ris hn (Or.inr h)) (fun a ha b hb=>?_)
 obtain⟨i,i1,k,k1,k2,rfl⟩:=mem_rof.1 ha
 obtain⟨j,j1,m,m1,m2,rfl⟩:=mem_rof.1 hb
 rw[hp] at i1 j1 k1 k2 m1 m2 ⊢
 simp only[List.length_cons,List.length_nil] at i1 j1
 have hi:i=0:=by omega
 have hj:j=0:=by omega
 subst hi hj
 simp only[List.getD_cons_zero] at k1 k2 m1 m2 ⊢
 have hnd:=(h.gp 0 (by rw[hp];simp)).2.1
 rw[hp] at hnd
 have e:k=m:=nd_get hnd (by simpa using(by omega:k<q.length)) (by simpa using(by omega:m<q.length)) (by simp only[List.getD_cons_zero];omega)
 rw[e]
theorem hap_pn {n:Nat} {ls:List Lk} {W:Wd} {d:Dd}:(hap n ls W d).1.pn=W.pn∨(d.k=1∧(hap n ls W d).2=0∧(hap n ls W d).1.pn=W.pn++[⟨nx W.co.now.v,d.fs,plnP n ls d.fs⟩]):=by
 unfold hap
 split
 ·rename_i h1
  unfold hapA
  split
  ·exact Or.inl rfl
  ·rename_i h0
   have h0':(askS W.co n ls d.fs).2=0:=by simpa using h0
   obtain⟨_,hA,_⟩:=(Ct.ask_cases h0').A
   exact Or.inr ⟨h1,rfl,by rw[hA]⟩
 ·left
  split
  ·unfold hapO
   split
   ·rfl
   ·split
    ·rfl
    ·split <;> rfl
  ·split
   ·unfold hapK
    split
    ·rfl
    ·split
     ·rfl
     ·split <;> rfl
   ·split
    ·unfold hapB
     split
     ·rfl
     ·split <;> rfl
    ·split
     ·unfold hapM
      split
      ·rfl
      ·split <;> rfl
     ·split
      ·unfold hapD
       split <;> rfl
      ·rfl
theorem runR_fs {n:Nat} {ls:List Lk} {fs0:List Stf.Fl}:∀{ds:List Dd} {q:Wd×List Int},(∀d∈ds,d.k=1→d.fs=fs0)→(∀P∈q.1.pn,P.fs=fs0)→∀P∈(runR n ls q ds).1.pn,P.fs=fs0
 | [],q,_,h=>h
 | d::r,q,hd,h=>by
  rw[runR_cons]
  refine runR_fs (fun e he=>hd e (by simp[he])) (fun P hP=>?_)
  have hP':P∈(hap n ls q.1 d).1.pn:=hP
  rcases hap_pn (n:=n) (ls:=ls) (W:=q.1) (d:=d) with e | ⟨e1,_,e2⟩
  ·rw[e] at hP';exact h P hP'
  ·rw[e2] at hP'
   rcases List.mem_append.1 hP' with hP' | hP'
   ·exact h P hP'
   ·rw[List.mem_singleton] at hP';rw[hP'];exact hd d (by simp) e1
theorem run_fs {n:Nat} {ls:List Lk} {fs0:List Stf.Fl} {ds:List Dd} (h:∀d∈ds,d.k=1→d.fs=fs0):∀P∈(run n ls ds).1.pn,P.fs=fs0:=runR_fs h (fun P hP=>by simp[wdN] at hP)
theorem Inv.one_path {n:Nat} {ls:List Lk} {t:Nat} {W:Wd} {f:Stf.Fl} (h:Inv n ls t W) (hall:∀P∈W.pn,P.fs=[f]) {m:Nat} (hm:m<W.pn.length):(W.pn.getD m pl0).ps=[(fnd n ls f).2]∧(W.pn.getD m pl0).fs=[f]:=by
 have h1:=hall (W.pn.getD m pl0) (by rw[List.getD_eq_getElem?_getD,List.getElem?_eq_getElem hm];exact List.getElem_mem _)
 obtain⟨fs,e,_⟩:=h.pls m hm
 rw[e] at h1 ⊢
 simp only at h1 ⊢
 rw[h1]
 exact⟨plnP_one,rfl⟩
theorem ask_ok {n:Nat} {ls:List Lk} {t:Nat} {W:Wd} {f:Stf.Fl} (h:Inv n ls t W) (ht:t≤900) (hst:W.co.st=0) (hf:(fnd n ls f).1=0) (hall:∀P∈W.pn,P.fs=[f]):(askS W.co n ls [f]).2=0:=by
 have hn:=h.n8.2
 have hnow:W.co.now=lp W.pn W.pn.length:=by
  rcases h.dyn.stg with⟨_,_,h3⟩ | ⟨h1,_⟩
  ·exact h3
  ·omega
 have hv:=(h.pls.lp (Nat.le_refl W.pn.length)).1
 have hpl:=h.pl
 have hnx:nx W.co.now.v=(W.pn.length:Int)+1:=by unfold nx;rw[hnow,hv,IntKind.wrap_i64];omega
 have hp:(plnF n (nx W.co.now.v) ls [f]).1=0:=plan_one hf (by omega) (by omega)
 have hg:Pln n ls (nx W.co.now.v) ⟨nx W.co.now.v,[f],plnP n ls [f]⟩:=⟨[f],rfl,hp⟩
 have hfl:full n W.co.now ⟨nx W.co.now.v,[f],plnP n ls [f]⟩=false:=by
  refine full_false (fun j _=>?_)
  have h1:=rls_one (s:=j) hn hg.gd plnP_one
  have h2:(rls W.co.now j).length≤1:=by
   rw[hnow]
   cases e:W.pn.length with
   | zero=>simp[lp,rls_pl0]
   | succ m=>
    have hm:m<W.pn.length:=by omega
    exact rls_one (s:=j) hn (h.pls m hm).gd (h.one_path hall hm).1
  omega
 unfold askS
 rw[if_neg (by omega),if_neg (by simpa using hp),if_neg (by rw[Int.toNat_natCast,hfl];simp)]
theorem hap_ask {n:Nat} {ls:List Lk} {W:Wd} {fs:List Stf.Fl}:hap n ls W ⟨1,0,fs⟩=hapA n ls W fs:=by
 unfold hap
 rw[if_pos rfl]
theorem drn1_kind {W:Wd} {d:Dd} (h:d∈drn1 W):d.k≠1:=by
 obtain⟨s,_,h2⟩:=List.mem_flatMap.1 h
 unfold acts at h2
 rcases List.mem_append.1 h2 with h | h
 ·obtain⟨_,_,h2⟩:=List.mem_flatMap.1 h
  simp only[List.mem_cons,List.not_mem_nil,or_false] at h2
  rcases h2 with rfl | rfl <;> simp
 ·obtain⟨_,_,rfl⟩:=List.mem_map.1 h;simp
theorem drn_kind {N:Int} {ls:List Lk} {fs0:List Stf.Fl}:∀(k:Nat) {es:List Dd},(∀d∈es,d.k=1→d.fs=fs0)→∀d∈drn N ls k es,d.k=1→d.fs=fs0
 | 0,_,h=>h
 | k+1,es,h=>by
  rw[drn]
  split
  ·exact h
  ·refine drn_kind k (fun d hd=>?_)
   rcases List.mem_append.1 hd with h1 | h1
   ·exact h d h1
   ·exact fun e=>absurd e (drn1_kind h1)
theorem kind_snoc {fs0:List Stf.Fl} {es:List Dd} {d:Dd} (h:∀d∈es,d.k=1→d.fs=fs0) (hd:d.k=1→d.fs=fs0):∀e∈es++[d],e.k=1→e.fs=fs0:=fun e he=>by
 rcases List.mem_append.1 he with h1 | h1
 ·exact h e h1
 ·rw[List.mem_singleton] at h1;rw[h1];exact hd
def mny (n:Int) (ls:List Lk) (f:Stf.Fl):Nat→List Dd
 | 0=>[]
 | j+1=>drn n ls 10 (drn n ls 10 (mny n ls f j++[⟨1,0,[f]⟩])++[⟨6,0,[]⟩])
theorem mny_kind {n:Int} {ls:List Lk} {f:Stf.Fl}:∀j,∀d∈mny n ls f j,d.k=1→d.fs=[f]
 | 0=>fun d hd=>by simp[mny] at hd
 | j+1=>drn_kind 10 (kind_snoc (drn_kind 10 (kind_snoc (mny_kind j) (fun _=>rfl))) (fun h=>by cases h))
theorem mny_ok {n:Nat} {ls:List Lk} {f:Stf.Fl} (hf:(fnd n ls f).1=0):∀j,j≤4→(mny n ls f j).length≤50*j∧(run n ls (mny n ls f j)).1.co.st=0∧(run n ls (mny n ls f j)).1.co.wts=[]∧(run n ls (mny n ls f j)).1.pn.length=j
 | 0,_=>⟨by simp[mny],rfl,rfl,rfl⟩
 | j+1,hj=>by
  obtain⟨h1,h2,h3,h4⟩:=mny_ok hf j (by omega)
  have hw:=(fnd_right hf).1
  have hI:=run_inv (n:=n) (ls:=ls) hw (show(mny n ls f j).length≤1000 by omega)
  have hl:(mny n ls f j++[(⟨1,0,[f]⟩:Dd)]).length≤50*j+1:=by simp;omega
  obtain⟨z1,z2,a1,a2,a3,a4,_,a6⟩:=settle2 (n:=n) (ls:=ls) hw (ds:=mny n ls f j++[⟨1,0,[f]⟩]) (by omega)
  have e:mny n ls f (j+1)=mny n ls f j++[⟨1,0,[f]⟩]++z1++[⟨6,0,[]⟩]++z2:=by rw[mny,a1,a2]
  have hlen:(mny n ls f (j+1)).length≤50*(j+1):=by
   rw[e]
   simp only[List.length_append,List.length_cons,List.length_nil] at hl ⊢
   omega
  obtain⟨b1,b2,b3,_⟩:=a6 (by rw[←e];omega)
  rw[←e] at b1 b2 b3
  have hask:=ask_ok hI (by omega) h2 hf (run_fs (mny_kind j))
  have hpn:(run n ls (mny n ls f j++[⟨1,0,[f]⟩])).1.pn.length=j+1:=by
   rw[run_snoc,hap_ask]
   unfold hapA
   rw[if_neg (by simpa using hask)]
   simp[h4]
  exact⟨hlen,b1,b2,by rw[b3,hpn]⟩
theorem busy {n:Nat} {ls:List Lk} {f:Stf.Fl} (hf:(fnd n ls f).1=0) {k:Nat} (hk:k≤(mny n ls f 1).length):
 ((run n ls ((mny n ls f 1).take k++[⟨1,0,[f]⟩])).2.getD k 0=0∧(run n ls ((mny n ls f 1).take k)).1.co.st=0)∨((run n ls ((mny n ls f 1).take k++[⟨1,0,[f]⟩])).2.getD k 0=11∧(run n ls ((mny n ls f 1).take k)).1.co.st≠0):=by
 have h1:=(mny_ok hf 1 (by omega)).1
 have hl:((mny n ls f 1).take k).length=k:=by rw[List.length_take];omega
 have hI:=run_inv (n:=n) (ls:=ls) (fnd_right hf).1 (show((mny n ls f 1).take k).length≤1000 by omega)
 have hc:(run n ls ((mny n ls f 1).take k)).2.length=k:=by rw[run_len];exact hl
 have e:(run n ls ((mny n ls f 1).take k++[⟨1,0,[f]⟩])).2.getD k 0=(hapA n ls (run n ls ((mny n ls f 1).take k)).1 [f]).2:=by
  rw[run_snoc,hap_ask]
  simp only
  rw[List.getD_eq_getElem?_getD,List.getElem?_append_right (by omega),hc]
  simp
 rw[e]
 by_cases hst:(run n ls ((mny n ls f 1).take k)).1.co.st=0
 ·left
  have hask:=ask_ok hI (by omega) hst hf (run_fs (fun d hd=>mny_kind 1 d (List.mem_of_mem_take hd)))
  unfold hapA
  rw[if_neg (by simpa using hask)]
  exact⟨rfl,hst⟩
 ·right
  have hask:(askS (run n ls ((mny n ls f 1).take k)).1.co n ls [f]).2=11:=by unfold askS;rw[if_pos hst]
  unfold hapA
  rw[if_pos (by rw[hask];decide)]
  exact⟨hask,hst⟩
end Go.Proofs.Ytolclgbpjiokfaa.Rm
namespace Go.Proofs.Ytolclgbpjiokfaa.Rm
open Go.RowKit Go.Deep Stw Stp Tb Rul Ct
theorem mny_sm {n:Int} {ls:List Lk} {f:Stf.Fl} (hs:Fw.Sm [f]):∀j,DsSm (mny n ls f j)∧(mny n ls f j).length≤1000→DsSm (mny n ls f j++[⟨1,0,[f]⟩]):=fun _ h=>h.1.append (fun d hd=>by rw[List.mem_singleton] at hd;rw[hd];exact⟨hs,by simp⟩)
set_option maxRecDepth 100000 in
set_option maxHeartbeats 4000000 in
theorem topMany_any (N:Int) (ao:Option Addr) (len cap:Nat) (ls:List Lk) (fa ft tm:Int) (w:World) (hlen:ls.length=len) (hl:NetAt w ao ls) (hx:len≤9223372036854775807) (hI:I64 N):
 Calls Try.prog 16 #[.agg #[.int .i64 N,.slice ao len cap],.int .i64 fa,.int .i64 ft,.int .i64 tm] w fun e w'=>e=.returned (.bool true)∧Ext w w':=by
 have hE0:=(Ext.refl w).alloc (.cells #[.int .i64 N,.slice ao len cap] 24)
 go_enter Try.func16,Try.ntmps16
 go_wp2_with fail
 refine(t_alive_any _).mono ?_
 rintro e w1 ⟨rfl,E1⟩
 have n0:w1.cell? ⟨w.heap.size,0,none⟩=some (.int .i64 N):=(E1.cells.1 _ _ (by simp)).trans (by simp)
 have n1:w1.cell? ⟨w.heap.size,1,none⟩=some (.slice ao len cap):=(E1.cells.1 _ _ (by simp)).trans (by simp)
 have hs1:w.heap.size<w1.heap.size:=by have:=E1.size;simp at this;omega
 have E01:=hE0.trans E1
 clear hE0 E1
 go_upto_region 4 with fail
 obtain⟨z,hz⟩:∃z,z=(w1.alloc (.cells #[.int .i64 fa,.int .i64 ft,.slice none 0 0,.slice none 0 0] 55)).alloc (.cells #[.int .i64 1,.int .i64 0,.slice (some ⟨w1.heap.size,0,none⟩) 1 1] 66):=⟨_,rfl⟩
 rw[←hz]
 have Ez:Ext w1 z:=by rw[hz];exact((Ext.refl w1).alloc _).alloc _
 have hzs:z.heap.size=w1.heap.size+1+1:=by rw[hz];simp
 have HFL:Hid (Fw.FlowsAt z (some ⟨w1.heap.size,0,none⟩) [⟨fa,ft,[],[]⟩]):=by rw[hz];exact(flow_in rfl).ext ((Ext.refl _).alloc _)
 have HT:Hid (∀V,Ext z V→V.cell? ⟨w.heap.size,0,none⟩=some (.int .i64 N)∧V.cell? ⟨w.heap.size,1,none⟩=some (.slice ao len cap)):=fun V hV=>⟨((Ez.trans hV).cells.1 _ _ hs1).trans n0,((Ez.trans hV).cells.1 _ _ hs1).trans n1⟩
 have HAK:Hid (∀V,Ext z V→V.cell? ⟨w1.heap.size+1,0,none⟩=some (.int .i64 1)∧V.cell? ⟨w1.heap.size+1,1,none⟩=some (.int .i64 0)∧V.cell? ⟨w1.heap.size+1,2,none⟩=some (.slice (some ⟨w1.heap.size,0,none⟩) 1 1)):=fun V hV=>⟨(hV.cells.1 _ _ (by omega)).trans (by rw[hz];simp),(hV.cells.1 _ _ (by omega)).trans (by rw[hz];simp),(hV.cells.1 _ _ (by omega)).trans (by rw[hz];simp)⟩
 have HFC:Hid (∀V,Ext z V→V.cell? ⟨w1.heap.size,0,none⟩=some (.int .i64 fa)∧V.cell? ⟨w1.heap.size,1,none⟩=some (.int .i64 ft)∧V.cell? ⟨w1.heap.size,2,none⟩=some (.slice none 0 0)∧V.cell? ⟨w1.heap.size,3,none⟩=some (.slice none 0 0)):=fun V hV=>⟨(hV.cells.1 _ _ (by omega)).trans (by rw[hz];simp),(hV.cells.1 _ _ (by omega)).trans (by rw[hz];simp),(hV.cells.1 _ _ (by omega)).trans (by rw[hz];simp),(hV.cells.1 _ _ (by omega)).trans (by rw[hz];simp)⟩
 have HEz:=hidp (E01.trans Ez)
 have HNT:=hidp (hl.ext HEz.out)
 have hlw:w.heap.size<z.heap.size:=by omega
 have hlf:w1.heap.size<z.heap.size:=by omega
 have hla:w1.heap.size+1<z.heap.size:=by omega
 have HFD:Hid (∀V,Ext z V→Calls Try.prog 34 #[.agg #[.int .i64 N,.slice ao len cap],.agg #[.int .i64 fa,.int .i64 ft,.slice none 0 0,.slice none 0 0]] V fun e w'=>FindOut V w' e (fnd N ls ⟨fa,ft,[],[]⟩)):=fun V hV=>Find_any N ao len cap ls ⟨fa,ft,[],[]⟩ none none 0 0 V hlen (HNT.out.ext hV) hx hI (Or.inl rfl) (by simp) (by simp) (Or.inl rfl) (by simp) (by simp)
 have HS1:Hid (∀V,Ext z V→V.cell? ⟨w.heap.size,0,none⟩=some (.int .i64 N)∧V.cell? ⟨w.heap.size,1,none⟩=some (.slice ao len cap)∧V.cell? ⟨w1.heap.size+1,2,none⟩=some (.slice (some ⟨w1.heap.size,0,none⟩) 1 1)∧V.cell? ⟨w1.heap.size,0,none⟩=some (.int .i64 fa)∧V.cell? ⟨w1.heap.size,1,none⟩=some (.int .i64 ft)∧V.cell? ⟨w1.heap.size,2,none⟩=some (.slice none 0 0)∧V.cell? ⟨w1.heap.size,3,none⟩=some (.slice none 0 0)):=fun V hV=>⟨(HT.out V hV).1,(HT.out V hV).2,(HAK.out V hV).2.2,HFC.out V hV⟩
 clear hz hzs n0 n1 hl E01 Ez
 have hdz:Ext z z.drew:=(Ext.refl z).drew
 go_region_held3 (fun V=>V.cell? ⟨w.heap.size,0,none⟩=some (.int .i64 N)∧V.cell? ⟨w.heap.size,1,none⟩=some (.slice ao len cap)∧V.cell? ⟨w1.heap.size+1,2,none⟩=some (.slice (some ⟨w1.heap.size,0,none⟩) 1 1)∧V.cell? ⟨w1.heap.size,0,none⟩=some (.int .i64 fa)∧V.cell? ⟨w1.heap.size,1,none⟩=some (.int .i64 ft)∧V.cell? ⟨w1.heap.size,2,none⟩=some (.slice none 0 0)∧V.cell? ⟨w1.heap.size,3,none⟩=some (.slice none 0 0))
  (first | (with_reducible exact HS1.out _ hdz) | (with_reducible exact HS1.out _ mk1) | fail)
  (first
  | (go_at_call 34
     with_reducible refine(HFD.out _ hdz).mono ?_
     rintro e w2 ⟨go,gc,rfl,hG,hgc,E2⟩
     have mk1:=hdz.trans E2))
 have Ez2:=mk1
 clear mk1 hdz HFD HS1 E2
 by_cases hf:(fnd N ls ⟨fa,ft,[],[]⟩).1=0
 ·by_cases h1:tm<0
  ·rw[hf]
   go_wp2
   go_ret
   exact⟨rfl,HEz.out.trans Ez2⟩
  by_cases h2:4<tm
  ·rw[hf]
   go_wp2
   go_ret
   exact⟨rfl,HEz.out.trans Ez2⟩
  obtain⟨tt,rfl⟩:=Int.eq_ofNat_of_zero_le (show 0≤tm by omega)
  have h4:tt≤4:=by omega
  have hw:=(fnd_right hf).1
  have hbd:=(right_of hw).bounds
  obtain⟨n,rfl⟩:=Int.eq_ofNat_of_zero_le (show 0≤N by omega)
  obtain⟨P,hP⟩:∃P,P=(fnd n ls ⟨fa,ft,[],[]⟩).2:=⟨_,rfl⟩
  have HF:=hidp hf
  have HPE:=hidp hP
  have HWR:=hidp hw
  rw[←hP] at hG hgc
  rw[hf, ←hP]
  have HG:=hidp hG
  have HFL2:=hidp (HFL.out.ext Ez2)
  have HN2:=hidp (HNT.out.ext Ez2)
  have HE2:=hidp (HEz.out.trans Ez2)
  have HS2:Hid (∀V,Ext w2 V→V.cell? ⟨w.heap.size,0,none⟩=some (.int .i64 n)∧V.cell? ⟨w.heap.size,1,none⟩=some (.slice ao len cap)∧V.cell? ⟨w1.heap.size+1,0,none⟩=some (.int .i64 1)∧V.cell? ⟨w1.heap.size+1,1,none⟩=some (.int .i64 0)∧V.cell? ⟨w1.heap.size+1,2,none⟩=some (.slice (some ⟨w1.heap.size,0,none⟩) 1 1)):=fun V hV=>⟨(HT.out V (Ez2.trans hV)).1,(HT.out V (Ez2.trans hV)).2,HAK.out V (Ez2.trans hV)⟩
  have HDRN:Hid (∀v (es:List Dd) V,DO w2 V v es→Ext w2 V→DsSm es→es.length≤1000→Calls Try.prog 30 #[.agg #[.int .i64 n,.slice ao len cap],v] V fun e w'=>∃v',e=.returned v'∧Hid (RS w2 V v.ownBlock w' v' (drn n ls 10 es))):=fun v es V h1 h2 h3 h4=>t_drain_any n ao len cap ls v es w2 V hlen HN2.out hx h1 h2 h3 h4
  clear hf hP hw hG hbd HFL HNT HEz HT HAK HFC
  go_wp2
  go_loopw [12,45] (fun lv iv wd=>∃(j:Nat) (v:Value),j≤tt∧iv=.int .i64 j∧lv=v∧Hid (RS w2 w2 none wd v (mny n ls ⟨fa,ft,[],[]⟩ j)∧DsSm (mny n ls ⟨fa,ft,[],[]⟩ j))) (fun _ iv _=>tt - (intOf iv).toNat)
  case atStart=>exact⟨0,_,Nat.zero_le _,rfl,rfl,RS.start (DO.nil w2 w2) (Ext.refl w2),fun d hd=>by cases hd⟩
  case round=>
   obtain⟨j,v,hj,rfl,hlv,HX⟩:=hrel
   obtain rfl:=hlv.symm
   obtain⟨lo,lc,hv,hDI,_⟩:=HX.out.1.row.form
   by_cases hjt:j<tt
   ·have i1:(j:Int)<(tt:Int):=by omega
    have hm:=(mny_ok (n:=n) (ls:=ls) HF.out j (by omega)).1
    have HSU:Hid (mny n ls ⟨fa,ft,[],[]⟩ (j+1)=drn n ls 10 (drn n ls 10 (mny n ls ⟨fa,ft,[],[]⟩ j++[⟨1,0,[⟨fa,ft,[],[]⟩]⟩])++[⟨6,0,[]⟩])):=rfl
    clear hDI
    generalize mny n ls ⟨fa,ft,[],[]⟩ j=es at HX hm HSU hv
    have hm2:es.length≤200:=by omega
    have HSA:Hid (DsSm (es++[⟨1,0,[⟨fa,ft,[],[]⟩]⟩])∧(es++[(⟨1,0,[⟨fa,ft,[],[]⟩]⟩:Dd)]).length≤1000):=⟨HX.out.2.append (fun d hd=>by rw[List.mem_singleton] at hd;rw[hd];exact⟨flow_sm _ _,by simp⟩),by simp;omega⟩
    obtain⟨c1,hc1⟩:∃c1,c1=drn n ls 10 (es++[⟨1,0,[⟨fa,ft,[],[]⟩]⟩]):=⟨_,rfl⟩
    have hc1s:=drn_small (N:=n) (ls:=ls) 10 HSA.out.1 HSA.out.2
    rw[←hc1] at HSU hc1s
    have HSB:Hid (DsSm (c1++[⟨6,0,[]⟩])∧(c1++[(⟨6,0,[]⟩:Dd)]).length≤1001∧c1.length+1≤1000000):=⟨hc1s.1.append (DsSm.of_nil (fun d hd=>by simp at hd;rw[hd])),by simp;omega,by omega⟩
    have HC1:=hidp hc1
    have hc1l:c1.length≤999:=by
     obtain⟨z1,a1,a2,_⟩:=drn_ok (n:=n) (ls:=ls) HWR.out 10 (es++[⟨1,0,[⟨fa,ft,[],[]⟩]⟩]) (by simp;have:=hm;omega) (by have:=rk_le (run n ls (es++[⟨1,0,[⟨fa,ft,[],[]⟩]⟩])).1.co.st;omega)
     rw[hc1,a1,List.length_append]
     have h1:2*n*rk (run n ls (es++[⟨1,0,[⟨fa,ft,[],[]⟩]⟩])).1.co.st≤16*2:=Nat.mul_le_mul (by have:=(right_of HWR.out).bounds;omega) (rk_le _)
     simp
     omega
    clear hc1 hc1s
    have hd:Ext w2 wr.drew:=HX.out.1.ext.drew
    have HR:Hid (RS w2 w2 none ((wr.alloc (.cells #[.int .i64 1,.int .i64 0,.slice (some ⟨w1.heap.size,0,none⟩) 1 1] 66)).drew) v es):=HX.out.1.toExt ((Ext.refl wr).alloc _).drew
    have HD:Hid (DosIn w2 ((wr.alloc (.cells #[.int .i64 1,.int .i64 0,.slice (some ⟨w1.heap.size,0,none⟩) 1 1] 66)).drew) (some ⟨wr.heap.size,0,none⟩) [⟨1,0,[⟨fa,ft,[],[]⟩]⟩]):=(one_in (d:=⟨1,0,[⟨fa,ft,[],[]⟩]⟩) (fc:=1) rfl HFL2.out).ext (Ext.refl _).drew
    have HRX:=hidp HX.out.1.ext
    subst hv
    go_upto_region 10 with fail
    clear HX
    go_region_held3 (fun V=>V.cell? ⟨w.heap.size,0,none⟩=some (.int .i64 n)∧V.cell? ⟨w.heap.size,1,none⟩=some (.slice ao len cap)∧V.cell? ⟨w1.heap.size+1,0,none⟩=some (.int .i64 1)∧V.cell? ⟨w1.heap.size+1,1,none⟩=some (.int .i64 0)∧V.cell? ⟨w1.heap.size+1,2,none⟩=some (.slice (some ⟨w1.heap.size,0,none⟩) 1 1))
     (first | (with_reducible exact HS2.out _ hd) | (with_reducible exact HS2.out _ (HRX.out.alloc _).drew) | (with_reducible exact HS2.out _ mk9) | (with_reducible exact HS2.out _ mk8) | fail)
     (first
     | (go_at_call 30
        with_reducible refine(HDRN.out _ (es++[⟨1,0,[⟨fa,ft,[],[]⟩]⟩]) _ h9.row h9.ext HSA.out.1 HSA.out.2).mono ?_
        rw[←HC1.out]
        rintro e w8 ⟨v8,rfl,h8⟩
        have h8':=h9.trans h8.out
        have mk9:=h8'.ext
        obtain⟨lo8,lc8,hv8,_⟩:=h8'.row.form
        subst hv8
        have H8:=hidp h8'
        clear h8 h8' h9)
     | (refine step_append_rs (z:=w2) (y:=w2) (g:=none) (ds:=es) (es:=[⟨1,0,[⟨fa,ft,[],[]⟩]⟩]) rfl (.tmp 48) (.tmp 50) rfl rfl rfl HR.out rfl (by decide) HD.out (by omega) ?_
        intro b9 off9 cp9 w9 h9
        have mk8:=h9.ext))
    have hE8:=mk9
    clear mk9 mk8 hd HR HD
    go_upto_region 11 with fail
    have hd8:Ext w2 w8.drew:=hE8.drew
    have HR9:Hid (RS w2 w2 none ((doW w8.drew 6 0).alloc (.cells #[.int .i64 6,.int .i64 0,.slice none 0 0] 66)) (.slice lo8 c1.length lc8) c1):=H8.out.toExt ((doW_ext (Ext.refl w8).drew).alloc _)
    have HD9:Hid (DosIn w2 ((doW w8.drew 6 0).alloc (.cells #[.int .i64 6,.int .i64 0,.slice none 0 0] 66)) (some ⟨w8.heap.size+1,0,none⟩) [⟨6,0,[]⟩]):=one_in (d:=⟨6,0,[]⟩) (by simp[doW]) (Or.inl rfl)
    have hdw:(doW w8.drew 6 0).heap.size=w8.heap.size+1:=by simp[doW]
    clear H8
    go_region_held3 (fun V=>V.cell? ⟨w.heap.size,0,none⟩=some (.int .i64 n)∧V.cell? ⟨w.heap.size,1,none⟩=some (.slice ao len cap))
     (first | (with_reducible exact⟨(HS2.out _ hd8).1,(HS2.out _ hd8).2.1⟩) | (with_reducible exact⟨(HS2.out _ (doW_ext hd8)).1,(HS2.out _ (doW_ext hd8)).2.1⟩) | (with_reducible exact⟨(HS2.out _ ((doW_ext hd8).alloc _)).1,(HS2.out _ ((doW_ext hd8).alloc _)).2.1⟩) | (with_reducible exact⟨(HS2.out _ mk9).1,(HS2.out _ mk9).2.1⟩) | (with_reducible exact⟨(HS2.out _ mk8).1,(HS2.out _ mk8).2.1⟩) | fail)
     (first
     | (go_at_call 30
        with_reducible refine(HDRN.out _ (c1++[⟨6,0,[]⟩]) _ h10.row h10.ext HSB.out.1 (by simp;omega)).mono ?_
        rw[←HSU.out]
        rintro e w11 ⟨v11,rfl,h11⟩
        have h11':=h10.trans h11.out
        have mk9:=h11'.ext
        have H11:=hidp h11'
        clear h11 h11' h10)
     | (go_at_call 31
        refine(t_do_any _ _ _).mono ?_
        rintro e _ ⟨rfl,rfl⟩)
     | (refine step_append_rs (z:=w2) (y:=w2) (g:=none) (ds:=c1) (es:=[⟨6,0,[]⟩]) rfl (.tmp 54) (.tmp 56) rfl rfl rfl HR9.out rfl (by decide) HD9.out HSB.out.2.2 ?_
        intro b10 off10 cp10 w10 h10
        have mk8:=h10.ext))
    clear mk8 mk9 hd8 HR9 HD9 hdw
    go_wp2
    refine⟨⟨j+1,_,by omega,by go_num,rfl,H11.out,?_⟩,by simp[intOf];omega⟩
    rw[HSU.out]
    exact(drn_small 10 HSB.out.1 (by simp;omega)).1
   ·have i1:¬(j:Int)<(tt:Int):=by omega
    have hjt2:j=tt:=by omega
    obtain⟨o1,o2,o3,o4⟩:=mny_ok (n:=n) (ls:=ls) HF.out tt h4
    rw[←hjt2] at o1 o2 o3 o4
    have hall:=run_fs (n:=n) (ls:=ls) (mny_kind (n:=n) (ls:=ls) (f:=⟨fa,ft,[],[]⟩) j)
    generalize mny n ls ⟨fa,ft,[],[]⟩ j=es at HX hv hDI o1 o2 o3 o4 hall
    have h200:es.length≤200:=by omega
    have i2:¬(200:Int)<(es.length:Int):=by omega
    have hpl:=plyF_of (n:=(n:Int)) (ds:=es) HWR.out h200
    have hrn:plyW n ls es=run n ls es:=hpl.2
    have hI2:=run_inv (n:=n) (ls:=ls) (ds:=es) HWR.out (by omega)
    have HPL:=hidp (Play_any n ao len cap ls lo lc es wr hlen (HN2.out.ext HX.out.1.ext) hx (hDI.dos HX.out.1.ext) HX.out.2 (by omega))
    rw[hrn,hpl.1] at HPL
    generalize run n ls es=q at HPL hI2 o2 o3 o4 hall
    obtain⟨X,dame⟩:=q
    simp only at HPL hI2 o2 o3 o4 hall
    have r3:=(hI2.rest o2 o3).2.2.1
    have hlenX:X.pn.length=tt:=by rw[o4];exact hjt2
    have hnv:X.co.now.v=(tt:Int):=by rw[r3,hlenX]
    obtain⟨t0,t1,_⟩:=HS2.out wr HX.out.1.ext
    have HRX:=hidp HX.out.1.ext
    have HI2:=hidp hI2
    have HALL:=hidp hall
    have HLX:=hidp hlenX
    have tl:w.heap.size<wr.heap.size:=by have:=HX.out.1.ext.size;have:=Ez2.size;omega
    clear hpl hrn hI2 o1 o2 o3 o4 hall r3 HX hDI hjt2 HDRN
    subst hv
    go_wp2_with fail
    refine Calls.mono HPL.out ?_
    rintro e w6 ⟨B,bo,bc,rfl,E6,HB⟩
    unfold wvl
    rw[hnv,hlenX]
    clear HPL t0 t1 hnv hlenX tl
    go_upto_region 16 with fail
    obtain⟨w7,hw7⟩:∃w7,w7=(w6.alloc (.cells #[.int .i64 X.co.st,.int .i64 tt,.slice B.ca.n.fo X.co.now.fs.length B.ca.n.fc,.slice B.ca.n.qo X.co.now.ps.length B.ca.n.qc,.int .i64 X.co.nxt.v,.slice B.ca.x.fo X.co.nxt.fs.length B.ca.x.fc,.slice B.ca.x.qo X.co.nxt.ps.length B.ca.x.qc,.int .i64 X.co.num,.slice B.ca.wo X.co.wts.length B.ca.wc,.slice B.so X.sw.length B.sc,.slice B.oo X.od.length B.oc,.slice B.bo X.bk.length B.bc,.slice B.ko X.pk.length B.kc,.slice B.lo tt B.lc] 40)).alloc (.cells #[.int .i64 0,.int .i64 0] 44):=⟨_,rfl⟩
    rw[←hw7]
    have E67:Ext w6 w7:=by rw[hw7];exact((Ext.refl w6).alloc _).alloc _
    have hz7:w7.heap.size=w6.heap.size+1+1:=by rw[hw7];simp
    have HE7:=hidp (HE2.out.trans (HRX.out.trans (E6.trans E67)))
    have HE27:=hidp (HRX.out.trans (E6.trans E67))
    have HB7:=hidp (HB.out.1.ext E67)
    have v1:w7.cell? ⟨w6.heap.size,1,none⟩=some (.int .i64 tt):=by rw[hw7];simp
    have v13:w7.cell? ⟨w6.heap.size,13,none⟩=some (.slice B.lo tt B.lc):=by rw[hw7];simp
    have vf:w7.cell? ⟨w6.heap.size+1,0,none⟩=some (.int .i64 0):=by rw[hw7];simp
    have l6:w6.heap.size<w7.heap.size:=by omega
    have l61:w6.heap.size+1<w7.heap.size:=by omega
    clear hw7 hz7 E67 E6 HB HRX
    go_wp2
    go_loopw [91] (fun iv wd=>∃i:Nat,i≤tt∧iv=.int .i64 i∧Ext w7 wd) (fun iv _=>tt - (intOf iv).toNat)
    case atStart=>exact⟨0,Nat.zero_le _,rfl,Ext.refl _⟩
    case round=>
     obtain⟨i,hi,rfl,hEi⟩:=hrel
     clear v1 v13 vf l6 l61
     by_cases hit:i<tt
     ·have i3:(i:Int)<(tt:Int):=by omega
      have hlx:i<X.pn.length:=by rw[HLX.out];exact hit
      obtain⟨pg,poff,a,hlo,hpg,c0,c1,c2,hPlA⟩:=(HB7.out.ext hEi).pn_get hlx
      obtain⟨k1,k2⟩:=HI2.out.one_path HALL.out hlx
      have h8:=(HI2.out.pls i hlx).head.2.2 0
      have hps:(X.pn.getD i pl0).ps=[P]:=by rw[k1,HPE.out]
      have hq:=hPlA.hq
      rw[hps] at c2 hq h8
      simp only[List.getD_cons_zero,List.length_cons,List.length_nil,Nat.zero_add] at c2 h8
      obtain⟨qg,qoff,po,pc,hqo,hqg,hqc,hqL,hqp⟩:=pth_get hq (i:=0) (by simp)
      simp only[List.getD_cons_zero,Nat.add_zero] at hqc hqL hqp
      rw[hqo] at c2
      have HIN:Hid (∀V,Ext wr V→Calls Try.prog 20 #[.slice po P.length pc,.slice go P.length gc] V fun e w'=>e=.returned (.bool true)∧Ext V w'):=fun V hV=>by
       have h1:=Ints_any po go P.length P.length pc gc P P V rfl rfl (by omega) (hqL.ext hV) (HG.out.ext (HE27.out.trans (hEi.trans hV)))
       rw[decide_eq_true rfl] at h1
       exact h1
      generalize (X.pn.getD i pl0).v=pv at c0
      generalize (X.pn.getD i pl0).fs.length=fl at c1
      rw[hlo]
      clear hlo hPlA hq hqo hqL k1 k2 hps
      go_wp2_with fail
      with_reducible refine Calls.mono (HIN.out _ ((Ext.refl wr).alloc _)) ?_
      rintro e w9 ⟨rfl,E9⟩
      have hE9:=hEi.trans (((Ext.refl wr).alloc _).trans E9)
      clear E9 HIN
      go_wp2
      refine⟨⟨i+1,by omega,by go_num,hE9⟩,by simp[intOf];omega⟩
     ·have i3:¬(i:Int)<(tt:Int):=by omega
      go_wp2
      go_ret
      exact⟨rfl,HE7.out.trans hEi⟩
 ·have b0:((fnd N ls ⟨fa,ft,[],[]⟩).1 != 0)=true:=by simpa using hf
  go_wp2
  go_ret
  exact⟨rfl,HEz.out.trans Ez2⟩
end Go.Proofs.Ytolclgbpjiokfaa.Rm
namespace Go.Proofs.Ytolclgbpjiokfaa
open Go.ChangeShapes Go.WideShapes Go.ChangeAt Go.RowKit Go.Deep Go.Joins Stw
set_option maxRecDepth 100000 in
theorem topMany_lifted (os:Os) (started:os.Started) (H:Type) (enc:TypeId×Value→H):
 ReturnsInHanded {} Try.checked os 16 .any (Rows.topManySpec.pre6 enc Try.prog Try.f16 Rows.topManyRow.domain false) (Rows.topManySpec.post enc Try.prog Try.f16 false true false false):=by
 refine returnsInHanded_of_change_sized (C:=Try.checked) Try.own started (by kernel_rfl) Try.func16
  (ChangeSpec.witness6 (enc:=enc) (C:=Try.checked) false ⟨#[],#[.agg #[.int .i64 0,.slice none 0 0],.int .i64 0,.int .i64 0,.int .i64 0],[]⟩ 8 (by kernel_rfl) (by kernel_rfl) (by kernel_rfl) (by kernel_rfl)) ?_
 intro W base args ds gs before hval0 hW hcnd hsz0 _
 have hval:∀(j:Nat) t v,Try.f16.params[j]? =some t→args[j]? =some v→Value.okWide Try.prog W .any base t v:=hval0
 have hsz:(DataW.weightsEach Try.prog (Try.f16.params.toList++Rows.topManySpec.plain.varTypes Try.prog) (ds++gs)).all (· ≤reachBytes)=true:=hsz0
 have hW':=hW
 obtain⟨p,q,hA0,hV,rfl,hfz,hnd⟩:=hW
 have hA:DataW.TrodAll enc Try.prog W 0 (fun _=>true) true Try.f16.params.toList args.toList ds p:=hA0
 rw[Try.params16] at hA hval hsz
 obtain⟨v0,vs0,d0,dt0,p0,q0,hargs,rfl,rfl,h0,r0⟩:=trodAll_cons hA
 obtain⟨v1,vs1,d1,dt1,p1,q1,rfl,rfl,rfl,h1,r1⟩:=trodAll_cons r0
 obtain⟨v2,vs2,d2,dt2,p2,q2,rfl,rfl,rfl,h2,r2⟩:=trodAll_cons r1
 obtain⟨v3,vs3,d3,dt3,p3,q3,rfl,rfl,rfl,h3,r3⟩:=trodAll_cons r2
 obtain⟨rfl,rfl,rfl⟩:=trodAll_nil r3
 obtain rfl:args=#[v0,v1,v2,v3]:=by cases args;simp_all
 obtain⟨rfl,rfl⟩:=trodVars_none hV
 have k0:=h0
 have lt0:∀x∈p0,x.block<W.heap.size:=by obtain⟨m,hm⟩:=k0;exact DataW.trod_lt m _ _ _ hm
 obtain⟨n0,ao0,len0,cap0,ls0,rfl,hn0,hlen0,hnet0,hlw0,hreach0,hcap0,hcm0⟩:=open_topo (hval 0 24 v0 rfl rfl) h0 (weights_arg hsz (j:=0) rfl rfl)
 obtain⟨a1,rfl,rfl,rfl,w1⟩:=open_int Try.underlying3 (hval 1 3 v1 rfl rfl) h1
 obtain⟨a2,rfl,rfl,rfl,w2⟩:=open_int Try.underlying3 (hval 2 3 v2 rfl rfl) h2
 obtain⟨a3,rfl,rfl,rfl,w3⟩:=open_int Try.underlying3 (hval 3 3 v3 rfl rfl) h3
 clear hA0 hval0 hsz0
 refine(Rm.topMany_any n0 ao0 len0 cap0 ls0 a1 a2 a3 W hlen0 hnet0 (by omega) hn0).mono fun e W' ⟨he,bel0⟩=>?_
 subst he
 have bel:Below W.heap.size W W':=bel0
 exact⟨_,rfl,_,_,_,[],_,[],hW',trodAll_mk1 (shut_bool Try.underlying4 _),(trodAll_cons_mk (Below.trod Try.laidOut (by kernel_rfl) (of_decide_eq_true (by kernel_rfl)) k0 bel lt0) (trodAll_cons_mk (shut_int Try.underlying3 w1) (trodAll_cons_mk (shut_int Try.underlying3 w2) (trodAll_cons_mk (shut_int Try.underlying3 w3) trodAll_mk0)))),rfl,bel.frame _,fun h=>by cases h⟩
theorem topMany_holds:Rows.TopManySaid:=
 OpenClaim.holds_of_wide 16 Try.f16 rfl rfl rfl rfl rfl rfl rfl ⟨rfl,rfl,rfl,rfl,rfl⟩ rfl rfl rfl rfl rfl (by kernel_rfl) Try.func16 (by kernel_rfl)
  (of_decide_eq_true (by kernel_rfl)) (by unfold Func.isWrapper;first | (rw[if_pos (by decide+kernel)];kernel_rfl) | (rw[if_neg (by decide+kernel)];exact⟨rfl,rfl⟩))
  (fun os started H enc _=>topMany_lifted os started H enc)
#print axioms topMany_holds
end Go.Proofs.Ytolclgbpjiokfaa
