/- TopTwo: a packet that begins while a change goes on, after any of its steps, and goes on then while all others come, goes all the old path, or all the new one; for every input. -/
import Derived.Test.YtolclgbpjiokfaaU38
import Derived.Test.YtolclgbpjiokfaaU39
import Derived.Test.YtolclgbpjiokfaaU36
import Derived.Test.YtolclgbpjiokfaaU16
import Derived.Lib.MinMax
import Derived.Test.YtolclgbpjiokfaaU24
namespace Go.Proofs.Ytolclgbpjiokfaa.Rm
open Go.RowKit Go.Deep Stw Stp Tb Rul Ct
theorem step_append_rs {ops:Array Oper} {o:Oper} {a:Act} {W:World} {K:Act→World→Prop} {Q:Exit→Act→World→Prop} {E:Prop} (hgd:o.guard=none) (s x:Operand)
 (ho:o.op=.call {callee:=.builtin .append,args:=#[s,x],argTypes:=#[25,25]}) {z y:World} {g:Option Nat} {v:Value} {ds es:List Dd} {ad:Addr} {lb cb:Nat}
 (hs:a.eval s=v) (hx:a.eval x=.slice (some ad) lb cb) (h:RS z y g W v ds) (hlen:es.length=lb) (h0:0<lb) (hb:DosIn z W (some ad) es) (hn:ds.length+lb≤1000000)
 (hK:∀b off cap W',RS z y g W' (.slice (some ⟨b,off,none⟩) (ds.length+lb) cap) (ds++es)→K (a.put o.dst (.slice (some ⟨b,off,none⟩) (ds.length+lb) cap)) W'):
 if Region.wanted o (yielded ops a.tmps)=true then Oper.wp Try.prog o a W K Q else E:=by
 have hw:Region.wanted o (yielded ops a.tmps)=true:=by simp[Region.wanted,hgd]
 rw[if_pos hw]
 obtain⟨b,off,cap,W',hr,h2⟩:=h.append (cb:=cb) hlen h0 hb hn
 unfold Oper.wp execOp
 simp only[ho,resolve,invoke,builtin,Sem.run_bind,Sem.run_pure,Result.andThen_ok,List.map_toArray,List.map_cons,List.map_nil,hs,hx,hr]
 exact hK b off cap W' h2
theorem step_copy_dos {ops:Array Oper} {o:Oper} {a:Act} {W:World} {K:Act→World→Prop} {Q:Exit→Act→World→Prop} {E:Prop} (hgd:o.guard=none) (s x:Operand)
 (ho:o.op=.call {callee:=.builtin .append,args:=#[s,x],argTypes:=#[25,25]}) {z:World} {g:Nat} {es:List Dd} {bo:Option Addr} {lb cb:Nat}
 (hs:a.eval s=.slice (some ⟨g,0,none⟩) 0 0) (hx:a.eval x=.slice bo lb cb) (hg:W.heap[g]? =some (.cells #[] 66 (0,0))) (hz:z.heap.size≤g) (hlen:es.length=lb) (hb:DosIn z W bo es) (hnil:bo=none→lb=0∧cb=0) (hn:lb≤1000000)
 (hK:∀ao cap W',DO z W' (.slice ao lb cap) es→W.grownBy W' (some g)→(∀k,(Value.slice ao lb cap).ownBlock=some k→g≤k)→K (a.put o.dst (.slice ao lb cap)) W'):
 if Region.wanted o (yielded ops a.tmps)=true then Oper.wp Try.prog o a W K Q else E:=by
 have hw:Region.wanted o (yielded ops a.tmps)=true:=by simp[Region.wanted,hgd]
 rw[if_pos hw]
 obtain⟨ao,cap,W',hr,h1,h2,h3⟩:=copy_dos (cb:=cb) hg hz hlen hb hnil hn
 unfold Oper.wp execOp
 simp only[ho,resolve,invoke,builtin,Sem.run_bind,Sem.run_pure,Result.andThen_ok,List.map_toArray,List.map_cons,List.map_nil,hs,hx,hr]
 exact hK ao cap W' h1 h2 h3
end Go.Proofs.Ytolclgbpjiokfaa.Rm
namespace Go.Proofs.Ytolclgbpjiokfaa.Rm
open Go.RowKit Go.Deep Stw Stp Tb Rul Ct
theorem hap_drop {n:Nat} {ls:List Lk} {W:Wd}:hap n ls W ⟨6,0,[]⟩=hapD n ls W:=by
 unfold hap
 simp only[show((6:Int)=1)=False by simp,show((6:Int)=2)=False by simp,show((6:Int)=3)=False by simp,show((6:Int)=4)=False by simp,show((6:Int)=5)=False by simp,if_false,if_true]
theorem run_snoc {n:Nat} {ls:List Lk} {ds:List Dd} {d:Dd}:run n ls (ds++[d])=((hap n ls (run n ls ds).1 d).1,(run n ls ds).2++[(hap n ls (run n ls ds).1 d).2]):=by
 rw[run_append];rfl
theorem rk_le (st:Int):rk st≤2:=by unfold rk;split;· omega
                                   split <;> omega
theorem drop_rest {n:Nat} {ls:List Lk} {t:Nat} {W:Wd} (h:Inv n ls t W) (hs:W.co.st=0∨W.co.st=3):((hapD n ls W).1.co.st=0∨(hapD n ls W).1.co.st=4)∧(hapD n ls W).1.pn=W.pn∧(hapD n ls W).1.pk=W.pk:=by
 rcases hs with e | e
 ·have h1:(dropS W.co n ls).2≠0:=by
   unfold dropS
   rw[if_neg (by simpa using h.wr),if_pos (by omega)]
   simp
  unfold hapD
  rw[if_pos h1]
  exact⟨Or.inl e,rfl,rfl⟩
 ·have h1:=drop_calm (n:=n) (ls:=ls) h.wr e
  have h2:=drop_B (n:=n) (ls:=ls) h.wr e
  unfold hapD
  rw[if_neg (by rw[h1];simp)]
  refine⟨?_,rfl,rfl⟩
  rcases h2 with⟨e1,_⟩ | ⟨e1,_⟩
  ·exact Or.inr e1
  ·exact Or.inl e1
theorem settle2 {n:Nat} {ls:List Lk} (hw:(wrong n ls).1=0) {ds:List Dd} (hl:ds.length≤200):
 ∃z1 z2,drn n ls 10 ds=ds++z1∧drn n ls 10 (ds++z1++[(⟨6,0,[]⟩:Dd)])=ds++z1++[(⟨6,0,[]⟩:Dd)]++z2∧z1.length≤32∧z2.length≤16∧
  ((ds++z1).length≤200→Settled (run n ls ds).1 (run n ls (ds++z1)).1∧∃c,(run n ls (ds++z1)).2=(run n ls ds).2++c∧∀e∈c,e=0)∧
  ((ds++z1++[(⟨6,0,[]⟩:Dd)]++z2).length≤200→(run n ls (ds++z1++[(⟨6,0,[]⟩:Dd)]++z2)).1.co.st=0∧(run n ls (ds++z1++[(⟨6,0,[]⟩:Dd)]++z2)).1.co.wts=[]∧(run n ls (ds++z1++[(⟨6,0,[]⟩:Dd)]++z2)).1.pn=(run n ls ds).1.pn∧(run n ls (ds++z1++[(⟨6,0,[]⟩:Dd)]++z2)).1.pk=(run n ls ds).1.pk):=by
 have hI:=run_inv (n:=n) (ls:=ls) hw (show ds.length≤1000 by omega)
 have hn:=hI.n8.2
 obtain⟨z1,a1,a2,a3⟩:=drn_ok (n:=n) (ls:=ls) hw 10 ds hl (by have:=rk_le (run n ls ds).1.co.st;omega)
 have b1:z1.length≤32:=by
  have h1:2*n*rk (run n ls ds).1.co.st≤16*2:=Nat.mul_le_mul (by omega) (rk_le _)
  omega
 by_cases hlong:200<(ds++z1++[(⟨6,0,[]⟩:Dd)]).length
 ·refine⟨z1,[],a1,?_,b1,by simp,a3,fun h=>?_⟩
  ·rw[drn_long hlong,List.append_nil]
  ·rw[List.append_nil] at h;omega
 ·have hm1:(ds++z1).length≤200:=by simp only[List.length_append,List.length_cons,List.length_nil] at hlong ⊢;omega
  obtain⟨hset,hc⟩:=a3 hm1
  have hI1:=run_inv (n:=n) (ls:=ls) hw (show(ds++z1).length≤1000 by omega)
  have hs1:(run n ls (ds++z1)).1.co.st=0∨(run n ls (ds++z1)).1.co.st=3:=by
   obtain⟨_,_,_,s4,s5,s6⟩:=hset
   rcases hI.sts with e | e | e | e | e
   ·exact Or.inl (s4 e).1
   ·exact Or.inr (s6 (Or.inl e)).1
   ·exact Or.inr (s6 (Or.inr (Or.inl e))).1
   ·exact Or.inr (s6 (Or.inr (Or.inr e))).1
   ·exact Or.inl (s5 e).1
  obtain⟨d1,d2,d3⟩:=drop_rest hI1 hs1
  have er:(run n ls (ds++z1++[(⟨6,0,[]⟩:Dd)])).1=(hapD n ls (run n ls (ds++z1)).1).1:=by rw[run_snoc,hap_drop]
  have hrk:rk (run n ls (ds++z1++[(⟨6,0,[]⟩:Dd)])).1.co.st≤1:=by
   rw[er]
   rcases d1 with e | e <;> rw[e] <;> decide
  obtain⟨z2,c1,c2,c3⟩:=drn_ok (n:=n) (ls:=ls) hw 10 (ds++z1++[(⟨6,0,[]⟩:Dd)]) (by omega) (by omega)
  refine⟨z1,z2,a1,c1,b1,?_,a3,fun h=>?_⟩
  ·have h1:2*n*rk (run n ls (ds++z1++[(⟨6,0,[]⟩:Dd)])).1.co.st≤16*1:=Nat.mul_le_mul (by omega) hrk
   omega
  ·obtain⟨⟨s1,s2,s3,s4,s5,s6⟩,_⟩:=c3 h
   rw[er] at s2 s3 s4 s5
   refine⟨?_,s1,s3.trans (d2.trans hset.2.2.1),s2.trans (d3.trans hset.2.1)⟩
   rcases d1 with e | e
   ·exact(s4 e).1
   ·exact(s5 e).1
theorem Inv.rest {n:Nat} {ls:List Lk} {t:Nat} {W:Wd} (h:Inv n ls t W) (hs:W.co.st=0) (hw:W.co.wts=[]):W.co.now=lp W.pn W.pn.length∧W.co.nxt=pl0∧W.co.now.v=W.pn.length∧∀s,s<n→W.sw.getD s Agt.sw0=⟨rls W.co.now s,stOf W.co.now s⟩:=by
 rcases h.dyn.stg with⟨_,h2,h3⟩ | ⟨h1,_⟩
 ·refine⟨h3,h2,by rw[h3];exact(h.pls.lp (Nat.le_refl _)).1,fun s hsn=>?_⟩
  rw[(h.dyn.core.quiet hw).2 s hsn]
  unfold aft
  rw[if_pos hs]
 ·omega
theorem ver_at {p:Pl} {s i:Nat} (hi:i<p.fs.length):Agt.ver (stOf p s) i=if(p.fs.getD i Fw.f0).fr=(s:Int) then p.v else 0:=by
 unfold stOf
 by_cases h:(p.fs.getD i Fw.f0).fr=(s:Int)
 ·rw[if_pos h]
  exact ver_stamps_of (mem_beg.2 ⟨i,hi,rfl,h⟩)
 ·rw[if_neg h]
  cases e:decide (Agt.ver (Agt.stamps p.v (beg s p.fs p.fs.length)) i=0) with
  | true=>exact of_decide_eq_true e
  | false=>
   exfalso
   obtain⟨k,_,k2,k3⟩:=mem_beg.1 (ver_stamps (of_decide_eq_false e)).1
   have:k=i:=by omega
   subst this
   exact h k3
end Go.Proofs.Ytolclgbpjiokfaa.Rm
namespace Go.Proofs.Ytolclgbpjiokfaa.Rm
open Go.RowKit Go.Deep Stw Stp Tb Rul Ct
theorem fnd_right {n:Int} {ls:List Lk} {f:Stf.Fl} (h:(fnd n ls f).1=0):(wrong n ls).1=0∧Stf.wflow f n=0:=by
 unfold fnd at h
 by_cases h1:(wrong n ls).1=0
 ·rw[if_neg (by simpa using h1)] at h
  by_cases h2:Stf.wflow f n=0
  ·exact⟨h1,h2⟩
  ·rw[if_pos h2] at h;exact absurd h h2
 ·rw[if_pos h1] at h;exact absurd h h1
theorem plan_one {n:Int} {ls:List Lk} {f:Stf.Fl} {v:Int} (h:(fnd n ls f).1=0) (h1:1≤v) (h2:v≤1000):(plnF n v ls [f]).1=0:=by
 obtain⟨a,b⟩:=fnd_right h
 have hb:(Stf.wflows [f] n).1=0:=by
  unfold Stf.wflows
  rw[if_neg (by simp),Stf.firstBad_none (fun k hk=>by
   have hk0:k=0:=by simp at hk;omega
   subst hk0;exact b)]
 unfold plnF
 rw[if_neg (by simpa using a),if_neg (by omega),if_neg (by simpa using hb),Stf.firstBad_none (fun k hk=>by
  have hk0:k=0:=by simp at hk;omega
  subst hk0;exact h)]
theorem plnP_one {n:Int} {ls:List Lk} {f:Stf.Fl}:plnP n ls [f]=[(fnd n ls f).2]:=rfl
theorem same_len {l:List Ru} (h:Ris l) (hs:∀a∈l,∀b∈l,a=b):l.length≤1:=by
 match l,h with
 | [],_=>simp
 | [_],_=>simp
 | a::b::r,h=>
  exfalso
  have e:=hs a (by simp) b (by simp)
  have hl:=(List.pairwise_cons.1 h).1 b (by simp)
  rw[e] at hl
  have:=lt_asymm hl
  rw[hl] at this
  cases this
theorem rls_one {n:Nat} {p:Pl} {q:List Int} {s:Nat} (hn:n≤8) (h:Gd n p) (hp:p.ps=[q]):(rls p s).length≤1:=by
 refine same_len (rls_ris hn (Or.inr h)) (fun a ha b hb=>?_)
 obtain⟨i,i1,k,k1,k2,rfl⟩:=mem_rof.1 ha
 obtain⟨j,j1,m,m1,m2,rfl⟩:=mem_rof.1 hb
 rw[hp] at i1 j1 k1 k2 m1 m2 ⊢
 simp only[List.length_cons,List.length_nil] at i1 j1
 have hi:i=0:=by omega
 have hj:j=0:=by omega
 subst hi hj
 simp only[List.getD_cons_zero] at k1 k2 m1 m2 ⊢
 have hnd:=(h.gp 0 (by rw[hp];simp)).2.1
 rw[hp] at hnd
 have e:k=m:=nd_get hnd (by simpa using(by omega:k<q.length)) (by simpa using(by omega:m<q.length)) (by simp only[List.getD_cons_zero];omega)
 rw[e]
theorem hap_pn {n:Nat} {ls:List Lk} {W:Wd} {d:Dd}:(hap n ls W d).1.pn=W.pn∨(d.k=1∧(hap n ls W d).2=0∧(hap n ls W d).1.pn=W.pn++[⟨nx W.co.now.v,d.fs,plnP n ls d.fs⟩]):=by
 unfold hap
 split
 ·rename_i h1
  unfold hapA
  split
  ·exact Or.inl rfl
  ·rename_i h0
   have h0':(askS W.co n ls d.fs).2=0:=by simpa using h0
   obtain⟨_,hA,_⟩:=(Ct.ask_cases h0').A
   exact Or.inr ⟨h1,rfl,by rw[hA]⟩
 ·left
  split
  ·unfold hapO
   split
   ·rfl
   ·split
    ·rfl
    ·split <;> rfl
  ·split
   ·unfold hapK
    split
    ·rfl
    ·split
     ·rfl
     ·split <;> rfl
   ·split
    ·unfold hapB
     split
     ·rfl
     ·split <;> rfl
    ·split
     ·unfold hapM
      split
      ·rfl
      ·split <;> rfl
     ·split
      ·unfold hapD
       split <;> rfl
      ·rfl
theorem runR_fs {n:Nat} {ls:List Lk} {fs0:List Stf.Fl}:∀{ds:List Dd} {q:Wd×List Int},(∀d∈ds,d.k=1→d.fs=fs0)→(∀P∈q.1.pn,P.fs=fs0)→∀P∈(runR n ls q ds).1.pn,P.fs=fs0
 | [],q,_,h=>h
 | d::r,q,hd,h=>by
  rw[runR_cons]
  refine runR_fs (fun e he=>hd e (by simp[he])) (fun P hP=>?_)
  have hP':P∈(hap n ls q.1 d).1.pn:=hP
  rcases hap_pn (n:=n) (ls:=ls) (W:=q.1) (d:=d) with e | ⟨e1,_,e2⟩
  ·rw[e] at hP';exact h P hP'
  ·rw[e2] at hP'
   rcases List.mem_append.1 hP' with hP' | hP'
   ·exact h P hP'
   ·rw[List.mem_singleton] at hP';rw[hP'];exact hd d (by simp) e1
theorem run_fs {n:Nat} {ls:List Lk} {fs0:List Stf.Fl} {ds:List Dd} (h:∀d∈ds,d.k=1→d.fs=fs0):∀P∈(run n ls ds).1.pn,P.fs=fs0:=runR_fs h (fun P hP=>by simp[wdN] at hP)
theorem Inv.one_path {n:Nat} {ls:List Lk} {t:Nat} {W:Wd} {f:Stf.Fl} (h:Inv n ls t W) (hall:∀P∈W.pn,P.fs=[f]) {m:Nat} (hm:m<W.pn.length):(W.pn.getD m pl0).ps=[(fnd n ls f).2]∧(W.pn.getD m pl0).fs=[f]:=by
 have h1:=hall (W.pn.getD m pl0) (by rw[List.getD_eq_getElem?_getD,List.getElem?_eq_getElem hm];exact List.getElem_mem _)
 obtain⟨fs,e,_⟩:=h.pls m hm
 rw[e] at h1 ⊢
 simp only at h1 ⊢
 rw[h1]
 exact⟨plnP_one,rfl⟩
theorem ask_ok {n:Nat} {ls:List Lk} {t:Nat} {W:Wd} {f:Stf.Fl} (h:Inv n ls t W) (ht:t≤900) (hst:W.co.st=0) (hf:(fnd n ls f).1=0) (hall:∀P∈W.pn,P.fs=[f]):(askS W.co n ls [f]).2=0:=by
 have hn:=h.n8.2
 have hnow:W.co.now=lp W.pn W.pn.length:=by
  rcases h.dyn.stg with⟨_,_,h3⟩ | ⟨h1,_⟩
  ·exact h3
  ·omega
 have hv:=(h.pls.lp (Nat.le_refl W.pn.length)).1
 have hpl:=h.pl
 have hnx:nx W.co.now.v=(W.pn.length:Int)+1:=by unfold nx;rw[hnow,hv,IntKind.wrap_i64];omega
 have hp:(plnF n (nx W.co.now.v) ls [f]).1=0:=plan_one hf (by omega) (by omega)
 have hg:Pln n ls (nx W.co.now.v) ⟨nx W.co.now.v,[f],plnP n ls [f]⟩:=⟨[f],rfl,hp⟩
 have hfl:full n W.co.now ⟨nx W.co.now.v,[f],plnP n ls [f]⟩=false:=by
  refine full_false (fun j _=>?_)
  have h1:=rls_one (s:=j) hn hg.gd plnP_one
  have h2:(rls W.co.now j).length≤1:=by
   rw[hnow]
   cases e:W.pn.length with
   | zero=>simp[lp,rls_pl0]
   | succ m=>
    have hm:m<W.pn.length:=by omega
    exact rls_one (s:=j) hn (h.pls m hm).gd (h.one_path hall hm).1
  omega
 unfold askS
 rw[if_neg (by omega),if_neg (by simpa using hp),if_neg (by rw[Int.toNat_natCast,hfl];simp)]
theorem hap_ask {n:Nat} {ls:List Lk} {W:Wd} {fs:List Stf.Fl}:hap n ls W ⟨1,0,fs⟩=hapA n ls W fs:=by
 unfold hap
 rw[if_pos rfl]
theorem drn1_kind {W:Wd} {d:Dd} (h:d∈drn1 W):d.k≠1:=by
 obtain⟨s,_,h2⟩:=List.mem_flatMap.1 h
 unfold acts at h2
 rcases List.mem_append.1 h2 with h | h
 ·obtain⟨_,_,h2⟩:=List.mem_flatMap.1 h
  simp only[List.mem_cons,List.not_mem_nil,or_false] at h2
  rcases h2 with rfl | rfl <;> simp
 ·obtain⟨_,_,rfl⟩:=List.mem_map.1 h;simp
theorem drn_kind {N:Int} {ls:List Lk} {fs0:List Stf.Fl}:∀(k:Nat) {es:List Dd},(∀d∈es,d.k=1→d.fs=fs0)→∀d∈drn N ls k es,d.k=1→d.fs=fs0
 | 0,_,h=>h
 | k+1,es,h=>by
  rw[drn]
  split
  ·exact h
  ·refine drn_kind k (fun d hd=>?_)
   rcases List.mem_append.1 hd with h1 | h1
   ·exact h d h1
   ·exact fun e=>absurd e (drn1_kind h1)
theorem kind_snoc {fs0:List Stf.Fl} {es:List Dd} {d:Dd} (h:∀d∈es,d.k=1→d.fs=fs0) (hd:d.k=1→d.fs=fs0):∀e∈es++[d],e.k=1→e.fs=fs0:=fun e he=>by
 rcases List.mem_append.1 he with h1 | h1
 ·exact h e h1
 ·rw[List.mem_singleton] at h1;rw[h1];exact hd
def mny (n:Int) (ls:List Lk) (f:Stf.Fl):Nat→List Dd
 | 0=>[]
 | j+1=>drn n ls 10 (drn n ls 10 (mny n ls f j++[⟨1,0,[f]⟩])++[⟨6,0,[]⟩])
theorem mny_kind {n:Int} {ls:List Lk} {f:Stf.Fl}:∀j,∀d∈mny n ls f j,d.k=1→d.fs=[f]
 | 0=>fun d hd=>by simp[mny] at hd
 | j+1=>drn_kind 10 (kind_snoc (drn_kind 10 (kind_snoc (mny_kind j) (fun _=>rfl))) (fun h=>by cases h))
theorem mny_ok {n:Nat} {ls:List Lk} {f:Stf.Fl} (hf:(fnd n ls f).1=0):∀j,j≤4→(mny n ls f j).length≤50*j∧(run n ls (mny n ls f j)).1.co.st=0∧(run n ls (mny n ls f j)).1.co.wts=[]∧(run n ls (mny n ls f j)).1.pn.length=j
 | 0,_=>⟨by simp[mny],rfl,rfl,rfl⟩
 | j+1,hj=>by
  obtain⟨h1,h2,h3,h4⟩:=mny_ok hf j (by omega)
  have hw:=(fnd_right hf).1
  have hI:=run_inv (n:=n) (ls:=ls) hw (show(mny n ls f j).length≤1000 by omega)
  have hl:(mny n ls f j++[(⟨1,0,[f]⟩:Dd)]).length≤50*j+1:=by simp;omega
  obtain⟨z1,z2,a1,a2,a3,a4,_,a6⟩:=settle2 (n:=n) (ls:=ls) hw (ds:=mny n ls f j++[⟨1,0,[f]⟩]) (by omega)
  have e:mny n ls f (j+1)=mny n ls f j++[⟨1,0,[f]⟩]++z1++[⟨6,0,[]⟩]++z2:=by rw[mny,a1,a2]
  have hlen:(mny n ls f (j+1)).length≤50*(j+1):=by
   rw[e]
   simp only[List.length_append,List.length_cons,List.length_nil] at hl ⊢
   omega
  obtain⟨b1,b2,b3,_⟩:=a6 (by rw[←e];omega)
  rw[←e] at b1 b2 b3
  have hask:=ask_ok hI (by omega) h2 hf (run_fs (mny_kind j))
  have hpn:(run n ls (mny n ls f j++[⟨1,0,[f]⟩])).1.pn.length=j+1:=by
   rw[run_snoc,hap_ask]
   unfold hapA
   rw[if_neg (by simpa using hask)]
   simp[h4]
  exact⟨hlen,b1,b2,by rw[b3,hpn]⟩
theorem busy {n:Nat} {ls:List Lk} {f:Stf.Fl} (hf:(fnd n ls f).1=0) {k:Nat} (hk:k≤(mny n ls f 1).length):
 ((run n ls ((mny n ls f 1).take k++[⟨1,0,[f]⟩])).2.getD k 0=0∧(run n ls ((mny n ls f 1).take k)).1.co.st=0)∨((run n ls ((mny n ls f 1).take k++[⟨1,0,[f]⟩])).2.getD k 0=11∧(run n ls ((mny n ls f 1).take k)).1.co.st≠0):=by
 have h1:=(mny_ok hf 1 (by omega)).1
 have hl:((mny n ls f 1).take k).length=k:=by rw[List.length_take];omega
 have hI:=run_inv (n:=n) (ls:=ls) (fnd_right hf).1 (show((mny n ls f 1).take k).length≤1000 by omega)
 have hc:(run n ls ((mny n ls f 1).take k)).2.length=k:=by rw[run_len];exact hl
 have e:(run n ls ((mny n ls f 1).take k++[⟨1,0,[f]⟩])).2.getD k 0=(hapA n ls (run n ls ((mny n ls f 1).take k)).1 [f]).2:=by
  rw[run_snoc,hap_ask]
  simp only
  rw[List.getD_eq_getElem?_getD,List.getElem?_append_right (by omega),hc]
  simp
 rw[e]
 by_cases hst:(run n ls ((mny n ls f 1).take k)).1.co.st=0
 ·left
  have hask:=ask_ok hI (by omega) hst hf (run_fs (fun d hd=>mny_kind 1 d (List.mem_of_mem_take hd)))
  unfold hapA
  rw[if_neg (by simpa using hask)]
  exact⟨rfl,hst⟩
 ·right
  have hask:(askS (run n ls ((mny n ls f 1).take k)).1.co n ls [f]).2=11:=by unfold askS;rw[if_pos hst]
  unfold hapA
  rw[if_pos (by rw[hask];decide)]
  exact⟨hask,hst⟩
end Go.Proofs.Ytolclgbpjiokfaa.Rm
namespace Go.Proofs.Ytolclgbpjiokfaa.Rm
open Go.RowKit Go.Deep Stw Stp Tb Rul Ct
def Goes (W:Wd):Prop:=W.co.st=1∨W.co.st=2∨W.co.st=3
theorem step23 {n:Nat} {ls:List Lk} {t:Nat} {W:Wd} {d:Dd} (h:Inv n ls t W) (hg:Goes W) (hd:d.k=2∨d.k=3):Goes (hap n ls W d).1∧(hap n ls W d).1.co.now=W.co.now∧(hap n ls W d).1.co.nxt=W.co.nxt∧(W.co.st≠1→(hap n ls W d).1.co.st≠1)∧(hap n ls W d).1.pn=W.pn∧(hap n ls W d).1.pk=W.pk:=by
 have same:∀x:Int,Goes (W,x).1∧(W,x).1.co.now=W.co.now∧(W,x).1.co.nxt=W.co.nxt∧(W.co.st≠1→(W,x).1.co.st≠1)∧(W,x).1.pn=W.pn∧(W,x).1.pk=W.pk:=fun _=>⟨hg,rfl,rfl,id,rfl,rfl⟩
 rcases hd with e | e
 ·have eh:hap n ls W d=hapO n W d.n:=by unfold hap;rw[if_neg (by omega),if_pos e]
  rw[eh]
  unfold hapO
  split
  ·exact same _
  ·split
   ·exact same _
   ·split
    ·exact same _
    ·exact⟨hg,rfl,rfl,id,rfl,rfl⟩
 ·have eh:hap n ls W d=hapK n ls W d.n:=by unfold hap;rw[if_neg (by omega),if_neg (by omega),if_pos e]
  rw[eh]
  unfold hapK
  split
  ·exact same _
  ·rename_i hr
   split
   ·exact same _
   ·rename_i k r hb
    obtain⟨_,_,hk,_,hB⟩:=back_done (ls:=ls) h (s:=d.n.toNat) (by omega) hb
    rw[hB]
    rw[if_neg (by simp)]
    have hne:W.co.st≠3:=fun e3=>by
     have:=h.dyn.wst.2 (Or.inr e3)
     rw[this] at hk;cases hk
    have h12:W.co.st=1∨W.co.st=2:=by rcases hg with e | e | e <;> first | exact Or.inl e | exact Or.inr e | exact absurd e hne
    obtain⟨a1,a2,a3⟩:=goS_A (n:=n) (g:=⟨⟨W.co.st,W.co.now,W.co.nxt,W.co.num,W.co.wts.erase k⟩,[]⟩) h12
    refine⟨?_,a1,a2,fun h1=>?_,rfl,rfl⟩
    ·show(goS n ⟨⟨W.co.st,W.co.now,W.co.nxt,W.co.num,W.co.wts.erase k⟩,[]⟩).c.st=1∨_
     rcases a3 with⟨b,_⟩ | ⟨b,_⟩
     ·exact b.imp id Or.inl
     ·exact Or.inr (Or.inr b)
    ·exact(goS_out2 (n:=n) (g:=⟨⟨W.co.st,W.co.now,W.co.nxt,W.co.num,W.co.wts.erase k⟩,[]⟩) h12 rfl).2.2.1 (by simp only;omega)
theorem Live.step {W V:Wd} {m:Nat} (h:Live W m) (hg:Goes V) (h1:V.co.now=W.co.now) (h2:V.co.nxt=W.co.nxt) (h3:W.co.st≠1→V.co.st≠1) (h4:V.pn=W.pn):Live V m:=by
 refine⟨by rw[h4];exact h.1,?_⟩
 rw[h4,h1,h2]
 refine h.2.imp id (fun⟨e,_,e1⟩=>⟨e,?_,h3 e1⟩)
 rcases hg with e | e | e <;> omega
theorem runR_23 {n:Nat} {ls:List Lk}:∀{ds:List Dd} {q:Wd×List Int} {t:Nat},Inv n ls t q.1→t+ds.length≤1000→Goes q.1→(∀d∈ds,d.k=2∨d.k=3)→Goes (runR n ls q ds).1∧(runR n ls q ds).1.co.now=q.1.co.now∧(runR n ls q ds).1.co.nxt=q.1.co.nxt∧(runR n ls q ds).1.pn=q.1.pn∧(runR n ls q ds).1.pk=q.1.pk
 | [],q,_,_,_,hg,_=>⟨hg,rfl,rfl,rfl,rfl⟩
 | d::r,q,t,h,ht,hg,hd=>by
  simp only[List.length_cons] at ht
  obtain⟨a1,a2,a3,_,a5,a6⟩:=step23 h hg (hd d (by simp))
  rw[runR_cons]
  obtain⟨b1,b2,b3,b4,b5⟩:=runR_23 (ds:=r) (q:=stepR n ls q d) (t:=t+1) (hap_inv h (by omega)) (by omega) a1 (fun e he=>hd e (by simp[he]))
  exact⟨b1,b2.trans a2,b3.trans a3,b4.trans a5,b5.trans a6⟩
structure Pak (n:Nat) (ls:List Lk) (W:Wd) (m j:Nat):Prop where
 gs:Goes W
 lv:Live W m
 ln:0<(W.pn.getD m pl0).ps.length
 l1:1≤((W.pn.getD m pl0).ps.getD 0 []).length
 pk:(j<((W.pn.getD m pl0).ps.getD 0 []).length∧1≤j∧W.pk=[⟨0,(m:Int)+1,((W.pn.getD m pl0).ps.getD 0 []).take j,false⟩])∨(((W.pn.getD m pl0).ps.getD 0 []).length≤j∧∃b,W.pk=[⟨0,(m:Int)+1,(W.pn.getD m pl0).ps.getD 0 [],b⟩])
theorem Pak.step {n:Nat} {ls:List Lk} {t:Nat} {W:Wd} {m j:Nat} {d:Dd} (h:Pak n ls W m j) (hI:Inv n ls t W) (hd:d.k=2∨d.k=3):Pak n ls (hap n ls W d).1 m j∧(hap n ls W d).1.pn=W.pn:=by
 obtain⟨a1,a2,a3,a4,a5,a6⟩:=step23 hI h.gs hd
 exact⟨⟨a1,h.lv.step a1 a2 a3 a4 a5,by rw[a5];exact h.ln,by rw[a5];exact h.l1,by rw[a5,a6];exact h.pk⟩,a5⟩
theorem hap_move {n:Nat} {ls:List Lk} {W:Wd}:hap n ls W ⟨5,0,[]⟩=hapM W 0:=by
 unfold hap
 simp only[show((5:Int)=1)=False by simp,show((5:Int)=2)=False by simp,show((5:Int)=3)=False by simp,show((5:Int)=4)=False by simp,if_false,if_true]
theorem Pak.move {n:Nat} {ls:List Lk} {t:Nat} {W:Wd} {m j:Nat} (h:Pak n ls W m j) (hI:Inv n ls t W):Pak n ls (hap n ls W ⟨5,0,[]⟩).1 m (j+1)∧(hap n ls W ⟨5,0,[]⟩).1.pn=W.pn:=by
 have h4:W.co.st≠4:=by rcases h.gs with e | e | e <;> omega
 rw[hap_move]
 have hl1:=h.l1
 rcases h.pk with⟨h1,h2,e⟩ | ⟨h1,b,e⟩
 ·have hm:=hI.live_mov h4 h.lv (p:=⟨0,(m:Int)+1,((W.pn.getD m pl0).ps.getD 0 []).take j,false⟩) (i:=0) (j:=j) rfl rfl h.ln h2 (by omega) rfl rfl
  rw[if_pos h1] at hm
  unfold hapM
  rw[e]
  simp only[List.length_cons,List.length_nil,Int.toNat_zero,List.getD_cons_zero,List.set_cons_zero]
  rw[if_neg (by omega),if_neg (by simp),hm]
  refine⟨⟨h.gs,h.lv,h.ln,h.l1,?_⟩,rfl⟩
  by_cases hj:j+1<((W.pn.getD m pl0).ps.getD 0 []).length
  ·exact Or.inl ⟨hj,by omega,rfl⟩
  ·refine Or.inr ⟨by simp only;omega,false,?_⟩
   simp only
   rw[List.take_of_length_le (by omega)]
   rfl
 ·cases b with
  | true=>
   have e2:hapM W 0=(W,6):=by
    unfold hapM
    rw[e]
    simp
   rw[e2]
   exact⟨⟨h.gs,h.lv,h.ln,h.l1,Or.inr ⟨by simp only;omega,true,e⟩⟩,rfl⟩
  | false=>
   have hm:=hI.live_mov h4 h.lv (p:=⟨0,(m:Int)+1,(W.pn.getD m pl0).ps.getD 0 [],false⟩) (i:=0) (j:=((W.pn.getD m pl0).ps.getD 0 []).length) rfl rfl h.ln hl1 (Nat.le_refl _) (by simp) rfl
   rw[if_neg (by omega)] at hm
   unfold hapM
   rw[e]
   simp only[List.length_cons,List.length_nil,Int.toNat_zero,List.getD_cons_zero,List.set_cons_zero]
   rw[if_neg (by omega),if_neg (by simp),hm]
   exact⟨⟨h.gs,h.lv,h.ln,h.l1,Or.inr ⟨by simp only;omega,true,rfl⟩⟩,rfl⟩
def wv (rest:List Dd):Nat→List Dd
 | 0=>[]
 | k+1=>wv rest k++(if k<rest.length then [rest.getD k dd0] else [])++[⟨5,0,[]⟩]
theorem wv_len (rest:List Dd):∀k,(wv rest k).length=k+min k rest.length
 | 0=>by simp[wv]
 | k+1=>by
  rw[wv,List.length_append,List.length_append,wv_len rest k]
  by_cases h:k<rest.length
  ·rw[if_pos h];simp;omega
  ·rw[if_neg h];simp;omega
theorem wv_fs {rest:List Dd} (h:∀d∈rest,d.fs=[]):∀k,∀d∈wv rest k,d.fs=[]
 | 0=>fun d hd=>by simp[wv] at hd
 | k+1=>fun d hd=>by
  rw[wv] at hd
  rcases List.mem_append.1 hd with hd | hd
  ·rcases List.mem_append.1 hd with hd | hd
   ·exact wv_fs h k d hd
   ·by_cases hk:k<rest.length
    ·rw[if_pos hk,List.mem_singleton] at hd
     rw[hd]
     exact h _ (by rw[List.getD_eq_getElem?_getD,List.getElem?_eq_getElem hk];exact List.getElem_mem _)
    ·rw[if_neg hk] at hd;cases hd
  ·rw[List.mem_singleton] at hd;rw[hd]
theorem wv_run {n:Nat} {ls:List Lk} {rest:List Dd} (hr:∀d∈rest,d.k=2∨d.k=3) {ds:List Dd} (hw:(wrong n ls).1=0) {m:Nat} (h:Pak n ls (run n ls ds).1 m 1):∀k,(ds++wv rest k).length≤990→Pak n ls (run n ls (ds++wv rest k)).1 m (k+1)∧(run n ls (ds++wv rest k)).1.pn=(run n ls ds).1.pn
 | 0,_=>by rw[wv,List.append_nil];exact⟨h,rfl⟩
 | k+1,hl=>by
  have hlk:(ds++wv rest k).length≤989:=by
   rw[wv] at hl
   simp only[List.length_append,List.length_cons,List.length_nil] at hl ⊢
   omega
  obtain⟨ih,ip⟩:=wv_run hr hw h k (by omega)
  have hI:=run_inv (n:=n) (ls:=ls) hw (show(ds++wv rest k).length≤1000 by omega)
  by_cases hk:k<rest.length
  ·have hd:rest.getD k dd0∈rest:=by rw[List.getD_eq_getElem?_getD,List.getElem?_eq_getElem hk];exact List.getElem_mem _
   obtain⟨p1,p2⟩:=ih.step hI (hr _ hd)
   have e1:(run n ls (ds++wv rest k++[rest.getD k dd0])).1=(hap n ls (run n ls (ds++wv rest k)).1 (rest.getD k dd0)).1:=by rw[run_snoc]
   rw[←e1] at p1 p2
   have hI2:=run_inv (n:=n) (ls:=ls) hw (show(ds++wv rest k++[rest.getD k dd0]).length≤1000 by rw[List.length_append];simp;simp at hlk;omega)
   obtain⟨q1,q2⟩:=p1.move hI2
   have e2:ds++wv rest (k+1)=ds++wv rest k++[rest.getD k dd0]++[⟨5,0,[]⟩]:=by rw[wv,if_pos hk];simp
   rw[e2,run_snoc]
   exact⟨q1,q2.trans (p2.trans ip)⟩
  ·obtain⟨q1,q2⟩:=ih.move hI
   have e2:ds++wv rest (k+1)=ds++wv rest k++[⟨5,0,[]⟩]:=by rw[wv,if_neg hk];simp
   rw[e2,run_snoc]
   exact⟨q1,q2.trans ip⟩
end Go.Proofs.Ytolclgbpjiokfaa.Rm
namespace Go.Proofs.Ytolclgbpjiokfaa.Rm
open Go.RowKit Go.Deep Stw Stp Tb Rul Ct
theorem ask_gen {n:Nat} {ls:List Lk} {t:Nat} {W:Wd} {g:Stf.Fl} (h:Inv n ls t W) (ht:t≤900) (hst:W.co.st=0) (hf:(fnd n ls g).1=0) (hall:∀m,m<W.pn.length→∃q,(W.pn.getD m pl0).ps=[q]):(askS W.co n ls [g]).2=0:=by
 have hn:=h.n8.2
 have hnow:W.co.now=lp W.pn W.pn.length:=by
  rcases h.dyn.stg with⟨_,_,h3⟩ | ⟨h1,_⟩
  ·exact h3
  ·omega
 have hv:=(h.pls.lp (Nat.le_refl W.pn.length)).1
 have hpl:=h.pl
 have hnx:nx W.co.now.v=(W.pn.length:Int)+1:=by unfold nx;rw[hnow,hv,IntKind.wrap_i64];omega
 have hp:(plnF n (nx W.co.now.v) ls [g]).1=0:=plan_one hf (by omega) (by omega)
 have hg:Pln n ls (nx W.co.now.v) ⟨nx W.co.now.v,[g],plnP n ls [g]⟩:=⟨[g],rfl,hp⟩
 have hfl:full n W.co.now ⟨nx W.co.now.v,[g],plnP n ls [g]⟩=false:=by
  refine full_false (fun j _=>?_)
  have h1:=rls_one (s:=j) hn hg.gd plnP_one
  have h2:(rls W.co.now j).length≤1:=by
   rw[hnow]
   cases e:W.pn.length with
   | zero=>simp[lp,rls_pl0]
   | succ m=>
    have hm:m<W.pn.length:=by omega
    obtain⟨q,hq⟩:=hall m hm
    exact rls_one (s:=j) hn (h.pls m hm).gd hq
  omega
 unfold askS
 rw[if_neg (by omega),if_neg (by simpa using hp),if_neg (by rw[Int.toNat_natCast,hfl];simp)]
theorem hap_pk {n:Nat} {ls:List Lk} {W:Wd} {d:Dd} (h:W.pk=[]) (hd:d.k≠4):(hap n ls W d).1.pk=[]:=by
 unfold hap
 split
 ·unfold hapA;split <;> exact h
 ·split
  ·unfold hapO
   split
   ·exact h
   ·split
    ·exact h
    ·split <;> exact h
  ·split
   ·unfold hapK
    split
    ·exact h
    ·split
     ·exact h
     ·split <;> exact h
   ·skip
    split
    ·unfold hapM
     rw[if_pos (by rw[h];simp)]
     exact h
    ·split
     ·unfold hapD;split <;> exact h
     ·exact h
theorem runR_pk {n:Nat} {ls:List Lk}:∀{ds:List Dd} {q:Wd×List Int},q.1.pk=[]→(∀d∈ds,d.k≠4)→(runR n ls q ds).1.pk=[]
 | [],q,h,_=>h
 | d::r,q,h,hd=>by rw[runR_cons];exact runR_pk (hap_pk h (hd d (by simp))) (fun e he=>hd e (by simp[he]))
theorem drn1_is {W:Wd} {d:Dd} (h:d∈drn1 W):(d.k=2∨d.k=3)∧d.fs=[]:=by
 obtain⟨s,_,h2⟩:=List.mem_flatMap.1 h
 unfold acts at h2
 rcases List.mem_append.1 h2 with h | h
 ·obtain⟨_,_,h2⟩:=List.mem_flatMap.1 h
  simp only[List.mem_cons,List.not_mem_nil,or_false] at h2
  rcases h2 with rfl | rfl
  ·exact⟨Or.inl rfl,rfl⟩
  ·exact⟨Or.inr rfl,rfl⟩
 ·obtain⟨_,_,rfl⟩:=List.mem_map.1 h;exact⟨Or.inr rfl,rfl⟩
theorem drn_suf {N:Int} {ls:List Lk}:∀(k:Nat) (es:List Dd),∃z,drn N ls k es=es++z∧∀d∈z,(d.k=2∨d.k=3)∧d.fs=[]
 | 0,es=>⟨[],by simp[drn],by simp⟩
 | k+1,es=>by
  rw[drn]
  split
  ·exact⟨[],by simp,by simp⟩
  ·obtain⟨z,h1,h2⟩:=drn_suf (N:=N) (ls:=ls) k (es++drn1 (plyW N ls es).1)
   refine⟨drn1 (plyW N ls es).1++z,by rw[h1,List.append_assoc],fun d hd=>?_⟩
   rcases List.mem_append.1 hd with h | h
   ·exact drn1_is h
   ·exact h2 d h
theorem mny_no4 {n:Int} {ls:List Lk} {f:Stf.Fl}:∀j,∀d∈mny n ls f j,d.k≠4
 | 0=>fun d hd=>by simp[mny] at hd
 | j+1=>fun d hd=>by
  rw[mny] at hd
  obtain⟨z1,a1,a2⟩:=drn_suf (N:=n) (ls:=ls) 10 (mny n ls f j++[⟨1,0,[f]⟩])
  obtain⟨z2,b1,b2⟩:=drn_suf (N:=n) (ls:=ls) 10 (drn n ls 10 (mny n ls f j++[⟨1,0,[f]⟩])++[⟨6,0,[]⟩])
  rw[b1,a1] at hd
  simp only[List.mem_append,List.mem_singleton] at hd
  rcases hd with(((h | rfl) | h) | rfl) | h
  ·exact mny_no4 j d h
  ·simp
  ·have:=(a2 d h).1;omega
  ·simp
  ·have:=(b2 d h).1;omega
theorem two_asked {n:Nat} {ls:List Lk} {f g:Stf.Fl} (hf:(fnd n ls f).1=0) (hg:(fnd n ls g).1=0) (hfg:g.fr=f.fr):
 ∃W,(run n ls (mny n ls f 1++[⟨1,0,[g]⟩])).1=W∧Goes W∧W.pk=[]∧W.pn.length=2∧(W.pn.getD 0 pl0).ps=[(fnd n ls f).2]∧(W.pn.getD 1 pl0).ps=[(fnd n ls g).2]∧W.co.now.fs.length=1∧(W.co.now.fs.getD 0 Fw.f0).fr=f.fr∧W.co.now.v=1∧W.co.nxt.fs.length=1∧(W.co.nxt.fs.getD 0 Fw.f0).fr=f.fr∧W.co.nxt.v=2:=by
 obtain⟨o1,o2,o3,o4⟩:=mny_ok hf 1 (by omega)
 have hw:=(fnd_right hf).1
 have hI:=run_inv (n:=n) (ls:=ls) hw (show(mny n ls f 1).length≤1000 by omega)
 have hall:=run_fs (n:=n) (ls:=ls) (mny_kind (n:=n) (ls:=ls) (f:=f) 1)
 have hpk:(run n ls (mny n ls f 1)).1.pk=[]:=runR_pk (by rfl) (mny_no4 1)
 rw[run_snoc,hap_ask]
 simp only
 generalize (run n ls (mny n ls f 1)).1=V at hI o2 o3 o4 hall hpk
 have h0:0<V.pn.length:=by omega
 obtain⟨k1,k2⟩:=hI.one_path hall h0
 have hask:=ask_gen hI (by omega) o2 hg (fun m hm=>by
  have hm0:m=0:=by omega
  subst hm0;exact⟨_,k1⟩)
 obtain⟨a1,a2,a3⟩:=(Ct.ask_cases hask).A
 obtain⟨r1,_,r3,_⟩:=hI.rest o2 o3
 have hnow:V.co.now=V.pn.getD 0 pl0:=by rw[r1,o4];rfl
 have hv:V.co.now.v=1:=by rw[r3,o4];rfl
 have hnx:nx V.co.now.v=2:=by rw[hv];rfl
 unfold hapA
 rw[if_neg (by simpa using hask)]
 refine⟨_,rfl,?_,hpk,by simp[o4],?_,?_,?_,?_,?_,?_,?_,?_⟩
 ·rcases a3 with⟨b,_⟩ | ⟨b,_⟩
  ·exact b.imp id Or.inl
  ·exact Or.inr (Or.inr b)
 ·simp only
  rw[show(V.pn++[(askS V.co n ls [g]).1.c.nxt]).getD 0 pl0=V.pn.getD 0 pl0 from lp_append (m:=1) (by omega)]
  exact k1
 ·simp only
  have e:=lp_last (pn:=V.pn) (p:=(askS V.co n ls [g]).1.c.nxt)
  rw[o4] at e
  rw[show(V.pn++[(askS V.co n ls [g]).1.c.nxt]).getD 1 pl0=(askS V.co n ls [g]).1.c.nxt from e,a2]
  exact plnP_one
 ·simp only;rw[a1,hnow,k2];rfl
 ·simp only;rw[a1,hnow,k2];rfl
 ·simp only;rw[a1];exact hv
 ·simp only;rw[a2];rfl
 ·simp only;rw[a2];exact hfg
 ·simp only;rw[a2];exact hnx
theorem Inv.begins {n:Nat} {ls:List Lk} {t:Nat} {V:Wd} {fr:Int} (h:Inv n ls t V) (hg:Goes V) (hpk:V.pk=[]) (hr:0≤fr∧fr<(n:Int)) (h1:V.co.now.fs.length=1) (h2:(V.co.now.fs.getD 0 Fw.f0).fr=fr) (h3:V.co.now.v=1) (h4:V.co.nxt.fs.length=1) (h5:(V.co.nxt.fs.getD 0 Fw.f0).fr=fr) (h6:V.co.nxt.v=2):
 ∃m,Pak n ls (hap n ls V ⟨4,0,[]⟩).1 m 1∧m<V.pn.length∧(hap n ls V ⟨4,0,[]⟩).1.pn=V.pn:=by
 have hh:hap n ls V ⟨4,0,[]⟩=(⟨V.co,V.sw,V.od,V.bk,[newP V.sw 0 fr],V.pn⟩,0):=by
  unfold hap
  simp only[show((4:Int)=1)=False by simp,show((4:Int)=2)=False by simp,show((4:Int)=3)=False by simp,if_false,if_true]
  unfold hapB
  have hfr:frm V.co 0=some fr:=by unfold frm;rw[if_pos (by omega)];simp only[Int.toNat_zero,h5]
  rw[if_neg (by rw[hpk];simp),hfr,hpk]
  rfl
 rw[hh]
 obtain⟨s,hs⟩:=Int.eq_ofNat_of_zero_le hr.1
 have hsn:s<n:=by omega
 have hst:Agt.ver (V.sw.getD s Agt.sw0).st 0≠0:=by
  rcases h.sw_st hsn with e | e
  ·rw[e]
   have hva:=ver_at (p:=V.co.now) (s:=s) (i:=0) (by omega)
   rw[if_pos (by rw[h2];exact hs)] at hva
   show Agt.ver (stOf V.co.now s) ((0:Nat):Int)≠0
   rw[hva,h3];decide
  ·rw[e]
   have hva:=ver_at (p:=V.co.nxt) (s:=s) (i:=0) (by omega)
   rw[if_pos (by rw[h5];exact hs)] at hva
   show Agt.ver (stOf V.co.nxt s) ((0:Nat):Int)≠0
   rw[hva,h6];decide
 rcases h.new_live (f:=0) (a:=fr) with e | ⟨m,i,hv,hi0,hi,hl,e⟩
 ·exfalso
  unfold newP at e
  split at e
  ·rename_i x hx
   have h4:=(sat_some hx).2.2.2.1
   have e2:x.2=0:=congrArg Pk.v e
   exact h4 e2
  ·rename_i hx
   exact hst (sat_none hx s)
 ·have hi00:i=0:=by omega
  subst hi00
  refine⟨m,⟨hg,hv,hi,hl,?_⟩,hv.1,rfl⟩
  simp only
  rw[e]
  by_cases hl1:1<((V.pn.getD m pl0).ps.getD 0 []).length
  ·exact Or.inl ⟨hl1,Nat.le_refl _,rfl⟩
  ·refine Or.inr ⟨by omega,false,?_⟩
   rw[List.take_of_length_le (by omega)]
   rfl
theorem two_all {n:Nat} {ls:List Lk} {f g:Stf.Fl} (hf:(fnd n ls f).1=0) (hg:(fnd n ls g).1=0) (hfg:g.fr=f.fr) (hr:0≤f.fr∧f.fr<(n:Int)):
 ∃z,drn n ls 10 (mny n ls f 1++[⟨1,0,[g]⟩])=mny n ls f 1++[⟨1,0,[g]⟩]++z∧(mny n ls f 1).length≤50∧z.length≤32∧(∀d∈z,d.fs=[])∧
  ∀j k,j≤z.length→8≤k→k≤100→∃X c,run n ls (mny n ls f 1++[⟨1,0,[g]⟩]++z.take j++[⟨4,0,[]⟩]++wv (z.drop j) k)=(X,c)∧X.pk.length=1∧((X.pk.getD 0 pk0).tr=(fnd n ls f).2∨(X.pk.getD 0 pk0).tr=(fnd n ls g).2):=by
 have hw:=(fnd_right hf).1
 have hm:=(mny_ok hf 1 (by omega)).1
 have hn8:=(run_inv (n:=n) (ls:=ls) (ds:=[]) hw (by simp)).n8.2
 obtain⟨W,w0,w1,w2,w3,w4,w5,w6,w7,w8,w9,w10,w11⟩:=two_asked hf hg hfg
 obtain⟨z,a1,a2⟩:=drn_suf (N:=n) (ls:=ls) 10 (mny n ls f 1++[⟨1,0,[g]⟩])
 obtain⟨z',b1,b2,_⟩:=drn_ok (n:=n) (ls:=ls) hw 10 (mny n ls f 1++[⟨1,0,[g]⟩]) (by simp;omega) (by have:=rk_le (run n ls (mny n ls f 1++[⟨1,0,[g]⟩])).1.co.st;omega)
 have hzz:z'=z:=by rw[a1] at b1;exact(List.append_cancel_left b1).symm
 have hz32:z.length≤32:=by
  rw[←hzz]
  have h1:2*n*rk (run n ls (mny n ls f 1++[⟨1,0,[g]⟩])).1.co.st≤16*2:=Nat.mul_le_mul (by omega) (rk_le _)
  omega
 refine⟨z,a1,by omega,hz32,fun d hd=>(a2 d hd).2,fun j k hj hk hk2=>?_⟩
 have hlen:(mny n ls f 1++[(⟨1,0,[g]⟩:Dd)]).length≤51:=by simp;omega
 have hI:=run_inv (n:=n) (ls:=ls) hw (show(mny n ls f 1++[(⟨1,0,[g]⟩:Dd)]).length≤1000 by omega)
 have htl:(z.take j).length≤32:=by rw[List.length_take];omega
 have hI2:=run_inv (n:=n) (ls:=ls) hw (show(mny n ls f 1++[(⟨1,0,[g]⟩:Dd)]++z.take j).length≤1000 by rw[List.length_append];omega)
 have h23:=runR_23 (n:=n) (ls:=ls) (ds:=z.take j) (q:=run n ls (mny n ls f 1++[⟨1,0,[g]⟩])) hI (by omega) (by rw[w0];exact w1) (fun d hd=>(a2 d (List.mem_of_mem_take hd)).1)
 rw[←run_append,w0] at h23
 obtain⟨g1,g2,g3,g4,g5⟩:=h23
 generalize hV:(run n ls (mny n ls f 1++[⟨1,0,[g]⟩]++z.take j)).1=V at hI2 g1 g2 g3 g4 g5
 obtain⟨m,p1,p2,p3⟩:=hI2.begins (fr:=f.fr) g1 (by rw[g5];exact w2) hr (by rw[g2];exact w6) (by rw[g2];exact w7) (by rw[g2];exact w8) (by rw[g3];exact w9) (by rw[g3];exact w10) (by rw[g3];exact w11)
 have hB:(run n ls (mny n ls f 1++[⟨1,0,[g]⟩]++z.take j++[⟨4,0,[]⟩])).1=(hap n ls V ⟨4,0,[]⟩).1:=by rw[run_snoc,hV]
 have hpk:Pak n ls (run n ls (mny n ls f 1++[⟨1,0,[g]⟩]++z.take j++[⟨4,0,[]⟩])).1 m 1:=by rw[hB];exact p1
 have hwl:=wv_len (z.drop j) k
 have hdl:(z.drop j).length≤32:=by rw[List.length_drop];omega
 obtain⟨q1,q2⟩:=wv_run (n:=n) (ls:=ls) (rest:=z.drop j) (fun d hd=>(a2 d (List.mem_of_mem_drop hd)).1) hw hpk k (by simp only[List.length_append,List.length_cons,List.length_nil] at hlen htl ⊢;omega)
 rw[hB,p3,g4] at q2
 generalize run n ls (mny n ls f 1++[⟨1,0,[g]⟩]++z.take j++[⟨4,0,[]⟩]++wv (z.drop j) k)=q at q1 q2
 obtain⟨X,c⟩:=q
 simp only at q1 q2
 have hm2:m<W.pn.length:=by rw[←g4];exact p2
 have hps:((W.pn.getD m pl0).ps.getD 0 []=(fnd n ls f).2∨(W.pn.getD m pl0).ps.getD 0 []=(fnd n ls g).2):=by
  rw[w3] at hm2
  rcases(show m=0∨m=1 by omega) with e | e
  ·subst e;rw[w4];exact Or.inl rfl
  ·subst e;rw[w5];exact Or.inr rfl
 have hl8:((W.pn.getD m pl0).ps.getD 0 []).length≤8:=by
  have hIW:=hI
  rw[w0] at hIW
  exact(hIW.pls m hm2).head.2.2 0
 refine⟨X,c,rfl,?_⟩
 have hk1:=q1.pk
 rw[q2] at hk1
 rcases hk1 with⟨e1,_⟩ | ⟨_,b,e⟩
 ·omega
 ·rw[e]
  exact⟨rfl,hps⟩
end Go.Proofs.Ytolclgbpjiokfaa.Rm
namespace Go.Proofs.Ytolclgbpjiokfaa.Rm
open Go.RowKit Go.Deep Stw Stp Tb Rul Ct
theorem flow_via {W:World} {b c:Nat} {a t v:Int} (h:W.heap.size=b) (hc:c=b+1):Fw.FlowsAt ((W.alloc (.cells #[.int .i64 v] 3)).alloc (.cells #[.int .i64 a,.int .i64 t,.slice (some ⟨b,0,none⟩) 1 1,.slice none 0 0] 55)) (some ⟨c,0,none⟩) [⟨a,t,[v],[]⟩]:=by
 subst h hc
 refine Or.inr ⟨_,0,rfl,by simp,fun k hk=>?_⟩
 have hk1:k<1:=hk
 match k,hk1 with
 | 0,_=>
  refine⟨.slice (some ⟨W.heap.size,0,none⟩) 1 1,.slice none 0 0,?_,?_,?_,?_,⟨_,1,rfl,?_,Nat.le_refl _⟩,⟨none,0,rfl,Or.inl rfl,Nat.le_refl _⟩⟩
  ·have hb:((W.alloc (.cells #[.int .i64 v] 3)).alloc (.cells #[.int .i64 a,.int .i64 t,.slice (some ⟨W.heap.size,0,none⟩) 1 1,.slice none 0 0] 55)).heap[W.heap.size+1]? =some (.cells #[.int .i64 a,.int .i64 t,.slice (some ⟨W.heap.size,0,none⟩) 1 1,.slice none 0 0] 55 (0,0)):=new_at (by simp)
   exact box_cell hb 0
  ·have hb:((W.alloc (.cells #[.int .i64 v] 3)).alloc (.cells #[.int .i64 a,.int .i64 t,.slice (some ⟨W.heap.size,0,none⟩) 1 1,.slice none 0 0] 55)).heap[W.heap.size+1]? =some (.cells #[.int .i64 a,.int .i64 t,.slice (some ⟨W.heap.size,0,none⟩) 1 1,.slice none 0 0] 55 (0,0)):=new_at (by simp)
   exact box_cell hb 1
  ·have hb:((W.alloc (.cells #[.int .i64 v] 3)).alloc (.cells #[.int .i64 a,.int .i64 t,.slice (some ⟨W.heap.size,0,none⟩) 1 1,.slice none 0 0] 55)).heap[W.heap.size+1]? =some (.cells #[.int .i64 a,.int .i64 t,.slice (some ⟨W.heap.size,0,none⟩) 1 1,.slice none 0 0] 55 (0,0)):=new_at (by simp)
   exact box_cell hb 2
  ·have hb:((W.alloc (.cells #[.int .i64 v] 3)).alloc (.cells #[.int .i64 a,.int .i64 t,.slice (some ⟨W.heap.size,0,none⟩) 1 1,.slice none 0 0] 55)).heap[W.heap.size+1]? =some (.cells #[.int .i64 a,.int .i64 t,.slice (some ⟨W.heap.size,0,none⟩) 1 1,.slice none 0 0] 55 (0,0)):=new_at (by simp)
   exact box_cell hb 3
  ·refine Or.inr ⟨_,0,rfl,by simp;omega,fun k hk=>?_⟩
   have hk1:k<1:=hk
   match k,hk1 with
   | 0,_=>
    have hb:((W.alloc (.cells #[.int .i64 v] 3)).alloc (.cells #[.int .i64 a,.int .i64 t,.slice (some ⟨W.heap.size,0,none⟩) 1 1,.slice none 0 0] 55)).heap[W.heap.size]? =some (.cells #[.int .i64 v] 3 (0,0)):=(blk_alloc_lt _ _ _ (by simp)).trans (blk_alloc_new _ _)
    exact box_cell hb 0
theorem via_sm (a t v:Int):Fw.Sm [⟨a,t,[v],[]⟩]:=fun k h=>by
 have hk1:k<1:=h
 match k,hk1 with
 | 0,_=>simp
theorem plan_one_iff {n:Int} {ls:List Lk} {f:Stf.Fl} {v:Int} (h:(plnF n v ls [f]).1=0):(fnd n ls f).1=0:=by
 by_cases hf:(fnd n ls f).1=0
 ·exact hf
 ·exfalso
  unfold plnF at h
  split at h
  ·rename_i h1;exact h1 h
  ·split at h
   ·cases h
   ·split at h
    ·rename_i h1;exact h1 h
    ·rw[Stf.firstBad_some (k:=0) (by simp) (fun j hj=>by omega) (by exact hf)] at h
     exact hf h
theorem RS.extLow2 {z y x V:World} {g:Option Nat} {v:Value} {ds:List Dd} (h:RS z y g V v ds) (E:Ext x y) (hg:∀k,g=some k→x.heap.size≤k):Ext x V:=Below.grown E h.gr E.size hg
theorem DosIn.drop_get {z w:World} {b off:Nat} {ds:List Dd} {k i:Nat} (h:DosIn z w (some ⟨b,off,none⟩) ds) (hi:k+i<ds.length):∃fo fc,b<w.heap.size∧w.cell? ⟨b,off+k*3+i*3,none⟩=some (.int .i64 ((ds.drop k).getD i dd0).k)∧w.cell? ⟨b,off+k*3+i*3+1,none⟩=some (.int .i64 ((ds.drop k).getD i dd0).n)∧w.cell? ⟨b,off+k*3+i*3+2,none⟩=some (.slice fo ((ds.drop k).getD i dd0).fs.length fc)∧Fw.FlowsAt z fo ((ds.drop k).getD i dd0).fs:=by
 obtain⟨b',off',fo,fc,e,hb,c0,c1,c2,hf⟩:=h.get hi
 cases e
 have e1:(ds.drop k).getD i dd0=ds.getD (k+i) dd0:=by rw[List.getD_eq_getElem?_getD,List.getD_eq_getElem?_getD,List.getElem?_drop]
 rw[e1,show off+k*3+i*3=off+(k+i)*3 by omega]
 exact⟨fo,fc,hb,c0,c1,c2,hf⟩
set_option maxRecDepth 100000 in
set_option maxHeartbeats 4000000 in
theorem topTwo_any (N:Int) (ao:Option Addr) (len cap:Nat) (ls:List Lk) (fa ft va sp:Int) (w:World) (hlen:ls.length=len) (hl:NetAt w ao ls) (hx:len≤9223372036854775807) (hI:I64 N):
 Calls Try.prog 11 #[.agg #[.int .i64 N,.slice ao len cap],.int .i64 fa,.int .i64 ft,.int .i64 va,.int .i64 sp] w fun e w'=>e=.returned (.bool true)∧Ext w w':=by
 have hE0:=(Ext.refl w).alloc (.cells #[.int .i64 N,.slice ao len cap] 24)
 go_enter Try.func11,Try.ntmps11
 go_wp2_with fail
 refine(t_alive_any _).mono ?_
 rintro e w1 ⟨rfl,E1⟩
 have n0:w1.cell? ⟨w.heap.size,0,none⟩=some (.int .i64 N):=(E1.cells.1 _ _ (by simp)).trans (by simp)
 have n1:w1.cell? ⟨w.heap.size,1,none⟩=some (.slice ao len cap):=(E1.cells.1 _ _ (by simp)).trans (by simp)
 have hs1:w.heap.size<w1.heap.size:=by have:=E1.size;simp at this;omega
 have E01:=hE0.trans E1
 clear hE0 E1
 go_upto_region 4 with fail
 obtain⟨za,hza⟩:∃za,za=((w1.alloc (.cells #[.int .i64 fa,.int .i64 ft,.slice none 0 0,.slice none 0 0] 55)).alloc (.cells #[.int .i64 va] 3)).alloc (.cells #[.int .i64 fa,.int .i64 ft,.slice (some ⟨w1.heap.size+1,0,none⟩) 1 1,.slice none 0 0] 55):=⟨_,rfl⟩
 rw[←hza]
 have Eza:Ext w1 za:=by rw[hza];exact(((Ext.refl w1).alloc _).alloc _).alloc _
 have HF1:Hid (Fw.FlowsAt za (some ⟨w1.heap.size,0,none⟩) [⟨fa,ft,[],[]⟩]):=by rw[hza];exact(flow_in rfl).ext (((Ext.refl _).alloc _).alloc _)
 have HF2:Hid (Fw.FlowsAt za (some ⟨w1.heap.size+1+1,0,none⟩) [⟨fa,ft,[va],[]⟩]):=by rw[hza];exact flow_via (by simp) rfl
 have HT:Hid (∀V,Ext za V→V.cell? ⟨w.heap.size,0,none⟩=some (.int .i64 N)∧V.cell? ⟨w.heap.size,1,none⟩=some (.slice ao len cap)∧w.heap.size<V.heap.size):=fun V hV=>⟨((Eza.trans hV).cells.1 _ _ hs1).trans n0,((Eza.trans hV).cells.1 _ _ hs1).trans n1,by have:=(Eza.trans hV).size;omega⟩
 have HEa:=hidp (E01.trans Eza)
 have HNT:=hidp (hl.ext HEa.out)
 have HP1:=hidp (Plan_any N 1 ao len cap ls (some ⟨w1.heap.size,0,none⟩) 1 1 [⟨fa,ft,[],[]⟩] za hlen HNT.out hx hI rfl HF1.out (flow_sm _ _) (by omega))
 obtain⟨t0,t1,tl⟩:=HT.out za (Ext.refl za)
 clear hza n0 n1 hl E01 Eza
 go_wp2_with fail
 refine Calls.mono HP1.out ?_
 rintro e w2 ⟨pv,fo,fl,fc,qo,ql,qc,rfl,E2,hca⟩
 obtain⟨w3,hw3⟩:∃w3,w3=(w2.alloc (.cells #[.int .i64 pv,.slice fo fl fc,.slice qo ql qc] 30)).alloc (.cells #[.int .i64 (plnF N 1 ls [⟨fa,ft,[],[]⟩]).1,.int .i64 (plnF N 1 ls [⟨fa,ft,[],[]⟩]).2] 44):=⟨_,rfl⟩
 have E23:Ext w2 w3:=by rw[hw3];exact((Ext.refl w2).alloc _).alloc _
 have hz3:w3.heap.size=w2.heap.size+1+1:=by rw[hw3];simp
 have Ea3:=E2.trans E23
 have HBA:Hid (∀V,Ext w3 V→(V.cell? ⟨w2.heap.size,2,none⟩=some (.slice qo ql qc)∧w2.heap.size<V.heap.size)∧V.cell? ⟨w2.heap.size+1,0,none⟩=some (.int .i64 (plnF N 1 ls [⟨fa,ft,[],[]⟩]).1)∧w2.heap.size+1<V.heap.size):=fun V hV=>
  ⟨⟨(hV.cells.1 _ _ (by omega)).trans (by rw[hw3];simp),by have:=hV.size;omega⟩,(hV.cells.1 _ _ (by omega)).trans (by rw[hw3];simp),by have:=hV.size;omega⟩
 have HCA:=hidp hca
 have HP2:=hidp (Plan_any N 2 ao len cap ls (some ⟨w1.heap.size+1+1,0,none⟩) 1 1 [⟨fa,ft,[va],[]⟩] w3 hlen (HNT.out.ext Ea3) hx hI rfl (HF2.out.ext Ea3) (via_sm _ _ _) (by omega))
 obtain⟨u0,u1,ul⟩:=HT.out w3 Ea3
 clear HP1 hca hz3 t0 t1 tl
 go_upto_region 5 with fail
 rw[←hw3]
 clear hw3
 go_wp2_with fail
 refine Calls.mono HP2.out ?_
 rintro e w4 ⟨pv',fo',fl',fc',qo',ql',qc',rfl,E4,hcb⟩
 obtain⟨z,hz⟩:∃z,z=(w4.alloc (.cells #[.int .i64 pv',.slice fo' fl' fc',.slice qo' ql' qc'] 30)).alloc (.cells #[.int .i64 (plnF N 2 ls [⟨fa,ft,[va],[]⟩]).1,.int .i64 (plnF N 2 ls [⟨fa,ft,[va],[]⟩]).2] 44):=⟨_,rfl⟩
 have E4z:Ext w4 z:=by rw[hz];exact((Ext.refl w4).alloc _).alloc _
 have hzz:z.heap.size=w4.heap.size+1+1:=by rw[hz];simp
 have E3z:=E4.trans E4z
 have HBB:Hid (∀V,Ext z V→(V.cell? ⟨w4.heap.size,2,none⟩=some (.slice qo' ql' qc')∧w4.heap.size<V.heap.size)∧V.cell? ⟨w4.heap.size+1,0,none⟩=some (.int .i64 (plnF N 2 ls [⟨fa,ft,[va],[]⟩]).1)∧w4.heap.size+1<V.heap.size):=fun V hV=>
  ⟨⟨(hV.cells.1 _ _ (by omega)).trans (by rw[hz];simp),by have:=hV.size;omega⟩,(hV.cells.1 _ _ (by omega)).trans (by rw[hz];simp),by have:=hV.size;omega⟩
 have HCB:=hidp hcb
 clear HP2 hcb hzz u0 u1 ul
 go_upto_region 6 with fail
 rw[←hz]
 clear hz
 obtain⟨⟨_,la⟩,a0,la1⟩:=HBA.out z E3z
 obtain⟨⟨_,lb⟩,b0,lb1⟩:=HBB.out z (Ext.refl z)
 have HEz:=hidp (HEa.out.trans (Ea3.trans E3z))
 by_cases h1:(plnF N 1 ls [⟨fa,ft,[],[]⟩]).1=0
 ·by_cases h2:(plnF N 2 ls [⟨fa,ft,[va],[]⟩]).1=0
  ·have hf:=plan_one_iff h1
   have hg:=plan_one_iff h2
   have hw:=(fnd_right hf).1
   have hbd:=(right_of hw).bounds
   obtain⟨n,rfl⟩:=Int.eq_ofNat_of_zero_le (show 0≤N by omega)
   have hgp:=plan_good h1
   have hr:0≤fa∧fa<(n:Int):=by
    have hp:Pln n ls 1 ⟨1,[⟨fa,ft,[],[]⟩],plnP n ls [⟨fa,ft,[],[]⟩]⟩:=⟨_,rfl,h1⟩
    have:=(hp.head.2.1 0 (by simp)).2.2
    exact this
   obtain⟨zz,y1,y2,y3,y4,y5⟩:=two_all (n:=n) (ls:=ls) (f:=⟨fa,ft,[],[]⟩) (g:=⟨fa,ft,[va],[]⟩) hf hg rfl hr
   obtain⟨_,rfl,rfl,_,rfl,hPA⟩:=HCA.out.resolve_left (fun h=>h.1 h1)
   obtain⟨_,rfl,rfl,_,rfl,hPB⟩:=HCB.out.resolve_left (fun h=>h.1 h2)
   rw[plnP_one] at hPA hPB HBA HBB
   obtain⟨P,hP⟩:∃P,P=(fnd n ls ⟨fa,ft,[],[]⟩).2:=⟨_,rfl⟩
   obtain⟨Q,hQ⟩:∃Q,Q=(fnd n ls ⟨fa,ft,[va],[]⟩).2:=⟨_,rfl⟩
   rw[←hP] at hPA HBA
   rw[←hQ] at hPB HBB
   rw[←hP, ←hQ] at y5
   have hP8:P.length≤8:=by rw[hP];exact hgp.short 0
   have hQ8:Q.length≤8:=by rw[hQ];exact(plan_good h2).short 0
   obtain⟨ag,aoff,po,pc,hqa,hag,hac,haL,_⟩:=pth_get hPA (i:=0) (by simp)
   obtain⟨bg,boff,po',pc',hqb,hbg,hbc,hbL,_⟩:=pth_get hPB (i:=0) (by simp)
   simp only[List.getD_cons_zero,Nat.add_zero] at hac haL hbc hbL
   rw[hqa] at HBA
   rw[hqb] at HBB
   have HPC:Hid (∀V,Ext z V→(V.cell? ⟨w2.heap.size,2,none⟩=some (.slice (some ⟨ag,aoff,none⟩) 1 qc)∧w2.heap.size<V.heap.size∧V.cell? ⟨ag,aoff,none⟩=some (.slice po P.length pc)∧ag<V.heap.size∧ListAt V po P)∧(V.cell? ⟨w4.heap.size,2,none⟩=some (.slice (some ⟨bg,boff,none⟩) 1 qc')∧w4.heap.size<V.heap.size∧V.cell? ⟨bg,boff,none⟩=some (.slice po' Q.length pc')∧bg<V.heap.size∧ListAt V po' Q)):=fun V hV=>by
    obtain⟨⟨x1,x2⟩,_⟩:=HBA.out V (E3z.trans hV)
    obtain⟨⟨x3,x4⟩,_⟩:=HBB.out V hV
    have ea:=E23.trans (E3z.trans hV)
    have eb:=E4z.trans hV
    exact⟨⟨x1,x2,(ea.cells.1 _ _ hag).trans hac,by have:=ea.size;omega,haL.ext ea⟩,⟨x3,x4,(eb.cells.1 _ _ hbg).trans hbc,by have:=eb.size;omega,hbL.ext eb⟩⟩
   have HNz:=hidp (HNT.out.ext (Ea3.trans E3z))
   have HF1z:=hidp (HF1.out.ext (Ea3.trans E3z))
   have HF2z:=hidp (HF2.out.ext (Ea3.trans E3z))
   have HTz:Hid (∀V,Ext z V→V.cell? ⟨w.heap.size,0,none⟩=some (.int .i64 n)∧V.cell? ⟨w.heap.size,1,none⟩=some (.slice ao len cap)∧w.heap.size<V.heap.size):=fun V hV=>HT.out V (Ea3.trans (E3z.trans hV))
   have HDRN:Hid (∀v (es:List Dd) V,DO z V v es→Ext z V→DsSm es→es.length≤1000→Calls Try.prog 30 #[.agg #[.int .i64 n,.slice ao len cap],v] V fun e w'=>∃v',e=.returned v'∧Hid (RS z V v.ownBlock w' v' (drn n ls 10 es))):=fun v es V h1 h2 h3 h4=>t_drain_any n ao len cap ls v es z V hlen HNz.out hx h1 h2 h3 h4
   rw[h1] at a0
   rw[h2] at b0
   have HWR:=hidp hw
   have HY:=hidp (And.intro y1 (And.intro y2 (And.intro y3 (And.intro y4 y5))))
   clear h1 h2 hf hg hw hbd hgp hr y1 y2 y3 y4 y5 hP hQ hPA hPB hqa hqb hag hac haL hbg hbc hbL HBA HBB HCA HCB HNT HF1 HF2 HT HEa Ea3 E3z E4z E23 E4 E2
   have HS1:Hid (DsSm [⟨1,0,[⟨fa,ft,[],[]⟩]⟩]):=fun d hd=>by rw[List.mem_singleton] at hd;rw[hd];exact⟨flow_sm _ _,by simp⟩
   obtain⟨c0,hc0⟩:∃c0,c0=drn n ls 10 [⟨1,0,[⟨fa,ft,[],[]⟩]⟩]:=⟨_,rfl⟩
   have hc0s:=drn_small (N:=n) (ls:=ls) 10 HS1.out (by simp)
   rw[←hc0] at hc0s
   obtain⟨c2,hc2⟩:∃c2,c2=mny n ls ⟨fa,ft,[],[]⟩ 1:=⟨_,rfl⟩
   have HC2:Hid (c2=drn n ls 10 (c0++[⟨6,0,[]⟩])):=by show _=_;rw[hc2,hc0];rfl
   rw[←hc2] at HY
   have HR8:=hidp (ask_row (z:=z) (W:=z) (fs:=[⟨fa,ft,[],[]⟩]) (fc:=1) rfl (Ext.refl z) HF1z.out)
   have HD8:=hidp (HDRN.out _ [⟨1,0,[⟨fa,ft,[],[]⟩]⟩] _ HR8.out ((Ext.refl z).alloc _) HS1.out (by simp))
   rw[←hc0] at HD8
   obtain⟨v0,v1,vl⟩:=HTz.out z (Ext.refl z)
   have hcl0:c0.length≤990:=by
    obtain⟨z1,a1,a2,_⟩:=drn_ok (n:=n) (ls:=ls) HWR.out 10 [⟨1,0,[⟨fa,ft,[],[]⟩]⟩] (by simp) (by have:=rk_le (run n ls [⟨1,0,[⟨fa,ft,[],[]⟩]⟩]).1.co.st;omega)
    rw[hc0,a1,List.length_append]
    have h1:2*n*rk (run n ls [⟨1,0,[⟨fa,ft,[],[]⟩]⟩]).1.co.st≤16*2:=Nat.mul_le_mul (by have:=(right_of HWR.out).bounds;omega) (rk_le _)
    simp
    omega
   have HC0:Hid (DsSm (c0++[⟨6,0,[]⟩])∧(c0++[(⟨6,0,[]⟩:Dd)]).length≤1000∧c0.length+1≤1000000):=⟨hc0s.1.append (DsSm.of_nil (fun d hd=>by simp at hd;rw[hd])),by simp;omega,by omega⟩
   have HC2S:Hid (DsSm c2):=by
    show DsSm c2
    rw[HC2.out]
    exact(drn_small 10 HC0.out.1 HC0.out.2.1).1
   clear hc0 hc2 hc0s hcl0
   go_wp2_with fail
   refine Calls.mono HD8.out ?_
   rintro e w7 ⟨v7,rfl,h7⟩
   have hE7:=h7.out.ext
   obtain⟨lo7,lc7,hv7,_⟩:=h7.out.row.form
   have H7:Hid (RS z w7 v7.ownBlock w7 v7 c0):=RS.start h7.out.row hE7
   generalize hg7:v7.ownBlock=g7 at H7
   clear HD8 HR8 v0 v1 vl a0 b0 la la1 lb lb1 hg7
   subst hv7
   go_upto_region 9 with fail
   have hd7:Ext z w7.drew:=hE7.drew
   have HR9:Hid (RS z w7 g7 ((doW w7.drew 6 0).alloc (.cells #[.int .i64 6,.int .i64 0,.slice none 0 0] 66)) (.slice lo7 c0.length lc7) c0):=H7.out.toExt ((doW_ext (Ext.refl w7).drew).alloc _)
   have HD9:Hid (DosIn z ((doW w7.drew 6 0).alloc (.cells #[.int .i64 6,.int .i64 0,.slice none 0 0] 66)) (some ⟨w7.heap.size+1,0,none⟩) [⟨6,0,[]⟩]):=one_in (d:=⟨6,0,[]⟩) (by simp[doW]) (Or.inl rfl)
   have hdw:(doW w7.drew 6 0).heap.size=w7.heap.size+1:=by simp[doW]
   have HS:Hid (∀V,Ext z V→V.cell? ⟨w.heap.size,0,none⟩=some (.int .i64 n)∧V.cell? ⟨w.heap.size,1,none⟩=some (.slice ao len cap)):=fun V hV=>⟨(HTz.out V hV).1,(HTz.out V hV).2.1⟩
   clear H7
   go_region_held3 (fun V=>V.cell? ⟨w.heap.size,0,none⟩=some (.int .i64 n)∧V.cell? ⟨w.heap.size,1,none⟩=some (.slice ao len cap))
    (first | (with_reducible exact HS.out _ hd7) | (with_reducible exact HS.out _ (doW_ext hd7)) | (with_reducible exact HS.out _ ((doW_ext hd7).alloc _)) | (with_reducible exact HS.out _ mk9) | (with_reducible exact HS.out _ mk8) | fail)
    (first
    | (go_at_call 30
       with_reducible refine(HDRN.out _ (c0++[⟨6,0,[]⟩]) _ h9.row h9.ext HC0.out.1 HC0.out.2.1).mono ?_
       rw[←HC2.out]
       rintro e w8 ⟨v8,rfl,h8⟩
       have h8':=h9.trans h8.out
       have mk9:=h8'.ext
       obtain⟨lo8,lc8,hv8,_⟩:=h8'.row.form
       subst hv8
       have H8:=hidp h8'
       clear h8 h8' h9)
    | (go_at_call 31
       refine(t_do_any _ _ _).mono ?_
       rintro e _ ⟨rfl,rfl⟩)
    | (refine step_append_rs (z:=z) (y:=w7) (g:=g7) (ds:=c0) (es:=[⟨6,0,[]⟩]) rfl (.tmp 65) (.tmp 67) rfl rfl rfl HR9.out rfl (by decide) HD9.out HC0.out.2.2 ?_
       intro b9 off9 cp9 w9 h9
       have mk8:=h9.ext))
   have hE8:=mk9
   clear mk9 mk8 hd7 HR9 HD9 hdw HC0 HC2
   have HR10:Hid (RS z w7 g7 (w8.alloc (.cells #[.int .i64 1,.int .i64 0,.slice (some ⟨w1.heap.size+1+1,0,none⟩) 1 1] 66)) (.slice lo8 c2.length lc8) c2):=H8.out.toExt ((Ext.refl w8).alloc _)
   have HD10:Hid (DosIn z (w8.alloc (.cells #[.int .i64 1,.int .i64 0,.slice (some ⟨w1.heap.size+1+1,0,none⟩) 1 1] 66)) (some ⟨w8.heap.size,0,none⟩) [⟨1,0,[⟨fa,ft,[va],[]⟩]⟩]):=one_in (d:=⟨1,0,[⟨fa,ft,[va],[]⟩]⟩) (fc:=1) rfl HF2z.out
   have hc50:c2.length≤50:=HY.out.2.1
   have HSM:Hid (DsSm (c2++[⟨1,0,[⟨fa,ft,[va],[]⟩]⟩])∧(c2++[(⟨1,0,[⟨fa,ft,[va],[]⟩]⟩:Dd)]).length≤1000):=⟨HC2S.out.append (fun d hd=>by rw[List.mem_singleton] at hd;rw[hd];exact⟨via_sm _ _ _,by simp⟩),by simp;omega⟩
   clear H8 HC2S
   go_wp2_with (first | (at_builtin;refine wpList_append_rs rfl _ _ rfl rfl rfl HR10.out rfl (by decide) HD10.out (by omega) ?_) | fail)
   intro lb9 loff9 lcp9 w9 h9
   have hE9:=h9.ext
   obtain⟨_,_,hv9,hDI9,_⟩:=h9.row.form
   have hDI9':DosIn z w9 (some ⟨lb9,loff9,none⟩) (c2++[⟨1,0,[⟨fa,ft,[va],[]⟩]⟩]):=by
    simp only[Value.slice.injEq] at hv9
    rw[hv9.1]
    exact hDI9
   have HD11:Hid (DosIn z (w9.alloc (.cells #[] 66)).drew (some ⟨lb9,loff9,none⟩) (c2++[⟨1,0,[⟨fa,ft,[va],[]⟩]⟩])):=hDI9'.ext ((Ext.refl w9).alloc _).drew
   obtain⟨al,hal⟩:∃al,al=drn n ls 10 (c2++[⟨1,0,[⟨fa,ft,[va],[]⟩]⟩]):=⟨_,rfl⟩
   have HAL:Hid (al=c2++[⟨1,0,[⟨fa,ft,[va],[]⟩]⟩]++zz):=by show _=_;rw[hal];exact HY.out.1
   have HALS:Hid (DsSm al):=by
    show DsSm al
    rw[hal]
    exact(drn_small 10 HSM.out.1 HSM.out.2).1
   have HALE:=hidp hal
   have hll:(c2++[(⟨1,0,[⟨fa,ft,[va],[]⟩]⟩:Dd)]).length=c2.length+1:=by simp
   clear hal hv9 hDI9 hDI9' h9 HR10 HD10
   go_upto_region 11 with fail
   have hr0:Ext z w9:=hE9
   have hd0:Ext z w9.drew:=hr0.drew
   go_region_held3 (fun V=>V.cell? ⟨w.heap.size,0,none⟩=some (.int .i64 n)∧V.cell? ⟨w.heap.size,1,none⟩=some (.slice ao len cap))
    (first | (with_reducible exact HS.out _ hd0) | (with_reducible exact HS.out _ (hr0.alloc _).drew) | (with_reducible exact HS.out _ mk3) | (with_reducible exact HS.out _ mk2) | fail)
    (first
    | (go_at_call 30
       with_reducible refine(HDRN.out _ (c2++[⟨1,0,[⟨fa,ft,[va],[]⟩]⟩]) _ hDO mk2 HSM.out.1 HSM.out.2).mono ?_
       rw[←HALE.out]
       rintro e w12 ⟨v12,rfl,h12⟩
       have mk3:=h12.out.ext
       obtain⟨lo12,lc12,hv12,hDI12⟩:=h12.out.row.form
       subst hv12
       have H12:=hidp hDI12
       clear h12 hDI12)
    | (refine step_copy_dos (z:=z) (es:=c2++[⟨1,0,[⟨fa,ft,[va],[]⟩]⟩]) (g:=w9.heap.size) rfl (.tmp 76) (.tmp 77) rfl rfl rfl (new_at rfl) (hE9.size) hll HD11.out (fun h=>by cases h) (by omega) ?_
       intro ao2 cap2 W2 hDO hgr hown
       have mk2:Ext z W2:=Below.grown (hr0.alloc _).drew hgr (by have:=hE9.size;simp;omega) (fun k hk=>by cases hk;exact hE9.size)
       clear hgr hown))
   have hE12:=mk3
   clear mk2 mk3 hd0 hr0 hDO HD11 HALE HSM hll
   obtain⟨nl,hnl⟩:∃nl,nl=c2.length+1:=⟨_,rfl⟩
   rw[←hnl]
   obtain⟨L,hL⟩:∃L,L=al.length:=⟨_,rfl⟩
   obtain⟨hDI12,hn12,hl12,hc12⟩:=H12.out
   rw[←hL] at hn12 hl12
   rw[←hL]
   have hLz:L=nl+zz.length:=by rw[hL,HAL.out,hnl];simp only[List.length_append,List.length_cons,List.length_nil] <;> omega
   have hz32:zz.length≤32:=HY.out.2.2.1
   have hwr:IntKind.i64.wrap ((L:Int) - (nl:Int))=(zz.length:Int):=by rw[IntKind.wrap_i64];omega
   have HNL:=hidp hnl
   have HL:=hidp hL
   have HLZ:=hidp hLz
   have HDI:=hidp hDI12
   clear hnl hL hDI12 H12
   by_cases h1:sp<0
   ·clear hLz
    go_wp2
    go_ret
    exact⟨rfl,HEz.out.trans hE12⟩
   by_cases h2:(zz.length:Int)<sp
   ·clear hLz
    go_wp2
    go_ret
    exact⟨rfl,HEz.out.trans hE12⟩
   by_cases h3:(150:Int)<(L:Int)
   ·clear hLz
    go_wp2
    go_ret
    exact⟨rfl,HEz.out.trans hE12⟩
   obtain⟨j,rfl⟩:=Int.eq_ofNat_of_zero_le (show 0≤sp by omega)
   obtain⟨k,hk⟩:∃k,k=nl+j:=⟨_,rfl⟩
   have hwk:IntKind.i64.wrap ((nl:Int)+(j:Int))=(k:Int):=by rw[IntKind.wrap_i64];omega
   have hkL:k≤L:=by omega
   have k6:(k:Int)≤(lc12:Int):=by omega
   have k5:(k:Int)≤(L:Int):=by omega
   have hL1:1≤L:=by have:=HNL.out;omega
   have hnil12:lo12=none→k=0∧lc12=0:=fun e=>by have:=hn12 e;omega
   have htk:(al.take k).length=k:=by rw[List.length_take, ←HL.out];omega
   have HD15:Hid (DosIn z (w12.alloc (.cells #[] 66)) lo12 (al.take k)):=(HDI.out.take).ext ((Ext.refl w12).alloc _)
   have HK:=hidp hk
   have hL150:L≤150:=by omega
   clear hk hLz
   go_wp2_with (first | (at_builtin;refine wpList_copy_dos rfl _ _ rfl rfl rfl (new_at rfl) hE12.size htk HD15.out hnil12 (by omega) ?_) | fail)
   intro ao3 cap3 W3 hDO3 hgr3 hown3
   have HE3:Hid (Ext w12 W3):=Below.grown ((Ext.refl w12).alloc _) hgr3 (by simp) (fun b hb=>by cases hb;exact Nat.le_refl _)
   have H3:Hid (RS z W3 (Value.slice ao3 k cap3).ownBlock W3 (.slice ao3 k cap3) (al.take k)):=RS.start hDO3 (hE12.trans HE3.out)
   have HG3:Hid (∀b,(Value.slice ao3 k cap3).ownBlock=some b→w12.heap.size≤b):=hown3
   generalize (Value.slice ao3 k cap3).ownBlock=g3 at H3 HG3
   have HR16:Hid (RS z W3 g3 ((doW W3 4 0).alloc (.cells #[.int .i64 4,.int .i64 0,.slice none 0 0] 66)) (.slice ao3 k cap3) (al.take k)):=H3.out.toExt ((doW_ext (Ext.refl W3)).alloc _)
   have HD16:Hid (DosIn z ((doW W3 4 0).alloc (.cells #[.int .i64 4,.int .i64 0,.slice none 0 0] 66)) (some ⟨W3.heap.size+1,0,none⟩) [⟨4,0,[]⟩]):=one_in (d:=⟨4,0,[]⟩) (by simp[doW]) (Or.inl rfl)
   clear hDO3 hgr3 hown3 HD15 H3
   go_wp2_with fail
   refine(t_do_any _ _ _).mono ?_
   rintro e _ ⟨rfl,rfl⟩
   have hdw:(doW W3 4 0).heap.size=W3.heap.size+1:=by simp[doW]
   have HTL:Hid ((al.take k).length+1≤1000000∧(al.take k).length+1=k+1):=by rw[htk];exact⟨by omega,rfl⟩
   go_wp2_with (first | (at_builtin;refine wpList_append_rs rfl _ _ rfl rfl rfl HR16.out rfl (by decide) HD16.out HTL.out.1 ?_) | fail)
   intro mb moff mcp W4 h4
   have H4:=hidp h4
   clear h4 HR16 HD16 hdw
   obtain⟨ab,aoff,hlo,hab,_⟩:=HDI.out.resolve_left (fun e=>by have:=HL.out;rw[e] at this;simp at this;omega)
   obtain⟨r,hr⟩:∃r,r=L - k:=⟨_,rfl⟩
   subst hlo
   have hrk:r+k=L:=by omega
   have HRK:=hidp hrk
   have HR:=hidp hr
   clear hr hrk hnil12 hn12
   go_upto_region 16 with fail
   go_cut [21] (fun rv wx=>∃ra rc,rv=.slice ra r rc∧wx=W4∧Hid (0<r→ra=some ⟨ab,aoff+k*3,none⟩))
   case first=>
    by_cases hkc:k<lc12
    ·have hkc':(k:Int)<(lc12:Int):=by omega
     go_wp2_with fail
     go_meet
     exact⟨_,_,by rw[HR.out],rfl,fun _=>rfl⟩
    ·have hkc':¬(k:Int)<(lc12:Int):=by omega
     have hr0:¬0<r:=by have:=HRK.out;omega
     go_wp2_with fail
     go_meet
     exact⟨_,_,by rw[HR.out],rfl,fun h=>absurd h hr0⟩
   case rest=>
    obtain⟨ra,rc,rfl,hwc,HRA⟩:=hcut
    subst hwc
    obtain⟨K,hK⟩:∃K,K=max r 8:=⟨_,rfl⟩
    have hmx:max (r:Int) 8=(K:Int):=by omega
    have HKK:=hidp hK
    have hK100:K≤100:=by have:=HRK.out;have:=HLZ.out;have:=HK.out;omega
    have hr32:r≤32:=by have:=HRK.out;have:=HLZ.out;have:=HK.out;omega
    have HZF:Hid (∀d∈al.drop k,d.fs=[]):=fun d hd=>by
     rw[HAL.out,HK.out,HNL.out,show c2.length+1+j=(c2++[(⟨1,0,[⟨fa,ft,[va],[]⟩]⟩:Dd)]).length+j by simp,List.drop_append] at hd
     simp only[List.drop_eq_nil_of_le (Nat.le_add_right _ _),List.nil_append,Nat.add_sub_cancel_left] at hd
     exact HY.out.2.2.2.1 d (List.mem_of_mem_drop hd)
    have HDL:Hid ((al.drop k).length=r):=by show _=_;rw[List.length_drop, ←HL.out];exact HR.out.symm
    clear hK
    go_wp2
    go_loopw [20,115] (fun mv iv wd=>∃(i:Nat) (v:Value),i≤K∧iv=.int .i64 i∧mv=v∧Hid (RS z W3 g3 wd v (al.take k++[⟨4,0,[]⟩]++wv (al.drop k) i))) (fun _ iv _=>K - (intOf iv).toNat)
    case atStart=>exact⟨0,_,Nat.zero_le _,rfl,rfl,by rw[wv,List.append_nil];exact H4.out⟩
    case round=>
     obtain⟨i,v,hi,rfl,hlv,HX⟩:=hrel
     obtain rfl:=hlv.symm
     by_cases hiK:i<K
     ·have i1:(i:Int)<(K:Int):=by omega
      obtain⟨lo2,lc2,hv2,_⟩:=HX.out.row.form
      have HLL:Hid ((al.take k++[(⟨4,0,[]⟩:Dd)]++wv (al.drop k) i).length+2≤1000000):=by
       show _≤_
       rw[List.length_append,wv_len]
       simp only[List.length_append,List.length_cons,List.length_nil,htk]
       omega
      by_cases hir:i<r
      ·have i2:(i:Int)<(r:Int):=by omega
       have hra:=HRA.out (by omega)
       have hEw:Ext w12 wr:=HX.out.extLow2 HE3.out HG3.out
       obtain⟨fo1,fc1,hab1,d0,d1,d2,hfl⟩:=(HDI.out.ext hEw).drop_get (k:=k) (i:=i) (by have:=HRK.out;have:=HL.out;omega)
       have hmem:(al.drop k).getD i dd0∈al.drop k:=by
        have hlt:i<(al.drop k).length:=by rw[HDL.out];exact hir
        rw[List.getD_eq_getElem?_getD,List.getElem?_eq_getElem hlt]
        exact List.getElem_mem _
       have HSU:Hid (al.take k++[⟨4,0,[]⟩]++wv (al.drop k) i++[(al.drop k).getD i dd0]++[(⟨5,0,[]⟩:Dd)]=al.take k++[⟨4,0,[]⟩]++wv (al.drop k) (i+1)):=by
        show _=_
        rw[wv,if_pos (by rw[HDL.out];exact hir)]
        simp only[List.append_assoc]
       generalize al.take k++[(⟨4,0,[]⟩:Dd)]++wv (al.drop k) i=cx at HX HLL HSU hv2
       generalize (al.drop k).getD i dd0=d at d0 d1 d2 hfl HSU
       have HR1:Hid (RS z W3 g3 (wr.alloc (.cells #[.int .i64 d.k,.int .i64 d.n,.slice fo1 d.fs.length fc1] 66)) v cx):=HX.out.toExt ((Ext.refl wr).alloc _)
       have HD1:Hid (DosIn z (wr.alloc (.cells #[.int .i64 d.k,.int .i64 d.n,.slice fo1 d.fs.length fc1] 66)) (some ⟨wr.heap.size,0,none⟩) [d]):=one_in rfl hfl
       rw[hra]
       clear hra hmem hfl hEw
       subst hv2
       go_wp2_with (first | (at_builtin;refine wpList_append_rs rfl _ _ rfl rfl rfl HR1.out rfl (by decide) HD1.out (by have:=HLL.out;omega) ?_) | fail)
       intro b5 off5 cp5 W5 h5
       have H5:=hidp h5
       have HR2:Hid (RS z W3 g3 ((doW W5 5 0).alloc (.cells #[.int .i64 5,.int .i64 0,.slice none 0 0] 66)) (.slice (some ⟨b5,off5,none⟩) (cx.length+1) cp5) (cx++[d])):=H5.out.toExt ((doW_ext (Ext.refl W5)).alloc _)
       have HD2:Hid (DosIn z ((doW W5 5 0).alloc (.cells #[.int .i64 5,.int .i64 0,.slice none 0 0] 66)) (some ⟨W5.heap.size+1,0,none⟩) [⟨5,0,[]⟩]):=one_in (d:=⟨5,0,[]⟩) (by simp[doW]) (Or.inl rfl)
       have HL2:Hid ((cx++[d]).length+1≤1000000):=by have:=HLL.out;show _≤_;simp;omega
       have hdw:(doW W5 5 0).heap.size=W5.heap.size+1:=by simp[doW]
       clear h5 H5 HR1 HD1 d0 d1 d2
       go_wp2_with fail
       refine(t_do_any _ _ _).mono ?_
       rintro e _ ⟨rfl,rfl⟩
       go_wp2_with (first | (at_builtin;refine wpList_append_rs rfl _ _ rfl rfl rfl HR2.out rfl (by decide) HD2.out HL2.out ?_) | fail)
       intro b6 off6 cp6 W6 h6
       have H6:=hidp h6
       clear h6 HR2 HD2 hdw
       go_wp2
       refine⟨⟨i+1,_,by omega,by go_num,rfl,?_⟩,by simp[intOf];omega⟩
       rw[←HSU.out,List.append_assoc]
       exact H6.out
      ·have i2:¬(i:Int)<(r:Int):=by omega
       have HSU:Hid (al.take k++[⟨4,0,[]⟩]++wv (al.drop k) i++[(⟨5,0,[]⟩:Dd)]=al.take k++[⟨4,0,[]⟩]++wv (al.drop k) (i+1)):=by
        show _=_
        rw[wv,if_neg (by rw[HDL.out];exact hir)]
        simp only[List.append_assoc,List.append_nil]
       generalize al.take k++[(⟨4,0,[]⟩:Dd)]++wv (al.drop k) i=cx at HX HLL HSU hv2
       have HR2:Hid (RS z W3 g3 ((doW wr 5 0).alloc (.cells #[.int .i64 5,.int .i64 0,.slice none 0 0] 66)) v cx):=HX.out.toExt ((doW_ext (Ext.refl wr)).alloc _)
       have HD2:Hid (DosIn z ((doW wr 5 0).alloc (.cells #[.int .i64 5,.int .i64 0,.slice none 0 0] 66)) (some ⟨wr.heap.size+1,0,none⟩) [⟨5,0,[]⟩]):=one_in (d:=⟨5,0,[]⟩) (by simp[doW]) (Or.inl rfl)
       have hdw:(doW wr 5 0).heap.size=wr.heap.size+1:=by simp[doW]
       subst hv2
       go_wp2_with fail
       refine(t_do_any _ _ _).mono ?_
       rintro e _ ⟨rfl,rfl⟩
       go_wp2_with (first | (at_builtin;refine wpList_append_rs rfl _ _ rfl rfl rfl HR2.out rfl (by decide) HD2.out (by have:=HLL.out;omega) ?_) | fail)
       intro b6 off6 cp6 W6 h6
       have H6:=hidp h6
       clear h6 HR2 HD2 hdw
       go_wp2
       refine⟨⟨i+1,_,by omega,by go_num,rfl,?_⟩,by simp[intOf];omega⟩
       rw[←HSU.out]
       exact H6.out
     ·have i1:¬(i:Int)<(K:Int):=by omega
      have hiK2:i=K:=by omega
      have HXK:Hid (RS z W3 g3 wr v (al.take k++[⟨4,0,[]⟩]++wv (al.drop k) K)):=by rw[←hiK2];exact HX.out
      obtain⟨lo9,lc9,hv9,hDI9,_⟩:=HXK.out.row.form
      have hK8:8≤K:=by have:=HKK.out;omega
      have hj32:j≤zz.length:=by omega
      obtain⟨X,cam,hrun,hpk1,htr⟩:=HY.out.2.2.2.2 j K hj32 hK8 hK100
      have hsplit:al.take k++[(⟨4,0,[]⟩:Dd)]++wv (al.drop k) K=c2++[⟨1,0,[⟨fa,ft,[va],[]⟩]⟩]++zz.take j++[⟨4,0,[]⟩]++wv (zz.drop j) K:=by
       rw[HAL.out,HK.out,HNL.out,show c2.length+1+j=(c2++[(⟨1,0,[⟨fa,ft,[va],[]⟩]⟩:Dd)]).length+j by simp,List.drop_append,List.take_append]
       simp only[List.drop_eq_nil_of_le (Nat.le_add_right _ _),List.take_of_length_le (Nat.le_add_right _ _),List.nil_append,Nat.add_sub_cancel_left]
      rw[←hsplit] at hrun
      have hmm:(al.take k++[(⟨4,0,[]⟩:Dd)]++wv (al.drop k) K).length≤200:=by
       rw[List.length_append,wv_len,HDL.out]
       simp only[List.length_append,List.length_cons,List.length_nil,htk]
       have:=HRK.out
       have:=HKK.out
       omega
      have hsm:DsSm (al.take k++[(⟨4,0,[]⟩:Dd)]++wv (al.drop k) K):=(DsSm.append (fun d hd=>HALS.out d (List.mem_of_mem_take hd)) (DsSm.of_nil (fun d hd=>by simp at hd;rw[hd]))).append (DsSm.of_nil (wv_fs HZF.out K))
      have HTR:=hidp htr
      have HTW:=hidp HXK.out.ext
      generalize al.take k++[(⟨4,0,[]⟩:Dd)]++wv (al.drop k) K=mm at hv9 hDI9 hrun hmm hsm HXK
      have hpl:=plyF_of (n:=(n:Int)) (ds:=mm) HWR.out hmm
      have hrn:plyW n ls mm=(X,cam):=by rw[hpl.2];exact hrun
      have HPL:=hidp (Play_any n ao len cap ls lo9 lc9 mm wr hlen (HNz.out.ext HTW.out) hx (hDI9.dos HTW.out) hsm (by omega))
      rw[hrn,hpl.1] at HPL
      obtain⟨t0,t1,tl⟩:=HTz.out wr HTW.out
      clear hpl hrn hsm hmm hsplit hrun hDI9 HXK hiK2 HX HDRN
      subst hv9
      go_wp2_with fail
      refine Calls.mono HPL.out ?_
      rintro e w6 ⟨B,bo,bc,rfl,E6,HB⟩
      unfold wvl
      obtain⟨pg,koff,tO,tc,hko,hpg,_,_,p2,_,hT,_⟩:=HB.out.1.pk_get (i:=0) (by omega)
      have hpk1':X.pk.length=1:=hpk1
      simp only[hpk1',hko]
      have p2':w6.cell? ⟨pg,koff+2,none⟩=some (.slice tO (X.pk.getD 0 pk0).tr.length tc):=by simpa using p2
      obtain⟨tr,htrE⟩:∃tr,tr=(X.pk.getD 0 pk0).tr:=⟨_,rfl⟩
      have hT':ListAt w6 tO tr:=by rw[htrE];exact hT
      rw[←htrE] at p2' HTR
      have ht8:tr.length≤8:=by rcases HTR.out with e | e <;> rw[e] <;> assumption
      have HT6:=hidp hT'
      have HE6:=hidp (HEz.out.trans (HTW.out.trans E6))
      obtain⟨⟨x1,x2,x3,x4,x5⟩,y1,y2,y3,y4,y5⟩:=HPC.out w6 (HTW.out.trans E6)
      have HIA:Hid (∀V,Ext w6 V→Calls Try.prog 20 #[.slice tO tr.length tc,.slice po P.length pc] V fun e w'=>e=.returned (.bool (decide (tr=P)))∧Ext V w'):=fun V hV=>Ints_any tO po tr.length P.length tc pc tr P V rfl rfl (by omega) (HT6.out.ext hV) (x5.ext hV)
      have HIB:Hid (∀V,Ext w6 V→Calls Try.prog 20 #[.slice tO tr.length tc,.slice po' Q.length pc'] V fun e w'=>e=.returned (.bool (decide (tr=Q)))∧Ext V w'):=fun V hV=>Ints_any tO po' tr.length Q.length tc pc' tr Q V rfl rfl (by omega) (HT6.out.ext hV) (y5.ext hV)
      clear p2 hT hT' htrE htr hpk1 hpk1' HPL HB hko x5 y5 E6 t0 t1 tl
      have EW:Ext w6 ((w6.alloc (.cells #[.int .i64 X.co.st,.int .i64 X.co.now.v,.slice B.ca.n.fo X.co.now.fs.length B.ca.n.fc,.slice B.ca.n.qo X.co.now.ps.length B.ca.n.qc,.int .i64 X.co.nxt.v,.slice B.ca.x.fo X.co.nxt.fs.length B.ca.x.fc,.slice B.ca.x.qo X.co.nxt.ps.length B.ca.x.qc,.int .i64 X.co.num,.slice B.ca.wo X.co.wts.length B.ca.wc,.slice B.so X.sw.length B.sc,.slice B.oo X.od.length B.oc,.slice B.bo X.bk.length B.bc,.slice (some ⟨pg,koff,none⟩) 1 B.kc,.slice B.lo X.pn.length B.lc] 40)).alloc (.cells #[.int .i64 0,.int .i64 0] 44)):=((Ext.refl w6).alloc _).alloc _
      by_cases hTP:tr=P
      ·rw[decide_eq_true hTP] at HIA
       clear hTP
       go_wp2_with fail
       with_reducible refine Calls.mono (HIA.out _ EW) ?_
       rintro e w9 ⟨rfl,E9⟩
       have hE9:=HE6.out.trans (EW.trans E9)
       clear E9 EW
       go_wp2
       go_ret
       exact⟨rfl,hE9⟩
      ·have hTQ:tr=Q:=HTR.out.resolve_left hTP
       rw[decide_eq_false hTP] at HIA
       rw[decide_eq_true hTQ] at HIB
       clear hTP hTQ
       go_wp2_with fail
       with_reducible refine Calls.mono (HIA.out _ EW) ?_
       rintro e w9 ⟨rfl,E9⟩
       have hE69:=EW.trans E9
       have z2:=(hE69.cells.1 _ _ y2).trans y1
       have z3:=(hE69.cells.1 _ _ y4).trans y3
       have zl2:w4.heap.size<w9.heap.size:=by have:=hE69.size;omega
       have zl3:bg<w9.heap.size:=by have:=hE69.size;omega
       clear x1 x3 y1 y3 E9 EW
       go_wp2_with fail
       with_reducible refine Calls.mono (HIB.out _ hE69) ?_
       rintro e w10 ⟨rfl,E10⟩
       have hE10:=HE6.out.trans (hE69.trans E10)
       clear E10 hE69
       go_wp2
       go_ret
       exact⟨rfl,hE10⟩
  ·have b1:((plnF N 2 ls [⟨fa,ft,[va],[]⟩]).1 != 0)=true:=by simpa using h2
   rw[h1] at a0
   go_wp2
   go_ret
   exact⟨rfl,HEz.out⟩
 ·have b1:((plnF N 1 ls [⟨fa,ft,[],[]⟩]).1 != 0)=true:=by simpa using h1
  go_wp2
  go_ret
  exact⟨rfl,HEz.out⟩
end Go.Proofs.Ytolclgbpjiokfaa.Rm
namespace Go.Proofs.Ytolclgbpjiokfaa
open Go.ChangeShapes Go.WideShapes Go.ChangeAt Go.RowKit Go.Deep Go.Joins Stw
set_option maxRecDepth 100000 in
theorem topTwo_lifted (os:Os) (started:os.Started) (H:Type) (enc:TypeId×Value→H):
 ReturnsInHanded {} Try.checked os 11 .any (Rows.topTwoSpec.pre6 enc Try.prog Try.f11 Rows.topTwoRow.domain false) (Rows.topTwoSpec.post enc Try.prog Try.f11 false true false false):=by
 refine returnsInHanded_of_change_sized (C:=Try.checked) Try.own started (by kernel_rfl) Try.func11
  (ChangeSpec.witness6 (enc:=enc) (C:=Try.checked) false ⟨#[],#[.agg #[.int .i64 0,.slice none 0 0],.int .i64 0,.int .i64 0,.int .i64 0,.int .i64 0],[]⟩ 8 (by kernel_rfl) (by kernel_rfl) (by kernel_rfl) (by kernel_rfl)) ?_
 intro W base args ds gs before hval0 hW hcnd hsz0 _
 have hval:∀(j:Nat) t v,Try.f11.params[j]? =some t→args[j]? =some v→Value.okWide Try.prog W .any base t v:=hval0
 have hsz:(DataW.weightsEach Try.prog (Try.f11.params.toList++Rows.topTwoSpec.plain.varTypes Try.prog) (ds++gs)).all (· ≤reachBytes)=true:=hsz0
 have hW':=hW
 obtain⟨p,q,hA0,hV,rfl,hfz,hnd⟩:=hW
 have hA:DataW.TrodAll enc Try.prog W 0 (fun _=>true) true Try.f11.params.toList args.toList ds p:=hA0
 rw[Try.params11] at hA hval hsz
 obtain⟨v0,vs0,d0,dt0,p0,q0,hargs,rfl,rfl,h0,r0⟩:=trodAll_cons hA
 obtain⟨v1,vs1,d1,dt1,p1,q1,rfl,rfl,rfl,h1,r1⟩:=trodAll_cons r0
 obtain⟨v2,vs2,d2,dt2,p2,q2,rfl,rfl,rfl,h2,r2⟩:=trodAll_cons r1
 obtain⟨v3,vs3,d3,dt3,p3,q3,rfl,rfl,rfl,h3,r3⟩:=trodAll_cons r2
 obtain⟨v4,vs4,d4,dt4,p4,q4,rfl,rfl,rfl,h4,r4⟩:=trodAll_cons r3
 obtain⟨rfl,rfl,rfl⟩:=trodAll_nil r4
 obtain rfl:args=#[v0,v1,v2,v3,v4]:=by cases args;simp_all
 obtain⟨rfl,rfl⟩:=trodVars_none hV
 have k0:=h0
 have lt0:∀x∈p0,x.block<W.heap.size:=by obtain⟨m,hm⟩:=k0;exact DataW.trod_lt m _ _ _ hm
 obtain⟨n0,ao0,len0,cap0,ls0,rfl,hn0,hlen0,hnet0,hlw0,hreach0,hcap0,hcm0⟩:=open_topo (hval 0 24 v0 rfl rfl) h0 (weights_arg hsz (j:=0) rfl rfl)
 obtain⟨a1,rfl,rfl,rfl,w1⟩:=open_int Try.underlying3 (hval 1 3 v1 rfl rfl) h1
 obtain⟨a2,rfl,rfl,rfl,w2⟩:=open_int Try.underlying3 (hval 2 3 v2 rfl rfl) h2
 obtain⟨a3,rfl,rfl,rfl,w3⟩:=open_int Try.underlying3 (hval 3 3 v3 rfl rfl) h3
 obtain⟨a4,rfl,rfl,rfl,w4⟩:=open_int Try.underlying3 (hval 4 3 v4 rfl rfl) h4
 clear hA0 hval0 hsz0
 refine(Rm.topTwo_any n0 ao0 len0 cap0 ls0 a1 a2 a3 a4 W hlen0 hnet0 (by omega) hn0).mono fun e W' ⟨he,bel0⟩=>?_
 subst he
 have bel:Below W.heap.size W W':=bel0
 exact⟨_,rfl,_,_,_,[],_,[],hW',trodAll_mk1 (shut_bool Try.underlying4 _),(trodAll_cons_mk (Below.trod Try.laidOut (by kernel_rfl) (of_decide_eq_true (by kernel_rfl)) k0 bel lt0) (trodAll_cons_mk (shut_int Try.underlying3 w1) (trodAll_cons_mk (shut_int Try.underlying3 w2) (trodAll_cons_mk (shut_int Try.underlying3 w3) (trodAll_cons_mk (shut_int Try.underlying3 w4) trodAll_mk0))))),rfl,bel.frame _,fun h=>by cases h⟩
theorem topTwo_holds:Rows.TopTwoSaid:=
 OpenClaim.holds_of_wide 11 Try.f11 rfl rfl rfl rfl rfl rfl rfl ⟨rfl,rfl,rfl,rfl,rfl⟩ rfl rfl rfl rfl rfl (by kernel_rfl) Try.func11 (by kernel_rfl)
  (of_decide_eq_true (by kernel_rfl)) (by unfold Func.isWrapper;first | (rw[if_pos (by decide+kernel)];kernel_rfl) | (rw[if_neg (by decide+kernel)];exact⟨rfl,rfl⟩))
  (fun os started H enc _=>topTwo_lifted os started H enc)
#print axioms topTwo_holds
end Go.Proofs.Ytolclgbpjiokfaa
