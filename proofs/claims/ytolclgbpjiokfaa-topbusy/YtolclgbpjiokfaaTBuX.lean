/- TopBusy: as long as a change isn't done another one is refused; then it is not; for every input. -/
import Derived.Test.YtolclgbpjiokfaaU38
import Derived.Test.YtolclgbpjiokfaaU39
import Derived.Test.YtolclgbpjiokfaaU36
import Derived.Test.YtolclgbpjiokfaaU43
import Derived.Test.YtolclgbpjiokfaaU24
namespace Go.Proofs.Ytolclgbpjiokfaa.Rm
open Go.RowKit Go.Deep Stw Stp Tb Rul Ct
theorem step_append_rs {ops:Array Oper} {o:Oper} {a:Act} {W:World} {K:Act→World→Prop} {Q:Exit→Act→World→Prop} {E:Prop} (hgd:o.guard=none) (s x:Operand)
 (ho:o.op=.call {callee:=.builtin .append,args:=#[s,x],argTypes:=#[25,25]}) {z y:World} {g:Option Nat} {v:Value} {ds es:List Dd} {ad:Addr} {lb cb:Nat}
 (hs:a.eval s=v) (hx:a.eval x=.slice (some ad) lb cb) (h:RS z y g W v ds) (hlen:es.length=lb) (h0:0<lb) (hb:DosIn z W (some ad) es) (hn:ds.length+lb≤1000000)
 (hK:∀b off cap W',RS z y g W' (.slice (some ⟨b,off,none⟩) (ds.length+lb) cap) (ds++es)→K (a.put o.dst (.slice (some ⟨b,off,none⟩) (ds.length+lb) cap)) W'):
 if Region.wanted o (yielded ops a.tmps)=true then Oper.wp Try.prog o a W K Q else E:=by
 have hw:Region.wanted o (yielded ops a.tmps)=true:=by simp[Region.wanted,hgd]
 rw[if_pos hw]
 obtain⟨b,off,cap,W',hr,h2⟩:=h.append (cb:=cb) hlen h0 hb hn
 unfold Oper.wp execOp
 simp only[ho,resolve,invoke,builtin,Sem.run_bind,Sem.run_pure,Result.andThen_ok,List.map_toArray,List.map_cons,List.map_nil,hs,hx,hr]
 exact hK b off cap W' h2
theorem step_copy_dos {ops:Array Oper} {o:Oper} {a:Act} {W:World} {K:Act→World→Prop} {Q:Exit→Act→World→Prop} {E:Prop} (hgd:o.guard=none) (s x:Operand)
 (ho:o.op=.call {callee:=.builtin .append,args:=#[s,x],argTypes:=#[25,25]}) {z:World} {g:Nat} {es:List Dd} {bo:Option Addr} {lb cb:Nat}
 (hs:a.eval s=.slice (some ⟨g,0,none⟩) 0 0) (hx:a.eval x=.slice bo lb cb) (hg:W.heap[g]? =some (.cells #[] 66 (0,0))) (hz:z.heap.size≤g) (hlen:es.length=lb) (hb:DosIn z W bo es) (hnil:bo=none→lb=0∧cb=0) (hn:lb≤1000000)
 (hK:∀ao cap W',DO z W' (.slice ao lb cap) es→W.grownBy W' (some g)→(∀k,(Value.slice ao lb cap).ownBlock=some k→g≤k)→K (a.put o.dst (.slice ao lb cap)) W'):
 if Region.wanted o (yielded ops a.tmps)=true then Oper.wp Try.prog o a W K Q else E:=by
 have hw:Region.wanted o (yielded ops a.tmps)=true:=by simp[Region.wanted,hgd]
 rw[if_pos hw]
 obtain⟨ao,cap,W',hr,h1,h2,h3⟩:=copy_dos (cb:=cb) hg hz hlen hb hnil hn
 unfold Oper.wp execOp
 simp only[ho,resolve,invoke,builtin,Sem.run_bind,Sem.run_pure,Result.andThen_ok,List.map_toArray,List.map_cons,List.map_nil,hs,hx,hr]
 exact hK ao cap W' h1 h2 h3
end Go.Proofs.Ytolclgbpjiokfaa.Rm
namespace Go.Proofs.Ytolclgbpjiokfaa.Rm
open Go.RowKit Go.Deep Stw Stp Tb Rul Ct
theorem hap_drop {n:Nat} {ls:List Lk} {W:Wd}:hap n ls W ⟨6,0,[]⟩=hapD n ls W:=by
 unfold hap
 simp only[show((6:Int)=1)=False by simp,show((6:Int)=2)=False by simp,show((6:Int)=3)=False by simp,show((6:Int)=4)=False by simp,show((6:Int)=5)=False by simp,if_false,if_true]
theorem run_snoc {n:Nat} {ls:List Lk} {ds:List Dd} {d:Dd}:run n ls (ds++[d])=((hap n ls (run n ls ds).1 d).1,(run n ls ds).2++[(hap n ls (run n ls ds).1 d).2]):=by
 rw[run_append];rfl
theorem rk_le (st:Int):rk st≤2:=by unfold rk;split;· omega
                                   split <;> omega
theorem drop_rest {n:Nat} {ls:List Lk} {t:Nat} {W:Wd} (h:Inv n ls t W) (hs:W.co.st=0∨W.co.st=3):((hapD n ls W).1.co.st=0∨(hapD n ls W).1.co.st=4)∧(hapD n ls W).1.pn=W.pn∧(hapD n ls W).1.pk=W.pk:=by
 rcases hs with e | e
 ·have h1:(dropS W.co n ls).2≠0:=by
   unfold dropS
   rw[if_neg (by simpa using h.wr),if_pos (by omega)]
   simp
  unfold hapD
  rw[if_pos h1]
  exact⟨Or.inl e,rfl,rfl⟩
 ·have h1:=drop_calm (n:=n) (ls:=ls) h.wr e
  have h2:=drop_B (n:=n) (ls:=ls) h.wr e
  unfold hapD
  rw[if_neg (by rw[h1];simp)]
  refine⟨?_,rfl,rfl⟩
  rcases h2 with⟨e1,_⟩ | ⟨e1,_⟩
  ·exact Or.inr e1
  ·exact Or.inl e1
theorem settle2 {n:Nat} {ls:List Lk} (hw:(wrong n ls).1=0) {ds:List Dd} (hl:ds.length≤200):
 ∃z1 z2,drn n ls 10 ds=ds++z1∧drn n ls 10 (ds++z1++[(⟨6,0,[]⟩:Dd)])=ds++z1++[(⟨6,0,[]⟩:Dd)]++z2∧z1.length≤32∧z2.length≤16∧
  ((ds++z1).length≤200→Settled (run n ls ds).1 (run n ls (ds++z1)).1∧∃c,(run n ls (ds++z1)).2=(run n ls ds).2++c∧∀e∈c,e=0)∧
  ((ds++z1++[(⟨6,0,[]⟩:Dd)]++z2).length≤200→(run n ls (ds++z1++[(⟨6,0,[]⟩:Dd)]++z2)).1.co.st=0∧(run n ls (ds++z1++[(⟨6,0,[]⟩:Dd)]++z2)).1.co.wts=[]∧(run n ls (ds++z1++[(⟨6,0,[]⟩:Dd)]++z2)).1.pn=(run n ls ds).1.pn∧(run n ls (ds++z1++[(⟨6,0,[]⟩:Dd)]++z2)).1.pk=(run n ls ds).1.pk):=by
 have hI:=run_inv (n:=n) (ls:=ls) hw (show ds.length≤1000 by omega)
 have hn:=hI.n8.2
 obtain⟨z1,a1,a2,a3⟩:=drn_ok (n:=n) (ls:=ls) hw 10 ds hl (by have:=rk_le (run n ls ds).1.co.st;omega)
 have b1:z1.length≤32:=by
  have h1:2*n*rk (run n ls ds).1.co.st≤16*2:=Nat.mul_le_mul (by omega) (rk_le _)
  omega
 by_cases hlong:200<(ds++z1++[(⟨6,0,[]⟩:Dd)]).length
 ·refine⟨z1,[],a1,?_,b1,by simp,a3,fun h=>?_⟩
  ·rw[drn_long hlong,List.append_nil]
  ·rw[List.append_nil] at h;omega
 ·have hm1:(ds++z1).length≤200:=by simp only[List.length_append,List.length_cons,List.length_nil] at hlong ⊢;omega
  obtain⟨hset,hc⟩:=a3 hm1
  have hI1:=run_inv (n:=n) (ls:=ls) hw (show(ds++z1).length≤1000 by omega)
  have hs1:(run n ls (ds++z1)).1.co.st=0∨(run n ls (ds++z1)).1.co.st=3:=by
   obtain⟨_,_,_,s4,s5,s6⟩:=hset
   rcases hI.sts with e | e | e | e | e
   ·exact Or.inl (s4 e).1
   ·exact Or.inr (s6 (Or.inl e)).1
   ·exact Or.inr (s6 (Or.inr (Or.inl e))).1
   ·exact Or.inr (s6 (Or.inr (Or.inr e))).1
   ·exact Or.inl (s5 e).1
  obtain⟨d1,d2,d3⟩:=drop_rest hI1 hs1
  have er:(run n ls (ds++z1++[(⟨6,0,[]⟩:Dd)])).1=(hapD n ls (run n ls (ds++z1)).1).1:=by rw[run_snoc,hap_drop]
  have hrk:rk (run n ls (ds++z1++[(⟨6,0,[]⟩:Dd)])).1.co.st≤1:=by
   rw[er]
   rcases d1 with e | e <;> rw[e] <;> decide
  obtain⟨z2,c1,c2,c3⟩:=drn_ok (n:=n) (ls:=ls) hw 10 (ds++z1++[(⟨6,0,[]⟩:Dd)]) (by omega) (by omega)
  refine⟨z1,z2,a1,c1,b1,?_,a3,fun h=>?_⟩
  ·have h1:2*n*rk (run n ls (ds++z1++[(⟨6,0,[]⟩:Dd)])).1.co.st≤16*1:=Nat.mul_le_mul (by omega) hrk
   omega
  ·obtain⟨⟨s1,s2,s3,s4,s5,s6⟩,_⟩:=c3 h
   rw[er] at s2 s3 s4 s5
   refine⟨?_,s1,s3.trans (d2.trans hset.2.2.1),s2.trans (d3.trans hset.2.1)⟩
   rcases d1 with e | e
   ·exact(s4 e).1
   ·exact(s5 e).1
theorem Inv.rest {n:Nat} {ls:List Lk} {t:Nat} {W:Wd} (h:Inv n ls t W) (hs:W.co.st=0) (hw:W.co.wts=[]):W.co.now=lp W.pn W.pn.length∧W.co.nxt=pl0∧W.co.now.v=W.pn.length∧∀s,s<n→W.sw.getD s Agt.sw0=⟨rls W.co.now s,stOf W.co.now s⟩:=by
 rcases h.dyn.stg with⟨_,h2,h3⟩ | ⟨h1,_⟩
 ·refine⟨h3,h2,by rw[h3];exact(h.pls.lp (Nat.le_refl _)).1,fun s hsn=>?_⟩
  rw[(h.dyn.core.quiet hw).2 s hsn]
  unfold aft
  rw[if_pos hs]
 ·omega
theorem ver_at {p:Pl} {s i:Nat} (hi:i<p.fs.length):Agt.ver (stOf p s) i=if(p.fs.getD i Fw.f0).fr=(s:Int) then p.v else 0:=by
 unfold stOf
 by_cases h:(p.fs.getD i Fw.f0).fr=(s:Int)
 ·rw[if_pos h]
  exact ver_stamps_of (mem_beg.2 ⟨i,hi,rfl,h⟩)
 ·rw[if_neg h]
  cases e:decide (Agt.ver (Agt.stamps p.v (beg s p.fs p.fs.length)) i=0) with
  | true=>exact of_decide_eq_true e
  | false=>
   exfalso
   obtain⟨k,_,k2,k3⟩:=mem_beg.1 (ver_stamps (of_decide_eq_false e)).1
   have:k=i:=by omega
   subst this
   exact h k3
end Go.Proofs.Ytolclgbpjiokfaa.Rm
namespace Go.Proofs.Ytolclgbpjiokfaa.Rm
open Go.RowKit Go.Deep Stw Stp Tb Rul Ct
theorem fnd_right {n:Int} {ls:List Lk} {f:Stf.Fl} (h:(fnd n ls f).1=0):(wrong n ls).1=0∧Stf.wflow f n=0:=by
 unfold fnd at h
 by_cases h1:(wrong n ls).1=0
 ·rw[if_neg (by simpa using h1)] at h
  by_cases h2:Stf.wflow f n=0
  ·exact⟨h1,h2⟩
  ·rw[if_pos h2] at h;exact absurd h h2
 ·rw[if_pos h1] at h;exact absurd h h1
theorem plan_one {n:Int} {ls:List Lk} {f:Stf.Fl} {v:Int} (h:(fnd n ls f).1=0) (h1:1≤v) (h2:v≤1000):(plnF n v ls [f]).1=0:=by
 obtain⟨a,b⟩:=fnd_right h
 have hb:(Stf.wflows [f] n).1=0:=by
  unfold Stf.wflows
  rw[if_neg (by simp),Stf.firstBad_none (fun k hk=>by
   have hk0:k=0:=by simp at hk;omega
   subst hk0;exact b)]
 unfold plnF
 rw[if_neg (by simpa using a),if_neg (by omega),if_neg (by simpa using hb),Stf.firstBad_none (fun k hk=>by
  have hk0:k=0:=by simp at hk;omega
  subst hk0;exact h)]
theorem plnP_one {n:Int} {ls:List Lk} {f:Stf.Fl}:plnP n ls [f]=[(fnd n ls f).2]:=rfl
theorem same_len {l:List Ru} (h:Ris l) (hs:∀a∈l,∀b∈l,a=b):l.length≤1:=by
 match l,h with
 | [],_=>simp
 | [_],_=>simp
 | a::b::r,h=>
  exfalso
  have e:=hs a (by simp) b (by simp)
  have hl:=(List.pairwise_cons.1 h).1 b (by simp)
  rw[e] at hl
  have:=lt_asymm hl
  rw[hl] at this
  cases this
theorem rls_one {n:Nat} {p:Pl} {q:List Int} {s:Nat} (hn:n≤8) (h:Gd n p) (hp:p.ps=[q]):(rls p s).length≤1:=by
 refine same_len (rls_ris hn (Or.inr h)) (fun a ha b hb=>?_)
 obtain⟨i,i1,k,k1,k2,rfl⟩:=mem_rof.1 ha
 obtain⟨j,j1,m,m1,m2,rfl⟩:=mem_rof.1 hb
 rw[hp] at i1 j1 k1 k2 m1 m2 ⊢
 simp only[List.length_cons,List.length_nil] at i1 j1
 have hi:i=0:=by omega
 have hj:j=0:=by omega
 subst hi hj
 simp only[List.getD_cons_zero] at k1 k2 m1 m2 ⊢
 have hnd:=(h.gp 0 (by rw[hp];simp)).2.1
 rw[hp] at hnd
 have e:k=m:=nd_get hnd (by simpa using(by omega:k<q.length)) (by simpa using(by omega:m<q.length)) (by simp only[List.getD_cons_zero];omega)
 rw[e]
theorem hap_pn {n:Nat} {ls:List Lk} {W:Wd} {d:Dd}:(hap n ls W d).1.pn=W.pn∨(d.k=1∧(hap n ls W d).2=0∧(hap n ls W d).1.pn=W.pn++[⟨nx W.co.now.v,d.fs,plnP n ls d.fs⟩]):=by
 unfold hap
 split
 ·rename_i h1
  unfold hapA
  split
  ·exact Or.inl rfl
  ·rename_i h0
   have h0':(askS W.co n ls d.fs).2=0:=by simpa using h0
   obtain⟨_,hA,_⟩:=(Ct.ask_cases h0').A
   exact Or.inr ⟨h1,rfl,by rw[hA]⟩
 ·left
  split
  ·unfold hapO
   split
   ·rfl
   ·split
    ·rfl
    ·split <;> rfl
  ·split
   ·unfold hapK
    split
    ·rfl
    ·split
     ·rfl
     ·split <;> rfl
   ·split
    ·unfold hapB
     split
     ·rfl
     ·split <;> rfl
    ·split
     ·unfold hapM
      split
      ·rfl
      ·split <;> rfl
     ·split
      ·unfold hapD
       split <;> rfl
      ·rfl
theorem runR_fs {n:Nat} {ls:List Lk} {fs0:List Stf.Fl}:∀{ds:List Dd} {q:Wd×List Int},(∀d∈ds,d.k=1→d.fs=fs0)→(∀P∈q.1.pn,P.fs=fs0)→∀P∈(runR n ls q ds).1.pn,P.fs=fs0
 | [],q,_,h=>h
 | d::r,q,hd,h=>by
  rw[runR_cons]
  refine runR_fs (fun e he=>hd e (by simp[he])) (fun P hP=>?_)
  have hP':P∈(hap n ls q.1 d).1.pn:=hP
  rcases hap_pn (n:=n) (ls:=ls) (W:=q.1) (d:=d) with e | ⟨e1,_,e2⟩
  ·rw[e] at hP';exact h P hP'
  ·rw[e2] at hP'
   rcases List.mem_append.1 hP' with hP' | hP'
   ·exact h P hP'
   ·rw[List.mem_singleton] at hP';rw[hP'];exact hd d (by simp) e1
theorem run_fs {n:Nat} {ls:List Lk} {fs0:List Stf.Fl} {ds:List Dd} (h:∀d∈ds,d.k=1→d.fs=fs0):∀P∈(run n ls ds).1.pn,P.fs=fs0:=runR_fs h (fun P hP=>by simp[wdN] at hP)
theorem Inv.one_path {n:Nat} {ls:List Lk} {t:Nat} {W:Wd} {f:Stf.Fl} (h:Inv n ls t W) (hall:∀P∈W.pn,P.fs=[f]) {m:Nat} (hm:m<W.pn.length):(W.pn.getD m pl0).ps=[(fnd n ls f).2]∧(W.pn.getD m pl0).fs=[f]:=by
 have h1:=hall (W.pn.getD m pl0) (by rw[List.getD_eq_getElem?_getD,List.getElem?_eq_getElem hm];exact List.getElem_mem _)
 obtain⟨fs,e,_⟩:=h.pls m hm
 rw[e] at h1 ⊢
 simp only at h1 ⊢
 rw[h1]
 exact⟨plnP_one,rfl⟩
theorem ask_ok {n:Nat} {ls:List Lk} {t:Nat} {W:Wd} {f:Stf.Fl} (h:Inv n ls t W) (ht:t≤900) (hst:W.co.st=0) (hf:(fnd n ls f).1=0) (hall:∀P∈W.pn,P.fs=[f]):(askS W.co n ls [f]).2=0:=by
 have hn:=h.n8.2
 have hnow:W.co.now=lp W.pn W.pn.length:=by
  rcases h.dyn.stg with⟨_,_,h3⟩ | ⟨h1,_⟩
  ·exact h3
  ·omega
 have hv:=(h.pls.lp (Nat.le_refl W.pn.length)).1
 have hpl:=h.pl
 have hnx:nx W.co.now.v=(W.pn.length:Int)+1:=by unfold nx;rw[hnow,hv,IntKind.wrap_i64];omega
 have hp:(plnF n (nx W.co.now.v) ls [f]).1=0:=plan_one hf (by omega) (by omega)
 have hg:Pln n ls (nx W.co.now.v) ⟨nx W.co.now.v,[f],plnP n ls [f]⟩:=⟨[f],rfl,hp⟩
 have hfl:full n W.co.now ⟨nx W.co.now.v,[f],plnP n ls [f]⟩=false:=by
  refine full_false (fun j _=>?_)
  have h1:=rls_one (s:=j) hn hg.gd plnP_one
  have h2:(rls W.co.now j).length≤1:=by
   rw[hnow]
   cases e:W.pn.length with
   | zero=>simp[lp,rls_pl0]
   | succ m=>
    have hm:m<W.pn.length:=by omega
    exact rls_one (s:=j) hn (h.pls m hm).gd (h.one_path hall hm).1
  omega
 unfold askS
 rw[if_neg (by omega),if_neg (by simpa using hp),if_neg (by rw[Int.toNat_natCast,hfl];simp)]
theorem hap_ask {n:Nat} {ls:List Lk} {W:Wd} {fs:List Stf.Fl}:hap n ls W ⟨1,0,fs⟩=hapA n ls W fs:=by
 unfold hap
 rw[if_pos rfl]
theorem drn1_kind {W:Wd} {d:Dd} (h:d∈drn1 W):d.k≠1:=by
 obtain⟨s,_,h2⟩:=List.mem_flatMap.1 h
 unfold acts at h2
 rcases List.mem_append.1 h2 with h | h
 ·obtain⟨_,_,h2⟩:=List.mem_flatMap.1 h
  simp only[List.mem_cons,List.not_mem_nil,or_false] at h2
  rcases h2 with rfl | rfl <;> simp
 ·obtain⟨_,_,rfl⟩:=List.mem_map.1 h;simp
theorem drn_kind {N:Int} {ls:List Lk} {fs0:List Stf.Fl}:∀(k:Nat) {es:List Dd},(∀d∈es,d.k=1→d.fs=fs0)→∀d∈drn N ls k es,d.k=1→d.fs=fs0
 | 0,_,h=>h
 | k+1,es,h=>by
  rw[drn]
  split
  ·exact h
  ·refine drn_kind k (fun d hd=>?_)
   rcases List.mem_append.1 hd with h1 | h1
   ·exact h d h1
   ·exact fun e=>absurd e (drn1_kind h1)
theorem kind_snoc {fs0:List Stf.Fl} {es:List Dd} {d:Dd} (h:∀d∈es,d.k=1→d.fs=fs0) (hd:d.k=1→d.fs=fs0):∀e∈es++[d],e.k=1→e.fs=fs0:=fun e he=>by
 rcases List.mem_append.1 he with h1 | h1
 ·exact h e h1
 ·rw[List.mem_singleton] at h1;rw[h1];exact hd
def mny (n:Int) (ls:List Lk) (f:Stf.Fl):Nat→List Dd
 | 0=>[]
 | j+1=>drn n ls 10 (drn n ls 10 (mny n ls f j++[⟨1,0,[f]⟩])++[⟨6,0,[]⟩])
theorem mny_kind {n:Int} {ls:List Lk} {f:Stf.Fl}:∀j,∀d∈mny n ls f j,d.k=1→d.fs=[f]
 | 0=>fun d hd=>by simp[mny] at hd
 | j+1=>drn_kind 10 (kind_snoc (drn_kind 10 (kind_snoc (mny_kind j) (fun _=>rfl))) (fun h=>by cases h))
theorem mny_ok {n:Nat} {ls:List Lk} {f:Stf.Fl} (hf:(fnd n ls f).1=0):∀j,j≤4→(mny n ls f j).length≤50*j∧(run n ls (mny n ls f j)).1.co.st=0∧(run n ls (mny n ls f j)).1.co.wts=[]∧(run n ls (mny n ls f j)).1.pn.length=j
 | 0,_=>⟨by simp[mny],rfl,rfl,rfl⟩
 | j+1,hj=>by
  obtain⟨h1,h2,h3,h4⟩:=mny_ok hf j (by omega)
  have hw:=(fnd_right hf).1
  have hI:=run_inv (n:=n) (ls:=ls) hw (show(mny n ls f j).length≤1000 by omega)
  have hl:(mny n ls f j++[(⟨1,0,[f]⟩:Dd)]).length≤50*j+1:=by simp;omega
  obtain⟨z1,z2,a1,a2,a3,a4,_,a6⟩:=settle2 (n:=n) (ls:=ls) hw (ds:=mny n ls f j++[⟨1,0,[f]⟩]) (by omega)
  have e:mny n ls f (j+1)=mny n ls f j++[⟨1,0,[f]⟩]++z1++[⟨6,0,[]⟩]++z2:=by rw[mny,a1,a2]
  have hlen:(mny n ls f (j+1)).length≤50*(j+1):=by
   rw[e]
   simp only[List.length_append,List.length_cons,List.length_nil] at hl ⊢
   omega
  obtain⟨b1,b2,b3,_⟩:=a6 (by rw[←e];omega)
  rw[←e] at b1 b2 b3
  have hask:=ask_ok hI (by omega) h2 hf (run_fs (mny_kind j))
  have hpn:(run n ls (mny n ls f j++[⟨1,0,[f]⟩])).1.pn.length=j+1:=by
   rw[run_snoc,hap_ask]
   unfold hapA
   rw[if_neg (by simpa using hask)]
   simp[h4]
  exact⟨hlen,b1,b2,by rw[b3,hpn]⟩
theorem busy {n:Nat} {ls:List Lk} {f:Stf.Fl} (hf:(fnd n ls f).1=0) {k:Nat} (hk:k≤(mny n ls f 1).length):
 ((run n ls ((mny n ls f 1).take k++[⟨1,0,[f]⟩])).2.getD k 0=0∧(run n ls ((mny n ls f 1).take k)).1.co.st=0)∨((run n ls ((mny n ls f 1).take k++[⟨1,0,[f]⟩])).2.getD k 0=11∧(run n ls ((mny n ls f 1).take k)).1.co.st≠0):=by
 have h1:=(mny_ok hf 1 (by omega)).1
 have hl:((mny n ls f 1).take k).length=k:=by rw[List.length_take];omega
 have hI:=run_inv (n:=n) (ls:=ls) (fnd_right hf).1 (show((mny n ls f 1).take k).length≤1000 by omega)
 have hc:(run n ls ((mny n ls f 1).take k)).2.length=k:=by rw[run_len];exact hl
 have e:(run n ls ((mny n ls f 1).take k++[⟨1,0,[f]⟩])).2.getD k 0=(hapA n ls (run n ls ((mny n ls f 1).take k)).1 [f]).2:=by
  rw[run_snoc,hap_ask]
  simp only
  rw[List.getD_eq_getElem?_getD,List.getElem?_append_right (by omega),hc]
  simp
 rw[e]
 by_cases hst:(run n ls ((mny n ls f 1).take k)).1.co.st=0
 ·left
  have hask:=ask_ok hI (by omega) hst hf (run_fs (fun d hd=>mny_kind 1 d (List.mem_of_mem_take hd)))
  unfold hapA
  rw[if_neg (by simpa using hask)]
  exact⟨rfl,hst⟩
 ·right
  have hask:(askS (run n ls ((mny n ls f 1).take k)).1.co n ls [f]).2=11:=by unfold askS;rw[if_pos hst]
  unfold hapA
  rw[if_pos (by rw[hask];decide)]
  exact⟨hask,hst⟩
end Go.Proofs.Ytolclgbpjiokfaa.Rm
namespace Go.Proofs.Ytolclgbpjiokfaa.Rm
open Go.RowKit Go.Deep Stw Stp Tb Rul Ct
theorem take_op2 {P:Program} {md:Region.Mode} {ops:Array Oper} {Q:Exit→Act→World→Prop} {S:World→Prop} {i:Nat} {oi:Oper} {d:Option Tmp} {v:Value} {fuel:Nat} {listed:Array Bool} {a:Act} {w:World} (hi:ops[i]? =some oi) (hd:oi.dst=d) (hs:Region.noSelect ops=true) (hf:Region.free md ops listed i=true) (hr:(Region.ready md ops listed).contains i=true) (hQ:∀c a w,Q (.panic c) (a.put d v) w→Q (.panic c) a w) (hy:YieldsIf P ops S oi v a) (hS:S w) (h:wpAnyH P md ops Q S fuel (listed.setIfInBounds i true) (a.put d v) w):wpAnyH P md ops Q S (fuel+1) listed a w:=by
 subst hd
 exact wpAnyH_take hi hs hf hr hQ hy hS h
theorem dag {P:Program} {md:Region.Mode} {ops:Array Oper} {Q:Exit→Act→World→Prop} {S:World→Prop} {m:Nat} (I:Nat→Array Bool→Act→World→Prop)
 (hstep:∀n,(∀k,k<n→∀l a w,S w→I k l a w→wpAnyH P md ops Q S (m+k) l a w)→∀l a w,S w→I n l a w→wpAnyH P md ops Q S (m+n) l a w):∀n l a w,S w→I n l a w→wpAnyH P md ops Q S (m+n) l a w:=fun n=>by
 induction n using Nat.strongRecOn with
 | ind n ih=>exact hstep n ih
def zWd:Array Value:=#[.int .i64 0,.int .i64 0,.slice none 0 0,.slice none 0 0,.int .i64 0,.slice none 0 0,.slice none 0 0,.int .i64 0,.slice none 0 0,.slice none 0 0,.slice none 0 0,.slice none 0 0,.slice none 0 0,.slice none 0 0]
structure BF (z:World) (tk:List Dd) (d:Dd) (fo:Option Addr) (fc:Nat) (A B C D F G:Bool) (vA vB vC vD vF vG:Value) (V:World):Prop where
 ext:Ext z V
 hA:A=true→B=false→∃g,vA=.slice (some ⟨g,0,none⟩) 0 0∧z.heap.size≤g∧V.heap[g]? =some (.cells #[] 66 (0,0))
 hB:B=true→D=false→DO z V vB tk∧∃ao cap,vB=.slice ao tk.length cap
 hC:C=true→D=false→∃g,vC=.slice (some ⟨g,0,none⟩) 1 1∧z.heap.size≤g∧V.heap[g]? =some (.cells #[.int .i64 d.k,.int .i64 d.n,.slice fo d.fs.length fc] 66 (0,0))
 hD:D=true→DO z V vD (tk++[d])∧∃b off cap,vD=.slice (some ⟨b,off,none⟩) (tk.length+1) cap
 hF:F=true→∃g,vF=.pointer (some ⟨g,0,none⟩)∧z.heap.size≤g∧V.heap[g]? =some (.cells zWd 40 (0,0))
 hG:G=true→∃g,vG=.pointer (some ⟨g,0,none⟩)∧z.heap.size≤g∧V.heap[g]? =some (.cells #[.int .i64 0,.int .i64 0] 44 (0,0))
section
variable {z:World} {tk:List Dd} {d:Dd} {fo:Option Addr} {fc:Nat} {A B C D F G:Bool} {vA vB vC vD vF vG:Value} {V:World}
theorem blk_lt {V:World} {g:Nat} {o:Obj} (h:V.heap[g]? =some o):g<V.heap.size:=(Array.getElem?_eq_some_iff.1 h).1
theorem BF.keep {V':World} (h:BF z tk d fo fc A B C D F G vA vB vC vD vF vG V) (hE:Ext z V') (hk:∀g o,V.heap[g]? =some o→z.heap.size≤g→(B=false→o=.cells #[] 66 (0,0)→V'.heap[g]? =some o)∧(D=false→(∃x y u,o=.cells #[x,y,u] 66 (0,0))→V'.heap[g]? =some o)∧((∃c,o=.cells c 40 (0,0))∨(∃c,o=.cells c 44 (0,0))→V'.heap[g]? =some o))
 (hB:B=true→D=false→DO z V' vB tk) (hD:D=true→DO z V' vD (tk++[d])):BF z tk d fo fc A B C D F G vA vB vC vD vF vG V':=by
 refine⟨hE,fun a b=>?_,fun b c=>⟨hB b c,(h.hB b c).2⟩,fun a b=>?_,fun a=>⟨hD a,(h.hD a).2⟩,fun a=>?_,fun a=>?_⟩
 ·obtain⟨g,e,hz,hg⟩:=h.hA a b
  exact⟨g,e,hz,(hk g _ hg hz).1 b rfl⟩
 ·obtain⟨g,e,hz,hg⟩:=h.hC a b
  exact⟨g,e,hz,(hk g _ hg hz).2.1 b ⟨_,_,_,rfl⟩⟩
 ·obtain⟨g,e,hz,hg⟩:=h.hF a
  exact⟨g,e,hz,(hk g _ hg hz).2.2 (Or.inl ⟨_,rfl⟩)⟩
 ·obtain⟨g,e,hz,hg⟩:=h.hG a
  exact⟨g,e,hz,(hk g _ hg hz).2.2 (Or.inr ⟨_,rfl⟩)⟩
theorem BF.toExt {V':World} (h:BF z tk d fo fc A B C D F G vA vB vC vD vF vG V) (E:Ext V V'):BF z tk d fo fc A B C D F G vA vB vC vD vF vG V':=
 h.keep (h.ext.trans E) (fun g _ hg _=>⟨fun _ _=>(E.block g (blk_lt hg)).trans hg,fun _ _=>(E.block g (blk_lt hg)).trans hg,fun _=>(E.block g (blk_lt hg)).trans hg⟩) (fun b c=>(h.hB b c).1.ext E) (fun a=>(h.hD a).1.ext E)
theorem BF.tA {C D F G:Bool} (h:BF z tk d fo fc false false C D F G vA vB vC vD vF vG V):BF z tk d fo fc true false C D F G (.slice (some ⟨V.heap.size,0,none⟩) 0 0) vB vC vD vF vG (V.alloc (.cells #[] 66)):=by
 have k:=h.toExt ((Ext.refl V).alloc (.cells #[] 66))
 exact⟨k.ext,fun _ _=>⟨_,rfl,h.ext.size,new_at rfl⟩,k.hB,k.hC,k.hD,k.hF,k.hG⟩
theorem BF.tC {A B F G:Bool} (h:BF z tk d fo fc A B false false F G vA vB vC vD vF vG V):BF z tk d fo fc A B true false F G vA vB (.slice (some ⟨V.heap.size,0,none⟩) 1 1) vD vF vG (V.alloc (.cells #[.int .i64 d.k,.int .i64 d.n,.slice fo d.fs.length fc] 66)):=by
 have k:=h.toExt ((Ext.refl V).alloc (.cells #[.int .i64 d.k,.int .i64 d.n,.slice fo d.fs.length fc] 66))
 exact⟨k.ext,k.hA,k.hB,fun _ _=>⟨_,rfl,h.ext.size,new_at rfl⟩,k.hD,k.hF,k.hG⟩
theorem BF.tF {A B C D G:Bool} (h:BF z tk d fo fc A B C D false G vA vB vC vD vF vG V):BF z tk d fo fc A B C D true G vA vB vC vD (.pointer (some ⟨V.heap.size,0,none⟩)) vG (V.alloc (.cells zWd 40)):=by
 have k:=h.toExt ((Ext.refl V).alloc (.cells zWd 40))
 exact⟨k.ext,k.hA,k.hB,k.hC,k.hD,fun _=>⟨_,rfl,h.ext.size,new_at rfl⟩,k.hG⟩
theorem BF.tG {A B C D F:Bool} (h:BF z tk d fo fc A B C D F false vA vB vC vD vF vG V):BF z tk d fo fc A B C D F true vA vB vC vD vF (.pointer (some ⟨V.heap.size,0,none⟩)) (V.alloc (.cells #[.int .i64 0,.int .i64 0] 44)):=by
 have k:=h.toExt ((Ext.refl V).alloc (.cells #[.int .i64 0,.int .i64 0] 44))
 exact⟨k.ext,k.hA,k.hB,k.hC,k.hD,k.hF,fun _=>⟨_,rfl,h.ext.size,new_at rfl⟩⟩
theorem do_ne_world {c c':Array Value}:(Obj.cells c 66 (0,0))≠.cells c' 40 (0,0):=fun e=>by
 have:=(Obj.cells.inj e).2.1
 exact absurd this (by decide)
theorem do_ne_fault {c c':Array Value}:(Obj.cells c 66 (0,0))≠.cells c' 44 (0,0):=fun e=>by
 have:=(Obj.cells.inj e).2.1
 exact absurd this (by decide)
theorem BF.tB {C F G:Bool} {W:World} {g:Nat} {ao:Option Addr} {cap:Nat} (h:BF z tk d fo fc true false C false F G (.slice (some ⟨g,0,none⟩) 0 0) vB vC vD vF vG V) (hgr:V.grownBy W (some g)) (hDO:DO z W (.slice ao tk.length cap) tk):BF z tk d fo fc true true C false F G (.slice (some ⟨g,0,none⟩) 0 0) (.slice ao tk.length cap) vC vD vF vG W:=by
 obtain⟨g',e,hz,hg⟩:=h.hA rfl rfl
 have eg:g'=g:=by simp at e;exact e.symm
 subst eg
 have hE:Ext z W:=Below.grown h.ext hgr h.ext.size (fun k hk=>by cases hk;exact hz)
 have hkeep:∀k o,V.heap[k]? =some o→o≠Obj.cells #[] 66 (0,0)→W.heap[k]? =some o:=fun k o hk hne=>by
  rw[hgr.block k (blk_lt hk) (fun e=>by
   have e2:k=g':=by simpa using e
   subst e2
   rw[hg] at hk
   exact hne (Option.some.inj hk).symm)]
  exact hk
 refine⟨hE,(fun _ b=>by cases b),fun _ _=>⟨hDO,_,_,rfl⟩,fun a b=>?_,(fun a=>by cases a),fun a=>?_,fun a=>?_⟩
 ·obtain⟨q,e1,e2,e3⟩:=h.hC a b
  exact⟨q,e1,e2,hkeep q _ e3 (fun e=>by have:=(Obj.cells.inj e).1;simp at this)⟩
 ·obtain⟨q,e1,e2,e3⟩:=h.hF a
  exact⟨q,e1,e2,hkeep q _ e3 (fun e=>do_ne_world e.symm)⟩
 ·obtain⟨q,e1,e2,e3⟩:=h.hG a
  exact⟨q,e1,e2,hkeep q _ e3 (fun e=>do_ne_fault e.symm)⟩
theorem BF.tD {F G:Bool} {W:World} {b off cap:Nat} (h:BF z tk d fo fc true true true false F G vA vB vC vD vF vG V) (hgr:V.grownBy W vB.ownBlock) (hE:Ext z W) (hDO:DO z W (.slice (some ⟨b,off,none⟩) (tk.length+1) cap) (tk++[d])):BF z tk d fo fc true true true true F G vA vB vC (.slice (some ⟨b,off,none⟩) (tk.length+1) cap) vF vG W:=by
 have hown:∀k,vB.ownBlock=some k→∃c,V.heap[k]? =some (.cells c 66 (0,0)):=fun k hk=>by
  obtain⟨⟨xs,hr,_⟩,_⟩:=h.hB rfl rfl
  rcases hr.alt with⟨e,_⟩ | ⟨g,o,c,cur,e,hg,_⟩
  ·rw[e] at hk;simp[Value.ownBlock] at hk
  ·rw[e] at hk
   simp[Value.ownBlock] at hk
   subst hk
   exact⟨cur,hg⟩
 have hkeep:∀k o,V.heap[k]? =some o→(∀c,o≠Obj.cells c 66 (0,0))→W.heap[k]? =some o:=fun k o hk hne=>by
  rw[hgr.block k (blk_lt hk) (fun e=>by
   obtain⟨c,hc⟩:=hown k e.symm
   rw[hc] at hk
   exact hne c (Option.some.inj hk).symm)]
  exact hk
 refine⟨hE,(fun _ b=>by cases b),(fun _ b=>by cases b),(fun _ b=>by cases b),fun _=>⟨hDO,_,_,_,rfl⟩,fun a=>?_,fun a=>?_⟩
 ·obtain⟨q,e1,e2,e3⟩:=h.hF a
  exact⟨q,e1,e2,hkeep q _ e3 (fun c e=>do_ne_world e.symm)⟩
 ·obtain⟨q,e1,e2,e3⟩:=h.hG a
  exact⟨q,e1,e2,hkeep q _ e3 (fun c e=>do_ne_fault e.symm)⟩
end
structure BE (z:World) (s1:Nat) (we:World) (F G:Bool) (vF vG:Value) (V:World):Prop where
 ext:Ext z V
 sz:we.heap.size≤V.heap.size
 same:∀b,s1≤b→b<we.heap.size→V.heap[b]? =we.heap[b]?
 hF:F=true→∃g,vF=.pointer (some ⟨g,0,none⟩)∧z.heap.size≤g∧(g<s1∨we.heap.size≤g)∧V.heap[g]? =some (.cells zWd 40 (0,0))
 hG:G=true→∃g,vG=.pointer (some ⟨g,0,none⟩)∧z.heap.size≤g∧(g<s1∨we.heap.size≤g)∧V.heap[g]? =some (.cells #[.int .i64 0,.int .i64 0] 44 (0,0))
theorem BF.play {z:World} {tk:List Dd} {d:Dd} {fo:Option Addr} {fc:Nat} {A B C D F G:Bool} {vA vB vC vD vF vG:Value} {V we:World} (h:BF z tk d fo fc A B C D F G vA vB vC vD vF vG V) (E:Ext V we):BE z V.heap.size we F G vF vG we:=by
 refine⟨h.ext.trans E,Nat.le_refl _,fun _ _ _=>rfl,fun a=>?_,fun a=>?_⟩
 ·obtain⟨q,e1,e2,e3⟩:=h.hF a
  exact⟨q,e1,e2,Or.inl (blk_lt e3),(E.block q (blk_lt e3)).trans e3⟩
 ·obtain⟨q,e1,e2,e3⟩:=h.hG a
  exact⟨q,e1,e2,Or.inl (blk_lt e3),(E.block q (blk_lt e3)).trans e3⟩
theorem BE.toExt {z:World} {s1:Nat} {we:World} {F G:Bool} {vF vG:Value} {V V':World} (h:BE z s1 we F G vF vG V) (E:Ext V V'):BE z s1 we F G vF vG V':=by
 refine⟨h.ext.trans E,Nat.le_trans h.sz E.size,fun b b1 b2=>(E.block b (Nat.lt_of_lt_of_le b2 h.sz)).trans (h.same b b1 b2),fun a=>?_,fun a=>?_⟩
 ·obtain⟨q,e1,e2,e4,e3⟩:=h.hF a
  exact⟨q,e1,e2,e4,(E.block q (blk_lt e3)).trans e3⟩
 ·obtain⟨q,e1,e2,e4,e3⟩:=h.hG a
  exact⟨q,e1,e2,e4,(E.block q (blk_lt e3)).trans e3⟩
theorem BE.tF {z:World} {s1:Nat} {we:World} {G:Bool} {vF vG:Value} {V:World} (h:BE z s1 we false G vF vG V):BE z s1 we true G (.pointer (some ⟨V.heap.size,0,none⟩)) vG (V.alloc (.cells zWd 40)):=by
 have k:=h.toExt ((Ext.refl V).alloc (.cells zWd 40))
 exact⟨k.ext,k.sz,k.same,fun _=>⟨_,rfl,h.ext.size,Or.inr h.sz,new_at rfl⟩,k.hG⟩
theorem BE.tG {z:World} {s1:Nat} {we:World} {F:Bool} {vF vG:Value} {V:World} (h:BE z s1 we F false vF vG V):BE z s1 we F true vF (.pointer (some ⟨V.heap.size,0,none⟩)) (V.alloc (.cells #[.int .i64 0,.int .i64 0] 44)):=by
 have k:=h.toExt ((Ext.refl V).alloc (.cells #[.int .i64 0,.int .i64 0] 44))
 exact⟨k.ext,k.sz,k.same,k.hF,fun _=>⟨_,rfl,h.ext.size,Or.inr h.sz,new_at rfl⟩⟩
theorem dag1 {P:Program} {md:Region.Mode} {ops:Array Oper} {Q:Exit→Act→World→Prop} {S:World→Prop} (m:Nat) (J:Act→Nat→Array Bool→Act→World→Prop) (n:Nat) {l0:Array Bool} {a0:Act} {w0:World} (hS:S w0) (h0:J a0 n l0 a0 w0)
 (hstep:∀n,(∀k,k<n→∀l a w,S w→J a0 k l a w→wpAnyH P md ops Q S (m+k) l a w)→∀l a w,S w→J a0 n l a w→wpAnyH P md ops Q S (m+n) l a w):wpAnyH P md ops Q S (m+n) l0 a0 w0:=dag (J a0) hstep n l0 a0 w0 hS h0
def putB (a0:Act) (vA vB vC vD vF vG:Value):Act:=(((((a0.put (some 57) vA).put (some 61) vB).put (some 63) vC).put (some 64) vD).put (some 13) vF).put (some 15) vG
def putE (a0:Act) (vA vB vC vD vF vG T t0 t1 t2:Value):Act:=(((((putB a0 vA vB vC vD vF vG).put (some 65) T).put (some 55) T).put (some 66) t0).put (some 67) t1).put (some 68) t2
theorem one_of {z V:World} {d:Dd} {g:Nat} {fo:Option Addr} {fc:Nat} (h:V.heap[g]? =some (.cells #[.int .i64 d.k,.int .i64 d.n,.slice fo d.fs.length fc] 66 (0,0))) (hf:Fw.FlowsAt z fo d.fs):DosIn z V (some ⟨g,0,none⟩) [d]:=by
 refine Or.inr ⟨g,0,rfl,blk_lt h,fun k hk=>?_⟩
 have hk1:k<1:=hk
 match k,hk1 with
 | 0,_=>exact⟨fo,fc,box_cell h 0,box_cell h 1,box_cell h 2,hf⟩
def JB (z:World) (tk:List Dd) (d:Dd) (fo:Option Addr) (fc:Nat) (X:Wd) (dame:List Int) (a0:Act) (n:Nat) (l:Array Bool) (a:Act) (V:World):Prop:=
 (∃(A B C D F G:Bool) (vA vB vC vD vF vG:Value),n=5+((!A).toNat+(!B).toNat+(!C).toNat+(!D).toNat+(!F).toNat+(!G).toNat)∧((!B || A) && (!D || (B && C)))=true∧l=#[true,A,true,true,true,B,true,C,D,false,false,false,false,false,F,G,false,false,false]∧a=putB a0 vA vB vC vD vF vG∧BF z tk d fo fc A B C D F G vA vB vC vD vF vG V)∨
 (∃(F G:Bool) (vA vB vC vD vF vG:Value) (s1:Nat) (we:World) (Bx:WA) (bo:Option Addr) (bc:Nat),n=(!F).toNat+(!G).toNat∧l=#[true,true,true,true,true,true,true,true,true,true,true,true,true,true,F,G,false,false,false]∧a=putE a0 vA vB vC vD vF vG (.tuple #[wvl X Bx,.slice bo dame.length bc,.agg #[.int .i64 0,.int .i64 0]]) (wvl X Bx) (.slice bo dame.length bc) (.agg #[.int .i64 0,.int .i64 0])∧BE z s1 we F G vF vG V∧
  Hid (∀U,Ext z U→we.heap.size≤U.heap.size→(∀b,s1≤b→b<we.heap.size→U.heap[b]? =we.heap[b]?)→WoAt U X Bx∧ListAt U bo dame))
theorem JB.start {z V:World} {tk:List Dd} {d:Dd} {fo:Option Addr} {fc:Nat} {X:Wd} {dame:List Int} {a0:Act} {l:Array Bool} (hl:l=#[true,false,true,true,true,false,true,false,false,false,false,false,false,false,false,false,false,false,false]) (ha:a0=putB a0 undef undef undef undef undef undef) (hE:Ext z V):JB z tk d fo fc X dame a0 11 l a0 V:=
 Or.inl ⟨false,false,false,false,false,false,undef,undef,undef,undef,undef,undef,rfl,rfl,hl,ha,hE,(fun h=>by cases h),(fun h=>by cases h),(fun h=>by cases h),(fun h=>by cases h),(fun h=>by cases h),(fun h=>by cases h)⟩
theorem ply_pers {z V we:World} {X:Wd} {Bx:WA} {bo:Option Addr} {dame:List Int} (hz:Ext z V) (E:Ext V we) (h:∀U,we.heap.size≤U.heap.size→Ext z U→(∀b,b<we.heap.size→¬(z.heap.size≤b∧b<V.heap.size)→U.heap[b]? =we.heap[b]?)→WoAt U X Bx∧ListAt U bo dame):
 ∀U,Ext z U→we.heap.size≤U.heap.size→(∀b,V.heap.size≤b→b<we.heap.size→U.heap[b]? =we.heap[b]?)→WoAt U X Bx∧ListAt U bo dame:=fun U hU hs hb=>h U hs hU (fun b h1 h2=>by
 by_cases h3:b<z.heap.size
 ·rw[hU.block b h3,(hz.trans E).block b h3]
 ·exact hb b (by omega) h1)
theorem ext14b {w w6:World} {b:Nat} {x0 x1 x2 x3 x4 x5 x6 x7 x8 x9 x10 x11 x12 x13:Value} (h:Ext w w6) (hb:w.heap.size≤b):Ext w ((((((((((((((w6.setCell ⟨b,0,none⟩ x0).setCell ⟨b,1,none⟩ x1).setCell ⟨b,2,none⟩ x2).setCell ⟨b,3,none⟩ x3).setCell ⟨b,4,none⟩ x4).setCell ⟨b,5,none⟩ x5).setCell ⟨b,6,none⟩ x6).setCell ⟨b,7,none⟩ x7).setCell ⟨b,8,none⟩ x8).setCell ⟨b,9,none⟩ x9).setCell ⟨b,10,none⟩ x10).setCell ⟨b,11,none⟩ x11).setCell ⟨b,12,none⟩ x12).setCell ⟨b,13,none⟩ x13):=by
 iterate 14 refine Ext.setCell ?_ hb _
 exact h
theorem ext2b {w w6:World} {b:Nat} {x0 x1:Value} (h:Ext w w6) (hb:w.heap.size≤b):Ext w ((w6.setCell ⟨b,0,none⟩ x0).setCell ⟨b,1,none⟩ x1):=by
 iterate 2 refine Ext.setCell ?_ hb _
 exact h
theorem blk14b {w6:World} {b j:Nat} {x0 x1 x2 x3 x4 x5 x6 x7 x8 x9 x10 x11 x12 x13:Value} (h:j≠b):(((((((((((((((w6.setCell ⟨b,0,none⟩ x0).setCell ⟨b,1,none⟩ x1).setCell ⟨b,2,none⟩ x2).setCell ⟨b,3,none⟩ x3).setCell ⟨b,4,none⟩ x4).setCell ⟨b,5,none⟩ x5).setCell ⟨b,6,none⟩ x6).setCell ⟨b,7,none⟩ x7).setCell ⟨b,8,none⟩ x8).setCell ⟨b,9,none⟩ x9).setCell ⟨b,10,none⟩ x10).setCell ⟨b,11,none⟩ x11).setCell ⟨b,12,none⟩ x12).setCell ⟨b,13,none⟩ x13)).heap[j]? =w6.heap[j]?:=by
 iterate 14 rw[blk_setCell_other _ _ _ _ h]
theorem blk2b {w6:World} {b j:Nat} {x0 x1:Value} (h:j≠b):((w6.setCell ⟨b,0,none⟩ x0).setCell ⟨b,1,none⟩ x1).heap[j]? =w6.heap[j]?:=by
 iterate 2 rw[blk_setCell_other _ _ _ _ h]
theorem wd_ne_fault {V:World} {gF gG:Nat} {c c':Array Value} (h1:V.heap[gF]? =some (.cells c 40 (0,0))) (h2:V.heap[gG]? =some (.cells c' 44 (0,0))):gG≠gF:=fun e=>by
 subst e
 rw[h1] at h2
 have:=(Obj.cells.inj (Option.some.inj h2)).2.1
 exact absurd this (by decide)
theorem set2b {w:World} {b:Nat} {x y u v:Value} {T:TypeId} (h:w.heap[b]? =some (.cells #[x,y] T (0,0))):((w.setCell ⟨b,0,none⟩ u).setCell ⟨b,1,none⟩ v).heap[b]? =some (.cells #[u,v] T (0,0)):=by
 have h1:(w.setCell ⟨b,0,none⟩ u).heap[b]? =some (.cells #[u,y] T (0,0)):=by simp[World.setCell,Array.getElem?_modify,h]
 generalize w.setCell ⟨b,0,none⟩ u=w1 at h1
 simp[World.setCell,Array.getElem?_modify,h1]
def putC (a0:Act) (vF vG:Value):Act:=(a0.put (some 16) vF).put (some 18) vG
def putG (a0:Act) (vF vG T t0 t1 t2:Value):Act:=(((((putC a0 vF vG).put (some 74) T).put (some 69) T).put (some 75) t0).put (some 76) t1).put (some 77) t2
def JC (z:World) (X:Wd) (dame:List Int) (a0:Act) (n:Nat) (l:Array Bool) (a:Act) (V:World):Prop:=
 (∃(F G:Bool) (vF vG:Value),n=5+((!F).toNat+(!G).toNat)∧l=#[true,true,true,true,false,false,false,false,false,F,G,false,false,false]∧a=putC a0 vF vG∧BF z [] dd0 none 0 false false false false F G undef undef undef undef vF vG V)∨
 (∃(F G:Bool) (vF vG:Value) (s1:Nat) (we:World) (Bx:WA) (bo:Option Addr) (bc:Nat),n=(!F).toNat+(!G).toNat∧l=#[true,true,true,true,true,true,true,true,true,F,G,false,false,false]∧a=putG a0 vF vG (.tuple #[wvl X Bx,.slice bo dame.length bc,.agg #[.int .i64 0,.int .i64 0]]) (wvl X Bx) (.slice bo dame.length bc) (.agg #[.int .i64 0,.int .i64 0])∧BE z s1 we F G vF vG V)
theorem JC.start {z V:World} {X:Wd} {dame:List Int} {a0:Act} {l:Array Bool} {vF vG:Value} (hl:l=#[true,true,true,true,false,false,false,false,false,false,false,false,false,false]) (ha:a0=putC a0 vF vG) (hE:Ext z V):JC z X dame a0 7 l a0 V:=
 Or.inl ⟨false,false,vF,vG,rfl,hl,ha,hE,(fun h=>by cases h),(fun h=>by cases h),(fun h=>by cases h),(fun h=>by cases h),(fun h=>by cases h),(fun h=>by cases h)⟩
theorem set_at {w:World} {b i:Nat} {c:Array Value} {v:Value} {T:TypeId} (h:w.heap[b]? =some (.cells c T (0,0))):(w.setCell ⟨b,i,none⟩ v).heap[b]? =some (.cells (c.setIfInBounds i v) T (0,0)):=by
 simp[World.setCell,Array.getElem?_modify,h]
theorem set14b {w6:World} {b:Nat} {y0 y1 y2 y3 y4 y5 y6 y7 y8 y9 y10 y11 y12 y13 x0 x1 x2 x3 x4 x5 x6 x7 x8 x9 x10 x11 x12 x13:Value} {T:TypeId} (h:w6.heap[b]? =some (.cells #[y0,y1,y2,y3,y4,y5,y6,y7,y8,y9,y10,y11,y12,y13] T (0,0))):(((((((((((((((w6.setCell ⟨b,0,none⟩ x0).setCell ⟨b,1,none⟩ x1).setCell ⟨b,2,none⟩ x2).setCell ⟨b,3,none⟩ x3).setCell ⟨b,4,none⟩ x4).setCell ⟨b,5,none⟩ x5).setCell ⟨b,6,none⟩ x6).setCell ⟨b,7,none⟩ x7).setCell ⟨b,8,none⟩ x8).setCell ⟨b,9,none⟩ x9).setCell ⟨b,10,none⟩ x10).setCell ⟨b,11,none⟩ x11).setCell ⟨b,12,none⟩ x12).setCell ⟨b,13,none⟩ x13)).heap[b]? =some (.cells #[x0,x1,x2,x3,x4,x5,x6,x7,x8,x9,x10,x11,x12,x13] T (0,0)):=by
 have k:=set_at (i:=13) (v:=x13) (set_at (i:=12) (v:=x12) (set_at (i:=11) (v:=x11) (set_at (i:=10) (v:=x10) (set_at (i:=9) (v:=x9) (set_at (i:=8) (v:=x8) (set_at (i:=7) (v:=x7) (set_at (i:=6) (v:=x6) (set_at (i:=5) (v:=x5) (set_at (i:=4) (v:=x4) (set_at (i:=3) (v:=x3) (set_at (i:=2) (v:=x2) (set_at (i:=1) (v:=x1) (set_at (i:=0) (v:=x0) h)))))))))))))
 simp only[List.setIfInBounds_toArray,List.set_cons_zero,List.set_cons_succ] at k
 exact k
end Go.Proofs.Ytolclgbpjiokfaa.Rm
namespace Go.Proofs.Ytolclgbpjiokfaa.Rm
open Go.RowKit Go.Deep Stw Stp Tb Rul Ct
set_option maxRecDepth 100000 in
set_option maxHeartbeats 4000000 in
theorem topBusy_any (N:Int) (ao:Option Addr) (len cap:Nat) (ls:List Lk) (fa ft at_:Int) (w:World) (hlen:ls.length=len) (hl:NetAt w ao ls) (hx:len≤9223372036854775807) (hI:I64 N):
 Calls Try.prog 13 #[.agg #[.int .i64 N,.slice ao len cap],.int .i64 fa,.int .i64 ft,.int .i64 at_] w fun e w'=>e=.returned (.bool true)∧Ext w w':=by
 have hE0:=(Ext.refl w).alloc (.cells #[.int .i64 N,.slice ao len cap] 24)
 go_enter Try.func13,Try.ntmps13
 go_wp2_with fail
 refine(t_alive_any _).mono ?_
 rintro e w1 ⟨rfl,E1⟩
 have n0:w1.cell? ⟨w.heap.size,0,none⟩=some (.int .i64 N):=(E1.cells.1 _ _ (by simp)).trans (by simp)
 have n1:w1.cell? ⟨w.heap.size,1,none⟩=some (.slice ao len cap):=(E1.cells.1 _ _ (by simp)).trans (by simp)
 have hs1:w.heap.size<w1.heap.size:=by have:=E1.size;simp at this;omega
 have E01:=hE0.trans E1
 clear hE0 E1
 go_upto_region 4 with fail
 obtain⟨z,hz⟩:∃z,z=(w1.alloc (.cells #[.int .i64 fa,.int .i64 ft,.slice none 0 0,.slice none 0 0] 55)).alloc (.cells #[.int .i64 1,.int .i64 0,.slice (some ⟨w1.heap.size,0,none⟩) 1 1] 66):=⟨_,rfl⟩
 rw[←hz]
 have Ez:Ext w1 z:=by rw[hz];exact((Ext.refl w1).alloc _).alloc _
 have hzs:z.heap.size=w1.heap.size+1+1:=by rw[hz];simp
 have HFL:Hid (Fw.FlowsAt z (some ⟨w1.heap.size,0,none⟩) [⟨fa,ft,[],[]⟩]):=by rw[hz];exact(flow_in rfl).ext ((Ext.refl _).alloc _)
 have HT:Hid (∀V,Ext z V→V.cell? ⟨w.heap.size,0,none⟩=some (.int .i64 N)∧V.cell? ⟨w.heap.size,1,none⟩=some (.slice ao len cap)):=fun V hV=>⟨((Ez.trans hV).cells.1 _ _ hs1).trans n0,((Ez.trans hV).cells.1 _ _ hs1).trans n1⟩
 have HAK:Hid (∀V,Ext z V→V.cell? ⟨w1.heap.size+1,0,none⟩=some (.int .i64 1)∧V.cell? ⟨w1.heap.size+1,1,none⟩=some (.int .i64 0)∧V.cell? ⟨w1.heap.size+1,2,none⟩=some (.slice (some ⟨w1.heap.size,0,none⟩) 1 1)):=fun V hV=>⟨(hV.cells.1 _ _ (by omega)).trans (by rw[hz];simp),(hV.cells.1 _ _ (by omega)).trans (by rw[hz];simp),(hV.cells.1 _ _ (by omega)).trans (by rw[hz];simp)⟩
 have HFC:Hid (∀V,Ext z V→V.cell? ⟨w1.heap.size,0,none⟩=some (.int .i64 fa)∧V.cell? ⟨w1.heap.size,1,none⟩=some (.int .i64 ft)∧V.cell? ⟨w1.heap.size,2,none⟩=some (.slice none 0 0)∧V.cell? ⟨w1.heap.size,3,none⟩=some (.slice none 0 0)):=fun V hV=>⟨(hV.cells.1 _ _ (by omega)).trans (by rw[hz];simp),(hV.cells.1 _ _ (by omega)).trans (by rw[hz];simp),(hV.cells.1 _ _ (by omega)).trans (by rw[hz];simp),(hV.cells.1 _ _ (by omega)).trans (by rw[hz];simp)⟩
 have HEz:=hidp (E01.trans Ez)
 have HNT:=hidp (hl.ext HEz.out)
 have hlw:w.heap.size<z.heap.size:=by omega
 have hlf:w1.heap.size<z.heap.size:=by omega
 have hla:w1.heap.size+1<z.heap.size:=by omega
 have HFD:Hid (∀V,Ext z V→Calls Try.prog 34 #[.agg #[.int .i64 N,.slice ao len cap],.agg #[.int .i64 fa,.int .i64 ft,.slice none 0 0,.slice none 0 0]] V fun e w'=>FindOut V w' e (fnd N ls ⟨fa,ft,[],[]⟩)):=fun V hV=>Find_any N ao len cap ls ⟨fa,ft,[],[]⟩ none none 0 0 V hlen (HNT.out.ext hV) hx hI (Or.inl rfl) (by simp) (by simp) (Or.inl rfl) (by simp) (by simp)
 have HS1:Hid (∀V,Ext z V→V.cell? ⟨w.heap.size,0,none⟩=some (.int .i64 N)∧V.cell? ⟨w.heap.size,1,none⟩=some (.slice ao len cap)∧V.cell? ⟨w1.heap.size+1,2,none⟩=some (.slice (some ⟨w1.heap.size,0,none⟩) 1 1)∧V.cell? ⟨w1.heap.size,0,none⟩=some (.int .i64 fa)∧V.cell? ⟨w1.heap.size,1,none⟩=some (.int .i64 ft)∧V.cell? ⟨w1.heap.size,2,none⟩=some (.slice none 0 0)∧V.cell? ⟨w1.heap.size,3,none⟩=some (.slice none 0 0)):=fun V hV=>⟨(HT.out V hV).1,(HT.out V hV).2,(HAK.out V hV).2.2,HFC.out V hV⟩
 clear hz hzs n0 n1 hl E01 Ez
 have hdz:Ext z z.drew:=(Ext.refl z).drew
 go_region_held3 (fun V=>V.cell? ⟨w.heap.size,0,none⟩=some (.int .i64 N)∧V.cell? ⟨w.heap.size,1,none⟩=some (.slice ao len cap)∧V.cell? ⟨w1.heap.size+1,2,none⟩=some (.slice (some ⟨w1.heap.size,0,none⟩) 1 1)∧V.cell? ⟨w1.heap.size,0,none⟩=some (.int .i64 fa)∧V.cell? ⟨w1.heap.size,1,none⟩=some (.int .i64 ft)∧V.cell? ⟨w1.heap.size,2,none⟩=some (.slice none 0 0)∧V.cell? ⟨w1.heap.size,3,none⟩=some (.slice none 0 0))
  (first | (with_reducible exact HS1.out _ hdz) | (with_reducible exact HS1.out _ mk1) | fail)
  (first
  | (go_at_call 34
     with_reducible refine(HFD.out _ hdz).mono ?_
     rintro e w2 ⟨go,gc,rfl,hG,hgc,E2⟩
     have mk1:=hdz.trans E2))
 have Ez2:=mk1
 clear mk1 hdz HFD HS1 E2
 by_cases hf:(fnd N ls ⟨fa,ft,[],[]⟩).1=0
 ·have hw:=(fnd_right hf).1
  have hbd:=(right_of hw).bounds
  obtain⟨n,rfl⟩:=Int.eq_ofNat_of_zero_le (show 0≤N by omega)
  rw[hf]
  have HF:=hidp hf
  have HWR:=hidp hw
  have HFL2:=hidp (HFL.out.ext Ez2)
  have HN2:=hidp (HNT.out.ext Ez2)
  have HE2:=hidp (HEz.out.trans Ez2)
  have HS2:Hid (∀V,Ext w2 V→V.cell? ⟨w.heap.size,0,none⟩=some (.int .i64 n)∧V.cell? ⟨w.heap.size,1,none⟩=some (.slice ao len cap)∧V.cell? ⟨w1.heap.size+1,0,none⟩=some (.int .i64 1)∧V.cell? ⟨w1.heap.size+1,1,none⟩=some (.int .i64 0)∧V.cell? ⟨w1.heap.size+1,2,none⟩=some (.slice (some ⟨w1.heap.size,0,none⟩) 1 1)):=fun V hV=>⟨(HT.out V (Ez2.trans hV)).1,(HT.out V (Ez2.trans hV)).2,HAK.out V (Ez2.trans hV)⟩
  have HDRN:Hid (∀v (es:List Dd) V,DO w2 V v es→Ext w2 V→DsSm es→es.length≤1000→Calls Try.prog 30 #[.agg #[.int .i64 n,.slice ao len cap],v] V fun e w'=>∃v',e=.returned v'∧Hid (RS w2 V v.ownBlock w' v' (drn n ls 10 es))):=fun v es V h1 h2 h3 h4=>t_drain_any n ao len cap ls v es w2 V hlen HN2.out hx h1 h2 h3 h4
  have HS1:Hid (DsSm [⟨1,0,[⟨fa,ft,[],[]⟩]⟩]):=fun d hd=>by rw[List.mem_singleton] at hd;rw[hd];exact⟨flow_sm _ _,by simp⟩
  obtain⟨c0,hc0⟩:∃c0,c0=drn n ls 10 [⟨1,0,[⟨fa,ft,[],[]⟩]⟩]:=⟨_,rfl⟩
  have hc0s:=drn_small (N:=n) (ls:=ls) 10 HS1.out (by simp)
  rw[←hc0] at hc0s
  obtain⟨c2,hc2⟩:∃c2,c2=mny n ls ⟨fa,ft,[],[]⟩ 1:=⟨_,rfl⟩
  have HC2:Hid (c2=drn n ls 10 (c0++[⟨6,0,[]⟩])):=by show _=_;rw[hc2,hc0];rfl
  have HCM:=hidp hc2
  have hc50:c2.length≤50:=by rw[hc2];exact(mny_ok HF.out 1 (by omega)).1
  have HR8:=hidp (ask_row (z:=w2) (W:=w2) (fs:=[⟨fa,ft,[],[]⟩]) (fc:=1) rfl (Ext.refl w2) HFL2.out)
  have HD8:=hidp (HDRN.out _ [⟨1,0,[⟨fa,ft,[],[]⟩]⟩] _ HR8.out ((Ext.refl w2).alloc _) HS1.out (by simp))
  rw[←hc0] at HD8
  obtain⟨v0,v1,v2,v3,v4⟩:=HS2.out w2 (Ext.refl w2)
  have hl2:w.heap.size<w2.heap.size:=by have:=Ez2.size;omega
  have hl3:w1.heap.size+1<w2.heap.size:=by have:=Ez2.size;omega
  have hcl0:c0.length≤990:=by
   obtain⟨z1,a1,a2,_⟩:=drn_ok (n:=n) (ls:=ls) HWR.out 10 [⟨1,0,[⟨fa,ft,[],[]⟩]⟩] (by simp) (by have:=rk_le (run n ls [⟨1,0,[⟨fa,ft,[],[]⟩]⟩]).1.co.st;omega)
   rw[hc0,a1,List.length_append]
   have h1:2*n*rk (run n ls [⟨1,0,[⟨fa,ft,[],[]⟩]⟩]).1.co.st≤16*2:=Nat.mul_le_mul (by have:=(right_of HWR.out).bounds;omega) (rk_le _)
   simp
   omega
  have HC0:Hid (DsSm (c0++[⟨6,0,[]⟩])∧(c0++[(⟨6,0,[]⟩:Dd)]).length≤1000∧c0.length+1≤1000000):=⟨hc0s.1.append (DsSm.of_nil (fun d hd=>by simp at hd;rw[hd])),by simp;omega,by omega⟩
  have HC2S:Hid (DsSm c2):=by
   show DsSm c2
   rw[HC2.out]
   exact(drn_small 10 HC0.out.1 HC0.out.2.1).1
  clear hf hw hbd hc0 hc2 hc0s hcl0 hG hgc HFL HNT HEz HT HAK HFC
  go_wp2_with fail
  refine Calls.mono HD8.out ?_
  rintro e w7 ⟨v7,rfl,h7⟩
  have hE7:=h7.out.ext
  obtain⟨lo7,lc7,hv7,_⟩:=h7.out.row.form
  have H7:Hid (RS w2 w7 v7.ownBlock w7 v7 c0):=RS.start h7.out.row hE7
  generalize hg7:v7.ownBlock=g7 at H7
  clear HD8 HR8 v0 v1 v2 v3 v4 hg7
  subst hv7
  go_upto_region 8 with fail
  have hd7:Ext w2 w7.drew:=hE7.drew
  have HR9:Hid (RS w2 w7 g7 ((doW w7.drew 6 0).alloc (.cells #[.int .i64 6,.int .i64 0,.slice none 0 0] 66)) (.slice lo7 c0.length lc7) c0):=H7.out.toExt ((doW_ext (Ext.refl w7).drew).alloc _)
  have HD9:Hid (DosIn w2 ((doW w7.drew 6 0).alloc (.cells #[.int .i64 6,.int .i64 0,.slice none 0 0] 66)) (some ⟨w7.heap.size+1,0,none⟩) [⟨6,0,[]⟩]):=one_in (d:=⟨6,0,[]⟩) (by simp[doW]) (Or.inl rfl)
  have hdw:(doW w7.drew 6 0).heap.size=w7.heap.size+1:=by simp[doW]
  have HST:Hid (∀V,Ext w2 V→V.cell? ⟨w.heap.size,0,none⟩=some (.int .i64 n)∧V.cell? ⟨w.heap.size,1,none⟩=some (.slice ao len cap)):=fun V hV=>⟨(HS2.out V hV).1,(HS2.out V hV).2.1⟩
  clear H7
  go_region_held3 (fun V=>V.cell? ⟨w.heap.size,0,none⟩=some (.int .i64 n)∧V.cell? ⟨w.heap.size,1,none⟩=some (.slice ao len cap))
   (first | (with_reducible exact HST.out _ hd7) | (with_reducible exact HST.out _ (doW_ext hd7)) | (with_reducible exact HST.out _ ((doW_ext hd7).alloc _)) | (with_reducible exact HST.out _ mk9) | (with_reducible exact HST.out _ mk8) | fail)
   (first
   | (go_at_call 30
      with_reducible refine(HDRN.out _ (c0++[⟨6,0,[]⟩]) _ h9.row h9.ext HC0.out.1 HC0.out.2.1).mono ?_
      rw[←HC2.out]
      rintro e w8 ⟨v8,rfl,h8⟩
      have h8':=h9.trans h8.out
      have mk9:=h8'.ext
      obtain⟨lo8,lc8,hv8,hDI8⟩:=h8'.row.form
      subst hv8
      have H8:=hidp hDI8
      clear h8 h8' h9 hDI8)
   | (go_at_call 31
      refine(t_do_any _ _ _).mono ?_
      rintro e _ ⟨rfl,rfl⟩)
   | (refine step_append_rs (z:=w2) (y:=w7) (g:=g7) (ds:=c0) (es:=[⟨6,0,[]⟩]) rfl (.tmp 42) (.tmp 44) rfl rfl rfl HR9.out rfl (by decide) HD9.out HC0.out.2.2 ?_
      intro b9 off9 cp9 w9 h9
      have mk8:=h9.ext))
  have hE8:=mk9
  clear mk9 mk8 hd7 HR9 HD9 hdw HC0 HC2
  obtain⟨hDI8,hn8,hl8,hc8⟩:=H8.out
  have HE8:=hidp (HE2.out.trans hE8)
  by_cases h1:at_<1
  ·go_wp2
   go_ret
   exact⟨rfl,HE8.out⟩
  by_cases h2:(c2.length:Int)<at_
  ·go_wp2
   go_ret
   exact⟨rfl,HE8.out⟩
  obtain⟨k,rfl⟩:=Int.eq_ofNat_of_zero_le (show 0≤at_ by omega)
  obtain⟨tk,htk⟩:∃tk,tk=c2.take k:=⟨_,rfl⟩
  have hkl:k=tk.length:=by rw[htk,List.length_take];omega
  have HTKE:=hidp htk
  have htk50:tk.length≤50:=by omega
  have htk1:1≤tk.length:=by omega
  have hnil:lo8=none→tk.length=0∧lc8=0:=fun e=>by have:=hn8 e;omega
  have k6:((tk.length:Nat):Int)≤(lc8:Int):=by omega
  have HTK:Hid (∀V,Ext w8 V→DosIn w8 V lo8 tk):=fun V hV=>by
   have h:=(hDI8.dos hE8).isIn
   rw[htk]
   exact(h.ext hV).take
  have HF8:=hidp (HFL2.out.ext hE8)
  have HN8:=hidp (HN2.out.ext hE8)
  have hsm:DsSm (tk++[⟨1,0,[⟨fa,ft,[],[]⟩]⟩]):=DsSm.append (fun d hd=>HC2S.out d (by rw[htk] at hd;exact List.mem_of_mem_take hd)) (fun d hd=>by rw[List.mem_singleton] at hd;rw[hd];exact⟨flow_sm _ _,by simp⟩)
  have hbz:=busy (n:=n) (ls:=ls) HF.out (k:=k) (by rw[←HCM.out];omega)
  rw[←HCM.out, ←htk] at hbz
  have hln:(tk++[(⟨1,0,[⟨fa,ft,[],[]⟩]⟩:Dd)]).length=tk.length+1:=by simp
  have hp1:=plyF_of (n:=(n:Int)) (ds:=tk++[⟨1,0,[⟨fa,ft,[],[]⟩]⟩]) HWR.out (by omega)
  have hr1:plyW n ls (tk++[⟨1,0,[⟨fa,ft,[],[]⟩]⟩])=run n ls (tk++[⟨1,0,[⟨fa,ft,[],[]⟩]⟩]):=hp1.2
  have hp2:=plyF_of (n:=(n:Int)) (ds:=tk) HWR.out (by omega)
  have hr2:plyW n ls tk=run n ls tk:=hp2.2
  have hcm:(run n ls (tk++[⟨1,0,[⟨fa,ft,[],[]⟩]⟩])).2.length=tk.length+1:=by rw[run_len];exact hln
  have HPLY:Hid (∀V b off cp,Ext w8 V→DO w8 V (.slice (some ⟨b,off,none⟩) (tk.length+1) cp) (tk++[⟨1,0,[⟨fa,ft,[],[]⟩]⟩])→Calls Try.prog 18 #[.agg #[.int .i64 n,.slice ao len cap],.slice (some ⟨b,off,none⟩) (tk.length+1) cp] V fun e w'=>PlyAll w8 V (run n ls (tk++[⟨1,0,[⟨fa,ft,[],[]⟩]⟩])).1 (run n ls (tk++[⟨1,0,[⟨fa,ft,[],[]⟩]⟩])).2 (0,0) e w'):=fun V b off cp hV hDO=>by
   obtain⟨ao',cp',e,hD,_⟩:=hDO.form
   simp only[Value.slice.injEq] at e
   rw[←e.1] at hD
   have h:=Play_in n ao len cap ls (some ⟨b,off,none⟩) cp (tk++[⟨1,0,[⟨fa,ft,[],[]⟩]⟩]) w8 V hV hlen HN8.out hx hD hsm (by omega)
   rw[hr1,hp1.1,hln] at h
   exact h
  have HPL2:Hid (∀z' V,Ext w8 z'→Ext z' V→Calls Try.prog 18 #[.agg #[.int .i64 n,.slice ao len cap],.slice lo8 tk.length lc8] V fun e w'=>PlyAll z' V (run n ls tk).1 (run n ls tk).2 (0,0) e w'):=fun z' V hz' hV=>by
   have h:=Play_in n ao len cap ls lo8 lc8 tk z' V hV hlen (HN8.out.ext hz') hx ((((HTK.out w8 (Ext.refl w8)).dos (Ext.refl w8)).ext hz').isIn.ext hV) (fun d hd=>HC2S.out d (by rw[htk] at hd;exact List.mem_of_mem_take hd)) (by omega)
   rw[hr2,hp2.1] at h
   exact h
  subst hkl
  generalize run n ls (tk++[⟨1,0,[⟨fa,ft,[],[]⟩]⟩])=q1 at HPLY hcm hbz
  generalize run n ls tk=q2 at HPL2 hbz
  obtain⟨X,dame⟩:=q1
  obtain⟨Y,came⟩:=q2
  simp only at HPLY hcm hbz HPL2
  have HBZ:=hidp (And.intro hbz hcm)
  have HS:Hid (∀V,Ext w8 V→V.cell? ⟨w.heap.size,0,none⟩=some (.int .i64 n)∧V.cell? ⟨w.heap.size,1,none⟩=some (.slice ao len cap)∧V.cell? ⟨w1.heap.size+1,0,none⟩=some (.int .i64 1)∧V.cell? ⟨w1.heap.size+1,1,none⟩=some (.int .i64 0)∧V.cell? ⟨w1.heap.size+1,2,none⟩=some (.slice (some ⟨w1.heap.size,0,none⟩) 1 1)):=fun V hV=>HS2.out V (hE8.trans hV)
  clear hDI8 hn8 hsm hbz hln hp1 hr1 hp2 hr2 hcm htk HS2 HST HDRN HS1 HFL2 HN2 HE2 H8 HC2S HCM HTKE
  go_upto_region 11 with fail
  go_cut [13,14,15] (fun xv dv gv wx=>∃bf bo bc,dv=.slice bo dame.length bc∧gv=.pointer (some ⟨bf,0,none⟩)∧Ext w8 wx∧Hid (ListAt wx bo dame∧wx.cell? ⟨bf,0,none⟩=some (.int .i64 0)∧bf<wx.heap.size))
  case first=>
   have hd:Ext w8 w8.drew:=(Ext.refl w8).drew
   refine wp_region_held_drew (S:=fun V=>V.cell? ⟨w.heap.size,0,none⟩=some (.int .i64 n)∧V.cell? ⟨w.heap.size,1,none⟩=some (.slice ao len cap)∧V.cell? ⟨w1.heap.size+1,0,none⟩=some (.int .i64 1)∧V.cell? ⟨w1.heap.size+1,1,none⟩=some (.int .i64 0)∧V.cell? ⟨w1.heap.size+1,2,none⟩=some (.slice (some ⟨w1.heap.size,0,none⟩) 1 1)) (by kernel_rfl) (HS.out _ hd) (fun hHeld=>?_)
   refine take_op2 (i:=0) (d:=some 56) (v:=?v0) rfl rfl (by kernel_rfl) (by kernel_rfl) (by kernel_rfl) (fun _ _ _ h=>h) (Or.inl ⟨by rfl,?hy0⟩) hHeld ?rest0
   case hy0=>intro W hSW;(try dsimp only at hSW);go_simp;try with_reducible rfl
   simp only[Act.put,List.setIfInBounds_toArray,List.set_cons_zero,List.set_cons_succ]
   refine take_op2 (i:=2) (d:=some 58) (v:=?v2) rfl rfl (by kernel_rfl) (by kernel_rfl) (by kernel_rfl) (fun _ _ _ h=>h) (Or.inl ⟨by rfl,?hy2⟩) hHeld ?rest2
   case hy2=>intro W hSW;(try dsimp only at hSW);go_simp;try with_reducible rfl
   simp only[Act.put,List.setIfInBounds_toArray,List.set_cons_zero,List.set_cons_succ]
   refine take_op2 (i:=3) (d:=some 59) (v:=?v3) rfl rfl (by kernel_rfl) (by kernel_rfl) (by kernel_rfl) (fun _ _ _ h=>h) (Or.inl ⟨by rfl,?hy3⟩) hHeld ?rest3
   case hy3=>intro W hSW;(try dsimp only at hSW);go_simp;try with_reducible rfl
   simp only[Act.put,List.setIfInBounds_toArray,List.set_cons_zero,List.set_cons_succ]
   refine take_op2 (i:=4) (d:=some 60) (v:=?v4) rfl rfl (by kernel_rfl) (by kernel_rfl) (by kernel_rfl) (fun _ _ _ h=>h) (Or.inl ⟨by rfl,?hy4⟩) hHeld ?rest4
   case hy4=>intro W hSW;(try dsimp only at hSW);go_simp;try with_reducible rfl
   simp only[Act.put,List.setIfInBounds_toArray,List.set_cons_zero,List.set_cons_succ]
   refine take_op2 (i:=6) (d:=some 62) (v:=?v6) rfl rfl (by kernel_rfl) (by kernel_rfl) (by kernel_rfl) (fun _ _ _ h=>h) (Or.inl ⟨by rfl,?hy6⟩) hHeld ?rest6
   case hy6=>intro W hSW;(try dsimp only at hSW);go_simp;try with_reducible rfl
   simp only[Act.put,List.setIfInBounds_toArray,List.set_cons_zero,List.set_cons_succ]
   refine dag1 3 (JB w8 tk ⟨1,0,[⟨fa,ft,[],[]⟩]⟩ (some ⟨w1.heap.size,0,none⟩) 1 X dame) 11 hHeld (JB.start rfl rfl hd) ?_
   intro n' ih l a V hSV hJ
   rcases hJ with⟨A,B,C,D,F,G,vA,vB,vC,vD,vF,vG,hn,hval,hl,ha,h⟩ | ⟨F,G,vA,vB,vC,vD,vF,vG,s1,we,Bx,bo,bc,hn,hl,ha,h,HPE⟩
   ·skip
    cases A with
    | false=>
     cases B with
     | false=>
      cases C with
      | false=>
       cases D with
       | false=>
        cases F with
        | false=>
         cases G with
         | false=>
          obtain rfl:n'=11:=hn
          subst hl ha
          simp only[putB,Act.put,List.setIfInBounds_toArray,List.set_cons_zero,List.set_cons_succ]
          refine wpAnyH_ready (rs:=[1,7,14,15]) (by kernel_rfl) (by simp) ?_
          refine AllReadyH.cons rfl (fun K hK=>?_) (AllReadyH.cons rfl (fun K hK=>?_) (AllReadyH.cons rfl (fun K hK=>?_) (AllReadyH.cons rfl (fun K hK=>?_) AllReadyH.nil)))
          ·go_simp
           exact hK.out _ _ (HS.out _ (BF.tA h).ext) (fun hH=>ih 10 (by decide) _ _ _ hH (Or.inl ⟨true,false,false,false,false,false,_,_,_,_,_,_,rfl,rfl,rfl,(by simp only[putB,Act.put,List.setIfInBounds_toArray,List.set_cons_zero,List.set_cons_succ]),(BF.tA h)⟩))
          ·go_simp
           exact hK.out _ _ (HS.out _ (BF.tC h).ext) (fun hH=>ih 10 (by decide) _ _ _ hH (Or.inl ⟨false,false,true,false,false,false,_,_,_,_,_,_,rfl,rfl,rfl,(by simp only[putB,Act.put,List.setIfInBounds_toArray,List.set_cons_zero,List.set_cons_succ]),(BF.tC h)⟩))
          ·go_simp
           exact hK.out _ _ (HS.out _ (BF.tF h).ext) (fun hH=>ih 10 (by decide) _ _ _ hH (Or.inl ⟨false,false,false,false,true,false,_,_,_,_,_,_,rfl,rfl,rfl,(by simp only[putB,Act.put,List.setIfInBounds_toArray,List.set_cons_zero,List.set_cons_succ]),(BF.tF h)⟩))
          ·go_simp
           exact hK.out _ _ (HS.out _ (BF.tG h).ext) (fun hH=>ih 10 (by decide) _ _ _ hH (Or.inl ⟨false,false,false,false,false,true,_,_,_,_,_,_,rfl,rfl,rfl,(by simp only[putB,Act.put,List.setIfInBounds_toArray,List.set_cons_zero,List.set_cons_succ]),(BF.tG h)⟩))
         | true=>
          obtain rfl:n'=10:=hn
          subst hl ha
          simp only[putB,Act.put,List.setIfInBounds_toArray,List.set_cons_zero,List.set_cons_succ]
          refine wpAnyH_ready (rs:=[1,7,14]) (by kernel_rfl) (by simp) ?_
          refine AllReadyH.cons rfl (fun K hK=>?_) (AllReadyH.cons rfl (fun K hK=>?_) (AllReadyH.cons rfl (fun K hK=>?_) AllReadyH.nil))
          ·go_simp
           exact hK.out _ _ (HS.out _ (BF.tA h).ext) (fun hH=>ih 9 (by decide) _ _ _ hH (Or.inl ⟨true,false,false,false,false,true,_,_,_,_,_,_,rfl,rfl,rfl,(by simp only[putB,Act.put,List.setIfInBounds_toArray,List.set_cons_zero,List.set_cons_succ]),(BF.tA h)⟩))
          ·go_simp
           exact hK.out _ _ (HS.out _ (BF.tC h).ext) (fun hH=>ih 9 (by decide) _ _ _ hH (Or.inl ⟨false,false,true,false,false,true,_,_,_,_,_,_,rfl,rfl,rfl,(by simp only[putB,Act.put,List.setIfInBounds_toArray,List.set_cons_zero,List.set_cons_succ]),(BF.tC h)⟩))
          ·go_simp
           exact hK.out _ _ (HS.out _ (BF.tF h).ext) (fun hH=>ih 9 (by decide) _ _ _ hH (Or.inl ⟨false,false,false,false,true,true,_,_,_,_,_,_,rfl,rfl,rfl,(by simp only[putB,Act.put,List.setIfInBounds_toArray,List.set_cons_zero,List.set_cons_succ]),(BF.tF h)⟩))
        | true=>
         cases G with
         | false=>
          obtain rfl:n'=10:=hn
          subst hl ha
          simp only[putB,Act.put,List.setIfInBounds_toArray,List.set_cons_zero,List.set_cons_succ]
          refine wpAnyH_ready (rs:=[1,7,15]) (by kernel_rfl) (by simp) ?_
          refine AllReadyH.cons rfl (fun K hK=>?_) (AllReadyH.cons rfl (fun K hK=>?_) (AllReadyH.cons rfl (fun K hK=>?_) AllReadyH.nil))
          ·go_simp
           exact hK.out _ _ (HS.out _ (BF.tA h).ext) (fun hH=>ih 9 (by decide) _ _ _ hH (Or.inl ⟨true,false,false,false,true,false,_,_,_,_,_,_,rfl,rfl,rfl,(by simp only[putB,Act.put,List.setIfInBounds_toArray,List.set_cons_zero,List.set_cons_succ]),(BF.tA h)⟩))
          ·go_simp
           exact hK.out _ _ (HS.out _ (BF.tC h).ext) (fun hH=>ih 9 (by decide) _ _ _ hH (Or.inl ⟨false,false,true,false,true,false,_,_,_,_,_,_,rfl,rfl,rfl,(by simp only[putB,Act.put,List.setIfInBounds_toArray,List.set_cons_zero,List.set_cons_succ]),(BF.tC h)⟩))
          ·go_simp
           exact hK.out _ _ (HS.out _ (BF.tG h).ext) (fun hH=>ih 9 (by decide) _ _ _ hH (Or.inl ⟨false,false,false,false,true,true,_,_,_,_,_,_,rfl,rfl,rfl,(by simp only[putB,Act.put,List.setIfInBounds_toArray,List.set_cons_zero,List.set_cons_succ]),(BF.tG h)⟩))
         | true=>
          obtain rfl:n'=9:=hn
          subst hl ha
          simp only[putB,Act.put,List.setIfInBounds_toArray,List.set_cons_zero,List.set_cons_succ]
          refine wpAnyH_ready (rs:=[1,7]) (by kernel_rfl) (by simp) ?_
          refine AllReadyH.cons rfl (fun K hK=>?_) (AllReadyH.cons rfl (fun K hK=>?_) AllReadyH.nil)
          ·go_simp
           exact hK.out _ _ (HS.out _ (BF.tA h).ext) (fun hH=>ih 8 (by decide) _ _ _ hH (Or.inl ⟨true,false,false,false,true,true,_,_,_,_,_,_,rfl,rfl,rfl,(by simp only[putB,Act.put,List.setIfInBounds_toArray,List.set_cons_zero,List.set_cons_succ]),(BF.tA h)⟩))
          ·go_simp
           exact hK.out _ _ (HS.out _ (BF.tC h).ext) (fun hH=>ih 8 (by decide) _ _ _ hH (Or.inl ⟨false,false,true,false,true,true,_,_,_,_,_,_,rfl,rfl,rfl,(by simp only[putB,Act.put,List.setIfInBounds_toArray,List.set_cons_zero,List.set_cons_succ]),(BF.tC h)⟩))
       | true=>
        cases F with
        | false=>
         cases G with
         | false=>
          exact absurd hval (by decide)
         | true=>
          exact absurd hval (by decide)
        | true=>
         cases G with
         | false=>
          exact absurd hval (by decide)
         | true=>
          exact absurd hval (by decide)
      | true=>
       cases D with
       | false=>
        cases F with
        | false=>
         cases G with
         | false=>
          obtain rfl:n'=10:=hn
          subst hl ha
          simp only[putB,Act.put,List.setIfInBounds_toArray,List.set_cons_zero,List.set_cons_succ]
          refine wpAnyH_ready (rs:=[1,14,15]) (by kernel_rfl) (by simp) ?_
          refine AllReadyH.cons rfl (fun K hK=>?_) (AllReadyH.cons rfl (fun K hK=>?_) (AllReadyH.cons rfl (fun K hK=>?_) AllReadyH.nil))
          ·go_simp
           exact hK.out _ _ (HS.out _ (BF.tA h).ext) (fun hH=>ih 9 (by decide) _ _ _ hH (Or.inl ⟨true,false,true,false,false,false,_,_,_,_,_,_,rfl,rfl,rfl,(by simp only[putB,Act.put,List.setIfInBounds_toArray,List.set_cons_zero,List.set_cons_succ]),(BF.tA h)⟩))
          ·go_simp
           exact hK.out _ _ (HS.out _ (BF.tF h).ext) (fun hH=>ih 9 (by decide) _ _ _ hH (Or.inl ⟨false,false,true,false,true,false,_,_,_,_,_,_,rfl,rfl,rfl,(by simp only[putB,Act.put,List.setIfInBounds_toArray,List.set_cons_zero,List.set_cons_succ]),(BF.tF h)⟩))
          ·go_simp
           exact hK.out _ _ (HS.out _ (BF.tG h).ext) (fun hH=>ih 9 (by decide) _ _ _ hH (Or.inl ⟨false,false,true,false,false,true,_,_,_,_,_,_,rfl,rfl,rfl,(by simp only[putB,Act.put,List.setIfInBounds_toArray,List.set_cons_zero,List.set_cons_succ]),(BF.tG h)⟩))
         | true=>
          obtain rfl:n'=9:=hn
          subst hl ha
          simp only[putB,Act.put,List.setIfInBounds_toArray,List.set_cons_zero,List.set_cons_succ]
          refine wpAnyH_ready (rs:=[1,14]) (by kernel_rfl) (by simp) ?_
          refine AllReadyH.cons rfl (fun K hK=>?_) (AllReadyH.cons rfl (fun K hK=>?_) AllReadyH.nil)
          ·go_simp
           exact hK.out _ _ (HS.out _ (BF.tA h).ext) (fun hH=>ih 8 (by decide) _ _ _ hH (Or.inl ⟨true,false,true,false,false,true,_,_,_,_,_,_,rfl,rfl,rfl,(by simp only[putB,Act.put,List.setIfInBounds_toArray,List.set_cons_zero,List.set_cons_succ]),(BF.tA h)⟩))
          ·go_simp
           exact hK.out _ _ (HS.out _ (BF.tF h).ext) (fun hH=>ih 8 (by decide) _ _ _ hH (Or.inl ⟨false,false,true,false,true,true,_,_,_,_,_,_,rfl,rfl,rfl,(by simp only[putB,Act.put,List.setIfInBounds_toArray,List.set_cons_zero,List.set_cons_succ]),(BF.tF h)⟩))
        | true=>
         cases G with
         | false=>
          obtain rfl:n'=9:=hn
          subst hl ha
          simp only[putB,Act.put,List.setIfInBounds_toArray,List.set_cons_zero,List.set_cons_succ]
          refine wpAnyH_ready (rs:=[1,15]) (by kernel_rfl) (by simp) ?_
          refine AllReadyH.cons rfl (fun K hK=>?_) (AllReadyH.cons rfl (fun K hK=>?_) AllReadyH.nil)
          ·go_simp
           exact hK.out _ _ (HS.out _ (BF.tA h).ext) (fun hH=>ih 8 (by decide) _ _ _ hH (Or.inl ⟨true,false,true,false,true,false,_,_,_,_,_,_,rfl,rfl,rfl,(by simp only[putB,Act.put,List.setIfInBounds_toArray,List.set_cons_zero,List.set_cons_succ]),(BF.tA h)⟩))
          ·go_simp
           exact hK.out _ _ (HS.out _ (BF.tG h).ext) (fun hH=>ih 8 (by decide) _ _ _ hH (Or.inl ⟨false,false,true,false,true,true,_,_,_,_,_,_,rfl,rfl,rfl,(by simp only[putB,Act.put,List.setIfInBounds_toArray,List.set_cons_zero,List.set_cons_succ]),(BF.tG h)⟩))
         | true=>
          obtain rfl:n'=8:=hn
          subst hl ha
          simp only[putB,Act.put,List.setIfInBounds_toArray,List.set_cons_zero,List.set_cons_succ]
          refine wpAnyH_ready (rs:=[1]) (by kernel_rfl) (by simp) ?_
          refine AllReadyH.cons rfl (fun K hK=>?_) AllReadyH.nil
          ·go_simp
           exact hK.out _ _ (HS.out _ (BF.tA h).ext) (fun hH=>ih 7 (by decide) _ _ _ hH (Or.inl ⟨true,false,true,false,true,true,_,_,_,_,_,_,rfl,rfl,rfl,(by simp only[putB,Act.put,List.setIfInBounds_toArray,List.set_cons_zero,List.set_cons_succ]),(BF.tA h)⟩))
       | true=>
        cases F with
        | false=>
         cases G with
         | false=>
          exact absurd hval (by decide)
         | true=>
          exact absurd hval (by decide)
        | true=>
         cases G with
         | false=>
          exact absurd hval (by decide)
         | true=>
          exact absurd hval (by decide)
     | true=>
      cases C with
      | false=>
       cases D with
       | false=>
        cases F with
        | false=>
         cases G with
         | false=>
          exact absurd hval (by decide)
         | true=>
          exact absurd hval (by decide)
        | true=>
         cases G with
         | false=>
          exact absurd hval (by decide)
         | true=>
          exact absurd hval (by decide)
       | true=>
        cases F with
        | false=>
         cases G with
         | false=>
          exact absurd hval (by decide)
         | true=>
          exact absurd hval (by decide)
        | true=>
         cases G with
         | false=>
          exact absurd hval (by decide)
         | true=>
          exact absurd hval (by decide)
      | true=>
       cases D with
       | false=>
        cases F with
        | false=>
         cases G with
         | false=>
          exact absurd hval (by decide)
         | true=>
          exact absurd hval (by decide)
        | true=>
         cases G with
         | false=>
          exact absurd hval (by decide)
         | true=>
          exact absurd hval (by decide)
       | true=>
        cases F with
        | false=>
         cases G with
         | false=>
          exact absurd hval (by decide)
         | true=>
          exact absurd hval (by decide)
        | true=>
         cases G with
         | false=>
          exact absurd hval (by decide)
         | true=>
          exact absurd hval (by decide)
    | true=>
     cases B with
     | false=>
      cases C with
      | false=>
       cases D with
       | false=>
        cases F with
        | false=>
         cases G with
         | false=>
          obtain rfl:n'=10:=hn
          subst hl ha
          obtain⟨gA,rfl,hzA,hgA⟩:=h.hA rfl rfl
          simp only[putB,Act.put,List.setIfInBounds_toArray,List.set_cons_zero,List.set_cons_succ]
          refine wpAnyH_ready (rs:=[5,7,14,15]) (by kernel_rfl) (by simp) ?_
          refine AllReadyH.cons rfl (fun K hK=>?_) (AllReadyH.cons rfl (fun K hK=>?_) (AllReadyH.cons rfl (fun K hK=>?_) (AllReadyH.cons rfl (fun K hK=>?_) AllReadyH.nil)))
          ·refine step_copy_dos (z:=w8) (es:=tk) (g:=gA) rfl (.tmp 57) (.tmp 60) rfl rfl rfl hgA hzA rfl (HTK.out V h.ext) hnil (by omega) ?_
           intro ao2 cap2 W2 hDO hgr hown
           change K (Act.put _ (some 61) _) _
           exact hK.out _ _ (HS.out _ (BF.tB h hgr hDO).ext) (fun hH=>ih 9 (by decide) _ _ _ hH (Or.inl ⟨true,true,false,false,false,false,_,_,_,_,_,_,rfl,rfl,rfl,(by simp only[putB,Act.put,List.setIfInBounds_toArray,List.set_cons_zero,List.set_cons_succ]),(BF.tB h hgr hDO)⟩))
          ·go_simp
           exact hK.out _ _ (HS.out _ (BF.tC h).ext) (fun hH=>ih 9 (by decide) _ _ _ hH (Or.inl ⟨true,false,true,false,false,false,_,_,_,_,_,_,rfl,rfl,rfl,(by simp only[putB,Act.put,List.setIfInBounds_toArray,List.set_cons_zero,List.set_cons_succ]),(BF.tC h)⟩))
          ·go_simp
           exact hK.out _ _ (HS.out _ (BF.tF h).ext) (fun hH=>ih 9 (by decide) _ _ _ hH (Or.inl ⟨true,false,false,false,true,false,_,_,_,_,_,_,rfl,rfl,rfl,(by simp only[putB,Act.put,List.setIfInBounds_toArray,List.set_cons_zero,List.set_cons_succ]),(BF.tF h)⟩))
          ·go_simp
           exact hK.out _ _ (HS.out _ (BF.tG h).ext) (fun hH=>ih 9 (by decide) _ _ _ hH (Or.inl ⟨true,false,false,false,false,true,_,_,_,_,_,_,rfl,rfl,rfl,(by simp only[putB,Act.put,List.setIfInBounds_toArray,List.set_cons_zero,List.set_cons_succ]),(BF.tG h)⟩))
         | true=>
          obtain rfl:n'=9:=hn
          subst hl ha
          obtain⟨gA,rfl,hzA,hgA⟩:=h.hA rfl rfl
          simp only[putB,Act.put,List.setIfInBounds_toArray,List.set_cons_zero,List.set_cons_succ]
          refine wpAnyH_ready (rs:=[5,7,14]) (by kernel_rfl) (by simp) ?_
          refine AllReadyH.cons rfl (fun K hK=>?_) (AllReadyH.cons rfl (fun K hK=>?_) (AllReadyH.cons rfl (fun K hK=>?_) AllReadyH.nil))
          ·refine step_copy_dos (z:=w8) (es:=tk) (g:=gA) rfl (.tmp 57) (.tmp 60) rfl rfl rfl hgA hzA rfl (HTK.out V h.ext) hnil (by omega) ?_
           intro ao2 cap2 W2 hDO hgr hown
           change K (Act.put _ (some 61) _) _
           exact hK.out _ _ (HS.out _ (BF.tB h hgr hDO).ext) (fun hH=>ih 8 (by decide) _ _ _ hH (Or.inl ⟨true,true,false,false,false,true,_,_,_,_,_,_,rfl,rfl,rfl,(by simp only[putB,Act.put,List.setIfInBounds_toArray,List.set_cons_zero,List.set_cons_succ]),(BF.tB h hgr hDO)⟩))
          ·go_simp
           exact hK.out _ _ (HS.out _ (BF.tC h).ext) (fun hH=>ih 8 (by decide) _ _ _ hH (Or.inl ⟨true,false,true,false,false,true,_,_,_,_,_,_,rfl,rfl,rfl,(by simp only[putB,Act.put,List.setIfInBounds_toArray,List.set_cons_zero,List.set_cons_succ]),(BF.tC h)⟩))
          ·go_simp
           exact hK.out _ _ (HS.out _ (BF.tF h).ext) (fun hH=>ih 8 (by decide) _ _ _ hH (Or.inl ⟨true,false,false,false,true,true,_,_,_,_,_,_,rfl,rfl,rfl,(by simp only[putB,Act.put,List.setIfInBounds_toArray,List.set_cons_zero,List.set_cons_succ]),(BF.tF h)⟩))
        | true=>
         cases G with
         | false=>
          obtain rfl:n'=9:=hn
          subst hl ha
          obtain⟨gA,rfl,hzA,hgA⟩:=h.hA rfl rfl
          simp only[putB,Act.put,List.setIfInBounds_toArray,List.set_cons_zero,List.set_cons_succ]
          refine wpAnyH_ready (rs:=[5,7,15]) (by kernel_rfl) (by simp) ?_
          refine AllReadyH.cons rfl (fun K hK=>?_) (AllReadyH.cons rfl (fun K hK=>?_) (AllReadyH.cons rfl (fun K hK=>?_) AllReadyH.nil))
          ·refine step_copy_dos (z:=w8) (es:=tk) (g:=gA) rfl (.tmp 57) (.tmp 60) rfl rfl rfl hgA hzA rfl (HTK.out V h.ext) hnil (by omega) ?_
           intro ao2 cap2 W2 hDO hgr hown
           change K (Act.put _ (some 61) _) _
           exact hK.out _ _ (HS.out _ (BF.tB h hgr hDO).ext) (fun hH=>ih 8 (by decide) _ _ _ hH (Or.inl ⟨true,true,false,false,true,false,_,_,_,_,_,_,rfl,rfl,rfl,(by simp only[putB,Act.put,List.setIfInBounds_toArray,List.set_cons_zero,List.set_cons_succ]),(BF.tB h hgr hDO)⟩))
          ·go_simp
           exact hK.out _ _ (HS.out _ (BF.tC h).ext) (fun hH=>ih 8 (by decide) _ _ _ hH (Or.inl ⟨true,false,true,false,true,false,_,_,_,_,_,_,rfl,rfl,rfl,(by simp only[putB,Act.put,List.setIfInBounds_toArray,List.set_cons_zero,List.set_cons_succ]),(BF.tC h)⟩))
          ·go_simp
           exact hK.out _ _ (HS.out _ (BF.tG h).ext) (fun hH=>ih 8 (by decide) _ _ _ hH (Or.inl ⟨true,false,false,false,true,true,_,_,_,_,_,_,rfl,rfl,rfl,(by simp only[putB,Act.put,List.setIfInBounds_toArray,List.set_cons_zero,List.set_cons_succ]),(BF.tG h)⟩))
         | true=>
          obtain rfl:n'=8:=hn
          subst hl ha
          obtain⟨gA,rfl,hzA,hgA⟩:=h.hA rfl rfl
          simp only[putB,Act.put,List.setIfInBounds_toArray,List.set_cons_zero,List.set_cons_succ]
          refine wpAnyH_ready (rs:=[5,7]) (by kernel_rfl) (by simp) ?_
          refine AllReadyH.cons rfl (fun K hK=>?_) (AllReadyH.cons rfl (fun K hK=>?_) AllReadyH.nil)
          ·refine step_copy_dos (z:=w8) (es:=tk) (g:=gA) rfl (.tmp 57) (.tmp 60) rfl rfl rfl hgA hzA rfl (HTK.out V h.ext) hnil (by omega) ?_
           intro ao2 cap2 W2 hDO hgr hown
           change K (Act.put _ (some 61) _) _
           exact hK.out _ _ (HS.out _ (BF.tB h hgr hDO).ext) (fun hH=>ih 7 (by decide) _ _ _ hH (Or.inl ⟨true,true,false,false,true,true,_,_,_,_,_,_,rfl,rfl,rfl,(by simp only[putB,Act.put,List.setIfInBounds_toArray,List.set_cons_zero,List.set_cons_succ]),(BF.tB h hgr hDO)⟩))
          ·go_simp
           exact hK.out _ _ (HS.out _ (BF.tC h).ext) (fun hH=>ih 7 (by decide) _ _ _ hH (Or.inl ⟨true,false,true,false,true,true,_,_,_,_,_,_,rfl,rfl,rfl,(by simp only[putB,Act.put,List.setIfInBounds_toArray,List.set_cons_zero,List.set_cons_succ]),(BF.tC h)⟩))
       | true=>
        cases F with
        | false=>
         cases G with
         | false=>
          exact absurd hval (by decide)
         | true=>
          exact absurd hval (by decide)
        | true=>
         cases G with
         | false=>
          exact absurd hval (by decide)
         | true=>
          exact absurd hval (by decide)
      | true=>
       cases D with
       | false=>
        cases F with
        | false=>
         cases G with
         | false=>
          obtain rfl:n'=9:=hn
          subst hl ha
          obtain⟨gA,rfl,hzA,hgA⟩:=h.hA rfl rfl
          simp only[putB,Act.put,List.setIfInBounds_toArray,List.set_cons_zero,List.set_cons_succ]
          refine wpAnyH_ready (rs:=[5,14,15]) (by kernel_rfl) (by simp) ?_
          refine AllReadyH.cons rfl (fun K hK=>?_) (AllReadyH.cons rfl (fun K hK=>?_) (AllReadyH.cons rfl (fun K hK=>?_) AllReadyH.nil))
          ·refine step_copy_dos (z:=w8) (es:=tk) (g:=gA) rfl (.tmp 57) (.tmp 60) rfl rfl rfl hgA hzA rfl (HTK.out V h.ext) hnil (by omega) ?_
           intro ao2 cap2 W2 hDO hgr hown
           change K (Act.put _ (some 61) _) _
           exact hK.out _ _ (HS.out _ (BF.tB h hgr hDO).ext) (fun hH=>ih 8 (by decide) _ _ _ hH (Or.inl ⟨true,true,true,false,false,false,_,_,_,_,_,_,rfl,rfl,rfl,(by simp only[putB,Act.put,List.setIfInBounds_toArray,List.set_cons_zero,List.set_cons_succ]),(BF.tB h hgr hDO)⟩))
          ·go_simp
           exact hK.out _ _ (HS.out _ (BF.tF h).ext) (fun hH=>ih 8 (by decide) _ _ _ hH (Or.inl ⟨true,false,true,false,true,false,_,_,_,_,_,_,rfl,rfl,rfl,(by simp only[putB,Act.put,List.setIfInBounds_toArray,List.set_cons_zero,List.set_cons_succ]),(BF.tF h)⟩))
          ·go_simp
           exact hK.out _ _ (HS.out _ (BF.tG h).ext) (fun hH=>ih 8 (by decide) _ _ _ hH (Or.inl ⟨true,false,true,false,false,true,_,_,_,_,_,_,rfl,rfl,rfl,(by simp only[putB,Act.put,List.setIfInBounds_toArray,List.set_cons_zero,List.set_cons_succ]),(BF.tG h)⟩))
         | true=>
          obtain rfl:n'=8:=hn
          subst hl ha
          obtain⟨gA,rfl,hzA,hgA⟩:=h.hA rfl rfl
          simp only[putB,Act.put,List.setIfInBounds_toArray,List.set_cons_zero,List.set_cons_succ]
          refine wpAnyH_ready (rs:=[5,14]) (by kernel_rfl) (by simp) ?_
          refine AllReadyH.cons rfl (fun K hK=>?_) (AllReadyH.cons rfl (fun K hK=>?_) AllReadyH.nil)
          ·refine step_copy_dos (z:=w8) (es:=tk) (g:=gA) rfl (.tmp 57) (.tmp 60) rfl rfl rfl hgA hzA rfl (HTK.out V h.ext) hnil (by omega) ?_
           intro ao2 cap2 W2 hDO hgr hown
           change K (Act.put _ (some 61) _) _
           exact hK.out _ _ (HS.out _ (BF.tB h hgr hDO).ext) (fun hH=>ih 7 (by decide) _ _ _ hH (Or.inl ⟨true,true,true,false,false,true,_,_,_,_,_,_,rfl,rfl,rfl,(by simp only[putB,Act.put,List.setIfInBounds_toArray,List.set_cons_zero,List.set_cons_succ]),(BF.tB h hgr hDO)⟩))
          ·go_simp
           exact hK.out _ _ (HS.out _ (BF.tF h).ext) (fun hH=>ih 7 (by decide) _ _ _ hH (Or.inl ⟨true,false,true,false,true,true,_,_,_,_,_,_,rfl,rfl,rfl,(by simp only[putB,Act.put,List.setIfInBounds_toArray,List.set_cons_zero,List.set_cons_succ]),(BF.tF h)⟩))
        | true=>
         cases G with
         | false=>
          obtain rfl:n'=8:=hn
          subst hl ha
          obtain⟨gA,rfl,hzA,hgA⟩:=h.hA rfl rfl
          simp only[putB,Act.put,List.setIfInBounds_toArray,List.set_cons_zero,List.set_cons_succ]
          refine wpAnyH_ready (rs:=[5,15]) (by kernel_rfl) (by simp) ?_
          refine AllReadyH.cons rfl (fun K hK=>?_) (AllReadyH.cons rfl (fun K hK=>?_) AllReadyH.nil)
          ·refine step_copy_dos (z:=w8) (es:=tk) (g:=gA) rfl (.tmp 57) (.tmp 60) rfl rfl rfl hgA hzA rfl (HTK.out V h.ext) hnil (by omega) ?_
           intro ao2 cap2 W2 hDO hgr hown
           change K (Act.put _ (some 61) _) _
           exact hK.out _ _ (HS.out _ (BF.tB h hgr hDO).ext) (fun hH=>ih 7 (by decide) _ _ _ hH (Or.inl ⟨true,true,true,false,true,false,_,_,_,_,_,_,rfl,rfl,rfl,(by simp only[putB,Act.put,List.setIfInBounds_toArray,List.set_cons_zero,List.set_cons_succ]),(BF.tB h hgr hDO)⟩))
          ·go_simp
           exact hK.out _ _ (HS.out _ (BF.tG h).ext) (fun hH=>ih 7 (by decide) _ _ _ hH (Or.inl ⟨true,false,true,false,true,true,_,_,_,_,_,_,rfl,rfl,rfl,(by simp only[putB,Act.put,List.setIfInBounds_toArray,List.set_cons_zero,List.set_cons_succ]),(BF.tG h)⟩))
         | true=>
          obtain rfl:n'=7:=hn
          subst hl ha
          obtain⟨gA,rfl,hzA,hgA⟩:=h.hA rfl rfl
          simp only[putB,Act.put,List.setIfInBounds_toArray,List.set_cons_zero,List.set_cons_succ]
          refine wpAnyH_ready (rs:=[5]) (by kernel_rfl) (by simp) ?_
          refine AllReadyH.cons rfl (fun K hK=>?_) AllReadyH.nil
          ·refine step_copy_dos (z:=w8) (es:=tk) (g:=gA) rfl (.tmp 57) (.tmp 60) rfl rfl rfl hgA hzA rfl (HTK.out V h.ext) hnil (by omega) ?_
           intro ao2 cap2 W2 hDO hgr hown
           change K (Act.put _ (some 61) _) _
           exact hK.out _ _ (HS.out _ (BF.tB h hgr hDO).ext) (fun hH=>ih 6 (by decide) _ _ _ hH (Or.inl ⟨true,true,true,false,true,true,_,_,_,_,_,_,rfl,rfl,rfl,(by simp only[putB,Act.put,List.setIfInBounds_toArray,List.set_cons_zero,List.set_cons_succ]),(BF.tB h hgr hDO)⟩))
       | true=>
        cases F with
        | false=>
         cases G with
         | false=>
          exact absurd hval (by decide)
         | true=>
          exact absurd hval (by decide)
        | true=>
         cases G with
         | false=>
          exact absurd hval (by decide)
         | true=>
          exact absurd hval (by decide)
     | true=>
      cases C with
      | false=>
       cases D with
       | false=>
        cases F with
        | false=>
         cases G with
         | false=>
          obtain rfl:n'=9:=hn
          subst hl ha
          simp only[putB,Act.put,List.setIfInBounds_toArray,List.set_cons_zero,List.set_cons_succ]
          refine wpAnyH_ready (rs:=[7,14,15]) (by kernel_rfl) (by simp) ?_
          refine AllReadyH.cons rfl (fun K hK=>?_) (AllReadyH.cons rfl (fun K hK=>?_) (AllReadyH.cons rfl (fun K hK=>?_) AllReadyH.nil))
          ·go_simp
           exact hK.out _ _ (HS.out _ (BF.tC h).ext) (fun hH=>ih 8 (by decide) _ _ _ hH (Or.inl ⟨true,true,true,false,false,false,_,_,_,_,_,_,rfl,rfl,rfl,(by simp only[putB,Act.put,List.setIfInBounds_toArray,List.set_cons_zero,List.set_cons_succ]),(BF.tC h)⟩))
          ·go_simp
           exact hK.out _ _ (HS.out _ (BF.tF h).ext) (fun hH=>ih 8 (by decide) _ _ _ hH (Or.inl ⟨true,true,false,false,true,false,_,_,_,_,_,_,rfl,rfl,rfl,(by simp only[putB,Act.put,List.setIfInBounds_toArray,List.set_cons_zero,List.set_cons_succ]),(BF.tF h)⟩))
          ·go_simp
           exact hK.out _ _ (HS.out _ (BF.tG h).ext) (fun hH=>ih 8 (by decide) _ _ _ hH (Or.inl ⟨true,true,false,false,false,true,_,_,_,_,_,_,rfl,rfl,rfl,(by simp only[putB,Act.put,List.setIfInBounds_toArray,List.set_cons_zero,List.set_cons_succ]),(BF.tG h)⟩))
         | true=>
          obtain rfl:n'=8:=hn
          subst hl ha
          simp only[putB,Act.put,List.setIfInBounds_toArray,List.set_cons_zero,List.set_cons_succ]
          refine wpAnyH_ready (rs:=[7,14]) (by kernel_rfl) (by simp) ?_
          refine AllReadyH.cons rfl (fun K hK=>?_) (AllReadyH.cons rfl (fun K hK=>?_) AllReadyH.nil)
          ·go_simp
           exact hK.out _ _ (HS.out _ (BF.tC h).ext) (fun hH=>ih 7 (by decide) _ _ _ hH (Or.inl ⟨true,true,true,false,false,true,_,_,_,_,_,_,rfl,rfl,rfl,(by simp only[putB,Act.put,List.setIfInBounds_toArray,List.set_cons_zero,List.set_cons_succ]),(BF.tC h)⟩))
          ·go_simp
           exact hK.out _ _ (HS.out _ (BF.tF h).ext) (fun hH=>ih 7 (by decide) _ _ _ hH (Or.inl ⟨true,true,false,false,true,true,_,_,_,_,_,_,rfl,rfl,rfl,(by simp only[putB,Act.put,List.setIfInBounds_toArray,List.set_cons_zero,List.set_cons_succ]),(BF.tF h)⟩))
        | true=>
         cases G with
         | false=>
          obtain rfl:n'=8:=hn
          subst hl ha
          simp only[putB,Act.put,List.setIfInBounds_toArray,List.set_cons_zero,List.set_cons_succ]
          refine wpAnyH_ready (rs:=[7,15]) (by kernel_rfl) (by simp) ?_
          refine AllReadyH.cons rfl (fun K hK=>?_) (AllReadyH.cons rfl (fun K hK=>?_) AllReadyH.nil)
          ·go_simp
           exact hK.out _ _ (HS.out _ (BF.tC h).ext) (fun hH=>ih 7 (by decide) _ _ _ hH (Or.inl ⟨true,true,true,false,true,false,_,_,_,_,_,_,rfl,rfl,rfl,(by simp only[putB,Act.put,List.setIfInBounds_toArray,List.set_cons_zero,List.set_cons_succ]),(BF.tC h)⟩))
          ·go_simp
           exact hK.out _ _ (HS.out _ (BF.tG h).ext) (fun hH=>ih 7 (by decide) _ _ _ hH (Or.inl ⟨true,true,false,false,true,true,_,_,_,_,_,_,rfl,rfl,rfl,(by simp only[putB,Act.put,List.setIfInBounds_toArray,List.set_cons_zero,List.set_cons_succ]),(BF.tG h)⟩))
         | true=>
          obtain rfl:n'=7:=hn
          subst hl ha
          simp only[putB,Act.put,List.setIfInBounds_toArray,List.set_cons_zero,List.set_cons_succ]
          refine wpAnyH_ready (rs:=[7]) (by kernel_rfl) (by simp) ?_
          refine AllReadyH.cons rfl (fun K hK=>?_) AllReadyH.nil
          ·go_simp
           exact hK.out _ _ (HS.out _ (BF.tC h).ext) (fun hH=>ih 6 (by decide) _ _ _ hH (Or.inl ⟨true,true,true,false,true,true,_,_,_,_,_,_,rfl,rfl,rfl,(by simp only[putB,Act.put,List.setIfInBounds_toArray,List.set_cons_zero,List.set_cons_succ]),(BF.tC h)⟩))
       | true=>
        cases F with
        | false=>
         cases G with
         | false=>
          exact absurd hval (by decide)
         | true=>
          exact absurd hval (by decide)
        | true=>
         cases G with
         | false=>
          exact absurd hval (by decide)
         | true=>
          exact absurd hval (by decide)
      | true=>
       cases D with
       | false=>
        cases F with
        | false=>
         cases G with
         | false=>
          obtain rfl:n'=8:=hn
          subst hl ha
          obtain⟨hB0,aoB,capB,rfl⟩:=h.hB rfl rfl
          obtain⟨gC,rfl,hzC,hgC⟩:=h.hC rfl rfl
          simp only[putB,Act.put,List.setIfInBounds_toArray,List.set_cons_zero,List.set_cons_succ]
          refine wpAnyH_ready (rs:=[8,14,15]) (by kernel_rfl) (by simp) ?_
          refine AllReadyH.cons rfl (fun K hK=>?_) (AllReadyH.cons rfl (fun K hK=>?_) (AllReadyH.cons rfl (fun K hK=>?_) AllReadyH.nil))
          ·refine step_append_rs (z:=w8) (y:=V) (ds:=tk) (es:=[⟨1,0,[⟨fa,ft,[],[]⟩]⟩]) rfl (.tmp 61) (.tmp 63) rfl rfl rfl (RS.start hB0 h.ext) rfl (by decide) (one_of (d:=⟨1,0,[⟨fa,ft,[],[]⟩]⟩) hgC HF8.out) (by omega) ?_
           intro b9 off9 cp9 W9 h9
           change K (Act.put _ (some 64) _) _
           exact hK.out _ _ (HS.out _ (BF.tD h h9.gr h9.ext h9.row).ext) (fun hH=>ih 7 (by decide) _ _ _ hH (Or.inl ⟨true,true,true,true,false,false,_,_,_,_,_,_,rfl,rfl,rfl,(by simp only[putB,Act.put,List.setIfInBounds_toArray,List.set_cons_zero,List.set_cons_succ]),(BF.tD h h9.gr h9.ext h9.row)⟩))
          ·go_simp
           exact hK.out _ _ (HS.out _ (BF.tF h).ext) (fun hH=>ih 7 (by decide) _ _ _ hH (Or.inl ⟨true,true,true,false,true,false,_,_,_,_,_,_,rfl,rfl,rfl,(by simp only[putB,Act.put,List.setIfInBounds_toArray,List.set_cons_zero,List.set_cons_succ]),(BF.tF h)⟩))
          ·go_simp
           exact hK.out _ _ (HS.out _ (BF.tG h).ext) (fun hH=>ih 7 (by decide) _ _ _ hH (Or.inl ⟨true,true,true,false,false,true,_,_,_,_,_,_,rfl,rfl,rfl,(by simp only[putB,Act.put,List.setIfInBounds_toArray,List.set_cons_zero,List.set_cons_succ]),(BF.tG h)⟩))
         | true=>
          obtain rfl:n'=7:=hn
          subst hl ha
          obtain⟨hB0,aoB,capB,rfl⟩:=h.hB rfl rfl
          obtain⟨gC,rfl,hzC,hgC⟩:=h.hC rfl rfl
          simp only[putB,Act.put,List.setIfInBounds_toArray,List.set_cons_zero,List.set_cons_succ]
          refine wpAnyH_ready (rs:=[8,14]) (by kernel_rfl) (by simp) ?_
          refine AllReadyH.cons rfl (fun K hK=>?_) (AllReadyH.cons rfl (fun K hK=>?_) AllReadyH.nil)
          ·refine step_append_rs (z:=w8) (y:=V) (ds:=tk) (es:=[⟨1,0,[⟨fa,ft,[],[]⟩]⟩]) rfl (.tmp 61) (.tmp 63) rfl rfl rfl (RS.start hB0 h.ext) rfl (by decide) (one_of (d:=⟨1,0,[⟨fa,ft,[],[]⟩]⟩) hgC HF8.out) (by omega) ?_
           intro b9 off9 cp9 W9 h9
           change K (Act.put _ (some 64) _) _
           exact hK.out _ _ (HS.out _ (BF.tD h h9.gr h9.ext h9.row).ext) (fun hH=>ih 6 (by decide) _ _ _ hH (Or.inl ⟨true,true,true,true,false,true,_,_,_,_,_,_,rfl,rfl,rfl,(by simp only[putB,Act.put,List.setIfInBounds_toArray,List.set_cons_zero,List.set_cons_succ]),(BF.tD h h9.gr h9.ext h9.row)⟩))
          ·go_simp
           exact hK.out _ _ (HS.out _ (BF.tF h).ext) (fun hH=>ih 6 (by decide) _ _ _ hH (Or.inl ⟨true,true,true,false,true,true,_,_,_,_,_,_,rfl,rfl,rfl,(by simp only[putB,Act.put,List.setIfInBounds_toArray,List.set_cons_zero,List.set_cons_succ]),(BF.tF h)⟩))
        | true=>
         cases G with
         | false=>
          obtain rfl:n'=7:=hn
          subst hl ha
          obtain⟨hB0,aoB,capB,rfl⟩:=h.hB rfl rfl
          obtain⟨gC,rfl,hzC,hgC⟩:=h.hC rfl rfl
          simp only[putB,Act.put,List.setIfInBounds_toArray,List.set_cons_zero,List.set_cons_succ]
          refine wpAnyH_ready (rs:=[8,15]) (by kernel_rfl) (by simp) ?_
          refine AllReadyH.cons rfl (fun K hK=>?_) (AllReadyH.cons rfl (fun K hK=>?_) AllReadyH.nil)
          ·refine step_append_rs (z:=w8) (y:=V) (ds:=tk) (es:=[⟨1,0,[⟨fa,ft,[],[]⟩]⟩]) rfl (.tmp 61) (.tmp 63) rfl rfl rfl (RS.start hB0 h.ext) rfl (by decide) (one_of (d:=⟨1,0,[⟨fa,ft,[],[]⟩]⟩) hgC HF8.out) (by omega) ?_
           intro b9 off9 cp9 W9 h9
           change K (Act.put _ (some 64) _) _
           exact hK.out _ _ (HS.out _ (BF.tD h h9.gr h9.ext h9.row).ext) (fun hH=>ih 6 (by decide) _ _ _ hH (Or.inl ⟨true,true,true,true,true,false,_,_,_,_,_,_,rfl,rfl,rfl,(by simp only[putB,Act.put,List.setIfInBounds_toArray,List.set_cons_zero,List.set_cons_succ]),(BF.tD h h9.gr h9.ext h9.row)⟩))
          ·go_simp
           exact hK.out _ _ (HS.out _ (BF.tG h).ext) (fun hH=>ih 6 (by decide) _ _ _ hH (Or.inl ⟨true,true,true,false,true,true,_,_,_,_,_,_,rfl,rfl,rfl,(by simp only[putB,Act.put,List.setIfInBounds_toArray,List.set_cons_zero,List.set_cons_succ]),(BF.tG h)⟩))
         | true=>
          obtain rfl:n'=6:=hn
          subst hl ha
          obtain⟨hB0,aoB,capB,rfl⟩:=h.hB rfl rfl
          obtain⟨gC,rfl,hzC,hgC⟩:=h.hC rfl rfl
          simp only[putB,Act.put,List.setIfInBounds_toArray,List.set_cons_zero,List.set_cons_succ]
          refine wpAnyH_ready (rs:=[8]) (by kernel_rfl) (by simp) ?_
          refine AllReadyH.cons rfl (fun K hK=>?_) AllReadyH.nil
          ·refine step_append_rs (z:=w8) (y:=V) (ds:=tk) (es:=[⟨1,0,[⟨fa,ft,[],[]⟩]⟩]) rfl (.tmp 61) (.tmp 63) rfl rfl rfl (RS.start hB0 h.ext) rfl (by decide) (one_of (d:=⟨1,0,[⟨fa,ft,[],[]⟩]⟩) hgC HF8.out) (by omega) ?_
           intro b9 off9 cp9 W9 h9
           change K (Act.put _ (some 64) _) _
           exact hK.out _ _ (HS.out _ (BF.tD h h9.gr h9.ext h9.row).ext) (fun hH=>ih 5 (by decide) _ _ _ hH (Or.inl ⟨true,true,true,true,true,true,_,_,_,_,_,_,rfl,rfl,rfl,(by simp only[putB,Act.put,List.setIfInBounds_toArray,List.set_cons_zero,List.set_cons_succ]),(BF.tD h h9.gr h9.ext h9.row)⟩))
       | true=>
        cases F with
        | false=>
         cases G with
         | false=>
          obtain rfl:n'=7:=hn
          subst hl ha
          obtain⟨hD0,bD,offD,capD,rfl⟩:=h.hD rfl
          simp only[putB,Act.put,List.setIfInBounds_toArray,List.set_cons_zero,List.set_cons_succ]
          refine wpAnyH_ready (rs:=[9,14,15]) (by kernel_rfl) (by simp) ?_
          refine AllReadyH.cons rfl (fun K hK=>?_) (AllReadyH.cons rfl (fun K hK=>?_) (AllReadyH.cons rfl (fun K hK=>?_) AllReadyH.nil))
          ·go_simp
           refine(HPLY.out V _ _ _ h.ext hD0).mono ?_
           rintro e we ⟨Bx,bo,bc,rfl,E9,HP9⟩
           simp only
           refine hK.out _ _ (HS.out _ (h.ext.trans E9)) (fun hH=>?_)
           clear hK K
           refine take_op2 (i:=10) (d:=some 55) (v:=.tuple #[wvl X Bx,.slice bo dame.length bc,.agg #[.int .i64 0,.int .i64 0]]) rfl rfl (by kernel_rfl) (by kernel_rfl) (by kernel_rfl) (fun _ _ _ h=>h) (Or.inl ⟨by rfl,?hy110⟩) hH ?rest110
           case hy110=>intro W hSW;(try dsimp only at hSW);go_simp
           try simp only[Act.put,List.setIfInBounds_toArray,List.set_cons_zero,List.set_cons_succ]
           refine take_op2 (i:=11) (d:=some 66) (v:=wvl X Bx) rfl rfl (by kernel_rfl) (by kernel_rfl) (by kernel_rfl) (fun _ _ _ h=>h) (Or.inl ⟨by rfl,?hy111⟩) hH ?rest111
           case hy111=>intro W hSW;(try dsimp only at hSW);go_simp
           try simp only[Act.put,List.setIfInBounds_toArray,List.set_cons_zero,List.set_cons_succ]
           refine take_op2 (i:=12) (d:=some 67) (v:=.slice bo dame.length bc) rfl rfl (by kernel_rfl) (by kernel_rfl) (by kernel_rfl) (fun _ _ _ h=>h) (Or.inl ⟨by rfl,?hy112⟩) hH ?rest112
           case hy112=>intro W hSW;(try dsimp only at hSW);go_simp
           try simp only[Act.put,List.setIfInBounds_toArray,List.set_cons_zero,List.set_cons_succ]
           refine take_op2 (i:=13) (d:=some 68) (v:=.agg #[.int .i64 0,.int .i64 0]) rfl rfl (by kernel_rfl) (by kernel_rfl) (by kernel_rfl) (fun _ _ _ h=>h) (Or.inl ⟨by rfl,?hy113⟩) hH ?rest113
           case hy113=>intro W hSW;(try dsimp only at hSW);go_simp
           try simp only[Act.put,List.setIfInBounds_toArray,List.set_cons_zero,List.set_cons_succ]
           exact ih 2 (by decide) _ _ _ hH (Or.inr ⟨false,false,vA,vB,vC,.slice (some ⟨bD,offD,none⟩) (tk.length+1) capD,_,_,_,_,Bx,bo,bc,rfl,rfl,(by simp only[putE,putB,Act.put,List.setIfInBounds_toArray,List.set_cons_zero,List.set_cons_succ]),BF.play h E9,ply_pers h.ext E9 HP9.out⟩)
          ·go_simp
           exact hK.out _ _ (HS.out _ (BF.tF h).ext) (fun hH=>ih 6 (by decide) _ _ _ hH (Or.inl ⟨true,true,true,true,true,false,_,_,_,_,_,_,rfl,rfl,rfl,(by simp only[putB,Act.put,List.setIfInBounds_toArray,List.set_cons_zero,List.set_cons_succ]),(BF.tF h)⟩))
          ·go_simp
           exact hK.out _ _ (HS.out _ (BF.tG h).ext) (fun hH=>ih 6 (by decide) _ _ _ hH (Or.inl ⟨true,true,true,true,false,true,_,_,_,_,_,_,rfl,rfl,rfl,(by simp only[putB,Act.put,List.setIfInBounds_toArray,List.set_cons_zero,List.set_cons_succ]),(BF.tG h)⟩))
         | true=>
          obtain rfl:n'=6:=hn
          subst hl ha
          obtain⟨hD0,bD,offD,capD,rfl⟩:=h.hD rfl
          simp only[putB,Act.put,List.setIfInBounds_toArray,List.set_cons_zero,List.set_cons_succ]
          refine wpAnyH_ready (rs:=[9,14]) (by kernel_rfl) (by simp) ?_
          refine AllReadyH.cons rfl (fun K hK=>?_) (AllReadyH.cons rfl (fun K hK=>?_) AllReadyH.nil)
          ·go_simp
           refine(HPLY.out V _ _ _ h.ext hD0).mono ?_
           rintro e we ⟨Bx,bo,bc,rfl,E9,HP9⟩
           simp only
           refine hK.out _ _ (HS.out _ (h.ext.trans E9)) (fun hH=>?_)
           clear hK K
           refine take_op2 (i:=10) (d:=some 55) (v:=.tuple #[wvl X Bx,.slice bo dame.length bc,.agg #[.int .i64 0,.int .i64 0]]) rfl rfl (by kernel_rfl) (by kernel_rfl) (by kernel_rfl) (fun _ _ _ h=>h) (Or.inl ⟨by rfl,?hy210⟩) hH ?rest210
           case hy210=>intro W hSW;(try dsimp only at hSW);go_simp
           try simp only[Act.put,List.setIfInBounds_toArray,List.set_cons_zero,List.set_cons_succ]
           refine take_op2 (i:=11) (d:=some 66) (v:=wvl X Bx) rfl rfl (by kernel_rfl) (by kernel_rfl) (by kernel_rfl) (fun _ _ _ h=>h) (Or.inl ⟨by rfl,?hy211⟩) hH ?rest211
           case hy211=>intro W hSW;(try dsimp only at hSW);go_simp
           try simp only[Act.put,List.setIfInBounds_toArray,List.set_cons_zero,List.set_cons_succ]
           refine take_op2 (i:=12) (d:=some 67) (v:=.slice bo dame.length bc) rfl rfl (by kernel_rfl) (by kernel_rfl) (by kernel_rfl) (fun _ _ _ h=>h) (Or.inl ⟨by rfl,?hy212⟩) hH ?rest212
           case hy212=>intro W hSW;(try dsimp only at hSW);go_simp
           try simp only[Act.put,List.setIfInBounds_toArray,List.set_cons_zero,List.set_cons_succ]
           refine take_op2 (i:=13) (d:=some 68) (v:=.agg #[.int .i64 0,.int .i64 0]) rfl rfl (by kernel_rfl) (by kernel_rfl) (by kernel_rfl) (fun _ _ _ h=>h) (Or.inl ⟨by rfl,?hy213⟩) hH ?rest213
           case hy213=>intro W hSW;(try dsimp only at hSW);go_simp
           try simp only[Act.put,List.setIfInBounds_toArray,List.set_cons_zero,List.set_cons_succ]
           exact ih 1 (by decide) _ _ _ hH (Or.inr ⟨false,true,vA,vB,vC,.slice (some ⟨bD,offD,none⟩) (tk.length+1) capD,_,_,_,_,Bx,bo,bc,rfl,rfl,(by simp only[putE,putB,Act.put,List.setIfInBounds_toArray,List.set_cons_zero,List.set_cons_succ]),BF.play h E9,ply_pers h.ext E9 HP9.out⟩)
          ·go_simp
           exact hK.out _ _ (HS.out _ (BF.tF h).ext) (fun hH=>ih 5 (by decide) _ _ _ hH (Or.inl ⟨true,true,true,true,true,true,_,_,_,_,_,_,rfl,rfl,rfl,(by simp only[putB,Act.put,List.setIfInBounds_toArray,List.set_cons_zero,List.set_cons_succ]),(BF.tF h)⟩))
        | true=>
         cases G with
         | false=>
          obtain rfl:n'=6:=hn
          subst hl ha
          obtain⟨hD0,bD,offD,capD,rfl⟩:=h.hD rfl
          simp only[putB,Act.put,List.setIfInBounds_toArray,List.set_cons_zero,List.set_cons_succ]
          refine wpAnyH_ready (rs:=[9,15]) (by kernel_rfl) (by simp) ?_
          refine AllReadyH.cons rfl (fun K hK=>?_) (AllReadyH.cons rfl (fun K hK=>?_) AllReadyH.nil)
          ·go_simp
           refine(HPLY.out V _ _ _ h.ext hD0).mono ?_
           rintro e we ⟨Bx,bo,bc,rfl,E9,HP9⟩
           simp only
           refine hK.out _ _ (HS.out _ (h.ext.trans E9)) (fun hH=>?_)
           clear hK K
           refine take_op2 (i:=10) (d:=some 55) (v:=.tuple #[wvl X Bx,.slice bo dame.length bc,.agg #[.int .i64 0,.int .i64 0]]) rfl rfl (by kernel_rfl) (by kernel_rfl) (by kernel_rfl) (fun _ _ _ h=>h) (Or.inl ⟨by rfl,?hy310⟩) hH ?rest310
           case hy310=>intro W hSW;(try dsimp only at hSW);go_simp
           try simp only[Act.put,List.setIfInBounds_toArray,List.set_cons_zero,List.set_cons_succ]
           refine take_op2 (i:=11) (d:=some 66) (v:=wvl X Bx) rfl rfl (by kernel_rfl) (by kernel_rfl) (by kernel_rfl) (fun _ _ _ h=>h) (Or.inl ⟨by rfl,?hy311⟩) hH ?rest311
           case hy311=>intro W hSW;(try dsimp only at hSW);go_simp
           try simp only[Act.put,List.setIfInBounds_toArray,List.set_cons_zero,List.set_cons_succ]
           refine take_op2 (i:=12) (d:=some 67) (v:=.slice bo dame.length bc) rfl rfl (by kernel_rfl) (by kernel_rfl) (by kernel_rfl) (fun _ _ _ h=>h) (Or.inl ⟨by rfl,?hy312⟩) hH ?rest312
           case hy312=>intro W hSW;(try dsimp only at hSW);go_simp
           try simp only[Act.put,List.setIfInBounds_toArray,List.set_cons_zero,List.set_cons_succ]
           refine take_op2 (i:=13) (d:=some 68) (v:=.agg #[.int .i64 0,.int .i64 0]) rfl rfl (by kernel_rfl) (by kernel_rfl) (by kernel_rfl) (fun _ _ _ h=>h) (Or.inl ⟨by rfl,?hy313⟩) hH ?rest313
           case hy313=>intro W hSW;(try dsimp only at hSW);go_simp
           try simp only[Act.put,List.setIfInBounds_toArray,List.set_cons_zero,List.set_cons_succ]
           exact ih 1 (by decide) _ _ _ hH (Or.inr ⟨true,false,vA,vB,vC,.slice (some ⟨bD,offD,none⟩) (tk.length+1) capD,_,_,_,_,Bx,bo,bc,rfl,rfl,(by simp only[putE,putB,Act.put,List.setIfInBounds_toArray,List.set_cons_zero,List.set_cons_succ]),BF.play h E9,ply_pers h.ext E9 HP9.out⟩)
          ·go_simp
           exact hK.out _ _ (HS.out _ (BF.tG h).ext) (fun hH=>ih 5 (by decide) _ _ _ hH (Or.inl ⟨true,true,true,true,true,true,_,_,_,_,_,_,rfl,rfl,rfl,(by simp only[putB,Act.put,List.setIfInBounds_toArray,List.set_cons_zero,List.set_cons_succ]),(BF.tG h)⟩))
         | true=>
          obtain rfl:n'=5:=hn
          subst hl ha
          obtain⟨hD0,bD,offD,capD,rfl⟩:=h.hD rfl
          simp only[putB,Act.put,List.setIfInBounds_toArray,List.set_cons_zero,List.set_cons_succ]
          refine wpAnyH_ready (rs:=[9]) (by kernel_rfl) (by simp) ?_
          refine AllReadyH.cons rfl (fun K hK=>?_) AllReadyH.nil
          ·go_simp
           refine(HPLY.out V _ _ _ h.ext hD0).mono ?_
           rintro e we ⟨Bx,bo,bc,rfl,E9,HP9⟩
           simp only
           refine hK.out _ _ (HS.out _ (h.ext.trans E9)) (fun hH=>?_)
           clear hK K
           refine take_op2 (i:=10) (d:=some 55) (v:=.tuple #[wvl X Bx,.slice bo dame.length bc,.agg #[.int .i64 0,.int .i64 0]]) rfl rfl (by kernel_rfl) (by kernel_rfl) (by kernel_rfl) (fun _ _ _ h=>h) (Or.inl ⟨by rfl,?hy410⟩) hH ?rest410
           case hy410=>intro W hSW;(try dsimp only at hSW);go_simp
           try simp only[Act.put,List.setIfInBounds_toArray,List.set_cons_zero,List.set_cons_succ]
           refine take_op2 (i:=11) (d:=some 66) (v:=wvl X Bx) rfl rfl (by kernel_rfl) (by kernel_rfl) (by kernel_rfl) (fun _ _ _ h=>h) (Or.inl ⟨by rfl,?hy411⟩) hH ?rest411
           case hy411=>intro W hSW;(try dsimp only at hSW);go_simp
           try simp only[Act.put,List.setIfInBounds_toArray,List.set_cons_zero,List.set_cons_succ]
           refine take_op2 (i:=12) (d:=some 67) (v:=.slice bo dame.length bc) rfl rfl (by kernel_rfl) (by kernel_rfl) (by kernel_rfl) (fun _ _ _ h=>h) (Or.inl ⟨by rfl,?hy412⟩) hH ?rest412
           case hy412=>intro W hSW;(try dsimp only at hSW);go_simp
           try simp only[Act.put,List.setIfInBounds_toArray,List.set_cons_zero,List.set_cons_succ]
           refine take_op2 (i:=13) (d:=some 68) (v:=.agg #[.int .i64 0,.int .i64 0]) rfl rfl (by kernel_rfl) (by kernel_rfl) (by kernel_rfl) (fun _ _ _ h=>h) (Or.inl ⟨by rfl,?hy413⟩) hH ?rest413
           case hy413=>intro W hSW;(try dsimp only at hSW);go_simp
           try simp only[Act.put,List.setIfInBounds_toArray,List.set_cons_zero,List.set_cons_succ]
           exact ih 0 (by decide) _ _ _ hH (Or.inr ⟨true,true,vA,vB,vC,.slice (some ⟨bD,offD,none⟩) (tk.length+1) capD,_,_,_,_,Bx,bo,bc,rfl,rfl,(by simp only[putE,putB,Act.put,List.setIfInBounds_toArray,List.set_cons_zero,List.set_cons_succ]),BF.play h E9,ply_pers h.ext E9 HP9.out⟩)
   ·skip
    cases F with
    | false=>
     cases G with
     | false=>
      obtain rfl:n'=2:=hn
      subst hl ha
      simp only[putE,putB,Act.put,List.setIfInBounds_toArray,List.set_cons_zero,List.set_cons_succ]
      refine wpAnyH_ready (rs:=[14,15]) (by kernel_rfl) (by simp) ?_
      refine AllReadyH.cons rfl (fun K hK=>?_) (AllReadyH.cons rfl (fun K hK=>?_) AllReadyH.nil)
      ·go_simp
       exact hK.out _ _ (HS.out _ (BE.tF h).ext) (fun hH=>ih 1 (by decide) _ _ _ hH (Or.inr ⟨true,false,vA,vB,vC,vD,_,_,s1,we,Bx,bo,bc,rfl,rfl,(by simp only[putE,putB,Act.put,List.setIfInBounds_toArray,List.set_cons_zero,List.set_cons_succ]),(BE.tF h),HPE⟩))
      ·go_simp
       exact hK.out _ _ (HS.out _ (BE.tG h).ext) (fun hH=>ih 1 (by decide) _ _ _ hH (Or.inr ⟨false,true,vA,vB,vC,vD,_,_,s1,we,Bx,bo,bc,rfl,rfl,(by simp only[putE,putB,Act.put,List.setIfInBounds_toArray,List.set_cons_zero,List.set_cons_succ]),(BE.tG h),HPE⟩))
     | true=>
      obtain rfl:n'=1:=hn
      subst hl ha
      simp only[putE,putB,Act.put,List.setIfInBounds_toArray,List.set_cons_zero,List.set_cons_succ]
      refine wpAnyH_ready (rs:=[14]) (by kernel_rfl) (by simp) ?_
      refine AllReadyH.cons rfl (fun K hK=>?_) AllReadyH.nil
      ·go_simp
       exact hK.out _ _ (HS.out _ (BE.tF h).ext) (fun hH=>ih 0 (by decide) _ _ _ hH (Or.inr ⟨true,true,vA,vB,vC,vD,_,_,s1,we,Bx,bo,bc,rfl,rfl,(by simp only[putE,putB,Act.put,List.setIfInBounds_toArray,List.set_cons_zero,List.set_cons_succ]),(BE.tF h),HPE⟩))
    | true=>
     cases G with
     | false=>
      obtain rfl:n'=1:=hn
      subst hl ha
      simp only[putE,putB,Act.put,List.setIfInBounds_toArray,List.set_cons_zero,List.set_cons_succ]
      refine wpAnyH_ready (rs:=[15]) (by kernel_rfl) (by simp) ?_
      refine AllReadyH.cons rfl (fun K hK=>?_) AllReadyH.nil
      ·go_simp
       exact hK.out _ _ (HS.out _ (BE.tG h).ext) (fun hH=>ih 0 (by decide) _ _ _ hH (Or.inr ⟨true,true,vA,vB,vC,vD,_,_,s1,we,Bx,bo,bc,rfl,rfl,(by simp only[putE,putB,Act.put,List.setIfInBounds_toArray,List.set_cons_zero,List.set_cons_succ]),(BE.tG h),HPE⟩))
     | true=>
      obtain rfl:n'=0:=hn
      subst hl ha
      simp only[putE,putB,Act.put,List.setIfInBounds_toArray,List.set_cons_zero,List.set_cons_succ]
      obtain⟨gF,rfl,hzF,hoF,hbF⟩:=h.hF rfl
      obtain⟨gG,rfl,hzG,hoG,hbG⟩:=h.hG rfl
      have hne:=wd_ne_fault hbF hbG
      have hlF:=blk_lt hbF
      have hlG:=blk_lt hbG
      have hbF':V.heap[gF]? =some (.cells #[.int .i64 0,.int .i64 0,.slice none 0 0,.slice none 0 0,.int .i64 0,.slice none 0 0,.slice none 0 0,.int .i64 0,.slice none 0 0,.slice none 0 0,.slice none 0 0,.slice none 0 0,.slice none 0 0,.slice none 0 0] 40 (0,0)):=hbF
      have zf:=box_frozen hbF'
      have z0:=box_cell hbF' 0
      have z1:=box_cell hbF' 1
      have z2:=box_cell hbF' 2
      have z3:=box_cell hbF' 3
      have z4:=box_cell hbF' 4
      have z5:=box_cell hbF' 5
      have z6:=box_cell hbF' 6
      have z7:=box_cell hbF' 7
      have z8:=box_cell hbF' 8
      have z9:=box_cell hbF' 9
      have z10:=box_cell hbF' 10
      have z11:=box_cell hbF' 11
      have z12:=box_cell hbF' 12
      have z13:=box_cell hbF' 13
      simp only[List.getElem?_toArray,List.getElem?_cons_zero,List.getElem?_cons_succ] at z0 z1 z2 z3 z4 z5 z6 z7 z8 z9 z10 z11 z12 z13
      unfold wvl
      refine wpAnyH_ready (rs:=[16]) (by kernel_rfl) (by simp) ?_
      refine AllReadyH.cons rfl (fun K hK=>?_) AllReadyH.nil
      go_simp
      obtain⟨V1,hV1⟩:∃V1,V1=((((((((((((((V.setCell ⟨gF,0,none⟩ (.int .i64 X.co.st)).setCell ⟨gF,1,none⟩ (.int .i64 X.co.now.v)).setCell ⟨gF,2,none⟩ (.slice Bx.ca.n.fo X.co.now.fs.length Bx.ca.n.fc)).setCell ⟨gF,3,none⟩ (.slice Bx.ca.n.qo X.co.now.ps.length Bx.ca.n.qc)).setCell ⟨gF,4,none⟩ (.int .i64 X.co.nxt.v)).setCell ⟨gF,5,none⟩ (.slice Bx.ca.x.fo X.co.nxt.fs.length Bx.ca.x.fc)).setCell ⟨gF,6,none⟩ (.slice Bx.ca.x.qo X.co.nxt.ps.length Bx.ca.x.qc)).setCell ⟨gF,7,none⟩ (.int .i64 X.co.num)).setCell ⟨gF,8,none⟩ (.slice Bx.ca.wo X.co.wts.length Bx.ca.wc)).setCell ⟨gF,9,none⟩ (.slice Bx.so X.sw.length Bx.sc)).setCell ⟨gF,10,none⟩ (.slice Bx.oo X.od.length Bx.oc)).setCell ⟨gF,11,none⟩ (.slice Bx.bo X.bk.length Bx.bc)).setCell ⟨gF,12,none⟩ (.slice Bx.ko X.pk.length Bx.kc)).setCell ⟨gF,13,none⟩ (.slice Bx.lo X.pn.length Bx.lc)):=⟨_,rfl⟩
      rw[←hV1]
      have hE1:Ext w8 V1:=by rw[hV1];exact ext14b h.ext hzF
      have hB1:∀j,j≠gF→V1.heap[j]? =V.heap[j]?:=fun j hj=>by rw[hV1];exact blk14b hj
      have hs1':V1.heap.size=V.heap.size:=by rw[hV1];simp
      have hbG1:V1.heap[gG]? =some (.cells #[.int .i64 0,.int .i64 0] 44 (0,0)):=(hB1 gG hne).trans hbG
      have g0:=box_cell hbG1 0
      have g1:=box_cell hbG1 1
      simp only[List.getElem?_toArray,List.getElem?_cons_zero,List.getElem?_cons_succ] at g0 g1
      have gf:=box_frozen hbG1
      have hlG1:gG<V1.heap.size:=blk_lt hbG1
      refine hK.out _ _ (HS.out _ hE1) (fun hH=>?_)
      clear hK K hV1 z0 z1 z2 z3 z4 z5 z6 z7 z8 z9 z10 z11 z12 z13 zf
      refine take_op2 (i:=17) (d:=some 14) (v:=.slice bo dame.length bc) rfl rfl (by kernel_rfl) (by kernel_rfl) (by kernel_rfl) (fun _ _ _ h=>h) (Or.inl ⟨by rfl,?hy17⟩) hH ?rest17
      case hy17=>intro W hSW;(try dsimp only at hSW);go_simp
      simp only[Act.put,List.setIfInBounds_toArray,List.set_cons_zero,List.set_cons_succ]
      refine wpAnyH_ready (rs:=[18]) (by kernel_rfl) (by simp) ?_
      refine AllReadyH.cons rfl (fun K hK=>?_) AllReadyH.nil
      go_simp
      obtain⟨V2,hV2⟩:∃V2,V2=(V1.setCell ⟨gG,0,none⟩ (.int .i64 0)).setCell ⟨gG,1,none⟩ (.int .i64 0):=⟨_,rfl⟩
      rw[←hV2]
      have hE2:Ext w8 V2:=by rw[hV2];exact ext2b hE1 hzG
      have hB2:∀j,j≠gG→V2.heap[j]? =V1.heap[j]?:=fun j hj=>by rw[hV2];exact blk2b hj
      have hs2':V2.heap.size=V1.heap.size:=by rw[hV2];simp
      have hc2':V2.cell? ⟨gG,0,none⟩=some (.int .i64 0):=by rw[hV2];exact box_cell (set2b hbG1) 0
      refine hK.out _ _ (HS.out _ hE2) (fun hH2=>?_)
      clear hK K hV2
      refine wpAnyH_done (by kernel_rfl) ?_ _
      go_wp2_with fail
      go_meet
      refine⟨gG,bo,bc,rfl,rfl,hE2,(HPE.out V2 hE2 (by have:=h.sz;omega) (fun b b1 b2=>?_)).2,hc2',by omega⟩
      rw[hB2 b (by omega),hB1 b (by omega)]
      exact h.same b b1 b2
  case rest=>
   obtain⟨bf,bo,bc,rfl,rfl,hE8c,HLA⟩:=hcut
   have HSc:Hid (∀V,Ext wc V→V.cell? ⟨w.heap.size,0,none⟩=some (.int .i64 n)∧V.cell? ⟨w.heap.size,1,none⟩=some (.slice ao len cap)):=fun V hV=>⟨(HS.out V (hE8c.trans hV)).1,(HS.out V (hE8c.trans hV)).2.1⟩
   go_upto_region 12 with fail
   go_cut [16] (fun wv wx=>∃bx,wv=.pointer (some ⟨bx,0,none⟩)∧Ext wc wx∧wx.cell? ⟨bx,0,none⟩=some (.int .i64 Y.co.st)∧bx<wx.heap.size)
   case first=>
    have hd:Ext wc wc.drew:=(Ext.refl wc).drew
    refine wp_region_held_drew (S:=fun V=>V.cell? ⟨w.heap.size,0,none⟩=some (.int .i64 n)∧V.cell? ⟨w.heap.size,1,none⟩=some (.slice ao len cap)) (by kernel_rfl) (HSc.out _ hd) (fun hHeld=>?_)
    refine take_op2 (i:=0) (d:=some 70) (v:=?u0) rfl rfl (by kernel_rfl) (by kernel_rfl) (by kernel_rfl) (fun _ _ _ h=>h) (Or.inl ⟨by rfl,?uy0⟩) hHeld ?urest0
    case uy0=>intro W hSW;(try dsimp only at hSW);go_simp;try with_reducible rfl
    simp only[Act.put,List.setIfInBounds_toArray,List.set_cons_zero,List.set_cons_succ]
    refine take_op2 (i:=1) (d:=some 71) (v:=?u1) rfl rfl (by kernel_rfl) (by kernel_rfl) (by kernel_rfl) (fun _ _ _ h=>h) (Or.inl ⟨by rfl,?uy1⟩) hHeld ?urest1
    case uy1=>intro W hSW;(try dsimp only at hSW);go_simp;try with_reducible rfl
    simp only[Act.put,List.setIfInBounds_toArray,List.set_cons_zero,List.set_cons_succ]
    refine take_op2 (i:=2) (d:=some 72) (v:=?u2) rfl rfl (by kernel_rfl) (by kernel_rfl) (by kernel_rfl) (fun _ _ _ h=>h) (Or.inl ⟨by rfl,?uy2⟩) hHeld ?urest2
    case uy2=>intro W hSW;(try dsimp only at hSW);go_simp;try with_reducible rfl
    simp only[Act.put,List.setIfInBounds_toArray,List.set_cons_zero,List.set_cons_succ]
    refine take_op2 (i:=3) (d:=some 73) (v:=?u3) rfl rfl (by kernel_rfl) (by kernel_rfl) (by kernel_rfl) (fun _ _ _ h=>h) (Or.inl ⟨by rfl,?uy3⟩) hHeld ?urest3
    case uy3=>intro W hSW;(try dsimp only at hSW);go_simp;try with_reducible rfl
    simp only[Act.put,List.setIfInBounds_toArray,List.set_cons_zero,List.set_cons_succ]
    refine dag1 3 (JC wc Y came) 7 hHeld (JC.start (vF:=undef) (vG:=u18) rfl rfl hd) ?_
    intro n' ih l a V hSV hJ
    rcases hJ with⟨F,G,vF,vG,hn,hl,ha,h⟩ | ⟨F,G,vF,vG,s1,we,Bx,bo',bc',hn,hl,ha,h⟩
    ·skip
     cases F with
     | false=>
      cases G with
      | false=>
       obtain rfl:n'=7:=hn
       subst hl ha
       simp only[putC,Act.put,List.setIfInBounds_toArray,List.set_cons_zero,List.set_cons_succ]
       refine wpAnyH_ready (rs:=[4,9,10]) (by kernel_rfl) (by simp) ?_
       refine AllReadyH.cons rfl (fun K hK=>?_) (AllReadyH.cons rfl (fun K hK=>?_) (AllReadyH.cons rfl (fun K hK=>?_) AllReadyH.nil))
       ·go_simp
        refine(HPL2.out wc V hE8c h.ext).mono ?_
        rintro e we ⟨Bx,bo',bc',rfl,E9,HP9⟩
        simp only
        refine hK.out _ _ (HSc.out _ (h.ext.trans E9)) (fun hH=>?_)
        clear hK K
        refine take_op2 (i:=5) (d:=some 69) (v:=.tuple #[wvl Y Bx,.slice bo' came.length bc',.agg #[.int .i64 0,.int .i64 0]]) rfl rfl (by kernel_rfl) (by kernel_rfl) (by kernel_rfl) (fun _ _ _ h=>h) (Or.inl ⟨by rfl,?hy1105⟩) hH ?rest1105
        case hy1105=>intro W hSW;(try dsimp only at hSW);go_simp
        try simp only[Act.put,List.setIfInBounds_toArray,List.set_cons_zero,List.set_cons_succ]
        refine take_op2 (i:=6) (d:=some 75) (v:=wvl Y Bx) rfl rfl (by kernel_rfl) (by kernel_rfl) (by kernel_rfl) (fun _ _ _ h=>h) (Or.inl ⟨by rfl,?hy1106⟩) hH ?rest1106
        case hy1106=>intro W hSW;(try dsimp only at hSW);go_simp
        try simp only[Act.put,List.setIfInBounds_toArray,List.set_cons_zero,List.set_cons_succ]
        refine take_op2 (i:=7) (d:=some 76) (v:=.slice bo' came.length bc') rfl rfl (by kernel_rfl) (by kernel_rfl) (by kernel_rfl) (fun _ _ _ h=>h) (Or.inl ⟨by rfl,?hy1107⟩) hH ?rest1107
        case hy1107=>intro W hSW;(try dsimp only at hSW);go_simp
        try simp only[Act.put,List.setIfInBounds_toArray,List.set_cons_zero,List.set_cons_succ]
        refine take_op2 (i:=8) (d:=some 77) (v:=.agg #[.int .i64 0,.int .i64 0]) rfl rfl (by kernel_rfl) (by kernel_rfl) (by kernel_rfl) (fun _ _ _ h=>h) (Or.inl ⟨by rfl,?hy1108⟩) hH ?rest1108
        case hy1108=>intro W hSW;(try dsimp only at hSW);go_simp
        try simp only[Act.put,List.setIfInBounds_toArray,List.set_cons_zero,List.set_cons_succ]
        exact ih 2 (by decide) _ _ _ hH (Or.inr ⟨false,false,_,_,_,_,Bx,bo',bc',rfl,rfl,(by simp only[putG,putC,Act.put,List.setIfInBounds_toArray,List.set_cons_zero,List.set_cons_succ]),BF.play h E9⟩)
       ·go_simp
        exact hK.out _ _ (HSc.out _ (BF.tF h).ext) (fun hH=>ih 6 (by decide) _ _ _ hH (Or.inl ⟨true,false,_,_,rfl,rfl,(by simp only[putC,Act.put,List.setIfInBounds_toArray,List.set_cons_zero,List.set_cons_succ]),(BF.tF h)⟩))
       ·go_simp
        exact hK.out _ _ (HSc.out _ (BF.tG h).ext) (fun hH=>ih 6 (by decide) _ _ _ hH (Or.inl ⟨false,true,_,_,rfl,rfl,(by simp only[putC,Act.put,List.setIfInBounds_toArray,List.set_cons_zero,List.set_cons_succ]),(BF.tG h)⟩))
      | true=>
       obtain rfl:n'=6:=hn
       subst hl ha
       simp only[putC,Act.put,List.setIfInBounds_toArray,List.set_cons_zero,List.set_cons_succ]
       refine wpAnyH_ready (rs:=[4,9]) (by kernel_rfl) (by simp) ?_
       refine AllReadyH.cons rfl (fun K hK=>?_) (AllReadyH.cons rfl (fun K hK=>?_) AllReadyH.nil)
       ·go_simp
        refine(HPL2.out wc V hE8c h.ext).mono ?_
        rintro e we ⟨Bx,bo',bc',rfl,E9,HP9⟩
        simp only
        refine hK.out _ _ (HSc.out _ (h.ext.trans E9)) (fun hH=>?_)
        clear hK K
        refine take_op2 (i:=5) (d:=some 69) (v:=.tuple #[wvl Y Bx,.slice bo' came.length bc',.agg #[.int .i64 0,.int .i64 0]]) rfl rfl (by kernel_rfl) (by kernel_rfl) (by kernel_rfl) (fun _ _ _ h=>h) (Or.inl ⟨by rfl,?hy1205⟩) hH ?rest1205
        case hy1205=>intro W hSW;(try dsimp only at hSW);go_simp
        try simp only[Act.put,List.setIfInBounds_toArray,List.set_cons_zero,List.set_cons_succ]
        refine take_op2 (i:=6) (d:=some 75) (v:=wvl Y Bx) rfl rfl (by kernel_rfl) (by kernel_rfl) (by kernel_rfl) (fun _ _ _ h=>h) (Or.inl ⟨by rfl,?hy1206⟩) hH ?rest1206
        case hy1206=>intro W hSW;(try dsimp only at hSW);go_simp
        try simp only[Act.put,List.setIfInBounds_toArray,List.set_cons_zero,List.set_cons_succ]
        refine take_op2 (i:=7) (d:=some 76) (v:=.slice bo' came.length bc') rfl rfl (by kernel_rfl) (by kernel_rfl) (by kernel_rfl) (fun _ _ _ h=>h) (Or.inl ⟨by rfl,?hy1207⟩) hH ?rest1207
        case hy1207=>intro W hSW;(try dsimp only at hSW);go_simp
        try simp only[Act.put,List.setIfInBounds_toArray,List.set_cons_zero,List.set_cons_succ]
        refine take_op2 (i:=8) (d:=some 77) (v:=.agg #[.int .i64 0,.int .i64 0]) rfl rfl (by kernel_rfl) (by kernel_rfl) (by kernel_rfl) (fun _ _ _ h=>h) (Or.inl ⟨by rfl,?hy1208⟩) hH ?rest1208
        case hy1208=>intro W hSW;(try dsimp only at hSW);go_simp
        try simp only[Act.put,List.setIfInBounds_toArray,List.set_cons_zero,List.set_cons_succ]
        exact ih 1 (by decide) _ _ _ hH (Or.inr ⟨false,true,_,_,_,_,Bx,bo',bc',rfl,rfl,(by simp only[putG,putC,Act.put,List.setIfInBounds_toArray,List.set_cons_zero,List.set_cons_succ]),BF.play h E9⟩)
       ·go_simp
        exact hK.out _ _ (HSc.out _ (BF.tF h).ext) (fun hH=>ih 5 (by decide) _ _ _ hH (Or.inl ⟨true,true,_,_,rfl,rfl,(by simp only[putC,Act.put,List.setIfInBounds_toArray,List.set_cons_zero,List.set_cons_succ]),(BF.tF h)⟩))
     | true=>
      cases G with
      | false=>
       obtain rfl:n'=6:=hn
       subst hl ha
       simp only[putC,Act.put,List.setIfInBounds_toArray,List.set_cons_zero,List.set_cons_succ]
       refine wpAnyH_ready (rs:=[4,10]) (by kernel_rfl) (by simp) ?_
       refine AllReadyH.cons rfl (fun K hK=>?_) (AllReadyH.cons rfl (fun K hK=>?_) AllReadyH.nil)
       ·go_simp
        refine(HPL2.out wc V hE8c h.ext).mono ?_
        rintro e we ⟨Bx,bo',bc',rfl,E9,HP9⟩
        simp only
        refine hK.out _ _ (HSc.out _ (h.ext.trans E9)) (fun hH=>?_)
        clear hK K
        refine take_op2 (i:=5) (d:=some 69) (v:=.tuple #[wvl Y Bx,.slice bo' came.length bc',.agg #[.int .i64 0,.int .i64 0]]) rfl rfl (by kernel_rfl) (by kernel_rfl) (by kernel_rfl) (fun _ _ _ h=>h) (Or.inl ⟨by rfl,?hy1305⟩) hH ?rest1305
        case hy1305=>intro W hSW;(try dsimp only at hSW);go_simp
        try simp only[Act.put,List.setIfInBounds_toArray,List.set_cons_zero,List.set_cons_succ]
        refine take_op2 (i:=6) (d:=some 75) (v:=wvl Y Bx) rfl rfl (by kernel_rfl) (by kernel_rfl) (by kernel_rfl) (fun _ _ _ h=>h) (Or.inl ⟨by rfl,?hy1306⟩) hH ?rest1306
        case hy1306=>intro W hSW;(try dsimp only at hSW);go_simp
        try simp only[Act.put,List.setIfInBounds_toArray,List.set_cons_zero,List.set_cons_succ]
        refine take_op2 (i:=7) (d:=some 76) (v:=.slice bo' came.length bc') rfl rfl (by kernel_rfl) (by kernel_rfl) (by kernel_rfl) (fun _ _ _ h=>h) (Or.inl ⟨by rfl,?hy1307⟩) hH ?rest1307
        case hy1307=>intro W hSW;(try dsimp only at hSW);go_simp
        try simp only[Act.put,List.setIfInBounds_toArray,List.set_cons_zero,List.set_cons_succ]
        refine take_op2 (i:=8) (d:=some 77) (v:=.agg #[.int .i64 0,.int .i64 0]) rfl rfl (by kernel_rfl) (by kernel_rfl) (by kernel_rfl) (fun _ _ _ h=>h) (Or.inl ⟨by rfl,?hy1308⟩) hH ?rest1308
        case hy1308=>intro W hSW;(try dsimp only at hSW);go_simp
        try simp only[Act.put,List.setIfInBounds_toArray,List.set_cons_zero,List.set_cons_succ]
        exact ih 1 (by decide) _ _ _ hH (Or.inr ⟨true,false,_,_,_,_,Bx,bo',bc',rfl,rfl,(by simp only[putG,putC,Act.put,List.setIfInBounds_toArray,List.set_cons_zero,List.set_cons_succ]),BF.play h E9⟩)
       ·go_simp
        exact hK.out _ _ (HSc.out _ (BF.tG h).ext) (fun hH=>ih 5 (by decide) _ _ _ hH (Or.inl ⟨true,true,_,_,rfl,rfl,(by simp only[putC,Act.put,List.setIfInBounds_toArray,List.set_cons_zero,List.set_cons_succ]),(BF.tG h)⟩))
      | true=>
       obtain rfl:n'=5:=hn
       subst hl ha
       simp only[putC,Act.put,List.setIfInBounds_toArray,List.set_cons_zero,List.set_cons_succ]
       refine wpAnyH_ready (rs:=[4]) (by kernel_rfl) (by simp) ?_
       refine AllReadyH.cons rfl (fun K hK=>?_) AllReadyH.nil
       ·go_simp
        refine(HPL2.out wc V hE8c h.ext).mono ?_
        rintro e we ⟨Bx,bo',bc',rfl,E9,HP9⟩
        simp only
        refine hK.out _ _ (HSc.out _ (h.ext.trans E9)) (fun hH=>?_)
        clear hK K
        refine take_op2 (i:=5) (d:=some 69) (v:=.tuple #[wvl Y Bx,.slice bo' came.length bc',.agg #[.int .i64 0,.int .i64 0]]) rfl rfl (by kernel_rfl) (by kernel_rfl) (by kernel_rfl) (fun _ _ _ h=>h) (Or.inl ⟨by rfl,?hy1405⟩) hH ?rest1405
        case hy1405=>intro W hSW;(try dsimp only at hSW);go_simp
        try simp only[Act.put,List.setIfInBounds_toArray,List.set_cons_zero,List.set_cons_succ]
        refine take_op2 (i:=6) (d:=some 75) (v:=wvl Y Bx) rfl rfl (by kernel_rfl) (by kernel_rfl) (by kernel_rfl) (fun _ _ _ h=>h) (Or.inl ⟨by rfl,?hy1406⟩) hH ?rest1406
        case hy1406=>intro W hSW;(try dsimp only at hSW);go_simp
        try simp only[Act.put,List.setIfInBounds_toArray,List.set_cons_zero,List.set_cons_succ]
        refine take_op2 (i:=7) (d:=some 76) (v:=.slice bo' came.length bc') rfl rfl (by kernel_rfl) (by kernel_rfl) (by kernel_rfl) (fun _ _ _ h=>h) (Or.inl ⟨by rfl,?hy1407⟩) hH ?rest1407
        case hy1407=>intro W hSW;(try dsimp only at hSW);go_simp
        try simp only[Act.put,List.setIfInBounds_toArray,List.set_cons_zero,List.set_cons_succ]
        refine take_op2 (i:=8) (d:=some 77) (v:=.agg #[.int .i64 0,.int .i64 0]) rfl rfl (by kernel_rfl) (by kernel_rfl) (by kernel_rfl) (fun _ _ _ h=>h) (Or.inl ⟨by rfl,?hy1408⟩) hH ?rest1408
        case hy1408=>intro W hSW;(try dsimp only at hSW);go_simp
        try simp only[Act.put,List.setIfInBounds_toArray,List.set_cons_zero,List.set_cons_succ]
        exact ih 0 (by decide) _ _ _ hH (Or.inr ⟨true,true,_,_,_,_,Bx,bo',bc',rfl,rfl,(by simp only[putG,putC,Act.put,List.setIfInBounds_toArray,List.set_cons_zero,List.set_cons_succ]),BF.play h E9⟩)
    ·skip
     cases F with
     | false=>
      cases G with
      | false=>
       obtain rfl:n'=2:=hn
       subst hl ha
       simp only[putG,putC,Act.put,List.setIfInBounds_toArray,List.set_cons_zero,List.set_cons_succ]
       refine wpAnyH_ready (rs:=[9,10]) (by kernel_rfl) (by simp) ?_
       refine AllReadyH.cons rfl (fun K hK=>?_) (AllReadyH.cons rfl (fun K hK=>?_) AllReadyH.nil)
       ·go_simp
        exact hK.out _ _ (HSc.out _ (BE.tF h).ext) (fun hH=>ih 1 (by decide) _ _ _ hH (Or.inr ⟨true,false,_,_,s1,we,Bx,bo',bc',rfl,rfl,(by simp only[putG,putC,Act.put,List.setIfInBounds_toArray,List.set_cons_zero,List.set_cons_succ]),(BE.tF h)⟩))
       ·go_simp
        exact hK.out _ _ (HSc.out _ (BE.tG h).ext) (fun hH=>ih 1 (by decide) _ _ _ hH (Or.inr ⟨false,true,_,_,s1,we,Bx,bo',bc',rfl,rfl,(by simp only[putG,putC,Act.put,List.setIfInBounds_toArray,List.set_cons_zero,List.set_cons_succ]),(BE.tG h)⟩))
      | true=>
       obtain rfl:n'=1:=hn
       subst hl ha
       simp only[putG,putC,Act.put,List.setIfInBounds_toArray,List.set_cons_zero,List.set_cons_succ]
       refine wpAnyH_ready (rs:=[9]) (by kernel_rfl) (by simp) ?_
       refine AllReadyH.cons rfl (fun K hK=>?_) AllReadyH.nil
       ·go_simp
        exact hK.out _ _ (HSc.out _ (BE.tF h).ext) (fun hH=>ih 0 (by decide) _ _ _ hH (Or.inr ⟨true,true,_,_,s1,we,Bx,bo',bc',rfl,rfl,(by simp only[putG,putC,Act.put,List.setIfInBounds_toArray,List.set_cons_zero,List.set_cons_succ]),(BE.tF h)⟩))
     | true=>
      cases G with
      | false=>
       obtain rfl:n'=1:=hn
       subst hl ha
       simp only[putG,putC,Act.put,List.setIfInBounds_toArray,List.set_cons_zero,List.set_cons_succ]
       refine wpAnyH_ready (rs:=[10]) (by kernel_rfl) (by simp) ?_
       refine AllReadyH.cons rfl (fun K hK=>?_) AllReadyH.nil
       ·go_simp
        exact hK.out _ _ (HSc.out _ (BE.tG h).ext) (fun hH=>ih 0 (by decide) _ _ _ hH (Or.inr ⟨true,true,_,_,s1,we,Bx,bo',bc',rfl,rfl,(by simp only[putG,putC,Act.put,List.setIfInBounds_toArray,List.set_cons_zero,List.set_cons_succ]),(BE.tG h)⟩))
      | true=>
       obtain rfl:n'=0:=hn
       subst hl ha
       simp only[putG,putC,Act.put,List.setIfInBounds_toArray,List.set_cons_zero,List.set_cons_succ]
       obtain⟨gF,rfl,hzF,hoF,hbF⟩:=h.hF rfl
       obtain⟨gG,rfl,hzG,hoG,hbG⟩:=h.hG rfl
       have hne:=wd_ne_fault hbF hbG
       have hlF:=blk_lt hbF
       have hlG:=blk_lt hbG
       have hbF':V.heap[gF]? =some (.cells #[.int .i64 0,.int .i64 0,.slice none 0 0,.slice none 0 0,.int .i64 0,.slice none 0 0,.slice none 0 0,.int .i64 0,.slice none 0 0,.slice none 0 0,.slice none 0 0,.slice none 0 0,.slice none 0 0,.slice none 0 0] 40 (0,0)):=hbF
       have zf:=box_frozen hbF'
       have z0:=box_cell hbF' 0
       have z1:=box_cell hbF' 1
       have z2:=box_cell hbF' 2
       have z3:=box_cell hbF' 3
       have z4:=box_cell hbF' 4
       have z5:=box_cell hbF' 5
       have z6:=box_cell hbF' 6
       have z7:=box_cell hbF' 7
       have z8:=box_cell hbF' 8
       have z9:=box_cell hbF' 9
       have z10:=box_cell hbF' 10
       have z11:=box_cell hbF' 11
       have z12:=box_cell hbF' 12
       have z13:=box_cell hbF' 13
       simp only[List.getElem?_toArray,List.getElem?_cons_zero,List.getElem?_cons_succ] at z0 z1 z2 z3 z4 z5 z6 z7 z8 z9 z10 z11 z12 z13
       unfold wvl
       refine wpAnyH_ready (rs:=[11]) (by kernel_rfl) (by simp) ?_
       refine AllReadyH.cons rfl (fun K hK=>?_) AllReadyH.nil
       go_simp
       obtain⟨V1,hV1⟩:∃V1,V1=((((((((((((((V.setCell ⟨gF,0,none⟩ (.int .i64 Y.co.st)).setCell ⟨gF,1,none⟩ (.int .i64 Y.co.now.v)).setCell ⟨gF,2,none⟩ (.slice Bx.ca.n.fo Y.co.now.fs.length Bx.ca.n.fc)).setCell ⟨gF,3,none⟩ (.slice Bx.ca.n.qo Y.co.now.ps.length Bx.ca.n.qc)).setCell ⟨gF,4,none⟩ (.int .i64 Y.co.nxt.v)).setCell ⟨gF,5,none⟩ (.slice Bx.ca.x.fo Y.co.nxt.fs.length Bx.ca.x.fc)).setCell ⟨gF,6,none⟩ (.slice Bx.ca.x.qo Y.co.nxt.ps.length Bx.ca.x.qc)).setCell ⟨gF,7,none⟩ (.int .i64 Y.co.num)).setCell ⟨gF,8,none⟩ (.slice Bx.ca.wo Y.co.wts.length Bx.ca.wc)).setCell ⟨gF,9,none⟩ (.slice Bx.so Y.sw.length Bx.sc)).setCell ⟨gF,10,none⟩ (.slice Bx.oo Y.od.length Bx.oc)).setCell ⟨gF,11,none⟩ (.slice Bx.bo Y.bk.length Bx.bc)).setCell ⟨gF,12,none⟩ (.slice Bx.ko Y.pk.length Bx.kc)).setCell ⟨gF,13,none⟩ (.slice Bx.lo Y.pn.length Bx.lc)):=⟨_,rfl⟩
       rw[←hV1]
       have hE1:Ext wc V1:=by rw[hV1];exact ext14b h.ext hzF
       have hB1:∀j,j≠gF→V1.heap[j]? =V.heap[j]?:=fun j hj=>by rw[hV1];exact blk14b hj
       have hcF:V1.cell? ⟨gF,0,none⟩=some (.int .i64 Y.co.st):=by rw[hV1];exact box_cell (set14b hbF') 0
       have hs1c:V1.heap.size=V.heap.size:=by rw[hV1];simp
       have hbG1:V1.heap[gG]? =some (.cells #[.int .i64 0,.int .i64 0] 44 (0,0)):=(hB1 gG hne).trans hbG
       have g0:=box_cell hbG1 0
       have g1:=box_cell hbG1 1
       simp only[List.getElem?_toArray,List.getElem?_cons_zero,List.getElem?_cons_succ] at g0 g1
       have gf:=box_frozen hbG1
       have hlG1:gG<V1.heap.size:=blk_lt hbG1
       refine hK.out _ _ (HSc.out _ hE1) (fun hH=>?_)
       clear hK K hV1 z0 z1 z2 z3 z4 z5 z6 z7 z8 z9 z10 z11 z12 z13 zf
       refine take_op2 (i:=12) (d:=some 17) (v:=.slice bo' came.length bc') rfl rfl (by kernel_rfl) (by kernel_rfl) (by kernel_rfl) (fun _ _ _ h=>h) (Or.inl ⟨by rfl,?hy9917⟩) hH ?rest9917
       case hy9917=>intro W hSW;(try dsimp only at hSW);go_simp
       simp only[Act.put,List.setIfInBounds_toArray,List.set_cons_zero,List.set_cons_succ]
       refine wpAnyH_ready (rs:=[13]) (by kernel_rfl) (by simp) ?_
       refine AllReadyH.cons rfl (fun K hK=>?_) AllReadyH.nil
       go_simp
       obtain⟨V2,hV2⟩:∃V2,V2=(V1.setCell ⟨gG,0,none⟩ (.int .i64 0)).setCell ⟨gG,1,none⟩ (.int .i64 0):=⟨_,rfl⟩
       rw[←hV2]
       have hE2:Ext wc V2:=by rw[hV2];exact ext2b hE1 hzG
       have hB2:∀j,j≠gG→V2.heap[j]? =V1.heap[j]?:=fun j hj=>by rw[hV2];exact blk2b hj
       have hs2':V2.heap.size=V1.heap.size:=by rw[hV2];simp
       have hc2':V2.cell? ⟨gG,0,none⟩=some (.int .i64 0):=by rw[hV2];exact box_cell (set2b hbG1) 0
       refine hK.out _ _ (HSc.out _ hE2) (fun hH2=>?_)
       clear hK K hV2
       refine wpAnyH_done (by kernel_rfl) ?_ _
       go_wp2_with fail
       go_meet
       refine⟨gF,rfl,hE2,?_,by omega⟩
       rw[World.cell?_of_block (hB2 gF (Ne.symm hne))]
       exact hcF
   case rest=>
    obtain⟨bx,rfl,hEx,hst,hbx⟩:=hcut
    obtain⟨hLA,hfc,hbf⟩:=HLA.out
    have e2:=(hEx.cells.1 _ _ hbf).trans hfc
    have hbf2:=Nat.lt_of_lt_of_le hbf hEx.size
    obtain⟨db,doff,hbo,hdb,hdc⟩:=(hLA.ext hEx).get (k:=tk.length) (by have:=HBZ.out.2;omega)
    have d0:=hdc tk.length (by have:=HBZ.out.2;omega)
    have i9:(tk.length:Int)<(dame.length:Int):=by have:=HBZ.out.2;omega
    have HEF:=hidp (HE8.out.trans (hE8c.trans hEx))
    rw[hbo]
    clear hdc hbo hLA hfc hbf HLA HSc HS HPL2 HPLY
    rcases HBZ.out.1 with⟨q1,q2⟩ | ⟨q1,q2⟩
    ·rw[q1] at d0
     rw[q2] at hst
     clear q1 q2
     go_upto_region 15 with fail
     go_quiet (fail)
     go_wp2
     go_ret
     exact⟨rfl,HEF.out.drewN _⟩
    ·rw[q1] at d0
     have b3:(Y.co.st == 0)=false:=by simpa using q2
     clear q1 q2
     go_upto_region 15 with fail
     go_quiet (fail)
     go_wp2
     go_ret
     exact⟨rfl,HEF.out.drewN _⟩
 ·have b0:((fnd N ls ⟨fa,ft,[],[]⟩).1 != 0)=true:=by simpa using hf
  go_wp2
  go_ret
  exact⟨rfl,HEz.out.trans Ez2⟩
end Go.Proofs.Ytolclgbpjiokfaa.Rm
namespace Go.Proofs.Ytolclgbpjiokfaa
open Go.ChangeShapes Go.WideShapes Go.ChangeAt Go.RowKit Go.Deep Go.Joins Stw
set_option maxRecDepth 100000 in
theorem topBusy_lifted (os:Os) (started:os.Started) (H:Type) (enc:TypeId×Value→H):
 ReturnsInHanded {} Try.checked os 13 .any (Rows.topBusySpec.pre6 enc Try.prog Try.f13 Rows.topBusyRow.domain false) (Rows.topBusySpec.post enc Try.prog Try.f13 false true false false):=by
 refine returnsInHanded_of_change_sized (C:=Try.checked) Try.own started (by kernel_rfl) Try.func13
  (ChangeSpec.witness6 (enc:=enc) (C:=Try.checked) false ⟨#[],#[.agg #[.int .i64 0,.slice none 0 0],.int .i64 0,.int .i64 0,.int .i64 0],[]⟩ 8 (by kernel_rfl) (by kernel_rfl) (by kernel_rfl) (by kernel_rfl)) ?_
 intro W base args ds gs before hval0 hW hcnd hsz0 _
 have hval:∀(j:Nat) t v,Try.f13.params[j]? =some t→args[j]? =some v→Value.okWide Try.prog W .any base t v:=hval0
 have hsz:(DataW.weightsEach Try.prog (Try.f13.params.toList++Rows.topBusySpec.plain.varTypes Try.prog) (ds++gs)).all (· ≤reachBytes)=true:=hsz0
 have hW':=hW
 obtain⟨p,q,hA0,hV,rfl,hfz,hnd⟩:=hW
 have hA:DataW.TrodAll enc Try.prog W 0 (fun _=>true) true Try.f13.params.toList args.toList ds p:=hA0
 rw[Try.params13] at hA hval hsz
 obtain⟨v0,vs0,d0,dt0,p0,q0,hargs,rfl,rfl,h0,r0⟩:=trodAll_cons hA
 obtain⟨v1,vs1,d1,dt1,p1,q1,rfl,rfl,rfl,h1,r1⟩:=trodAll_cons r0
 obtain⟨v2,vs2,d2,dt2,p2,q2,rfl,rfl,rfl,h2,r2⟩:=trodAll_cons r1
 obtain⟨v3,vs3,d3,dt3,p3,q3,rfl,rfl,rfl,h3,r3⟩:=trodAll_cons r2
 obtain⟨rfl,rfl,rfl⟩:=trodAll_nil r3
 obtain rfl:args=#[v0,v1,v2,v3]:=by cases args;simp_all
 obtain⟨rfl,rfl⟩:=trodVars_none hV
 have k0:=h0
 have lt0:∀x∈p0,x.block<W.heap.size:=by obtain⟨m,hm⟩:=k0;exact DataW.trod_lt m _ _ _ hm
 obtain⟨n0,ao0,len0,cap0,ls0,rfl,hn0,hlen0,hnet0,hlw0,hreach0,hcap0,hcm0⟩:=open_topo (hval 0 24 v0 rfl rfl) h0 (weights_arg hsz (j:=0) rfl rfl)
 obtain⟨a1,rfl,rfl,rfl,w1⟩:=open_int Try.underlying3 (hval 1 3 v1 rfl rfl) h1
 obtain⟨a2,rfl,rfl,rfl,w2⟩:=open_int Try.underlying3 (hval 2 3 v2 rfl rfl) h2
 obtain⟨a3,rfl,rfl,rfl,w3⟩:=open_int Try.underlying3 (hval 3 3 v3 rfl rfl) h3
 clear hA0 hval0 hsz0
 refine(Rm.topBusy_any n0 ao0 len0 cap0 ls0 a1 a2 a3 W hlen0 hnet0 (by omega) hn0).mono fun e W' ⟨he,bel0⟩=>?_
 subst he
 have bel:Below W.heap.size W W':=bel0
 exact⟨_,rfl,_,_,_,[],_,[],hW',trodAll_mk1 (shut_bool Try.underlying4 _),(trodAll_cons_mk (Below.trod Try.laidOut (by kernel_rfl) (of_decide_eq_true (by kernel_rfl)) k0 bel lt0) (trodAll_cons_mk (shut_int Try.underlying3 w1) (trodAll_cons_mk (shut_int Try.underlying3 w2) (trodAll_cons_mk (shut_int Try.underlying3 w3) trodAll_mk0)))),rfl,bel.frame _,fun h=>by cases h⟩
theorem topBusy_holds:Rows.TopBusySaid:=
 OpenClaim.holds_of_wide 13 Try.f13 rfl rfl rfl rfl rfl rfl rfl ⟨rfl,rfl,rfl,rfl,rfl⟩ rfl rfl rfl rfl rfl (by kernel_rfl) Try.func13 (by kernel_rfl)
  (of_decide_eq_true (by kernel_rfl)) (by unfold Func.isWrapper;first | (rw[if_pos (by decide+kernel)];kernel_rfl) | (rw[if_neg (by decide+kernel)];exact⟨rfl,rfl⟩))
  (fun os started H enc _=>topBusy_lifted os started H enc)
#print axioms topBusy_holds
end Go.Proofs.Ytolclgbpjiokfaa
