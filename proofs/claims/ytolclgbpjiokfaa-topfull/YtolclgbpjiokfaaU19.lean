/- A net that is played, in words: a world, what happens in it, and what comes of it. -/
import Derived.Test.YtolclgbpjiokfaaU18
import Derived.Test.YtolclgbpjiokfaaU17
import Derived.Test.YtolclgbpjiokfaaU08
namespace Go.Proofs.Ytolclgbpjiokfaa.Ct
open Go.RowKit Go.Deep Stw Stp Tb Rul
def Rgt (n:Nat) (x:Nat×Wir.Od):Prop:=x.1<n∧Wir.wrong ⟨x.2.k,1,x.2.v,x.2.rs,x.2.fs⟩=0∧x.2.rs.length≤16∧x.2.fs.length≤12
theorem Rgt.wrong {n:Nat} {x:Nat×Wir.Od} (h:Rgt n x) (h1:1≤x.2.n) (h2:x.2.n≤100000):Wir.wrong x.2=0:=by
 have h3:=h.2.1
 unfold Wir.wrong at h3 ⊢
 simp only at h3
 by_cases hv:x.2.v<1∨1000<x.2.v
 ·rw[if_pos (by omega)] at h3;cases h3
 ·rw[if_neg (by omega)] at h3 ⊢
  exact h3
structure Gd (n:Nat) (p:Pl):Prop where
 v1:1≤p.v
 v2:p.v≤1000
 pl:p.ps.length≤12
 fl:p.fs.length≤12
 gp:GP n p.ps
theorem beg_few {s:Int} {fs:List Stf.Fl}:∀K,(beg s fs K).length≤K
 | 0=>Nat.le_refl _
 | K+1=>by
  have:=beg_few (s:=s) (fs:=fs) K
  unfold beg
  rw[List.length_append]
  split <;> simp <;> omega
theorem beg_lt {s:Int} {fs:List Stf.Fl}:∀{K:Nat} {x:Int},x∈beg s fs K→0≤x∧x<K
 | 0,_,h=>by simp[beg] at h
 | K+1,x,h=>by
  unfold beg at h
  rcases List.mem_append.1 h with h | h
  ·have:=beg_lt h;omega
  ·split at h
   ·rw[List.mem_singleton] at h;omega
   ·simp at h
theorem badF_snoc {f:Int} (hf:f≤11):∀{l:List Int} {last:Int},Wir.badF last l=false→last<f→(∀x∈l,x<f)→Wir.badF last (l++[f])=false
 | [],last,_,h2,_=>by
  show Wir.badF last [f]=false
  unfold Wir.badF
  rw[if_neg (by omega)]
  rfl
 | y::r,last,h1,_,h3=>by
  rw[List.cons_append]
  unfold Wir.badF at h1 ⊢
  split at h1
  ·cases h1
  ·rename_i hc
   rw[if_neg hc]
   exact badF_snoc hf h1 (h3 y (by simp)) (fun x hx=>h3 x (by simp[hx]))
theorem beg_good {s:Int} {fs:List Stf.Fl}:∀K,K≤12→Wir.badF (-1) (beg s fs K)=false
 | 0,_=>rfl
 | K+1,hK=>by
  have ih:=beg_good (s:=s) (fs:=fs) K (by omega)
  unfold beg
  split
  ·exact badF_snoc (by omega) ih (by omega) (fun x hx=>(beg_lt hx).2)
  ·rw[List.append_nil];exact ih
theorem add_right {n s:Nat} {p:Pl} {o:Wir.Od} (hg:Gd n p) (hn:n≤8) (h:addO p s=some o):Wir.wrong ⟨o.k,1,o.v,o.rs,o.fs⟩=0∧o.rs.length≤16∧o.fs.length≤12:=by
 unfold addO at h
 split at h
 ·cases h
 ·cases h
  have hl:=rof_short (v:=p.v) (s:=s) hg.gp p.ps.length (Nat.le_refl _)
  have h1:=hg.v1
  have h2:=hg.v2
  have h3:=hg.pl
  refine⟨?_,by unfold rls;simp only;omega,by simp⟩
  unfold Wir.wrong
  rw[if_neg (by simp only;omega),if_pos rfl,if_neg (by unfold rls;simp only;omega),if_neg]
  rw[Bool.not_eq_true,List.any_eq_false]
  intro r hr
  obtain⟨i,hi,k,hk,_,rfl⟩:=mem_rof.1 (show r∈rof p.v s p.ps p.ps.length from hr)
  have hm:=(hg.gp i hi).2.2 ((p.ps.getD i []).getD (k+1) 0) (get_mem hk)
  simp only[Wir.badR,decide_eq_true_eq]
  omega
theorem stp_right {n s:Nat} {a b:Pl} {o:Wir.Od} (hg:Gd n b) (h:stpO a b s=some o):Wir.wrong ⟨o.k,1,o.v,o.rs,o.fs⟩=0∧o.rs.length≤16∧o.fs.length≤12:=by
 unfold stpO at h
 split at h
 ·cases h
 ·cases h
  have hl:=beg_few (s:=s) (fs:=b.fs) b.fs.length
  have h1:=hg.v1
  have h2:=hg.v2
  have h3:=hg.fl
  refine⟨?_,by simp,by simp only;omega⟩
  unfold Wir.wrong
  rw[if_neg (by simp only;omega),if_neg (by simp),if_pos rfl,if_neg (by simp only;omega),if_neg]
  rw[Bool.not_eq_true]
  exact beg_good _ h3
theorem drp_right {n s:Nat} {p:Pl} {o:Wir.Od} (hg:p=pl0∨Gd n p) (h:drpO p s=some o):Wir.wrong ⟨o.k,1,o.v,o.rs,o.fs⟩=0∧o.rs.length≤16∧o.fs.length≤12:=by
 unfold drpO at h
 split at h
 ·cases h
 ·rename_i hr
  cases h
  rcases hg with rfl | hg
  ·exact absurd rfl hr
  ·have h1:=hg.v1
   have h2:=hg.v2
   refine⟨?_,by simp,by simp⟩
   unfold Wir.wrong
   rw[if_neg (by simp only;omega),if_neg (by simp),if_neg (by simp),if_pos rfl]
structure Asc (lo:Int) (l:List (Nat×Wir.Od)):Prop where
 asc:(l.map (fun x=>x.2.n)).Pairwise (· <·)
 rng:∀x∈l,lo<x.2.n∧x.2.n≤lo+l.length
theorem Asc.nil (lo:Int):Asc lo []:=⟨List.Pairwise.nil,by simp⟩
theorem Asc.app {lo:Int} {l m:List (Nat×Wir.Od)} (h:Asc lo l) (k:Asc (lo+l.length) m):Asc lo (l++m):=by
 refine⟨?_,fun x hx=>?_⟩
 ·rw[List.map_append]
  refine List.pairwise_append.2 ⟨h.asc,k.asc,fun a ha b hb=>?_⟩
  obtain⟨x,hx,rfl⟩:=List.mem_map.1 ha
  obtain⟨y,hy,rfl⟩:=List.mem_map.1 hb
  have:=(h.rng x hx).2
  have:=(k.rng y hy).1
  omega
 ·rw[List.length_append]
  rcases List.mem_append.1 hx with hx | hx
  ·have:=h.rng x hx;omega
  ·have:=k.rng x hx;omega
def Tld (g g':Cg):Prop:=∃L,g'.out=g.out++L∧g'.c.num=g.c.num+L.length∧Asc g.c.num L
theorem Tld.refl (g:Cg):Tld g g:=⟨[],by simp,by simp,Asc.nil _⟩
theorem told_tld {ord:Nat→Option Wir.Od} {g:Cg} (h0:0≤g.c.num) (h1:g.c.num≤90000):∀m,m≤8→∃L:List (Nat×Wir.Od),L.length≤m∧(told m ord g).out=g.out++L∧(told m ord g).c.num=g.c.num+L.length∧Asc g.c.num L
 | 0,_=>⟨[],Nat.le_refl _,by simp[told,tel],by simp[told,tel],Asc.nil _⟩
 | m+1,hm=>by
  obtain⟨L,l1,l2,l3,l4⟩:=told_tld (ord:=ord) (g:=g) h0 h1 m (by omega)
  cases ho:ord m with
  | none=>rw[told_none ho];exact⟨L,by omega,l2,l3,l4⟩
  | some o=>
   rw[told_some ho]
   have hn:nx (told m ord g).c.num=g.c.num+(L.length+1:Nat):=by unfold nx;rw[l3,IntKind.wrap_i64];omega
   refine⟨L++[(m,⟨o.k,nx (told m ord g).c.num,o.v,o.rs,o.fs⟩)],by simp;omega,?_,?_,l4.app ⟨by simp,fun x hx=>?_⟩⟩
   ·simp only[l2,List.append_assoc]
   ·simp only[hn,List.length_append,List.length_cons,List.length_nil]
   ·rw[List.mem_singleton] at hx
    subst hx
    simp only[hn,List.length_cons,List.length_nil]
    omega
theorem goS_tld {n:Nat} {g:Cg} (hn:n≤8) (h0:0≤g.c.num) (h1:g.c.num≤90000):Tld g (goS n g):=by
 rcases goS_cases n g with⟨_,e⟩ | ⟨_,_,e⟩ | ⟨_,_,e⟩ | ⟨_,_,e⟩ | ⟨_,_,_,_,e⟩
 ·rw[e];exact Tld.refl g
 ·rw[e]
  obtain⟨L,_,l2,l3,l4⟩:=told_tld (ord:=stpO g.c.now g.c.nxt) (g:=setSt g 2) h0 h1 n hn
  unfold calmS
  split
  ·exact⟨L,l2,l3,l4⟩
  ·exact⟨L,l2,l3,l4⟩
 ·rw[e];exact⟨[],by simp[setSt],by simp[setSt],Asc.nil _⟩
 ·rw[e];exact⟨[],by simp,by simp,Asc.nil _⟩
 ·rw[e];exact Tld.refl g
theorem goS_mem {n:Nat} {g:Cg} {x:Nat×Wir.Od} (h:x∈(goS n g).out):x∈g.out∨∃o,x.1<n∧stpO g.c.now g.c.nxt x.1=some o∧x.2.k=o.k∧x.2.v=o.v∧x.2.rs=o.rs∧x.2.fs=o.fs:=by
 rcases goS_cases n g with⟨_,e⟩ | ⟨_,_,e⟩ | ⟨_,_,e⟩ | ⟨_,_,e⟩ | ⟨_,_,_,_,e⟩
 ·rw[e] at h;exact Or.inl h
 ·rw[e] at h
  unfold calmS at h
  split at h
  ·exact told_mem (g:=setSt g 2) h
  ·exact told_mem (g:=setSt g 2) h
 ·rw[e] at h;exact Or.inl h
 ·rw[e] at h;exact Or.inl h
 ·rw[e] at h;exact Or.inl h
theorem rgt_of {n:Nat} {x:Nat×Wir.Od} {o:Wir.Od} (h1:x.1<n) (hk:x.2.k=o.k) (hv:x.2.v=o.v) (hr:x.2.rs=o.rs) (hf:x.2.fs=o.fs) (h:Wir.wrong ⟨o.k,1,o.v,o.rs,o.fs⟩=0∧o.rs.length≤16∧o.fs.length≤12):Rgt n x:=⟨h1,by rw[hk,hv,hr,hf];exact h⟩
structure Told (n:Nat) (lo hi:Int) (l:List (Nat×Wir.Od)):Prop where
 hi:hi=lo+l.length
 asc:Asc lo l
 ok:∀x∈l,Rgt n x
theorem AskOk.told {c:Co} {n:Nat} {ls:List Lk} {fs:List Stf.Fl} (h:AskOk c n ls fs) (h0:0≤c.num) (h1:c.num≤80000):Told n c.num (askS c n ls fs).1.c.num (askS c n ls fs).1.out:=by
 have hg:=plan_good h.hp
 have hn:n≤8:=by have:=hg.n8;omega
 have hG:Gd n ⟨nx c.now.v,fs,plnP n ls fs⟩:=⟨hg.v1,hg.v2,by show(plnP n ls fs).length≤12;rw[hg.len];exact hg.few,hg.few,hg.gp⟩
 rw[h.eq,show(n:Int).toNat=n from rfl]
 obtain⟨L,l1,l2,l3,l4⟩:=told_tld (ord:=addO ⟨nx c.now.v,fs,plnP n ls fs⟩) (g:=⟨⟨1,c.now,⟨nx c.now.v,fs,plnP n ls fs⟩,c.num,c.wts⟩,[]⟩) h0 (by simp only;omega) n hn
 have hmem:∀x∈(Ct.told n (addO ⟨nx c.now.v,fs,plnP n ls fs⟩) ⟨⟨1,c.now,⟨nx c.now.v,fs,plnP n ls fs⟩,c.num,c.wts⟩,[]⟩).out,Rgt n x:=fun x hx=>by
  rcases told_mem hx with hx | ⟨o,k1,k2,k3,k4,k5,k6⟩
  ·simp at hx
  ·exact rgt_of k1 k3 k4 k5 k6 (add_right hG hn k2)
 have hnow:(Ct.told n (addO ⟨nx c.now.v,fs,plnP n ls fs⟩) ⟨⟨1,c.now,⟨nx c.now.v,fs,plnP n ls fs⟩,c.num,c.wts⟩,[]⟩).c.nxt=⟨nx c.now.v,fs,plnP n ls fs⟩:=rfl
 generalize Ct.told n (addO ⟨nx c.now.v,fs,plnP n ls fs⟩) ⟨⟨1,c.now,⟨nx c.now.v,fs,plnP n ls fs⟩,c.num,c.wts⟩,[]⟩=g at l2 l3 hmem hnow ⊢
 simp only[List.nil_append] at l2 l3 l4
 obtain⟨M,m1,m2,m3⟩:=goS_tld (n:=n) (g:=g) hn (by omega) (by omega)
 rw[l3] at m3
 refine⟨?_,?_,fun x hx=>?_⟩
 ·show(goS n g).c.num=_+((goS n g).out.length:Int)
  rw[m2,m1,l3,l2,List.length_append];omega
 ·show Asc c.num (goS n g).out
  rw[m1,l2];exact l4.app m3
 ·rcases goS_mem (show x∈(goS n g).out from hx) with hx | ⟨o,k1,k2,k3,k4,k5,k6⟩
  ·exact hmem x hx
  ·rw[hnow] at k2
   exact rgt_of k1 k3 k4 k5 k6 (stp_right hG k2)
theorem back_told {c:Co} {n:Nat} {ls:List Lk} {k:Int} (hw:(wrong n ls).1=0) (hn:n≤8) (hk:k∈c.wts) (hg:c.st=1→Gd n c.nxt) (h0:0≤c.num) (h1:c.num≤90000):Told n c.num (backS c n ls k).1.c.num (backS c n ls k).1.out:=by
 rw[back_in hw hk]
 have hx:∀x∈(goS n ⟨⟨c.st,c.now,c.nxt,c.num,c.wts.erase k⟩,[]⟩).out,Rgt n x:=fun x hx=>by
  rcases goS_cases n ⟨⟨c.st,c.now,c.nxt,c.num,c.wts.erase k⟩,[]⟩ with⟨_,e⟩ | ⟨_,h1,e⟩ | ⟨_,_,e⟩ | ⟨_,_,e⟩ | ⟨_,_,_,_,e⟩
  ·rw[e] at hx;simp at hx
  ·rcases goS_mem hx with hx | ⟨o,k1,k2,k3,k4,k5,k6⟩
   ·simp at hx
   ·exact rgt_of k1 k3 k4 k5 k6 (stp_right (hg h1) k2)
  ·rw[e] at hx;simp[setSt] at hx
  ·rw[e] at hx;simp at hx
  ·rw[e] at hx;simp at hx
 obtain⟨M,m1,m2,m3⟩:=goS_tld (n:=n) (g:=⟨⟨c.st,c.now,c.nxt,c.num,c.wts.erase k⟩,[]⟩) hn h0 h1
 simp only[List.nil_append] at m1 m2 m3
 refine⟨?_,?_,hx⟩
 ·show(goS n _).c.num=_+((goS n _).out.length:Int)
  rw[m2,m1]
 ·show Asc c.num (goS n _).out
  rw[m1];exact m3
theorem drop_told {c:Co} {n:Nat} {ls:List Lk} (hw:(wrong n ls).1=0) (hn:n≤8) (hs:c.st=3) (hg:c.now=pl0∨Gd n c.now) (h0:0≤c.num) (h1:c.num≤80000):Told n c.num (dropS c n ls).1.c.num (dropS c n ls).1.out:=by
 rw[drop_calm hw hs]
 obtain⟨L,l1,l2,l3,l4⟩:=told_tld (ord:=drpO c.now) (g:=⟨⟨4,c.now,c.nxt,c.num,c.wts⟩,[]⟩) h0 (by simp only;omega) n hn
 have hmem:∀x∈(Ct.told n (drpO c.now) ⟨⟨4,c.now,c.nxt,c.num,c.wts⟩,[]⟩).out,Rgt n x:=fun x hx=>by
  rcases told_mem hx with hx | ⟨o,k1,k2,k3,k4,k5,k6⟩
  ·simp at hx
  ·exact rgt_of k1 k3 k4 k5 k6 (drp_right hg k2)
 have hst:(Ct.told n (drpO c.now) ⟨⟨4,c.now,c.nxt,c.num,c.wts⟩,[]⟩).c.st=4:=rfl
 generalize Ct.told n (drpO c.now) ⟨⟨4,c.now,c.nxt,c.num,c.wts⟩,[]⟩=g at l2 l3 hmem hst ⊢
 simp only[List.nil_append] at l2 l3 l4
 have hgo:(goS n g).out=g.out∧(goS n g).c.num=g.c.num:=by
  rcases goS_cases n g with⟨_,e⟩ | ⟨_,h1,e⟩ | ⟨_,h2,e⟩ | ⟨_,_,e⟩ | ⟨_,_,_,_,e⟩
  ·rw[e];exact⟨rfl,rfl⟩
  ·omega
  ·omega
  ·rw[e];exact⟨rfl,rfl⟩
  ·rw[e];exact⟨rfl,rfl⟩
 refine⟨?_,?_,fun x hx=>?_⟩
 ·show(goS n g).c.num=_+((goS n g).out.length:Int)
  rw[hgo.1,hgo.2,l3,l2]
 ·show Asc c.num (goS n g).out
  rw[hgo.1,l2];exact l4
 ·have hx':x∈(goS n g).out:=hx
  rw[hgo.1] at hx'
  exact hmem x hx'
theorem drop_few {c:Co} {n:Nat} {ls:List Lk} (hw:(wrong n ls).1=0) (hn:n≤8) (hs:c.st=3):(dropS c n ls).1.out.length≤16:=by
 rw[drop_calm hw hs]
 have h1:=(told_len (ord:=drpO c.now) (g:=⟨⟨4,c.now,c.nxt,c.num,c.wts⟩,[]⟩) n).2
 simp only[List.length_nil] at h1
 exact Nat.le_trans (goS_few n _) (by omega)
structure AllTold (n:Nat) (c c3:Co) (out drops:List (Nat×Wir.Od)) (outs outs3:List (List (Nat×Wir.Od))):Prop where
 ok:∀l∈out::drops::(outs++outs3),∀x∈l,Rgt n x
 nd:((out::drops::(outs++outs3)).flatten.map (fun x=>x.2.n)).Nodup
 rng:∀x∈(out::drops::(outs++outs3)).flatten,c.num<x.2.n∧x.2.n≤c3.num
 le:c.num≤c3.num
 few:c3.num≤c.num+4000
 tot:c3.num=c.num+((out::drops::(outs++outs3)).flatten.length:Nat)
def nums (l:List (Nat×Wir.Od)):List Int:=l.map (fun x=>x.2.n)
theorem flat_take {LL:List (List (Nat×Wir.Od))} {j:Nat} (hj:j<LL.length):nums (LL.take (j+1)).flatten=nums (LL.take j).flatten++nums (LL.getD j []):=by
 unfold nums
 rw[List.take_succ_eq_append_getElem hj,List.flatten_append,List.map_append]
 simp[List.getD_eq_getElem?_getD,hj]
theorem flat_new {LL:List (List (Nat×Wir.Od))} {K:List Int} {lo:Int} {j:Nat} (hj:j<LL.length) (hn:(LL.flatten.map (fun x=>x.2.n)).Nodup) (hr:∀x∈LL.flatten,lo<x.2.n) (hK:∀x∈K,x≤lo):(nums (LL.getD j [])).Nodup∧∀x∈LL.getD j [],x.2.n∉K++nums (LL.take j).flatten:=by
 have e:=flat_take hj
 have hs:(nums (LL.take (j+1)).flatten).Nodup:=by
  have h1:LL.flatten=(LL.take (j+1)).flatten++(LL.drop (j+1)).flatten:=by rw[←List.flatten_append,List.take_append_drop]
  rw[h1,List.map_append] at hn
  exact(List.nodup_append.1 hn).1
 rw[e] at hs
 obtain⟨h1,h2,h3⟩:=List.nodup_append.1 hs
 refine⟨h2,fun x hx h=>?_⟩
 have hm:LL.getD j []∈LL:=by simp[List.getD_eq_getElem?_getD,hj]
 rcases List.mem_append.1 h with h | h
 ·have:=hK _ h
  have:=hr x (List.mem_flatten.2 ⟨_,hm,hx⟩)
  omega
 ·exact h3 _ h _ (List.mem_map.2 ⟨x,hx,rfl⟩) rfl
end Go.Proofs.Ytolclgbpjiokfaa.Ct
namespace Agt
open Rul
structure Sw where
 rs:List Ru
 st:List (Int×Int)
def sw0:Sw:=⟨[],[]⟩
def badS (x:Int×Int):Bool:=decide (x.1<0∨11<x.1∨x.2<1∨1000<x.2)
def wst:Option Int→List (Int×Int)→Int
 | _,[]=>0
 | p,x::r=>if badS x=true then 3 else if p.any (fun q=>decide (x.1≤q))=true then 2 else wst (some x.1) r
def wrongS (s:Sw):Int:=if(Rul.wrong s.rs).1≠0 then(Rul.wrong s.rs).1 else wst none s.st
def stamps (v:Int) (fs:List Int):List (Int×Int):=fs.map (fun f=>(f,v))
def doS (s:Sw) (o:Wir.Od):Sw×Int:=
 if wrongS s≠0 then(sw0,wrongS s)
 else if Wir.wrong o≠0 then(sw0,Wir.wrong o)
 else if o.k=1 then(if(add s.rs o.rs).2≠0 then(sw0,(add s.rs o.rs).2) else(⟨(add s.rs o.rs).1,s.st⟩,0))
 else if o.k=3 then(⟨drp s.rs o.v,s.st⟩,0)
 else(⟨s.rs,stamps o.v o.fs⟩,0)
def ver:List (Int×Int)→Int→Int
 | [],_=>0
 | x::r,f=>if x.1=f then x.2 else ver r f
theorem wst_stamps {v:Int} (h1:1≤v) (h2:v≤1000):∀{fs:List Int} {last:Int} {p:Option Int}, -1≤last→(∀q,p=some q→q≤last)→Wir.badF last fs=false→wst p (stamps v fs)=0
 | [],_,_,_,_,_=>rfl
 | f::r,last,p,hl,hp,h=>by
  rw[Wir.badF] at h
  by_cases hx:f≤last∨11<f
  ·rw[if_pos hx] at h;cases h
  ·rw[if_neg hx] at h
   show wst p ((f,v)::stamps v r)=0
   have hb:badS (f,v)=false:=decide_eq_false (by simp only;omega)
   have hq:p.any (fun q=>decide (f≤q))=false:=by
    cases p with
    | none=>rfl
    | some q=>have:=hp q rfl;simp only[Option.any_some];exact decide_eq_false (by omega)
   rw[wst,hb,hq]
   simp only[Bool.false_eq_true,if_false]
   exact wst_stamps h1 h2 (last:=f) (by omega) (fun q hq=>by cases hq;exact Int.le_refl _) h
theorem wrongS_zero {s:Sw} (h:wrongS s=0):tab s.rs∧wst none s.st=0:=by
 unfold wrongS at h
 by_cases h1:(Rul.wrong s.rs).1=0
 ·rw[if_neg (by simpa using h1)] at h;exact⟨h1,h⟩
 ·rw[if_pos h1] at h;exact absurd h h1
theorem wrongS_of {s:Sw} (h1:tab s.rs) (h2:wst none s.st=0):wrongS s=0:=by
 unfold wrongS
 rw[if_neg (by have:(Rul.wrong s.rs).1=0:=h1;simpa using this)];exact h2
theorem do_cases {s:Sw} {o:Wir.Od} (h:(doS s o).2=0):wrongS s=0∧Wir.wrong o=0∧((o.k=1∧(add s.rs o.rs).2=0∧doS s o=(⟨(add s.rs o.rs).1,s.st⟩,0))∨(o.k=3∧doS s o=(⟨drp s.rs o.v,s.st⟩,0))∨(o.k=2∧doS s o=(⟨s.rs,stamps o.v o.fs⟩,0))):=by
 by_cases h1:wrongS s=0
 ·by_cases h2:Wir.wrong o=0
  ·refine⟨h1,h2,?_⟩
   have e:doS s o=if o.k=1 then(if(add s.rs o.rs).2≠0 then(sw0,(add s.rs o.rs).2) else(⟨(add s.rs o.rs).1,s.st⟩,0)) else if o.k=3 then(⟨drp s.rs o.v,s.st⟩,0) else(⟨s.rs,stamps o.v o.fs⟩,0):=by
    unfold doS;rw[if_neg (by simpa using h1),if_neg (by simpa using h2)]
   obtain⟨_,hk⟩:=Wir.right_cases h2
   rcases hk with⟨hk,_⟩ | ⟨hk,_⟩ | hk
   ·rw[if_pos hk] at e
    by_cases h3:(add s.rs o.rs).2=0
    ·rw[if_neg (by simpa using h3)] at e;exact Or.inl ⟨hk,h3,e⟩
    ·rw[if_pos h3] at e;rw[e] at h;exact absurd h h3
   ·rw[if_neg (by omega),if_neg (by omega)] at e;exact Or.inr (Or.inr ⟨hk,e⟩)
   ·rw[if_neg (by omega),if_pos hk] at e;exact Or.inr (Or.inl ⟨hk,e⟩)
  ·exfalso;unfold doS at h;rw[if_neg (by simpa using h1),if_pos h2] at h;exact h2 h
 ·exfalso;unfold doS at h;rw[if_pos h1] at h;exact h1 h
theorem do_fail {s:Sw} {o:Wir.Od} (h:(doS s o).2≠0):(doS s o).1=sw0:=by
 unfold doS at h ⊢
 split
 ·rfl
 ·rename_i h1
  rw[if_neg h1] at h
  split
  ·rfl
  ·rename_i h2
   rw[if_neg h2] at h
   split
   ·rename_i h3
    rw[if_pos h3] at h
    split
    ·rfl
    ·rename_i h4;rw[if_neg h4] at h;exact absurd rfl h
   ·rename_i h3
    rw[if_neg h3] at h
    split
    ·rename_i h4;rw[if_pos h4] at h;exact absurd rfl h
    ·rename_i h4;rw[if_neg h4] at h;exact absurd rfl h
theorem do_add {s:Sw} {o:Wir.Od} (h1:wrongS s=0) (h2:Wir.wrong o=0) (hk:o.k=1) (h3:(add s.rs o.rs).2=0):doS s o=(⟨(add s.rs o.rs).1,s.st⟩,0):=by
 unfold doS;rw[if_neg (by simpa using h1),if_neg (by simpa using h2),if_pos hk,if_neg (by simpa using h3)]
theorem do_drop {s:Sw} {o:Wir.Od} (h1:wrongS s=0) (h2:Wir.wrong o=0) (hk:o.k=3):doS s o=(⟨drp s.rs o.v,s.st⟩,0):=by
 unfold doS;rw[if_neg (by simpa using h1),if_neg (by simpa using h2),if_neg (by omega),if_pos hk]
theorem do_stamp {s:Sw} {o:Wir.Od} (h1:wrongS s=0) (h2:Wir.wrong o=0) (hk:o.k=2):doS s o=(⟨s.rs,stamps o.v o.fs⟩,0):=by
 unfold doS;rw[if_neg (by simpa using h1),if_neg (by simpa using h2),if_neg (by omega),if_neg (by omega)]
theorem apart {s:Sw} {o:Wir.Od} (h:(doS s o).2=0):wrongS (doS s o).1=0∧(o.k=2→(doS s o).1.rs=s.rs)∧(o.k≠2→(doS s o).1.st=s.st):=by
 obtain⟨h1,h2,hk⟩:=do_cases h
 obtain⟨t1,t2⟩:=wrongS_zero h1
 rcases hk with⟨hk,h3,e⟩ | ⟨hk,e⟩ | ⟨hk,e⟩
 ·rw[e];exact⟨wrongS_of (add_zero h3).2.1 t2,fun h=>by omega,fun _=>rfl⟩
 ·rw[e];exact⟨wrongS_of (drp_tab t1) t2,fun h=>by omega,fun _=>rfl⟩
 ·rw[e]
  refine⟨wrongS_of t1 ?_,fun _=>rfl,fun h=>absurd hk h⟩
  obtain⟨⟨_,_,v1,v2⟩,hc⟩:=Wir.right_cases h2
  rcases hc with⟨hc,_⟩ | ⟨_,_,hb⟩ | hc
  ·omega
  ·exact wst_stamps v1 v2 (last:= -1) (Int.le_refl _) (fun q hq=>by cases hq) hb
  ·omega
theorem drp_drp (l:List Ru) (v:Int):drp (drp l v) v=drp l v:=by
 unfold drp
 rw[List.filter_filter]
 congr 1
 funext r
 simp
theorem twice {s:Sw} {o:Wir.Od} (h:(doS s o).2=0):doS (doS s o).1 o=((doS s o).1,0):=by
 obtain⟨h1,h2,hk⟩:=do_cases h
 obtain⟨hw,_,_⟩:=apart h
 rcases hk with⟨hk,h3,e⟩ | ⟨hk,e⟩ | ⟨hk,e⟩
 ·rw[e] at hw ⊢
  have ha:=add_again h3
  rw[do_add hw h2 hk (by show(add (add s.rs o.rs).1 o.rs).2=0;rw[ha])]
  show((⟨(add (add s.rs o.rs).1 o.rs).1,s.st⟩:Sw),(0:Int))=_
  rw[ha]
 ·rw[e] at hw ⊢
  rw[do_drop hw h2 hk]
  show((⟨drp (drp s.rs o.v) o.v,s.st⟩:Sw),(0:Int))=_
  rw[drp_drp]
 ·rw[e] at hw ⊢
  rw[do_stamp hw h2 hk]
theorem vers {o:Wir.Od} (h:Wir.wrong o=0) (hk:o.k=1):∀r∈o.rs,r.1=o.v:=by
 obtain⟨_,hc⟩:=Wir.right_cases h
 rcases hc with⟨_,_,hb⟩ | ⟨hc,_⟩ | hc
 ·intro r hr
  have h1:Wir.badR o.v r=false:=by
   cases hc:Wir.badR o.v r with
   | false=>rfl
   | true=>have:=List.any_eq_true.2 ⟨r,hr,hc⟩;rw[hb] at this;cases this
  have h2:¬(r.1≠o.v∨r.2.1<0∨11<r.2.1∨r.2.2<0∨7<r.2.2):=of_decide_eq_false h1
  omega
 ·omega
 ·omega
theorem drp_ris {l:List Ru} (v:Int) (h:Ris l):Ris (drp l v):=List.Pairwise.filter _ h
theorem tab_ris {l:List Ru} (h:tab l):Ris l:=(tab_iff.1 h).2.2
theorem mem_add {l m:List Ru} (h:(add l m).2=0) {r:Ru}:r∈(add l m).1↔r∈l∨r∈m:=by rw[(add_zero h).2.2];exact add_mem
theorem gone {s:Sw} {o d:Wir.Od} (hd:Wir.wrong d=0) (hk3:d.k=3) (hdv:d.v=o.v) (hk:o.k=1) (h:(doS s o).2=0):(doS (doS s o).1 d).2=0∧(doS (doS s o).1 d).1.rs=drp s.rs o.v:=by
 obtain⟨h1,h2,hc⟩:=do_cases h
 obtain⟨hw,_,_⟩:=apart h
 obtain⟨t1,_⟩:=wrongS_zero h1
 rcases hc with⟨_,h3,e⟩ | ⟨hc,_⟩ | ⟨hc,_⟩
 ·rw[e] at hw ⊢
  rw[do_drop hw hd hk3]
  refine⟨rfl,?_⟩
  show drp (add s.rs o.rs).1 d.v=drp s.rs o.v
  rw[hdv]
  refine ris_eq (drp_ris _ (tab_ris (add_zero h3).2.1)) (drp_ris _ (tab_ris t1)) (fun r=>?_)
  rw[drp_mem,drp_mem,mem_add h3]
  constructor
  ·rintro⟨hr | hr,hv⟩
   ·exact⟨hr,hv⟩
   ·exact absurd (vers h2 hk r hr) hv
  ·rintro⟨hr,hv⟩
   exact⟨Or.inl hr,hv⟩
 ·omega
 ·omega
theorem order {s:Sw} {a b:Wir.Od} (ha2:a.k≠2) (hb2:b.k≠2) (hab:a.v≠b.v) (ha:(doS s a).2=0) (hb:(doS s b).2=0) (hx:(doS (doS s a).1 b).2=0) (hy:(doS (doS s b).1 a).2=0):(doS (doS s a).1 b).1=(doS (doS s b).1 a).1:=by
 obtain⟨h1,wa,ca⟩:=do_cases ha
 obtain⟨_,wb,cb⟩:=do_cases hb
 obtain⟨_,_,cx⟩:=do_cases hx
 obtain⟨_,_,cy⟩:=do_cases hy
 obtain⟨t1,_⟩:=wrongS_zero h1
 rcases ca with⟨ka,za,ea⟩ | ⟨ka,ea⟩ | ⟨ka,_⟩
 ·rcases cb with⟨kb,zb,eb⟩ | ⟨kb,eb⟩ | ⟨kb,_⟩
  ·rw[ea] at cx ⊢
   rw[eb] at cy ⊢
   rcases cx with⟨_,zx,ex⟩ | ⟨k,_⟩ | ⟨k,_⟩
   ·rcases cy with⟨_,zy,ey⟩ | ⟨k,_⟩ | ⟨k,_⟩
    ·rw[ex,ey]
     show(⟨_,s.st⟩:Sw)=⟨_,s.st⟩
     congr 1
     refine ris_eq (tab_ris (add_zero zx).2.1) (tab_ris (add_zero zy).2.1) (fun r=>?_)
     rw[mem_add zx,mem_add zy,mem_add za,mem_add zb]
     constructor
     ·rintro((h | h) | h)
      ·exact Or.inl (Or.inl h)
      ·exact Or.inr h
      ·exact Or.inl (Or.inr h)
     ·rintro((h | h) | h)
      ·exact Or.inl (Or.inl h)
      ·exact Or.inr h
      ·exact Or.inl (Or.inr h)
    ·omega
    ·omega
   ·omega
   ·omega
  ·rw[ea] at cx ⊢
   rw[eb] at cy ⊢
   rcases cx with⟨k,_⟩ | ⟨_,ex⟩ | ⟨k,_⟩
   ·omega
   ·rcases cy with⟨_,zy,ey⟩ | ⟨k,_⟩ | ⟨k,_⟩
    ·rw[ex,ey]
     show(⟨_,s.st⟩:Sw)=⟨_,s.st⟩
     congr 1
     refine ris_eq (drp_ris _ (tab_ris (add_zero za).2.1)) (tab_ris (add_zero zy).2.1) (fun r=>?_)
     rw[drp_mem,mem_add zy,mem_add za,drp_mem]
     constructor
     ·rintro⟨h | h,hv⟩
      ·exact Or.inl ⟨h,hv⟩
      ·exact Or.inr h
     ·rintro(⟨h,hv⟩ | h)
      ·exact⟨Or.inl h,hv⟩
      ·exact⟨Or.inr h,by rw[vers wa ka r h];exact hab⟩
    ·omega
    ·omega
   ·omega
  ·exact absurd kb hb2
 ·rcases cb with⟨kb,zb,eb⟩ | ⟨kb,eb⟩ | ⟨kb,_⟩
  ·rw[ea] at cx ⊢
   rw[eb] at cy ⊢
   rcases cx with⟨_,zx,ex⟩ | ⟨k,_⟩ | ⟨k,_⟩
   ·rcases cy with⟨k,_⟩ | ⟨_,ey⟩ | ⟨k,_⟩
    ·omega
    ·rw[ex,ey]
     show(⟨_,s.st⟩:Sw)=⟨_,s.st⟩
     congr 1
     refine ris_eq (tab_ris (add_zero zx).2.1) (drp_ris _ (tab_ris (add_zero zb).2.1)) (fun r=>?_)
     rw[drp_mem,mem_add zx,mem_add zb,drp_mem]
     constructor
     ·rintro(⟨h,hv⟩ | h)
      ·exact⟨Or.inl h,hv⟩
      ·exact⟨Or.inr h,by rw[vers wb kb r h];exact fun e=>hab e.symm⟩
     ·rintro⟨h | h,hv⟩
      ·exact Or.inl ⟨h,hv⟩
      ·exact Or.inr h
    ·omega
   ·omega
   ·omega
  ·rw[ea] at cx ⊢
   rw[eb] at cy ⊢
   rcases cx with⟨k,_⟩ | ⟨_,ex⟩ | ⟨k,_⟩
   ·omega
   ·rcases cy with⟨k,_⟩ | ⟨_,ey⟩ | ⟨k,_⟩
    ·omega
    ·rw[ex,ey]
     show(⟨_,s.st⟩:Sw)=⟨_,s.st⟩
     congr 1
     refine ris_eq (drp_ris _ (drp_ris _ (tab_ris t1))) (drp_ris _ (drp_ris _ (tab_ris t1))) (fun r=>?_)
     rw[drp_mem,drp_mem,drp_mem,drp_mem]
     constructor
     ·rintro⟨⟨h,h1⟩,h2⟩;exact⟨⟨h,h2⟩,h1⟩
     ·rintro⟨⟨h,h1⟩,h2⟩;exact⟨⟨h,h2⟩,h1⟩
    ·omega
   ·omega
  ·exact absurd kb hb2
 ·exact absurd ka ha2
end Agt
namespace Go.Proofs.Ytolclgbpjiokfaa.Rm
open Go.RowKit Go.Deep Stw Stp Tb Rul Ct
structure Pk where
 fl:Int
 v:Int
 tr:List Int
 dn:Bool
def pk0:Pk:=⟨0,0,[],false⟩
structure Wd where
 co:Co
 sw:List Agt.Sw
 od:List (List Wir.Od)
 bk:List (List Int)
 pk:List Pk
 pn:List Pl
def wd0:Wd:=⟨co0,[],[],[],[],[]⟩
def wdN (n:Nat):Wd:=⟨co0,List.replicate n Agt.sw0,List.replicate n [],List.replicate n [],[],[]⟩
structure Dd where
 k:Int
 n:Int
 fs:List Stf.Fl
def dd0:Dd:=⟨0,0,[]⟩
def putO (od:List (List Wir.Od)) (out:List (Nat×Wir.Od)):List (List Wir.Od):=out.foldl (fun o x=>o.set x.1 (o.getD x.1 []++[x.2])) od
def hapA (n:Nat) (ls:List Lk) (W:Wd) (fs:List Stf.Fl):Wd×Int:=
 if(askS W.co n ls fs).2≠0 then(W,(askS W.co n ls fs).2)
 else(⟨(askS W.co n ls fs).1.c,W.sw,putO W.od (askS W.co n ls fs).1.out,W.bk,W.pk,W.pn++[(askS W.co n ls fs).1.c.nxt]⟩,0)
def hapD (n:Nat) (ls:List Lk) (W:Wd):Wd×Int:=
 if(dropS W.co n ls).2≠0 then(W,(dropS W.co n ls).2)
 else(⟨(dropS W.co n ls).1.c,W.sw,putO W.od (dropS W.co n ls).1.out,W.bk,W.pk,W.pn⟩,0)
def hapO (n:Nat) (W:Wd) (i:Int):Wd×Int:=
 if ¬(0≤i∧i<n) then(W,6)
 else match W.od.getD i.toNat [] with
  | []=>(W,6)
  | o::r=>if(Agt.doS (W.sw.getD i.toNat Agt.sw0) o).2≠0 then(W,(Agt.doS (W.sw.getD i.toNat Agt.sw0) o).2)
   else(⟨W.co,W.sw.set i.toNat (Agt.doS (W.sw.getD i.toNat Agt.sw0) o).1,W.od.set i.toNat r,W.bk.set i.toNat (W.bk.getD i.toNat []++[o.n]),W.pk,W.pn⟩,0)
def hapK (n:Nat) (ls:List Lk) (W:Wd) (i:Int):Wd×Int:=
 if ¬(0≤i∧i<n) then(W,6)
 else match W.bk.getD i.toNat [] with
  | []=>(W,6)
  | k::r=>if(backS W.co n ls k).2≠0 then(W,(backS W.co n ls k).2)
   else(⟨(backS W.co n ls k).1.c,W.sw,putO W.od (backS W.co n ls k).1.out,W.bk.set i.toNat r,W.pk,W.pn⟩,0)
def sat (f:Int):Nat→List Agt.Sw→Option (Nat×Int)
 | _,[]=>none
 | s,x::r=>if Agt.ver x.st f≠0 then some (s,Agt.ver x.st f) else sat f (s+1) r
def frm (c:Co) (f:Int):Option Int:=
 if 0≤f∧f<c.nxt.fs.length then some (c.nxt.fs.getD f.toNat Fw.f0).fr
 else if 0≤f∧f<c.now.fs.length then some (c.now.fs.getD f.toNat Fw.f0).fr
 else none
def newP (sw:List Agt.Sw) (f a:Int):Pk:=match sat f 0 sw with
 | some x=>⟨f,x.2,[(x.1:Int)],false⟩
 | none=>⟨f,0,[a],true⟩
def hapB (W:Wd) (f:Int):Wd×Int:=
 if 40≤W.pk.length then(W,5)
 else match frm W.co f with
  | none=>(W,6)
  | some a=>(⟨W.co,W.sw,W.od,W.bk,W.pk++[newP W.sw f a],W.pn⟩,0)
def atP (p:Pk):Int:=p.tr.getD (p.tr.length - 1) 0
def movP (sw:List Agt.Sw) (p:Pk):Pk:=
 if(Rul.nxt p.v p.fl (sw.getD (atP p).toNat Agt.sw0).rs).2=true then⟨p.fl,p.v,p.tr++[(Rul.nxt p.v p.fl (sw.getD (atP p).toNat Agt.sw0).rs).1],p.dn⟩
 else⟨p.fl,p.v,p.tr,true⟩
def hapM (W:Wd) (i:Int):Wd×Int:=
 if ¬(0≤i∧i<W.pk.length) then(W,6)
 else if(W.pk.getD i.toNat pk0).dn=true then(W,6)
 else(⟨W.co,W.sw,W.od,W.bk,W.pk.set i.toNat (movP W.sw (W.pk.getD i.toNat pk0)),W.pn⟩,0)
def hap (n:Nat) (ls:List Lk) (W:Wd) (d:Dd):Wd×Int:=
 if d.k=1 then hapA n ls W d.fs
 else if d.k=2 then hapO n W d.n
 else if d.k=3 then hapK n ls W d.n
 else if d.k=4 then hapB W d.n
 else if d.k=5 then hapM W d.n
 else if d.k=6 then hapD n ls W
 else(W,1)
def stepR (n:Nat) (ls:List Lk) (q:Wd×List Int) (d:Dd):Wd×List Int:=((hap n ls q.1 d).1,q.2++[(hap n ls q.1 d).2])
def runR (n:Nat) (ls:List Lk) (q:Wd×List Int) (ds:List Dd):Wd×List Int:=ds.foldl (stepR n ls) q
def run (n:Nat) (ls:List Lk) (ds:List Dd):Wd×List Int:=runR n ls (wdN n,[]) ds
def plyF (n:Int) (ls:List Lk) (ds:List Dd):Int×Int:=if(wrong n ls).1≠0 then wrong n ls else if 200<ds.length then(5,0) else(0,0)
def plyW (n:Int) (ls:List Lk) (ds:List Dd):Wd×List Int:=if(plyF n ls ds).1≠0 then(wd0,[]) else run n.toNat ls ds
theorem runR_append {n:Nat} {ls:List Lk} {q:Wd×List Int} {a b:List Dd}:runR n ls q (a++b)=runR n ls (runR n ls q a) b:=by simp[runR]
theorem runR_cons {n:Nat} {ls:List Lk} {q:Wd×List Int} {d:Dd} {b:List Dd}:runR n ls q (d::b)=runR n ls (stepR n ls q d) b:=rfl
theorem runR_take {n:Nat} {ls:List Lk} {q:Wd×List Int} {ds:List Dd} {k:Nat} (h:k<ds.length):runR n ls q (ds.take (k+1))=stepR n ls (runR n ls q (ds.take k)) (ds.getD k dd0):=by
 rw[List.take_succ_eq_append_getElem h,runR_append]
 simp[runR,List.getD_eq_getElem?_getD,h]
theorem runR_came {n:Nat} {ls:List Lk}:∀{ds:List Dd} {W:Wd} {c:List Int},runR n ls (W,c) ds=((runR n ls (W,[]) ds).1,c++(runR n ls (W,[]) ds).2)
 | [],W,c=>by simp[runR]
 | d::r,W,c=>by
  rw[runR_cons,runR_cons]
  show runR n ls ((hap n ls W d).1,c++[(hap n ls W d).2]) r=((runR n ls ((hap n ls W d).1,[]++[(hap n ls W d).2]) r).1,c++(runR n ls ((hap n ls W d).1,[]++[(hap n ls W d).2]) r).2)
  rw[runR_came (c:=c++[(hap n ls W d).2]),runR_came (c:=[]++[(hap n ls W d).2])]
  simp
theorem runR_len {n:Nat} {ls:List Lk}:∀{ds:List Dd} {q:Wd×List Int},(runR n ls q ds).2.length=q.2.length+ds.length
 | [],q=>by simp[runR]
 | d::r,q=>by rw[runR_cons,runR_len];simp[stepR];omega
theorem run_len {n:Nat} {ls:List Lk} {ds:List Dd}:(run n ls ds).2.length=ds.length:=by rw[run,runR_len];simp
theorem plyF_right {n:Int} {ls:List Lk} {ds:List Dd} (h:(plyF n ls ds).1=0):(wrong n ls).1=0∧ds.length≤200∧plyF n ls ds=(0,0)∧plyW n ls ds=run n.toNat ls ds:=by
 have e:plyW n ls ds=run n.toNat ls ds:=by unfold plyW;rw[if_neg (by simpa using h)]
 unfold plyF at h ⊢
 split at h
 ·rename_i h1;exact absurd h h1
 ·rename_i h1
  split at h
  ·cases h
  ·rename_i h2
   rw[if_neg h1,if_neg h2]
   exact⟨by simpa using h1,by omega,rfl,e⟩
theorem plyF_of {n:Int} {ls:List Lk} {ds:List Dd} (h1:(wrong n ls).1=0) (h2:ds.length≤200):plyF n ls ds=(0,0)∧plyW n ls ds=run n.toNat ls ds:=by
 have e:plyF n ls ds=(0,0):=by unfold plyF;rw[if_neg (by simpa using h1),if_neg (by omega)]
 exact⟨e,by unfold plyW;rw[e,if_neg (by simp)]⟩
end Go.Proofs.Ytolclgbpjiokfaa.Rm
