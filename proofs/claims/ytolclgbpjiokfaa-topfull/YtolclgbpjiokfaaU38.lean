/- Rows of one's own of things that happen: what is appended to them. -/
import Derived.Test.YtolclgbpjiokfaaU36
import Derived.Test.YtolclgbpjiokfaaU35
namespace Go.Proofs.Ytolclgbpjiokfaa.Rm
open Go.RowKit Go.Deep Stw Stp Tb Rul Ct
def Live (W:Wd) (m:Nat):Prop:=m<W.pn.length∧(W.pn.getD m pl0=W.co.now∨(W.pn.getD m pl0=W.co.nxt∧W.co.st≠0∧W.co.st≠1))
theorem bef_rs (c:Co) (s:Nat):(bef c s).rs=if c.st=0∨c.st=1 then rls c.now s else both c.now c.nxt s:=by
 unfold bef
 by_cases h:c.st=0∨c.st=1
 ·rw[if_pos h,if_pos h]
 ·rw[if_neg h,if_neg h];split <;> rfl
theorem aft_rs (c:Co) (s:Nat) (h4:c.st≠4):(aft c s).rs=if c.st=0 then rls c.now s else both c.now c.nxt s:=by
 unfold aft
 by_cases h:c.st=0
 ·rw[if_pos h,if_pos h]
 ·rw[if_neg h,if_neg h]
  by_cases h1:c.st=1
  ·rw[if_pos h1]
  ·rw[if_neg h1,if_neg h4]
theorem Inv.live_rule {n:Nat} {ls:List Lk} {t:Nat} {W:Wd} {m s:Nat} {r:Ru} (h:Inv n ls t W) (h4:W.co.st≠4) (hv:Live W m) (hs:s<n) (hr:r∈rls (W.pn.getD m pl0) s):r∈(W.sw.getD s Agt.sw0).rs:=by
 have hb:W.co.st≠0→r∈rls W.co.now s∨r∈rls W.co.nxt s→r∈both W.co.now W.co.nxt s:=fun h0 hq=>by
  obtain⟨g1,g2,g3⟩:=h.ok.nxt h0
  exact(both_mem h.n8.2 h.ok.now g1 g2 g3 hs).2 hq
 rcases hv.2 with e | ⟨e,e0,e1⟩
 ·rw[e] at hr
  rcases h.sw_is hs with q | q
  ·rw[q,bef_rs]
   split
   ·exact hr
   ·exact hb (by omega) (Or.inl hr)
  ·rw[q,aft_rs _ _ h4]
   split
   ·exact hr
   ·exact hb (by omega) (Or.inl hr)
 ·rw[e] at hr
  rcases h.sw_is hs with q | q
  ·rw[q,bef_rs,if_neg (by omega)]
   exact hb e0 (Or.inr hr)
  ·rw[q,aft_rs _ _ h4,if_neg e0]
   exact hb e0 (Or.inr hr)
theorem Inv.live_mov {n:Nat} {ls:List Lk} {t:Nat} {W:Wd} {m i j:Nat} {p:Pk} (h:Inv n ls t W) (h4:W.co.st≠4) (hv:Live W m) (h2:p.v=(m:Int)+1) (h3:p.fl=(i:Int)) (hi:i<(W.pn.getD m pl0).ps.length) (h5:1≤j) (h6:j≤((W.pn.getD m pl0).ps.getD i []).length) (h7:p.tr=((W.pn.getD m pl0).ps.getD i []).take j) (hd:p.dn=false):
 movP W.sw p=if j<((W.pn.getD m pl0).ps.getD i []).length then⟨i,(m:Int)+1,((W.pn.getD m pl0).ps.getD i []).take (j+1),false⟩ else⟨i,(m:Int)+1,(W.pn.getD m pl0).ps.getD i [],true⟩:=by
 have hat:atP p=((W.pn.getD m pl0).ps.getD i []).getD (j - 1) 0:=by unfold atP;rw[h7];exact take_at h5 h6
 have hg:=(h.pls m hv.1).gd
 obtain⟨_,g2,g3⟩:=hg.gp i hi
 have hx:=g3 _ (get_mem (l:=(W.pn.getD m pl0).ps.getD i []) (i:=j - 1) (by omega))
 have hs:(((W.pn.getD m pl0).ps.getD i []).getD (j - 1) 0).toNat<n:=by omega
 unfold movP
 rw[hat,h2,h3]
 by_cases hj:j<((W.pn.getD m pl0).ps.getD i []).length
 ·rw[if_pos hj]
  have hr:((m:Int)+1,(i:Int),((W.pn.getD m pl0).ps.getD i []).getD j 0)∈rls (W.pn.getD m pl0) (((W.pn.getD m pl0).ps.getD i []).getD (j - 1) 0).toNat:=by
   refine mem_rof.2 ⟨i,hi,j - 1,by omega,by omega,?_⟩
   rw[show j - 1+1=j by omega,(h.pls m hv.1).v]
  have hm:=h.live_rule h4 hv hs hr
  have hn:(nxt ((m:Int)+1) (i:Int) (W.sw.getD (((W.pn.getD m pl0).ps.getD i []).getD (j - 1) 0).toNat Agt.sw0).rs).2=true:=by
   cases e:(nxt ((m:Int)+1) (i:Int) (W.sw.getD (((W.pn.getD m pl0).ps.getD i []).getD (j - 1) 0).toNat Agt.sw0).rs).2 with
   | true=>rfl
   | false=>exact absurd hm ((nxt_none e).2 _)
  rw[if_pos hn]
  obtain⟨k1,k2⟩:=h.leads hv.1 hi (by omega) (nxt_mem hn)
  rw[k2,h7,hd,show j - 1+1=j by omega,take_more hj]
 ·rw[if_neg hj]
  have hn:¬(nxt ((m:Int)+1) (i:Int) (W.sw.getD (((W.pn.getD m pl0).ps.getD i []).getD (j - 1) 0).toNat Agt.sw0).rs).2=true:=fun hn=>by
   obtain⟨k1,_⟩:=h.leads hv.1 hi (by omega) (nxt_mem hn)
   omega
  rw[if_neg hn,h7,List.take_of_length_le (by omega)]
theorem Inv.new_live {n:Nat} {ls:List Lk} {t:Nat} {W:Wd} {f a:Int} (h:Inv n ls t W):(newP W.sw f a=⟨f,0,[a],true⟩)∨∃m i:Nat,Live W m∧f=(i:Int)∧i<(W.pn.getD m pl0).ps.length∧1≤((W.pn.getD m pl0).ps.getD i []).length∧newP W.sw f a=⟨i,(m:Int)+1,((W.pn.getD m pl0).ps.getD i []).take 1,false⟩:=by
 unfold newP
 split
 ·rename_i x hx
  right
  obtain⟨h1,h2,h3,h4,_⟩:=sat_some hx
  rw[h.lsw] at h2
  rw[Nat.sub_zero] at h3
  obtain⟨m,i,k1,k2,k3,k4,k5,k6,k7⟩:=h.stamp (s:=x.1) (f:=f) (by omega) h3.symm h4
  have hh:=(h.pls m k1).head
  obtain⟨e1,e2,_⟩:=hh.2.1 i k4
  refine⟨m,i,⟨k1,?_⟩,k3,by rw[hh.1];exact k4,e2,?_⟩
  ·by_cases h01:W.co.st=0∨W.co.st=1
   ·left
    have es:(W.sw.getD x.1 Agt.sw0).st=stOf W.co.now x.1:=by
     rcases h.sw_is (s:=x.1) (by omega) with q | q
     ·rw[q];unfold bef;rw[if_pos h01]
     ·rw[q];unfold aft
      rcases h01 with e | e
      ·rw[if_pos e]
      ·rw[if_neg (by omega),if_pos e]
    rw[es] at h3
    have hq:=(ver_stamps (v:=W.co.now.v) (f:=f) (l:=beg x.1 W.co.now.fs W.co.now.fs.length) (by have h5:=h4;rw[h3] at h5;exact h5)).2
    have hv:W.co.now.v=(m:Int)+1:=by rw[←hq, ←k2,h3];rfl
    exact(h.plan_v (Or.inl rfl) hv).2.symm
   ·rcases k6 with e | e
    ·exact Or.inl e
    ·exact Or.inr ⟨e,by omega,by omega⟩
  ·show Pk.mk f x.2 [(x.1:Int)] false=_
   rw[take_more (j:=0) (by omega),e1,k5,k3,k2]
   rfl
 ·exact Or.inl rfl
def itM (sw:List Agt.Sw):Nat→Pk→Pk
 | 0,p=>p
 | k+1,p=>itM sw k (if p.dn=true then p else movP sw p)
theorem itM_done {sw:List Agt.Sw}:∀{k:Nat} {p:Pk},p.dn=true→itM sw k p=p
 | 0,_,_=>rfl
 | k+1,p,h=>by rw[itM,if_pos h];exact itM_done h
theorem moves_run {n:Nat} {ls:List Lk} {i:Nat}:∀{k:Nat} {W:Wd} {c:List Int},i<W.pk.length→∃z,runR n ls (W,c) (List.replicate k ⟨5,i,[]⟩)=(⟨W.co,W.sw,W.od,W.bk,W.pk.set i (itM W.sw k (W.pk.getD i pk0)),W.pn⟩,c++z)
 | 0,W,c,h=>⟨[],by
  have e:W.pk.set i (W.pk.getD i pk0)=W.pk:=by
   rw[List.getD_eq_getElem?_getD,List.getElem?_eq_getElem h];exact List.set_getElem_self h
  simp only[List.replicate,itM,e,List.append_nil];rfl⟩
 | k+1,W,c,h=>by
  rw[List.replicate_succ,runR_cons]
  have hh:hap n ls W ⟨5,i,[]⟩=if(W.pk.getD i pk0).dn=true then(W,6) else(⟨W.co,W.sw,W.od,W.bk,W.pk.set i (movP W.sw (W.pk.getD i pk0)),W.pn⟩,0):=by
   unfold hap
   simp only[show((5:Int)=1)=False by simp,show((5:Int)=2)=False by simp,show((5:Int)=3)=False by simp,show((5:Int)=4)=False by simp,if_false,if_true]
   unfold hapM
   rw[if_neg (by omega)]
   simp only[Int.toNat_natCast]
  unfold stepR
  rw[hh]
  by_cases hd:(W.pk.getD i pk0).dn=true
  ·rw[if_pos hd]
   obtain⟨z,e⟩:=moves_run (n:=n) (ls:=ls) (k:=k) (W:=W) (c:=c++[6]) h
   refine⟨[6]++z,?_⟩
   simp only
   rw[e,itM,if_pos hd,List.append_assoc]
  ·rw[if_neg hd]
   obtain⟨z,e⟩:=moves_run (n:=n) (ls:=ls) (i:=i) (k:=k) (W:=⟨W.co,W.sw,W.od,W.bk,W.pk.set i (movP W.sw (W.pk.getD i pk0)),W.pn⟩) (c:=c++[0]) (by simpa using h)
   refine⟨[0]++z,?_⟩
   simp only
   rw[e]
   simp only[List.set_set,itM,if_neg hd,List.append_assoc]
   rw[getD_set h,if_pos rfl]
theorem Inv.itM_live {n:Nat} {ls:List Lk} {t:Nat} {W:Wd} {m i:Nat} (h:Inv n ls t W) (h4:W.co.st≠4) (hv:Live W m) (hi:i<(W.pn.getD m pl0).ps.length):∀(k j:Nat),1≤j→j≤((W.pn.getD m pl0).ps.getD i []).length→((W.pn.getD m pl0).ps.getD i []).length+1≤k+j→
 itM W.sw k ⟨i,(m:Int)+1,((W.pn.getD m pl0).ps.getD i []).take j,false⟩=⟨i,(m:Int)+1,(W.pn.getD m pl0).ps.getD i [],true⟩
 | 0,j,_,h6,hk=>by omega
 | k+1,j,h5,h6,hk=>by
  rw[itM,if_neg (by simp),h.live_mov h4 hv (p:=⟨i,(m:Int)+1,((W.pn.getD m pl0).ps.getD i []).take j,false⟩) rfl rfl hi h5 h6 rfl rfl]
  by_cases hj:j<((W.pn.getD m pl0).ps.getD i []).length
  ·rw[if_pos hj]
   exact Inv.itM_live h h4 hv hi k (j+1) (by omega) (by omega) (by omega)
  ·rw[if_neg hj]
   exact itM_done rfl
theorem arrives {n:Nat} {ls:List Lk} {ds:List Dd} {f:Int} {k:Nat} (hw:(wrong n ls).1=0) (hl:ds.length≤200) (h4:(run n ls ds).1.co.st≠4) (hp:(run n ls ds).1.pk.length<40) (hk:8≤k)
 (h0:(hap n ls (run n ls ds).1 ⟨4,f,[]⟩).2=0):
 ∃W,(run n ls (ds++[⟨4,f,[]⟩]++List.replicate k ⟨5,(run n ls ds).1.pk.length,[]⟩)).1=W∧W.pk.length=(run n ls ds).1.pk.length+1∧W.pn=(run n ls ds).1.pn∧
  (((W.pk.getD (run n ls ds).1.pk.length pk0).v=0∧(W.pk.getD (run n ls ds).1.pk.length pk0).dn=true)∨
   ∃m i:Nat,m<W.pn.length∧(W.pk.getD (run n ls ds).1.pk.length pk0).v=(m:Int)+1∧f=(i:Int)∧i<(W.pn.getD m pl0).ps.length∧(W.pk.getD (run n ls ds).1.pk.length pk0).dn=true∧(W.pk.getD (run n ls ds).1.pk.length pk0).tr=(W.pn.getD m pl0).ps.getD i []):=by
 have hI:=run_inv (n:=n) (ls:=ls) hw (show ds.length≤1000 by omega)
 rw[run_append,run_append]
 generalize run n ls ds=q at hI h4 hp h0 ⊢
 obtain⟨W,c⟩:=q
 simp only at hI h4 hp h0 ⊢
 cases hf:frm W.co f with
 | none=>
  exfalso
  unfold hap at h0
  simp only[show((4:Int)=1)=False by simp,show((4:Int)=2)=False by simp,show((4:Int)=3)=False by simp,if_false,if_true] at h0
  unfold hapB at h0
  rw[if_neg (by omega),hf] at h0
  cases h0
 | some a=>
  have hh:hap n ls W ⟨4,f,[]⟩=(⟨W.co,W.sw,W.od,W.bk,W.pk++[newP W.sw f a],W.pn⟩,0):=by
   unfold hap
   simp only[show((4:Int)=1)=False by simp,show((4:Int)=2)=False by simp,show((4:Int)=3)=False by simp,if_false,if_true]
   unfold hapB
   rw[if_neg (by omega),hf]
  have e1:runR n ls (W,c) [⟨4,f,[]⟩]=(⟨W.co,W.sw,W.od,W.bk,W.pk++[newP W.sw f a],W.pn⟩,c++[0]):=by
   show stepR n ls (W,c) ⟨4,f,[]⟩=_
   unfold stepR
   rw[hh]
  rw[e1]
  obtain⟨z,e2⟩:=moves_run (n:=n) (ls:=ls) (i:=W.pk.length) (k:=k) (W:=⟨W.co,W.sw,W.od,W.bk,W.pk++[newP W.sw f a],W.pn⟩) (c:=c++[0]) (by simp)
  rw[e2]
  have eg:(W.pk++[newP W.sw f a]).getD W.pk.length pk0=newP W.sw f a:=by simp[List.getD_eq_getElem?_getD]
  simp only[eg]
  refine⟨_,rfl,by simp,rfl,?_⟩
  simp only
  rw[getD_set (by simp),if_pos rfl]
  rcases hI.new_live (f:=f) (a:=a) with e | ⟨m,i,hv,hfi,hi,hl1,e⟩
  ·left
   rw[e,itM_done rfl]
   exact⟨rfl,rfl⟩
  ·right
   have h8:=(hI.pls m hv.1).head.2.2 i
   rw[e,hI.itM_live h4 hv hi k 1 (by omega) hl1 (by omega)]
   exact⟨m,i,hv.1,rfl,hfi,hi,rfl,rfl⟩
end Go.Proofs.Ytolclgbpjiokfaa.Rm
namespace Go.Proofs.Ytolclgbpjiokfaa.Rm
open Go.RowKit Go.Deep Stw Stp Tb Rul Ct
def act2 (s j:Nat):List Dd:=(List.replicate j [⟨2,s,[]⟩,⟨3,s,[]⟩]).flatten
def act1 (s j:Nat):List Dd:=List.replicate j ⟨3,s,[]⟩
theorem act2_succ (s j:Nat):act2 s (j+1)=act2 s j++[⟨2,s,[]⟩,⟨3,s,[]⟩]:=by
 unfold act2;rw[List.replicate_succ',List.flatten_append];simp
theorem act1_succ (s j:Nat):act1 s (j+1)=act1 s j++[⟨3,s,[]⟩]:=by
 unfold act1;rw[List.replicate_succ']
theorem flat_const {α β:Type} (c:List β):∀l:List α,l.flatMap (fun _=>c)=(List.replicate l.length c).flatten
 | []=>rfl
 | x::r=>by rw[List.flatMap_cons,flat_const c r];simp[List.replicate_succ]
theorem acts_eq (W:Wd) (s:Nat):acts W s=act2 s (W.od.getD s []).length++act1 s (W.bk.getD s []).length:=by
 unfold acts act2 act1
 rw[flat_const,List.map_const']
theorem ply_small {N:Int} {ls:List Lk} {es:List Dd}:(plyW N ls es).1.sw.length=0∨(es.length≤200∧(plyW N ls es).1.sw.length≤8∧(plyW N ls es).1.od.length=(plyW N ls es).1.sw.length∧(plyW N ls es).1.bk.length=(plyW N ls es).1.sw.length∧∀s,s<(plyW N ls es).1.sw.length→((plyW N ls es).1.od.getD s []).length≤1∧((plyW N ls es).1.bk.getD s []).length≤1):=by
 by_cases h:(plyF N ls es).1=0
 ·right
  obtain⟨n,h1,_,h3,h4,_,h6⟩:=plyN h
  rw[h6]
  have hI:=run_inv (n:=n) (ls:=ls) h3 (show es.length≤1000 by omega)
  refine⟨h4,by rw[hI.lsw];exact hI.n8.2,by rw[hI.lod,hI.lsw],by rw[hI.lbk,hI.lsw],fun s hs=>?_⟩
  rw[hI.lsw] at hs
  rcases hI.one hs with⟨e1,e2⟩ | ⟨o,e1,e2⟩ | ⟨k,e1,e2⟩ <;> rw[e1,e2] <;> simp
 ·left
  have:plyW N ls es=(wd0,[]):=by unfold plyW;rw[if_pos h]
  rw[this];rfl
theorem DsSm.append {a b:List Dd} (h:DsSm a) (k:DsSm b):DsSm (a++b):=fun d hd=>by
 rcases List.mem_append.1 hd with h1 | h1
 ·exact h d h1
 ·exact k d h1
theorem sm_nil:Fw.Sm []∧([]:List Stf.Fl).length≤9223372036854775807:=⟨fun k h=>absurd h (by simp),by decide⟩
theorem DsSm.of_nil {ds:List Dd} (h:∀d∈ds,d.fs=[]):DsSm ds:=fun d hd=>by rw[h d hd];exact sm_nil
theorem acts_fs {W:Wd} {s:Nat} {d:Dd} (h:d∈acts W s):d.fs=[]:=by
 unfold acts at h
 rcases List.mem_append.1 h with h | h
 ·obtain⟨_,_,h2⟩:=List.mem_flatMap.1 h
  simp only[List.mem_cons,List.not_mem_nil,or_false] at h2
  rcases h2 with rfl | rfl <;> rfl
 ·obtain⟨_,_,rfl⟩:=List.mem_map.1 h;rfl
theorem drn1_fs {W:Wd} {d:Dd} (h:d∈drn1 W):d.fs=[]:=by
 obtain⟨s,_,h2⟩:=List.mem_flatMap.1 h
 exact acts_fs h2
theorem drn1_le {N:Int} {ls:List Lk} {es:List Dd}:(drn1 (plyW N ls es).1).length≤24∧(200<es.length→drn1 (plyW N ls es).1=[]):=by
 rcases ply_small (N:=N) (ls:=ls) (es:=es) with h | ⟨h1,h2,h3,h4,h5⟩
 ·have e:drn1 (plyW N ls es).1=[]:=by unfold drn1;rw[h];rfl
  rw[e];exact⟨by simp,fun _=>rfl⟩
 ·refine⟨?_,fun h=>by omega⟩
  have key:∀m,m≤(plyW N ls es).1.sw.length→((List.range m).flatMap (acts (plyW N ls es).1)).length≤3*m:=by
   intro m
   induction m with
   | zero=>simp
   | succ m ih=>
    intro hm
    rw[List.range_succ,List.flatMap_append,List.length_append]
    have:=ih (by omega)
    obtain⟨a,b⟩:=h5 m (by omega)
    have e:([m].flatMap (acts (plyW N ls es).1)).length≤3:=by
     simp only[List.flatMap_cons,List.flatMap_nil,List.append_nil,acts_eq,List.length_append,act1,List.length_replicate]
     have:(act2 m ((plyW N ls es).1.od.getD m []).length).length=2*((plyW N ls es).1.od.getD m []).length:=by simp[act2,Nat.mul_comm]
     omega
    omega
  have:=key _ (Nat.le_refl _)
  unfold drn1
  omega
theorem drn_small {N:Int} {ls:List Lk}:∀(k:Nat) {es:List Dd},DsSm es→es.length≤1000→DsSm (drn N ls k es)∧(drn N ls k es).length≤1000
 | 0,es,h1,h2=>⟨h1,h2⟩
 | k+1,es,h1,h2=>by
  rw[drn]
  split
  ·exact⟨h1,h2⟩
  ·rename_i h
   have hl:=drn1_le (N:=N) (ls:=ls) (es:=es)
   have:es.length≤200:=by
    by_cases h3:200<es.length
    ·exact absurd (hl.2 h3) h
    ·omega
   exact drn_small k (h1.append (DsSm.of_nil fun d hd=>drn1_fs hd)) (by rw[List.length_append];omega)
end Go.Proofs.Ytolclgbpjiokfaa.Rm
namespace Go.Proofs.Ytolclgbpjiokfaa.Rm
open Go.RowKit Go.Deep Stw Stp Tb Rul Ct
def tg1 (P sb ob bb X Y:Nat) (b:Nat):Nat:=if b=P then 1 else if b=sb then 2 else if b=ob then 3 else if b=bb then 4 else if X≤b∧b≤Y then 8 else 0
theorem WSt.start1 {T:TypeId} {tl:List Value} {w0 w:World} {P n sb ob bb X Y:Nat} (hX:w0.heap.size≤X) (hXY:X≤Y) (hYP:Y<P) (hPs:P<sb) (hso:sb<ob) (hob:ob<bb) (hr:w.rowIs P T (14+tl.length) (fun j=>(wdL co0 ca0 n sb ob bb (.slice none 0 0) (.slice none 0 0) tl).getD j vd))
 (h1:w.heap[sb]? =some (.cells (mkS n) 60 (0,0))) (h2:w.heap[ob]? =some (.cells (mkL n) 100 (0,0))) (h3:w.heap[bb]? =some (.cells (mkL n) 31 (0,0))) (E:Ext w0 w):
 WSt T tl w0 P n (tg1 P sb ob bb X Y) w (wdN n) ca0 sb ob bb (.slice none 0 0) (.slice none 0 0):=by
 have hbl:bb<w.heap.size:=(Array.getElem?_eq_some_iff.1 h3).1
 refine⟨hr,fun U _ _=>CoAt.zero U,⟨?_,_,mkS_row h1,fun s hs=>⟨none,0,none,0,?_,?_,fun U _ _=>?_⟩⟩,⟨?_,_,mkL_row h2,fun s hs=>?_⟩,⟨?_,_,mkL_row h3,fun s hs=>?_⟩,⟨[],RwT.nil _ _ _ _ _,fun i hi=>by simp[wdN] at hi⟩,⟨[],RwT.nil _ _ _ _ _,fun i hi=>by simp[wdN] at hi⟩,by unfold tg1;rw[if_pos rfl],fun b hb=>?_,fun b hb=>?_,E⟩
 ·unfold tg1
  rw[if_neg (by omega),if_pos rfl]
 ·show _=Value.slice none ((List.replicate n Agt.sw0).getD s Agt.sw0).rs.length 0
  rw[getD_rep1];rfl
 ·show _=Value.slice none ((List.replicate n Agt.sw0).getD s Agt.sw0).st.length 0
  rw[getD_rep1];rfl
 ·show Ag.SwAt U ((List.replicate n Agt.sw0).getD s Agt.sw0) none none 0
  rw[getD_rep1]
  exact⟨⟨rfl,Or.inl rfl,fun _=>⟨rfl,rfl⟩⟩,Or.inl rfl,by decide,by decide,by decide⟩
 ·unfold tg1
  rw[if_neg (by omega),if_neg (by omega),if_pos rfl]
 ·show OrwAt _ _ _ ((List.replicate n []).getD s []) _
  rw[getD_rep1]
  exact OrwAt.nil _ _ _
 ·unfold tg1
  rw[if_neg (by omega),if_neg (by omega),if_neg (by omega),if_pos rfl]
 ·show BrwAt _ _ _ ((List.replicate n []).getD s []) _
  rw[getD_rep1]
  exact BrwAt.nil _ _ _
 ·unfold tg1
  rw[if_neg (by omega),if_neg (by omega),if_neg (by omega),if_neg (by omega),if_neg (by omega)]
 ·unfold tg1 at hb
  by_cases e1:b=P
  ·omega
  ·rw[if_neg e1] at hb
   by_cases e2:b=sb
   ·omega
   ·rw[if_neg e2] at hb
    by_cases e3:b=ob
    ·omega
    ·rw[if_neg e3] at hb
     by_cases e4:b=bb
     ·omega
     ·rw[if_neg e4] at hb
      by_cases e5:X≤b∧b≤Y
      ·omega
      ·rw[if_neg e5] at hb;exact absurd rfl hb
theorem tg1_in {P sb ob bb X Y b:Nat} (h1:X≤b) (h2:b≤Y) (hYP:Y<P) (hPs:P<sb) (hso:sb<ob) (hob:ob<bb):tg1 P sb ob bb X Y b=8:=by
 unfold tg1
 rw[if_neg (by omega),if_neg (by omega),if_neg (by omega),if_neg (by omega),if_pos ⟨h1,h2⟩]
def PlyAll (z w:World) (W:Wd) (came:List Int) (f:Int×Int) (e:Ending) (w':World):Prop:=
 ∃A co cc,e=.returned (.tuple #[wvl W A,.slice co came.length cc,.agg #[.int .i64 f.1,.int .i64 f.2]])∧Ext w w'∧Hid (∀U,w'.heap.size≤U.heap.size→Ext z U→(∀b,b<w'.heap.size→¬(z.heap.size≤b∧b<w.heap.size)→U.heap[b]? =w'.heap[b]?)→WoAt U W A∧ListAt U co came)
def PlyJ (z w w3:World) (n len cap:Nat) (ao:Option Addr) (P sb ob bb:Nat) (q:Wd×List Int) (cv:Value) (wd:World):Prop:=
 ∃(tg:Nat→Nat) (a:CA) (kv lv:Value),WSt 95 [.int .i64 (n:Int),.slice ao len cap] z P n tg wd q.1 a sb ob bb kv lv∧CamAt tg wd q.2 cv∧∀b,z.heap.size≤b→b≤w.heap.size+1+1→tg b=8∧wd.heap[b]? =w3.heap[b]?
theorem ext_fill {z w w3 U:World} (hz:Ext z U) (h3:Ext w w3) (hs:w.heap.size≤U.heap.size) (hb:∀b,z.heap.size≤b→b<w.heap.size→U.heap[b]? =w3.heap[b]?) (hzw3:Ext z w3):Ext w U:=
 ⟨hz.os.trans (hzw3.os.symm.trans h3.os),hz.tape.trans (hzw3.tape.symm.trans h3.tape),hz.output.trans (hzw3.output.symm.trans h3.output),hs,fun k hk=>by
  by_cases h:k<z.heap.size
  ·rw[hz.block k h, ←hzw3.block k h,h3.block k hk]
  ·rw[hb k (by omega) hk,h3.block k hk]⟩
theorem PlyAll.of {T:TypeId} {tl:List Value} {z w w3 wr:World} {P n:Nat} {tg:Nat→Nat} {W:Wd} {a:CA} {sb ob bb:Nat} {ko lo:Option Addr} {kc lc:Nat} {v:Value} {came:List Int} {X Y:Nat} {x0 x1 x2 x3 x4 x5 x6 x7 x8 x9 x10 x11 x12 x13 y0 y1:Value} (h:WSt T tl z P n tg wr W a sb ob bb (.slice ko W.pk.length kc) (.slice lo W.pn.length lc)) (hc:CamAt tg wr came v) (hX:tg X=8) (hY:tg Y=8) (hXw:w.heap.size≤X) (hYw:w.heap.size≤Y) (hzw:Ext z w) (h3:Ext w w3) (hR:∀b,z.heap.size≤b→b<w.heap.size→tg b=8∧wr.heap[b]? =w3.heap[b]?) (hlw:w.heap.size≤wr.heap.size) (hs:W.sw.length=n) (ho:W.od.length=n) (hb:W.bk.length=n):
 PlyAll z w W came (0,0) (.returned (.tuple #[.agg #[.int .i64 W.co.st,.int .i64 W.co.now.v,.slice a.n.fo W.co.now.fs.length a.n.fc,.slice a.n.qo W.co.now.ps.length a.n.qc,.int .i64 W.co.nxt.v,.slice a.x.fo W.co.nxt.fs.length a.x.fc,.slice a.x.qo W.co.nxt.ps.length a.x.qc,.int .i64 W.co.num,.slice a.wo W.co.wts.length a.wc,.slice (some ⟨sb,0,none⟩) n n,.slice (some ⟨ob,0,none⟩) n n,.slice (some ⟨bb,0,none⟩) n n,.slice ko W.pk.length kc,.slice lo W.pn.length lc],v,.agg #[.int .i64 0,.int .i64 0]])) (W16 wr X Y x0 x1 x2 x3 x4 x5 x6 x7 x8 x9 x10 x11 x12 x13 y0 y1):=by
 obtain⟨ko',kc',lo',lc',e1,e2,_⟩:=h.look hs ho hb
 cases e1
 cases e2
 obtain⟨co,cc,rfl,_⟩:=hc.list
 obtain⟨h1,h2⟩:=h.fin (x0:=x0) (x1:=x1) (x2:=x2) (x3:=x3) (x4:=x4) (x5:=x5) (x6:=x6) (x7:=x7) (x8:=x8) (x9:=x9) (x10:=x10) (x11:=x11) (x12:=x12) (x13:=x13) (y0:=y0) (y1:=y1) hc hX hY
 refine⟨⟨a,some ⟨sb,0,none⟩,n,some ⟨ob,0,none⟩,n,some ⟨bb,0,none⟩,n,ko,kc,lo,lc⟩,co,cc,?_,?_,fun U hU hEU hbU=>?_⟩
 ·unfold wvl
  rw[hs,ho,hb]
 ·refine ext_fill h1.ext h3 (by rw[W16_size];exact hlw) (fun b hb1 hb2=>?_) (hzw.trans h3)
  rw[W16_block b (by omega) (by omega)]
  exact(hR b hb1 hb2).2
 ·have k:KeepP (fun x=>x≠8) tg (fun b=>if b<wr.heap.size then tg b else 0) (W16 wr X Y x0 x1 x2 x3 x4 x5 x6 x7 x8 x9 x10 x11 x12 x13 y0 y1) U:=⟨hU,fun b hb1 hb2=>⟨by rw[W16_size] at hb1;exact if_pos hb1,hbU b hb1 (fun hr=>hb2 (hR b hr.1 hr.2).1)⟩⟩
  have hW:=h1.keepW (k.mono (fun x hx=>hx.2)) (fun b hb1=>by
   rw[W16_size] at hU
   exact if_neg (by omega)) (fun b hb1=>by
   by_cases hlt:b<wr.heap.size
   ·have hb2:(if b<wr.heap.size then tg b else 0)≠0:=hb1
    rw[if_pos hlt] at hb2;exact h.base b hb2
   ·have hb2:(if b<wr.heap.size then tg b else 0)≠0:=hb1
    rw[if_neg hlt] at hb2;exact absurd rfl hb2) hEU
  obtain⟨ko2,kc2,lo2,lc2,e1,e2,hwo⟩:=hW.look hs ho hb
  cases e1
  cases e2
  obtain⟨co2,cc2,e3,hl⟩:=(h2.keep k (by decide)).list
  cases e3
  exact⟨hwo,hl⟩
def DosIn (z w:World) (ao:Option Addr) (ds:List Dd):Prop:=
 ds=[]∨∃b off,ao=some ⟨b,off,none⟩∧b<w.heap.size∧∀k,k<ds.length→∃fo fc,w.cell? ⟨b,off+k*3,none⟩=some (.int .i64 (ds.getD k dd0).k)∧w.cell? ⟨b,off+k*3+1,none⟩=some (.int .i64 (ds.getD k dd0).n)∧w.cell? ⟨b,off+k*3+2,none⟩=some (.slice fo (ds.getD k dd0).fs.length fc)∧Fw.FlowsAt z fo (ds.getD k dd0).fs
theorem DosAt.isIn {z:World} {ao:Option Addr} {ds:List Dd} (h:DosAt z ao ds):DosIn z z ao ds:=h
theorem DosIn.ext {z w w':World} {ao:Option Addr} {ds:List Dd} (h:DosIn z w ao ds) (E:Ext w w'):DosIn z w' ao ds:=by
 rcases h with h | ⟨b,off,h1,h2,h3⟩
 ·exact Or.inl h
 ·refine Or.inr ⟨b,off,h1,Nat.lt_of_lt_of_le h2 E.size,fun k hk=>?_⟩
  obtain⟨fo,fc,c0,c1,c2,hf⟩:=h3 k hk
  exact⟨fo,fc,(E.cells.1 _ _ h2).trans c0,(E.cells.1 _ _ h2).trans c1,(E.cells.1 _ _ h2).trans c2,hf⟩
theorem DosIn.get {z w:World} {ao:Option Addr} {ds:List Dd} (h:DosIn z w ao ds) {k:Nat} (hk:k<ds.length):∃b off fo fc,ao=some ⟨b,off,none⟩∧b<w.heap.size∧w.cell? ⟨b,off+k*3,none⟩=some (.int .i64 (ds.getD k dd0).k)∧w.cell? ⟨b,off+k*3+1,none⟩=some (.int .i64 (ds.getD k dd0).n)∧w.cell? ⟨b,off+k*3+2,none⟩=some (.slice fo (ds.getD k dd0).fs.length fc)∧Fw.FlowsAt z fo (ds.getD k dd0).fs:=by
 rcases h with h | ⟨b,off,h1,h2,h3⟩
 ·rw[h] at hk;simp at hk
 ·obtain⟨fo,fc,c0,c1,c2,hf⟩:=h3 k hk
  exact⟨b,off,fo,fc,h1,h2,c0,c1,c2,hf⟩
set_option maxRecDepth 100000 in
set_option maxHeartbeats 4000000 in
theorem Play_in (N:Int) (ao:Option Addr) (len cap:Nat) (ls:List Lk) (lo:Option Addr) (lc:Nat) (ds:List Dd) (z w:World) (hz:Ext z w) (hlen:ls.length=len) (hl:NetAt z ao ls) (hx:len≤9223372036854775807) (hd:DosIn z w lo ds) (hS:DsSm ds) (hdl:ds.length≤9223372036854775807):
 Calls Try.prog 18 #[.agg #[.int .i64 N,.slice ao len cap],.slice lo ds.length lc] w fun e w'=>PlyAll z w (plyW N ls ds).1 (plyW N ls ds).2 (plyF N ls ds) e w':=by
 obtain⟨i0,hi0,hz00,hz01,hz02⟩:=info_parts infoEr
 have HA:=hidp (Pw_box w N (.slice ao len cap))
 have hE0:=Pw_ext w N (.slice ao len cap)
 go_enter Try.func18,Try.ntmps18
 go_wp2_with fail
 unfold Pw at HA hE0
 obtain⟨W1,hW1⟩:∃W1,W1=((w.alloc (.cells #[.int .i64 N,.slice ao len cap] 24)).alloc (.cells #[.int .i64 0,.int .i64 0,.slice none 0 0,.slice none 0 0,.int .i64 0,.slice none 0 0,.slice none 0 0,.int .i64 0,.slice none 0 0,.slice none 0 0,.slice none 0 0,.slice none 0 0,.slice none 0 0,.slice none 0 0] 40)).alloc (.cells #[.int .i64 0,.int .i64 0] 44):=⟨_,rfl⟩
 rw[←hW1] at HA hE0 ⊢
 clear hW1
 refine(Wrong_any N ao len cap ls W1 hlen (hl.ext (hz.trans hE0)) hx).mono ?_
 rintro e w2 ⟨rfl,E2⟩
 have HA2:=hidp (HA.out.ext E2)
 have hl2:=HA2.out.lt
 have hE2:=hE0.trans E2
 have hl20:w.heap.size<w2.heap.size:=by omega
 have hl21:w.heap.size+1<w2.heap.size:=by omega
 have zw:=box_cell HA2.out.w
 have zf:=box_cell HA2.out.f
 have fw:=box_frozen HA2.out.w
 have ff:=box_frozen HA2.out.f
 have r0:=zw 0
 have r1:=zw 1
 have r2:=zw 2
 have r3:=zw 3
 have r4:=zw 4
 have r5:=zw 5
 have r6:=zw 6
 have r7:=zw 7
 have r8:=zw 8
 have r9:=zw 9
 have r10:=zw 10
 have r11:=zw 11
 have r12:=zw 12
 have r13:=zw 13
 have q0:=zf 0
 have q1:=zf 1
 simp only[List.getElem?_toArray,List.getElem?_cons_zero,List.getElem?_cons_succ] at r0 r1 r2 r3 r4 r5 r6 r7 r8 r9 r10 r11 r12 r13 q0 q1
 clear zw zf
 by_cases hr:(wrong N ls).1=0
 ·have hright:=right_of hr
  have hbd:=hright.bounds
  obtain⟨n,rfl⟩:=Int.eq_ofNat_of_zero_le (show 0≤N by omega)
  have hn8:n≤8:=by omega
  have HWR:=hidp hr
  rw[hright.wrong]
  clear hr hright hbd
  by_cases hm:200<ds.length
  ·have HF:Hid (plyF n ls ds=(5,0)):=by show _=_;unfold plyF;rw[if_neg (by simpa using HWR.out),if_pos hm]
   have HW:Hid (plyW n ls ds=(wd0,[])):=by show _=_;unfold plyW;rw[HF.out,if_pos (by decide)]
   have b0:(200:Int)<(ds.length:Int):=by omega
   clear hm
   go_wp2
   refine bodyPost_ret (v:=.tuple #[.agg #[.int .i64 0,.int .i64 0,.slice none 0 0,.slice none 0 0,.int .i64 0,.slice none 0 0,.slice none 0 0,.int .i64 0,.slice none 0 0,.slice none 0 0,.slice none 0 0,.slice none 0 0,.slice none 0 0,.slice none 0 0],.slice none 0 0,.agg #[.int .i64 5,.int .i64 0]]) (by simp[results,Try.results18,go_sem,r0,r1,r2,r3,r4,r5,r6,r7,r8,r9,r10,r11,r12,r13,q0,q1,hl2,hl21]) rfl ?_
   rw[HW.out,HF.out]
   refine⟨wa0,none,0,rfl,?_,fun U _ _ _=>⟨WoAt.zero U,Or.inl rfl⟩⟩
   refine Ext.alloc ?_ _
   iterate 16 refine Ext.setCell ?_ (by simp only;omega) _
   exact hE2
  ·have HF:=hidp (plyF_of (n:=(n:Int)) (ds:=ds) HWR.out (by omega))
   have b0:¬(200:Int)<(ds.length:Int):=by omega
   have n0:=HA2.out.n0
   have n1:=HA2.out.n1
   go_wp2_with fail
   refine(playedIn_any n ao len cap _ hn8).mono ?_
   rintro e w3 ⟨P,sb,ob,bb,rfl,hP1,hP2,hP3,hP4,hrow,hb1,hb2,hb3,E3⟩
   have hA3:=HA2.out.ext (((Ext.refl w2).alloc _).trans E3)
   have hE3:Ext w w3:=hE2.trans (((Ext.refl w2).alloc _).trans E3)
   have hPw:w.heap.size+1+1<P:=by simp at hP1;omega
   have HST:Hid (PlyJ z w w3 n len cap ao P sb ob bb (run n ls (ds.take 0)) (.slice none 0 0) w3):=⟨_,ca0,_,_,WSt.start1 (X:=z.heap.size) (Y:=w.heap.size+1+1) (Nat.le_refl _) (by have:=hz.size;omega) (by omega) hP2 hP3 hP4 hrow hb1 hb2 hb3 (hz.trans hE3),RwT.nil _ _ _ _ _,fun b h1 h2=>⟨tg1_in h1 h2 (by omega) hP2 hP3 hP4,rfl⟩⟩
   have HBW:=hidp hA3
   have HE3:=hidp hE3
   have hzs:=hz.size
   have hs3:=hE3.size
   have hl3:=hA3.lt
   have HDS:=hidp hd
   have HSM:=hidp hS
   have HNT:=hidp hl
   clear hA3 hE3 hrow hb1 hb2 hb3 E3 hP1 hd hS hl HA2 HA fw ff r0 r1 r2 r3 r4 r5 r6 r7 r8 r9 r10 r11 r12 r13 q0 q1 n0 n1 E2 hE2 hE0
   go_wp2
   go_loopw [9,28] (fun cv iv wd=>∃(k:Nat) (v:Value),k≤ds.length∧iv=.int .i64 k∧cv=v∧Hid (PlyJ z w w3 n len cap ao P sb ob bb (run n ls (ds.take k)) v wd)) (fun _ iv _=>ds.length - (intOf iv).toNat)
   case atStart=>exact⟨0,_,Nat.zero_le _,rfl,rfl,HST.out⟩
   case round=>
    obtain⟨k,v,hk,rfl,hcv,HI⟩:=hrel
    obtain rfl:=hcv.symm
    by_cases hlt:k<ds.length
    ·have i1:(k:Int)<(ds.length:Int):=by omega
     obtain⟨tg,a,kv,lv,hW,hC,hT⟩:=HI.out
     obtain⟨db,doff,fo,fc,rfl,hdb,c0,c1,c2,hfl⟩:=(HDS.out).get hlt
     have hwr:Ext w wr:=ext_fill hW.ext HE3.out (by have:=(Array.getElem?_eq_some_iff.1 ((hT (w.heap.size+1+1) (by omega) (by omega)).2.trans HBW.out.f)).1;omega) (fun b h1 h2=>(hT b h1 (by omega)).2) (hz.trans HE3.out)
     have hdb':db<wr.heap.size:=Nat.lt_of_lt_of_le hdb hwr.size
     have d0:=(hwr.cells.1 _ _ hdb).trans c0
     have d1:=(hwr.cells.1 _ _ hdb).trans c1
     have d2:=(hwr.cells.1 _ _ hdb).trans c2
     clear hwr
     have hmem:ds.getD k dd0∈ds:=by rw[List.getD_eq_getElem?_getD,List.getElem?_eq_getElem hlt];exact List.getElem_mem _
     have hsm:=HSM.out _ hmem
     have HRT:Hid (run n ls (ds.take (k+1))=stepR n ls (run n ls (ds.take k)) (ds.getD k dd0)):=runR_take (n:=n) (ls:=ls) (q:=(wdN n,[])) hlt
     generalize ds.getD k dd0=d at d0 d1 d2 hfl hsm HRT
     obtain⟨dk,dn,dfs⟩:=d
     simp only at d0 d1 d2 hfl hsm
     have hinv:=run_inv (n:=n) (ls:=ls) (ds:=ds.take k) HWR.out (by rw[List.length_take];omega)
     have hcl:(run n ls (ds.take k)).2.length=k:=by rw[run_len,List.length_take];omega
     have HCL:=hidp hcl
     have HHP:Hid (∀V,Ext wr V→Calls Try.prog 39 #[.pointer (some ⟨P,0,none⟩),.agg #[.int .i64 dk,.int .i64 dn,.slice fo dfs.length fc]] V fun e w'=>MOut [.int .i64 (n:Int),.slice ao len cap] z P n tg V sb ob bb (hap n ls (run n ls (ds.take k)).1 ⟨dk,dn,dfs⟩) e w'):=fun V hV=>happen_any n len cap ls ao _ z P tg V _ a sb ob bb kv lv ⟨dk,dn,dfs⟩ fo fc (hW.toExt hV) hinv (by rw[List.length_take];omega) hlen HNT.out hx hfl hsm.1 hsm.2
     have HC:=hidp hC
     have HW0:=hidp hW
     have H8:=hidp hT
     clear hW hC hT hinv hsm hfl c0 c1 c2 hmem HI hcl
     generalize run n ls (ds.take k)=q at HC HW0 HHP HRT HCL
     obtain⟨QW,came⟩:=q
     go_wp2_with fail
     refine Calls.mono (HHP.out _ ((Ext.refl wr).alloc _)) ?_
     rintro e w5 ⟨rfl,tg5,a5,kv5,lv5,hW5,hK5⟩
     obtain⟨er,her⟩:∃er,er=(hap n ls (QW,came).1 ⟨dk,dn,dfs⟩).2:=⟨_,rfl⟩
     rw[←her]
     have HER:=hidp her
     have HW5:=hidp hW5
     have HKK:Hid (Kpt tg tg5 wr w5):=(Kpt.ext ((Ext.refl wr).alloc _)).trans hK5
     have HC5:=hidp (HC.out.keep HKK.out (Or.inr (Or.inl rfl)))
     have hcl:came.length=k:=HCL.out
     have EP:Ext w5 (w5.alloc (.cells #[.int .i64 er] 42)):=(Ext.refl w5).alloc _
     clear her hW5 hK5
     go_wp2_with (first | (at_builtin;refine wpList_append_rw _ rfl _ _ 41 rfl 42 i0 _ 1 8 Try.underlying41 hi0 hz00 hz01 hz02 rfl (by decide) _ came.length (came.map (Value.int .i64)) rfl (HC5.out.keep (KeepP.ext (S:=fun _=>True) EP) trivial).row ⟨w5.heap.size,0,none⟩ 1 [.int .i64 er] rfl rfl (news1 rfl (Ext.refl _)) (one1i _) (by unfold maxLen;omega) (by omega) ?_) | fail)
     intro g7 off7 cap7 w7 hr7 hg7 hat7
     obtain⟨tg7,hW7,hC7,hK7⟩:=WSt.pushE (HW5.out.toExt EP) (HC5.out.keep (KeepP.ext (S:=fun _=>True) EP) trivial) (by rw[hcl];exact hr7) hg7 (by simpa using hat7)
     have K8:KeepP (fun x=>x=8) tg tg7 wr w7:=(HKK.out.mono (fun x hx=>Or.inr (Or.inr hx))).trans ((KeepP.ext EP).trans (hK7.mono (fun x hx=>by omega)))
     have z8:∀b,z.heap.size≤b→b≤w.heap.size+1+1→tg7 b=8∧w7.heap[b]? =w3.heap[b]?:=fun b h1 h2=>by
      obtain⟨o,ho⟩:∃o,w3.heap[b]? =some o:=⟨_,Array.getElem?_eq_getElem (by omega)⟩
      exact keep8 ho (H8.out b h1 h2).1 (H8.out b h1 h2).2 K8
     have HST7:Hid (PlyJ z w w3 n len cap ao P sb ob bb (run n ls (ds.take (k+1))) (.slice (some ⟨g7,off7,none⟩) (k+1) cap7) w7):=by
      show PlyJ z w w3 n len cap ao P sb ob bb _ _ w7
      rw[HRT.out]
      refine⟨tg7,a5,kv5,lv5,hW7,?_,z8⟩
      show CamAt tg7 w7 (came++[(hap n ls (QW,came).1 ⟨dk,dn,dfs⟩).2]) _
      rw[←HER.out]
      rw[hcl] at hC7
      exact hC7
     clear hW7 hC7 hK7 K8 z8 hr7 hg7 hat7
     go_wp2
     refine⟨⟨k+1,_,by omega,by simp[go_sem],rfl,HST7.out⟩,?_⟩
     simp[intOf]
     omega
    ·have hke:k=ds.length:=by omega
     have i1:¬(k:Int)<(ds.length:Int):=by omega
     obtain⟨tg,a,kv,lv,hW,hC,hT⟩:=HI.out
     have hinv:=run_inv (n:=n) (ls:=ls) (ds:=ds.take k) HWR.out (by rw[List.length_take];omega)
     have HRE:Hid (plyW (n:Int) ls ds=run n ls (ds.take k)):=by
      show _=_
      rw[HF.out.2,hke,List.take_length]
      rfl
     obtain⟨ko,kc,lo2,lc2,hkv,hlv,hwo⟩:=hW.look hinv.lsw hinv.lod hinv.lbk
     have hlsw:=hinv.lsw
     have hlod:=hinv.lod
     have hlbk:=hinv.lbk
     clear hinv hwo
     generalize run n ls (ds.take k)=q at hW hC HRE hkv hlv hlsw hlod hlbk
     obtain⟨W,came⟩:=q
     simp only at hW hC hkv hlv hlsw hlod hlbk
     subst hkv hlv
     have p0:wr.cell? ⟨P,0,none⟩=some (.int .i64 W.co.st):=hW.row.cell (i:=0) (by simp)
     have p1:wr.cell? ⟨P,1,none⟩=some (.int .i64 W.co.now.v):=hW.row.cell (i:=1) (by simp)
     have p2:wr.cell? ⟨P,2,none⟩=some (.slice a.n.fo W.co.now.fs.length a.n.fc):=hW.row.cell (i:=2) (by simp)
     have p3:wr.cell? ⟨P,3,none⟩=some (.slice a.n.qo W.co.now.ps.length a.n.qc):=hW.row.cell (i:=3) (by simp)
     have p4:wr.cell? ⟨P,4,none⟩=some (.int .i64 W.co.nxt.v):=hW.row.cell (i:=4) (by simp)
     have p5:wr.cell? ⟨P,5,none⟩=some (.slice a.x.fo W.co.nxt.fs.length a.x.fc):=hW.row.cell (i:=5) (by simp)
     have p6:wr.cell? ⟨P,6,none⟩=some (.slice a.x.qo W.co.nxt.ps.length a.x.qc):=hW.row.cell (i:=6) (by simp)
     have p7:wr.cell? ⟨P,7,none⟩=some (.int .i64 W.co.num):=hW.row.cell (i:=7) (by simp)
     have p8:wr.cell? ⟨P,8,none⟩=some (.slice a.wo W.co.wts.length a.wc):=hW.row.cell (i:=8) (by simp)
     have p9:wr.cell? ⟨P,9,none⟩=some (.slice (some ⟨sb,0,none⟩) n n):=hW.row.cell (i:=9) (by simp)
     have p10:wr.cell? ⟨P,10,none⟩=some (.slice (some ⟨ob,0,none⟩) n n):=hW.row.cell (i:=10) (by simp)
     have p11:wr.cell? ⟨P,11,none⟩=some (.slice (some ⟨bb,0,none⟩) n n):=hW.row.cell (i:=11) (by simp)
     have p12:wr.cell? ⟨P,12,none⟩=some (.slice ko W.pk.length kc):=hW.row.cell (i:=12) (by simp)
     have p13:wr.cell? ⟨P,13,none⟩=some (.slice lo2 W.pn.length lc2):=hW.row.cell (i:=13) (by simp)
     have zw:=box_cell ((hT (w.heap.size+1) (by omega) (by omega)).2.trans HBW.out.w)
     have zf:=box_cell ((hT (w.heap.size+1+1) (by omega) (by omega)).2.trans HBW.out.f)
     have fw:=box_frozen ((hT (w.heap.size+1) (by omega) (by omega)).2.trans HBW.out.w)
     have ff:=box_frozen ((hT (w.heap.size+1+1) (by omega) (by omega)).2.trans HBW.out.f)
     have r0:=zw 0
     have r1:=zw 1
     have r2:=zw 2
     have r3:=zw 3
     have r4:=zw 4
     have r5:=zw 5
     have r6:=zw 6
     have r7:=zw 7
     have r8:=zw 8
     have r9:=zw 9
     have r10:=zw 10
     have r11:=zw 11
     have r12:=zw 12
     have r13:=zw 13
     have q0:=zf 0
     have q1:=zf 1
     simp only[List.getElem?_toArray,List.getElem?_cons_zero,List.getElem?_cons_succ] at r0 r1 r2 r3 r4 r5 r6 r7 r8 r9 r10 r11 r12 r13 q0 q1
     have HW:=hidp hW
     have HC:=hidp hC
     have HT:=hidp hT
     have hlw:w.heap.size+1+1<wr.heap.size:=(Array.getElem?_eq_some_iff.1 ((hT (w.heap.size+1+1) (by omega) (by omega)).2.trans HBW.out.f)).1
     have HX:=hidp (And.intro hlsw (And.intro hlod hlbk))
     clear zw zf hW hC hT hlsw hlod hlbk HI HST HDS HSM HNT
     go_wp2
     refine bodyPost_ret (v:=.tuple #[.agg #[.int .i64 W.co.st,.int .i64 W.co.now.v,.slice a.n.fo W.co.now.fs.length a.n.fc,.slice a.n.qo W.co.now.ps.length a.n.qc,.int .i64 W.co.nxt.v,.slice a.x.fo W.co.nxt.fs.length a.x.fc,.slice a.x.qo W.co.nxt.ps.length a.x.qc,.int .i64 W.co.num,.slice a.wo W.co.wts.length a.wc,.slice (some ⟨sb,0,none⟩) n n,.slice (some ⟨ob,0,none⟩) n n,.slice (some ⟨bb,0,none⟩) n n,.slice ko W.pk.length kc,.slice lo2 W.pn.length lc2],v,.agg #[.int .i64 0,.int .i64 0]]) (by simp[results,Try.results18,go_sem,r0,r1,r2,r3,r4,r5,r6,r7,r8,r9,r10,r11,r12,r13,q0,q1]) rfl ?_
     rw[HRE.out,HF.out.1]
     exact PlyAll.of (w3:=w3) HW.out HC.out (HT.out _ (by omega) (by omega)).1 (HT.out _ (by omega) (Nat.le_refl _)).1 (by omega) (by omega) hz HE3.out (fun b h1 h2=>HT.out b h1 (by omega)) (by omega) HX.out.1 HX.out.2.1 HX.out.2.2
 ·have HF:Hid (plyF N ls ds=wrong N ls):=by show _=_;unfold plyF;rw[if_pos hr]
  have HW:Hid (plyW N ls ds=(wd0,[])):=by show _=_;unfold plyW;rw[HF.out,if_pos hr]
  have b0:((wrong N ls).1 != 0)=true:=by simpa using hr
  clear hr
  go_wp2
  go_region
  go_wp2
  refine bodyPost_ret (v:=.tuple #[.agg #[.int .i64 0,.int .i64 0,.slice none 0 0,.slice none 0 0,.int .i64 0,.slice none 0 0,.slice none 0 0,.int .i64 0,.slice none 0 0,.slice none 0 0,.slice none 0 0,.slice none 0 0,.slice none 0 0,.slice none 0 0],.slice none 0 0,.agg #[.int .i64 (wrong N ls).1,.int .i64 (wrong N ls).2]]) (by simp[results,Try.results18,go_sem,r0,r1,r2,r3,r4,r5,r6,r7,r8,r9,r10,r11,r12,r13,q0,q1,hl2,hl21]) rfl ?_
  rw[HW.out,HF.out]
  refine⟨wa0,none,0,rfl,?_,fun U _ _ _=>⟨WoAt.zero U,Or.inl rfl⟩⟩
  refine Ext.drew (Ext.alloc ?_ _)
  iterate 16 refine Ext.setCell ?_ (by simp only;omega) _
  exact hE2
theorem Play_all (N:Int) (ao:Option Addr) (len cap:Nat) (ls:List Lk) (lo:Option Addr) (lc:Nat) (ds:List Dd) (z w:World) (hz:Ext z w) (hlen:ls.length=len) (hl:NetAt z ao ls) (hx:len≤9223372036854775807) (hd:DosAt z lo ds) (hS:DsSm ds) (hdl:ds.length≤9223372036854775807):
 Calls Try.prog 18 #[.agg #[.int .i64 N,.slice ao len cap],.slice lo ds.length lc] w fun e w'=>PlyAll z w (plyW N ls ds).1 (plyW N ls ds).2 (plyF N ls ds) e w':=
 Play_in N ao len cap ls lo lc ds z w hz hlen hl hx (hd.isIn.ext hz) hS hdl
end Go.Proofs.Ytolclgbpjiokfaa.Rm
namespace Go.Proofs.Ytolclgbpjiokfaa.Rm
open Go.RowKit Go.Deep Stw Stp Tb Rul Ct
theorem DosIn.dos {z w:World} {ao:Option Addr} {ds:List Dd} (h:DosIn z w ao ds) (E:Ext z w):DosAt w ao ds:=by
 rcases h with h | ⟨b,off,h1,h2,h3⟩
 ·exact Or.inl h
 ·refine Or.inr ⟨b,off,h1,h2,fun k hk=>?_⟩
  obtain⟨fo,fc,c0,c1,c2,hf⟩:=h3 k hk
  exact⟨fo,fc,c0,c1,c2,hf.ext E⟩
theorem DosIn.take {z w:World} {ao:Option Addr} {ds:List Dd} {k:Nat} (h:DosIn z w ao ds):DosIn z w ao (ds.take k):=by
 rcases h with h | ⟨b,off,h1,h2,h3⟩
 ·left;rw[h];simp
 ·refine Or.inr ⟨b,off,h1,h2,fun j hj=>?_⟩
  rw[List.length_take] at hj
  have e:(ds.take k).getD j dd0=ds.getD j dd0:=by rw[List.getD_eq_getElem?_getD,List.getD_eq_getElem?_getD,List.getElem?_take,if_pos (by omega)]
  rw[e]
  exact h3 j (by omega)
def DsC (z:World) (xs:List Value) (ds:List Dd):Prop:=
 ∀k,k<ds.length→∃fo fc,xs[k*3]? =some (.int .i64 (ds.getD k dd0).k)∧xs[k*3+1]? =some (.int .i64 (ds.getD k dd0).n)∧xs[k*3+2]? =some (.slice fo (ds.getD k dd0).fs.length fc)∧Fw.FlowsAt z fo (ds.getD k dd0).fs
theorem DsC.append {z:World} {xs ys:List Value} {ds es:List Dd} (h:DsC z xs ds) (hl:xs.length=ds.length*3) (k:DsC z ys es):DsC z (xs++ys) (ds++es):=fun j hj=>by
 rw[List.length_append] at hj
 by_cases hjd:j<ds.length
 ·obtain⟨fo,fc,a0,a1,a2,a3⟩:=h j hjd
  have e:(ds++es).getD j dd0=ds.getD j dd0:=by rw[List.getD_eq_getElem?_getD,List.getD_eq_getElem?_getD,List.getElem?_append_left hjd]
  rw[e]
  exact⟨fo,fc,by rw[List.getElem?_append_left (by omega)];exact a0,by rw[List.getElem?_append_left (by omega)];exact a1,by rw[List.getElem?_append_left (by omega)];exact a2,a3⟩
 ·obtain⟨fo,fc,a0,a1,a2,a3⟩:=k (j - ds.length) (by omega)
  have e:(ds++es).getD j dd0=es.getD (j - ds.length) dd0:=by rw[List.getD_eq_getElem?_getD,List.getD_eq_getElem?_getD,List.getElem?_append_right (by omega)]
  rw[e]
  refine⟨fo,fc,?_,?_,?_,a3⟩
  ·rw[List.getElem?_append_right (by omega),show j*3 - xs.length=(j - ds.length)*3 by omega];exact a0
  ·rw[List.getElem?_append_right (by omega),show j*3+1 - xs.length=(j - ds.length)*3+1 by omega];exact a1
  ·rw[List.getElem?_append_right (by omega),show j*3+2 - xs.length=(j - ds.length)*3+2 by omega];exact a2
def srcC (w:World) (a:Addr) (n:Nat):List Value:=(List.range n).map (fun j=>(w.cell? (a.add j)).getD (.bool false))
theorem srcC_at {w:World} {a:Addr} {n j:Nat} {u:Value} (hj:j<n) (h:w.cell? (a.add j)=some u):(srcC w a n)[j]? =some u:=by
 unfold srcC
 rw[List.getElem?_map,List.getElem?_range hj]
 simp[h]
theorem DosIn.cells {z w:World} {a:Addr} {ds:List Dd} (h:DosIn z w (some a) ds):∃xs:List Value,xs.length=ds.length*3∧(∀j u,xs[j]? =some u→w.cell? (a.add j)=some u)∧(∀u∈xs,u.oneCell'=true)∧DsC z xs ds:=by
 rcases h with rfl | ⟨b,off,h1,h2,h3⟩
 ·exact⟨[],rfl,fun j u hu=>by simp at hu,fun u hu=>by simp at hu,fun k hk=>by simp at hk⟩
 ·cases h1
  have key:∀j,j<ds.length*3→∃u,w.cell? ((⟨b,off,none⟩:Addr).add j)=some u∧u.oneCell'=true:=fun j hj=>by
   obtain⟨fo,fc,c0,c1,c2,_⟩:=h3 (j / 3) (by omega)
   rw[add_none]
   rcases(show j % 3=0∨j % 3=1∨j % 3=2 by omega) with e | e | e
   ·rw[show off+j / 3*3=off+j by omega] at c0;exact⟨_,c0,rfl⟩
   ·rw[show off+j / 3*3+1=off+j by omega] at c1;exact⟨_,c1,rfl⟩
   ·rw[show off+j / 3*3+2=off+j by omega] at c2;exact⟨_,c2,rfl⟩
  have hlen:(srcC w ⟨b,off,none⟩ (ds.length*3)).length=ds.length*3:=by simp[srcC]
  refine⟨srcC w ⟨b,off,none⟩ (ds.length*3),hlen,fun j u hu=>?_,fun u hu=>?_,fun k hk=>?_⟩
  ·have hj:j<ds.length*3:=by have:=(List.getElem?_eq_some_iff.1 hu).1;omega
   obtain⟨v,e,_⟩:=key j hj
   rw[srcC_at hj e] at hu
   rw[e,hu]
  ·obtain⟨j,hj⟩:=List.getElem?_of_mem hu
   have hj2:j<ds.length*3:=by have:=(List.getElem?_eq_some_iff.1 hj).1;omega
   obtain⟨v,e,h1⟩:=key j hj2
   rw[srcC_at hj2 e] at hj
   cases hj
   exact h1
  ·obtain⟨fo,fc,c0,c1,c2,hf⟩:=h3 k hk
   exact⟨fo,fc,srcC_at (by omega) (by rw[add_none];exact c0),srcC_at (by omega) (by rw[add_none];exact c1),srcC_at (by omega) (by rw[add_none];exact c2),hf⟩
def DO (z w:World) (v:Value) (ds:List Dd):Prop:=∃xs,Rw w 66 3 v ds.length xs∧(∀k,v.ownBlock=some k→z.heap.size≤k)∧DsC z xs ds
theorem DO.form {z w:World} {v:Value} {ds:List Dd} (h:DO z w v ds):∃ao cap,v=.slice ao ds.length cap∧DosIn z w ao ds∧(ao=none→ds.length=0∧cap=0)∧ds.length≤cap∧cap≤9223372036854775807:=by
 obtain⟨xs,h,_,hC⟩:=h
 rcases h.alt with⟨hv,h0⟩ | ⟨g,off,cap,cur,hv,hg,hn,hm,hc,ht⟩
 ·exact⟨none,0,by rw[h0];exact hv,Or.inl (List.eq_nil_of_length_eq_zero h0),fun _=>⟨h0,rfl⟩,by omega,by omega⟩
 ·refine⟨some ⟨g,off,none⟩,cap,hv,Or.inr ⟨g,off,rfl,(Array.getElem?_eq_some_iff.1 hg).1,fun k hk=>?_⟩,(fun h=>by cases h),hn,by unfold maxLen at hm;omega⟩
  have hcell:∀j u,j<ds.length*3→xs[j]? =some u→w.cell? ⟨g,off+j,none⟩=some u:=fun j u hj hu=>by
   rw[cell_of_row w g (off+j) cur _ (0,0) hg,ht j hj,hu]
  obtain⟨fo,fc,a0,a1,a2,a3⟩:=hC k hk
  exact⟨fo,fc,hcell _ _ (by omega) a0,by rw[Nat.add_assoc];exact hcell _ _ (by omega) a1,by rw[Nat.add_assoc];exact hcell _ _ (by omega) a2,a3⟩
theorem DO.keep {z w w':World} {v:Value} {ds:List Dd} (h:DO z w v ds) (hb:∀k,v.ownBlock=some k→w'.heap[k]? =w.heap[k]?):DO z w' v ds:=by
 obtain⟨xs,h,h1,hC⟩:=h
 exact⟨xs,h.keep hb,h1,hC⟩
theorem DO.lt {z w:World} {v:Value} {ds:List Dd} (h:DO z w v ds):∀k,v.ownBlock=some k→z.heap.size≤k∧k<w.heap.size:=by obtain⟨xs,h,h1,_⟩:=h;exact fun k hk=>⟨h1 k hk,h.lt k hk⟩
theorem DO.ext {z w w':World} {v:Value} {ds:List Dd} (h:DO z w v ds) (k:Ext w w'):DO z w' v ds:=h.keep fun b hb=>Below.block k b (h.lt b hb).2
theorem DO.nil (z w:World):DO z w (.slice none 0 0) []:=⟨[],Rw.nil _ _ _,fun k hk=>by simp[Value.ownBlock] at hk,fun k hk=>by simp at hk⟩
theorem DO.new {z W:World} {ds:List Dd} {g:Nat} {C:Array Value} (hb:z.heap.size≤g) (h:W.heap[g]? =some (.cells C 66 (0,0))) (hl:C.size=ds.length*3) (hm:ds.length≤1000) (hC:DsC z C.toList ds):DO z W (.slice (some ⟨g,0,none⟩) ds.length ds.length) ds:=
 ⟨C.toList,⟨by rw[Array.length_toList];exact hl,Or.inr ⟨g,0,ds.length,C,rfl,h,Nat.le_refl _,by unfold maxLen;omega,by omega,fun j hj=>by rw[Nat.zero_add];simp⟩⟩,fun k hk=>by simp[Value.ownBlock] at hk;omega,hC⟩
theorem infoDo:(Try.prog.info? 66).map (fun i=>(i.zero,i.size,i.bytes))=some (some (.agg #[.int .i64 0,.int .i64 0,.slice none 0 0]),3,40):=by kernel_rfl
theorem own_rw {w:World} {base:Nat} {e:TypeId} {size:Nat} {v:Value} {n:Nat} {xs:List Value} (h:w.ownsRow base e size v n xs):Rw w e size v n xs:=by
 refine⟨h.1,?_⟩
 rcases h.2 with⟨hv,h0⟩ | ⟨g,cap,cur,hv,hb,hg,hn,hm,hc,ht⟩
 ·exact Or.inl ⟨hv,h0⟩
 ·refine Or.inr ⟨g,0,cap,cur,hv,hg,hn,hm,by omega,fun j hj=>?_⟩
  rw[←ht,List.getElem?_take_of_lt hj,Nat.zero_add]
  simp
theorem copy_dos {z W:World} {g:Nat} {es:List Dd} {bo:Option Addr} {lb cb:Nat} (hg:W.heap[g]? =some (.cells #[] 66 (0,0))) (hz:z.heap.size≤g) (hlen:es.length=lb) (hb:DosIn z W bo es) (hnil:bo=none→lb=0∧cb=0) (hn:lb≤1000000):
 ∃ao cap W',(∀ty,(Builtin.append_ #[25,25] ty #[.slice (some ⟨g,0,none⟩) 0 0,.slice bo lb cb]).run Try.prog W=.ok (.slice ao lb cap) W')∧DO z W' (.slice ao lb cap) es∧W.grownBy W' (some g)∧(∀k,(Value.slice ao lb cap).ownBlock=some k→g≤k):=by
 obtain⟨i3,hi3,hz0,hz1,hz2⟩:=info_parts infoDo
 have hgl:g<W.heap.size:=(Array.getElem?_eq_some_iff.1 hg).1
 have ho:W.ownsRow g 66 3 (.slice (some ⟨g,0,none⟩) 0 0) 0 []:=⟨by simp,Or.inr ⟨g,0,#[],rfl,Nat.le_refl _,hg,Nat.le_refl _,Nat.zero_le _,rfl,rfl⟩⟩
 have fin:∀v' W',(∀ty,(Builtin.append_ #[25,25] ty #[.slice (some ⟨g,0,none⟩) 0 0,.slice bo lb cb]).run Try.prog W=.ok v' W')→∀xs,W'.ownsRow g 66 3 v' lb xs→DsC z xs es→W.grownBy W' (some g)→∃ao cap W',(∀ty,(Builtin.append_ #[25,25] ty #[.slice (some ⟨g,0,none⟩) 0 0,.slice bo lb cb]).run Try.prog W=.ok (.slice ao lb cap) W')∧DO z W' (.slice ao lb cap) es∧W.grownBy W' (some g)∧(∀k,(Value.slice ao lb cap).ownBlock=some k→g≤k):=fun v' W' hr xs h hC hG=>by
  obtain⟨ao,cap,rfl⟩:=(own_rw h).form
  exact⟨ao,cap,W',hr,⟨xs,by rw[hlen];exact own_rw h,fun k hk=>Nat.le_trans hz (h.lt k hk).1,hC⟩,hG,fun k hk=>(h.lt k hk).1⟩
 cases bo with
 | none=>
  obtain⟨n1,n2⟩:=hnil rfl
  subst n1 n2
  have hes:es=[]:=List.eq_nil_of_length_eq_zero hlen
  subst hes
  exact fin _ W (fun ty=>run_append_owned_none (P:=Try.prog) (w:=W) g 25 ty 66 i3 3 Try.underlying25 hi3 _ _ _ ho) [] ho (fun k hk=>by simp at hk) (Gb.refl _ _)
 | some ad=>
  obtain⟨xs,x1,x2,x3,x4⟩:=hb.cells
  obtain⟨v',W',hr,h2,h3,_⟩:=run_append_own (P:=Try.prog) W g 25 25 66 i3 (.agg #[.int .i64 0,.int .i64 0,.slice none 0 0]) 3 40 Try.underlying25 hi3 hz0 hz1 hz2 rfl (by decide) _ 0 [] ho ad lb cb xs (by rw[x1,hlen]) x2 x3 (by unfold maxLen;omega) (by omega) (by omega)
  rw[Nat.zero_add] at h2
  exact fin v' W' (fun ty=>hr) _ h2 (by simpa using x4) h3
theorem append_dos {z W:World} {v:Value} {ds es:List Dd} {a:Addr} {lb cb:Nat} (ho:DO z W v ds) (hlen:es.length=lb) (h0:0<lb) (hb:DosIn z W (some a) es) (hE:Ext z W) (hn:ds.length+lb≤1000000):
 ∃g off cap W',(∀ty,(Builtin.append_ #[25,25] ty #[v,.slice (some a) lb cb]).run Try.prog W=.ok (.slice (some ⟨g,off,none⟩) (ds.length+lb) cap) W')∧DO z W' (.slice (some ⟨g,off,none⟩) (ds.length+lb) cap) (ds++es)∧W.grownBy W' v.ownBlock∧(v.ownBlock=some g∨g=W.heap.size)∧Ext z W':=by
 obtain⟨i3,hi3,hz0,hz1,hz2⟩:=info_parts infoDo
 obtain⟨ys,h,h1,hC⟩:=ho
 obtain⟨xs,x1,x2,x3,x4⟩:=hb.cells
 obtain⟨g,off,cap,W',hr,h2,h3,h4⟩:=run_append_rw (P:=Try.prog) W 25 25 66 i3 (.agg #[.int .i64 0,.int .i64 0,.slice none 0 0]) 3 40 Try.underlying25 hi3 hz0 hz1 hz2 rfl (by decide) v ds.length ys h a lb cb xs (by rw[x1,hlen]) x2 x3 h0 (by unfold maxLen;omega) (by omega)
 refine⟨g,off,cap,W',fun ty=>hr,⟨ys++xs,by rw[List.length_append,hlen];exact h2,fun k hk=>?_,hC.append h.len x4⟩,h3,h4,Below.grown hE h3 hE.size (fun k hk=>h1 k hk)⟩
 simp[Value.ownBlock] at hk
 subst hk
 rcases h4 with e | e
 ·exact h1 _ e
 ·rw[e];exact hE.size
structure RS (z y:World) (g:Option Nat) (W:World) (v:Value) (ds:List Dd):Prop where
 row:DO z W v ds
 ext:Ext z W
 gr:y.grownBy W g
 own:∀k,v.ownBlock=some k→g=some k∨y.heap.size≤k
theorem RS.start {z y:World} {v:Value} {ds:List Dd} (h:DO z y v ds) (E:Ext z y):RS z y v.ownBlock y v ds:=⟨h,E,Gb.refl _ _,fun _ hk=>Or.inl hk⟩
theorem grown_ext {y W W':World} {g:Option Nat} (h:y.grownBy W g) (E:Ext W W'):y.grownBy W' g:=
 ⟨E.os.trans h.os,E.tape.trans h.tape,E.output.trans h.output,Nat.le_trans h.size E.size,fun k hk hg=>(E.block k (Nat.lt_of_lt_of_le hk h.size)).trans (h.block k hk hg)⟩
theorem RS.toExt {z y W W':World} {g:Option Nat} {v:Value} {ds:List Dd} (h:RS z y g W v ds) (E:Ext W W'):RS z y g W' v ds:=⟨h.row.ext E,h.ext.trans E,grown_ext h.gr E,h.own⟩
theorem grown_trans {y W W':World} {g g':Option Nat} (h:y.grownBy W g) (k:W.grownBy W' g') (hg:∀b,g'=some b→g=some b∨y.heap.size≤b):y.grownBy W' g:=
 ⟨k.os.trans h.os,k.tape.trans h.tape,k.output.trans h.output,Nat.le_trans h.size k.size,fun b hb hne=>(k.block b (Nat.lt_of_lt_of_le hb h.size) (fun e=>by
  rcases hg b e.symm with h1 | h1
  ·exact hne h1.symm
  ·omega)).trans (h.block b hb hne)⟩
theorem RS.low {z y y' W:World} {g:Option Nat} {v:Value} {ds:List Dd} (E:Ext y y') (h:RS z y' g W v ds):RS z y g W v ds:=
 ⟨h.row,h.ext,⟨h.gr.os.trans E.os,h.gr.tape.trans E.tape,h.gr.output.trans E.output,Nat.le_trans E.size h.gr.size,fun b hb hne=>(h.gr.block b (Nat.lt_of_lt_of_le hb E.size) hne).trans (E.block b hb)⟩,fun k hk=>(h.own k hk).imp id (Nat.le_trans E.size)⟩
theorem RS.trans {z y x W:World} {g:Option Nat} {v v':Value} {ds es:List Dd} (h:RS z y g x v ds) (k:RS z x v.ownBlock W v' es):RS z y g W v' es:=
 ⟨k.row,k.ext,grown_trans h.gr k.gr h.own,fun b hb=>by
  rcases k.own b hb with e | e
  ·exact h.own b e
  ·exact Or.inr (Nat.le_trans h.gr.size e)⟩
theorem RS.append {z y W:World} {g:Option Nat} {v:Value} {ds es:List Dd} {a:Addr} {lb cb:Nat} (h:RS z y g W v ds) (hlen:es.length=lb) (h0:0<lb) (hb:DosIn z W (some a) es) (hn:ds.length+lb≤1000000):
 ∃b off cap W',(∀ty,(Builtin.append_ #[25,25] ty #[v,.slice (some a) lb cb]).run Try.prog W=.ok (.slice (some ⟨b,off,none⟩) (ds.length+lb) cap) W')∧RS z y g W' (.slice (some ⟨b,off,none⟩) (ds.length+lb) cap) (ds++es):=by
 obtain⟨b,off,cap,W',hr,h2,h3,h4,h5⟩:=append_dos h.row hlen h0 hb h.ext hn
 refine⟨b,off,cap,W',hr,h2,h5,grown_trans h.gr h3 h.own,fun k hk=>?_⟩
 simp[Value.ownBlock] at hk
 subst hk
 rcases h4 with e | e
 ·exact h.own _ e
 ·right;rw[e];exact h.gr.size
theorem wpList_append_rs {ops:Array Oper} {rest:List Oper} {o:Oper} {a:Act} {Q:Exit→Act→World→Prop} {W:World} (hgd:o.guard=none) (s x:Operand)
 (ho:o.op=.call {callee:=.builtin .append,args:=#[s,x],argTypes:=#[25,25]}) {z y:World} {g:Option Nat} {v:Value} {ds es:List Dd} {ad:Addr} {lb cb:Nat}
 (hs:a.eval s=v) (hx:a.eval x=.slice (some ad) lb cb) (h:RS z y g W v ds) (hlen:es.length=lb) (h0:0<lb) (hb:DosIn z W (some ad) es) (hn:ds.length+lb≤1000000)
 (hK:∀b off cap W',RS z y g W' (.slice (some ⟨b,off,none⟩) (ds.length+lb) cap) (ds++es)→wpList Try.prog ops Q rest (a.put o.dst (.slice (some ⟨b,off,none⟩) (ds.length+lb) cap)) W'):wpList Try.prog ops Q (o::rest) a W:=by
 refine wpList_plain hgd fun K hK'=>?_
 obtain⟨b,off,cap,W',hr,h2⟩:=h.append (cb:=cb) hlen h0 hb hn
 unfold Oper.wp execOp
 simp only[ho,resolve,invoke,builtin,Sem.run_bind,Sem.run_pure,Result.andThen_ok,List.map_toArray,List.map_cons,List.map_nil,hs,hx,hr]
 exact hK' _ _ (hK b off cap W' h2)
theorem wpList_copy_dos {ops:Array Oper} {rest:List Oper} {o:Oper} {a:Act} {Q:Exit→Act→World→Prop} {W:World} (hgd:o.guard=none) (s x:Operand)
 (ho:o.op=.call {callee:=.builtin .append,args:=#[s,x],argTypes:=#[25,25]}) {z:World} {g:Nat} {es:List Dd} {bo:Option Addr} {lb cb:Nat}
 (hs:a.eval s=.slice (some ⟨g,0,none⟩) 0 0) (hx:a.eval x=.slice bo lb cb) (hg:W.heap[g]? =some (.cells #[] 66 (0,0))) (hz:z.heap.size≤g) (hlen:es.length=lb) (hb:DosIn z W bo es) (hnil:bo=none→lb=0∧cb=0) (hn:lb≤1000000)
 (hK:∀ao cap W',DO z W' (.slice ao lb cap) es→W.grownBy W' (some g)→(∀k,(Value.slice ao lb cap).ownBlock=some k→g≤k)→wpList Try.prog ops Q rest (a.put o.dst (.slice ao lb cap)) W'):wpList Try.prog ops Q (o::rest) a W:=by
 refine wpList_plain hgd fun K hK'=>?_
 obtain⟨ao,cap,W',hr,h1,h2,h3⟩:=copy_dos (cb:=cb) hg hz hlen hb hnil hn
 unfold Oper.wp execOp
 simp only[ho,resolve,invoke,builtin,Sem.run_bind,Sem.run_pure,Result.andThen_ok,List.map_toArray,List.map_cons,List.map_nil,hs,hx,hr]
 exact hK' _ _ (hK ao cap W' h1 h2 h3)
theorem one_in {z W:World} {n:Nat} {d:Dd} {fo:Option Addr} {fc:Nat} (h:W.heap.size=n) (hf:Fw.FlowsAt z fo d.fs):DosIn z (W.alloc (.cells #[.int .i64 d.k,.int .i64 d.n,.slice fo d.fs.length fc] 66)) (some ⟨n,0,none⟩) [d]:=by
 subst h
 refine Or.inr ⟨_,0,rfl,by simp,fun k hk=>?_⟩
 have hk1:k<1:=hk
 match k,hk1 with
 | 0,_=>exact⟨fo,fc,by simp,by simp,by simp,hf⟩
theorem two_in {z W:World} {n:Nat} {a b c d:Int} (h:W.heap.size=n):DosIn z (W.alloc (.cells #[.int .i64 a,.int .i64 b,.slice none 0 0,.int .i64 c,.int .i64 d,.slice none 0 0] 66)) (some ⟨n,0,none⟩) [⟨a,b,[]⟩,⟨c,d,[]⟩]:=by
 subst h
 refine Or.inr ⟨_,0,rfl,by simp,fun k hk=>?_⟩
 have hk1:k<2:=hk
 match k,hk1 with
 | 0,_=>exact⟨none,0,by simp,by simp,by simp,Or.inl rfl⟩
 | 1,_=>exact⟨none,0,by simp,by simp,by simp,Or.inl rfl⟩
end Go.Proofs.Ytolclgbpjiokfaa.Rm
