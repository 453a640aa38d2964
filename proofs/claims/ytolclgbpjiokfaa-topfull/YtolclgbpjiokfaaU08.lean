/- A change of a net, in words: plans, controls, what is told to whom; what comes of Ask, Back and Drop. -/
import Derived.Test.YtolclgbpjiokfaaU01
import Derived.Test.YtolclgbpjiokfaaU07
namespace Go.Proofs.Ytolclgbpjiokfaa.Tb
open Go.RowKit Go.Deep Rul
abbrev r0:Ru:=(0,0,0)
theorem Gb.refl (w:World) (r:Option Nat):w.grownBy w r:=⟨rfl,rfl,rfl,Nat.le_refl _,fun _ _ _=>rfl⟩
def RsAt (w:World) (ao:Option Addr) (rs:List Ru):Prop:=
 rs=[]∨∃g off,ao=some ⟨g,off,none⟩∧g<w.heap.size∧∀k,k<rs.length→w.cell? ⟨g,off+k*3,none⟩=some (.int .i64 (rs.getD k (0,0,0)).1)∧w.cell? ⟨g,off+k*3+1,none⟩=some (.int .i64 (rs.getD k (0,0,0)).2.1)∧w.cell? ⟨g,off+k*3+2,none⟩=some (.int .i64 (rs.getD k (0,0,0)).2.2)
theorem RsAt.ext {w w':World} {ao:Option Addr} {rs:List Ru} (h:RsAt w ao rs) (E:Ext w w'):RsAt w' ao rs:=by
 rcases h with h | ⟨g,off,h1,h2,h3⟩
 ·exact Or.inl h
 ·exact Or.inr ⟨g,off,h1,Nat.lt_of_lt_of_le h2 E.size,fun k hk=>by
   obtain⟨c0,c1,c2⟩:=h3 k hk
   exact⟨(E.cells.1 _ _ h2).trans c0,(E.cells.1 _ _ h2).trans c1,(E.cells.1 _ _ h2).trans c2⟩⟩
theorem RsAt.get {w:World} {ao:Option Addr} {rs:List Ru} (h:RsAt w ao rs) {k:Nat} (hk:k<rs.length):∃g off,ao=some ⟨g,off,none⟩∧g<w.heap.size∧∀k,k<rs.length→w.cell? ⟨g,off+k*3,none⟩=some (.int .i64 (rs.getD k (0,0,0)).1)∧w.cell? ⟨g,off+k*3+1,none⟩=some (.int .i64 (rs.getD k (0,0,0)).2.1)∧w.cell? ⟨g,off+k*3+2,none⟩=some (.int .i64 (rs.getD k (0,0,0)).2.2):=by
 rcases h with h | h
 ·rw[h] at hk;simp at hk
 ·exact h
def rcs (rs:List Ru):List Value:=rs.flatMap (fun r=>[.int .i64 r.1,.int .i64 r.2.1,.int .i64 r.2.2])
theorem rcs_cons (r:Ru) (rs:List Ru):rcs (r::rs)=[.int .i64 r.1,.int .i64 r.2.1,.int .i64 r.2.2]++rcs rs:=by simp[rcs]
theorem rcs_len:∀rs:List Ru,(rcs rs).length=rs.length*3
 | []=>rfl
 | r::rs=>by rw[rcs_cons,List.length_append,rcs_len rs];simp;omega
theorem rcs_append (x y:List Ru):rcs (x++y)=rcs x++rcs y:=by simp[rcs]
theorem rcs_one (rs:List Ru):∀u∈rcs rs,u.oneCell'=true:=by
 intro u hu
 simp only[rcs,List.mem_flatMap,List.mem_cons,List.not_mem_nil,or_false] at hu
 obtain⟨l,_,rfl | rfl | rfl⟩:=hu <;> rfl
theorem rcs_at:∀(rs:List Ru) (k:Nat),k<rs.length→(rcs rs)[k*3]? =some (.int .i64 (rs.getD k r0).1)∧(rcs rs)[k*3+1]? =some (.int .i64 (rs.getD k r0).2.1)∧(rcs rs)[k*3+2]? =some (.int .i64 (rs.getD k r0).2.2)
 | [],k,h=>by simp at h
 | r::rs,0,_=>by simp[rcs]
 | r::rs,k+1,h=>by
  have ih:=rcs_at rs k (by simpa using h)
  rw[rcs_cons]
  simp only[List.getElem?_append,List.length_cons,List.length_nil,show ¬(k+1)*3<0+1+1+1 by omega,show ¬(k+1)*3+1<0+1+1+1 by omega,show ¬(k+1)*3+2<0+1+1+1 by omega,if_false,show(k+1)*3 - (0+1+1+1)=k*3 by omega,show(k+1)*3+1 - (0+1+1+1)=k*3+1 by omega,show(k+1)*3+2 - (0+1+1+1)=k*3+2 by omega]
  simpa using ih
theorem add_none (g off j:Nat):(⟨g,off,none⟩:Addr).add j=⟨g,off+j,none⟩:=by
 unfold Addr.add
 split
 ·simp_all
 ·rfl
theorem rcs_cells {W:World} {g off:Nat} {rs:List Ru} (h:∀k,k<rs.length→W.cell? ⟨g,off+k*3,none⟩=some (.int .i64 (rs.getD k r0).1)∧W.cell? ⟨g,off+k*3+1,none⟩=some (.int .i64 (rs.getD k r0).2.1)∧W.cell? ⟨g,off+k*3+2,none⟩=some (.int .i64 (rs.getD k r0).2.2)):
 ∀j u,(rcs rs)[j]? =some u→W.cell? ((⟨g,off,none⟩:Addr).add j)=some u:=fun j u hu=>by
 have hj:j<rs.length*3:=by have:=(List.getElem?_eq_some_iff.1 hu).1;rwa [rcs_len] at this
 obtain⟨a0,a1,a2⟩:=rcs_at rs (j / 3) (by omega)
 obtain⟨c0,c1,c2⟩:=h (j / 3) (by omega)
 rw[add_none]
 rcases(show j % 3=0∨j % 3=1∨j % 3=2 by omega) with e | e | e
 ·rw[show j / 3*3=j by omega] at a0 c0;rw[c0, ←a0,hu]
 ·rw[show j / 3*3+1=j by omega] at a1;rw[show off+j / 3*3+1=off+j by omega] at c1;rw[c1, ←a1,hu]
 ·rw[show j / 3*3+2=j by omega] at a2;rw[show off+j / 3*3+2=off+j by omega] at c2;rw[c2, ←a2,hu]
def RO (w:World) (base:Nat) (v:Value) (rs:List Ru):Prop:=w.ownsRow base 63 3 v rs.length (rcs rs)
theorem RO.form {w:World} {base:Nat} {v:Value} {rs:List Ru} (h:RO w base v rs):∃ao cap,v=.slice ao rs.length cap∧RsAt w ao rs∧(ao=none→rs=[]∧cap=0)∧rs.length≤cap∧cap≤maxLen:=by
 rcases h.2 with⟨hv,h0⟩ | ⟨g,cap,cur,hv,hb,hg,hn,hm,hc,ht⟩
 ·exact⟨none,0,by rw[h0];exact hv,Or.inl (List.eq_nil_of_length_eq_zero h0),fun _=>⟨List.eq_nil_of_length_eq_zero h0,rfl⟩,by omega,Nat.zero_le _⟩
 ·refine⟨some ⟨g,0,none⟩,cap,hv,Or.inr ⟨g,0,rfl,(Array.getElem?_eq_some_iff.1 hg).1,fun k hk=>?_⟩,(fun h=>by cases h),hn,hm⟩
  have hcell:∀j u,j<rs.length*3→(rcs rs)[j]? =some u→w.cell? ⟨g,0+j,none⟩=some u:=fun j u hj hu=>by
   rw[←ht,List.getElem?_take_of_lt hj] at hu
   simp[World.cell?,hg]
   simpa using hu
  obtain⟨a0,a1,a2⟩:=rcs_at rs k hk
  exact⟨hcell _ _ (by omega) a0,hcell _ _ (by omega) a1,hcell _ _ (by omega) a2⟩
theorem RO.ext {w w':World} {base:Nat} {v:Value} {rs:List Ru} (h:RO w base v rs) (k:Ext w w'):RO w' base v rs:=by
 refine⟨h.1,?_⟩
 rcases h.2 with h2 | ⟨g,cap,cur,h1,h2,h3,h4⟩
 ·exact Or.inl h2
 ·exact Or.inr ⟨g,cap,cur,h1,h2,(Below.block k g (Array.getElem?_eq_some_iff.1 h3).1).trans h3,h4⟩
theorem RO.nil (w:World) (base:Nat):RO w base (.slice none 0 0) []:=World.ownsRow_nil _ _ _ _
theorem infoR:(Try.prog.info? 63).map (fun i=>(i.zero,i.size,i.bytes))=some (some (.agg #[.int .i64 0,.int .i64 0,.int .i64 0]),3,24):=by kernel_rfl
theorem infoR':∃i,Try.prog.info? 63=some i∧i.zero=some (.agg #[.int .i64 0,.int .i64 0,.int .i64 0])∧i.size=3∧i.bytes=24:=by
 have h:=infoR
 cases e:Try.prog.info? 63 with
 | none=>rw[e] at h;simp at h
 | some i=>rw[e] at h;simp at h;exact⟨i,rfl,h.1,h.2.1,h.2.2⟩
theorem cells3n {W:World} {n:Nat} (h:W.heap.size=n) (v0 v1 v2:Value) (T:TypeId) (i:Nat) (u:Value) (hu:[v0,v1,v2][i]? =some u):(W.alloc (.cells #[v0,v1,v2] T)).cell? ((⟨n,0,none⟩:Addr).add i)=some u:=by
 subst h
 rw[add_none]
 match i,hu with
 | 0,hu=>simp at hu;subst hu;simp
 | 1,hu=>simp at hu;subst hu;simp
 | 2,hu=>simp at hu;subst hu;simp
 | i+3,hu=>simp at hu
theorem RO.block {w:World} {base:Nat} {v:Value} {rs:List Ru} (h:RO w base v rs):∀k,v.ownBlock=some k→base≤k∧k<w.heap.size:=h.lt
structure SlOk (w:World) (ao:Option Addr) (len cap:Nat) (rs:List Ru):Prop where
 hlen:rs.length=len
 hat:RsAt w ao rs
 hnil:ao=none→len=0∧cap=0
theorem SlOk.ext {w w':World} {ao:Option Addr} {len cap:Nat} {rs:List Ru} (h:SlOk w ao len cap rs) (E:Ext w w'):SlOk w' ao len cap rs:=⟨h.hlen,h.hat.ext E,h.hnil⟩
theorem SlOk.news {w:World} {a:Addr} {len cap:Nat} {rs:List Ru} (h:SlOk w (some a) len cap rs):∀j u,(rcs rs)[j]? =some u→w.cell? (a.add j)=some u:=by
 rcases h.hat with h0 | ⟨g,off,h1,h2,h3⟩
 ·intro j u hu;rw[h0] at hu;simp[rcs] at hu
 ·cases h1
  exact rcs_cells h3
theorem RO.more {w w5:World} {base:Nat} {v v':Value} {rs ls:List Ru} (_:RO w base v rs) (h:w5.ownsRow base 63 3 v' (rs.length+ls.length) (rcs rs++rcs ls)):RO w5 base v' (rs++ls):=by
 unfold RO;rw[rcs_append,List.length_append];exact h
theorem own_emptyR {W:World} {base g:Nat} (hb:base≤g) (h:W.heap[g]? =some (.cells #[] 63 (0,0))):RO W base (.slice (some ⟨g,0,none⟩) 0 0) []:=
 ⟨by simp[rcs],Or.inr ⟨g,0,#[],rfl,hb,h,Nat.le_refl _,Nat.zero_le _,rfl,rfl⟩⟩
theorem append_rules {W:World} {base:Nat} {v:Value} {rs rb:List Ru} {bo:Option Addr} {lb cb:Nat} (ho:RO W base v rs) (hb:SlOk W bo lb cb rb) (hbase:base≤W.heap.size) (hn:(rs.length+lb)*24≤140737488355328):
 ∃v' W',(∀ty,(Builtin.append_ #[57,57] ty #[v,.slice bo lb cb]).run Try.prog W=.ok v' W')∧RO W' base v' (rs++rb)∧W.grownBy W' v.ownBlock:=by
 obtain⟨i3,hi3,hz0,hz1,hz2⟩:=infoR'
 cases bo with
 | none=>
  obtain⟨n1,n2⟩:=hb.hnil rfl
  have hrb:rb=[]:=List.eq_nil_of_length_eq_zero (hb.hlen.trans n1)
  rw[n1,n2]
  exact⟨v,W,fun ty=>run_append_owned_none (P:=Try.prog) (w:=W) base 57 ty 63 i3 3 Try.underlying57 hi3 v _ _ ho,by rw[hrb,List.append_nil];exact ho,Gb.refl _ _⟩
 | some ad=>
  have hlen:=hb.hlen
  obtain⟨v',W',hr,h2,h3,_⟩:=run_append_own (P:=Try.prog) W base 57 57 63 i3 (.agg #[.int .i64 0,.int .i64 0,.int .i64 0]) 3 24 Try.underlying57 hi3 hz0 hz1 hz2 rfl (by decide) v rs.length (rcs rs) ho ad lb cb (rcs rb) (by rw[rcs_len,hlen]) hb.news (rcs_one rb) (by unfold maxLen;omega) hn hbase
  refine⟨v',W',fun ty=>hr,?_,h3⟩
  exact ho.more (ls:=rb) (w5:=W') (v':=v') (by rw[hlen];exact h2)
theorem step_append_rules {ops:Array Oper} {o:Oper} {a:Act} {W:World} {K:Act→World→Prop} {Q:Exit→Act→World→Prop} {E:Prop} (hgd:o.guard=none) (s x:Operand)
 (ho:o.op=.call {callee:=.builtin .append,args:=#[s,x],argTypes:=#[57,57]}) {base:Nat} {v:Value} {rs rb:List Ru} {bo:Option Addr} {lb cb:Nat}
 (hs:a.eval s=v) (hx:a.eval x=.slice bo lb cb) (hro:RO W base v rs) (hb:SlOk W bo lb cb rb) (hbase:base≤W.heap.size) (hn:(rs.length+lb)*24≤140737488355328)
 (h:∀v' W',RO W' base v' (rs++rb)→W.grownBy W' v.ownBlock→K (a.put o.dst v') W'):
 if Region.wanted o (yielded ops a.tmps)=true then Oper.wp Try.prog o a W K Q else E:=by
 have hw:Region.wanted o (yielded ops a.tmps)=true:=by simp[Region.wanted,hgd]
 rw[if_pos hw]
 obtain⟨v',W',hrun,h2,h3⟩:=append_rules hro hb hbase hn
 unfold Oper.wp execOp
 simp only[ho,resolve,invoke,builtin,Sem.run_bind,Sem.run_pure,Result.andThen_ok,List.map_toArray,List.map_cons,List.map_nil,hs,hx,hrun]
 exact h v' W' h2 h3
end Go.Proofs.Ytolclgbpjiokfaa.Tb
namespace Go.Proofs.Ytolclgbpjiokfaa.Tb
open Go.RowKit Go.Maps Stw Go.Deep Rul Go.Sort
def stk (v f s:Int) (path:List Int):Nat→List Ru
 | 0=>[]
 | k+1=>stk v f s path k++(if path.getD k 0=s∧k+1<path.length then [(v,f,path.getD (k+1) 0)] else [])
def rof (v s:Int) (ps:List (List Int)):Nat→List Ru
 | 0=>[]
 | k+1=>rof v s ps k++stk v k s (ps.getD k []) (ps.getD k []).length
theorem stk_last {v f s:Int} {path:List Int} {k:Nat} (h:path.length≤k+1):stk v f s path (k+1)=stk v f s path k:=by rw[stk,if_neg (by omega),List.append_nil]
theorem stk_len {v f s:Int} {path:List Int}:∀k,(stk v f s path k).length≤k
 | 0=>Nat.le_refl _
 | k+1=>by
  have:=stk_len (v:=v) (f:=f) (s:=s) (path:=path) k
  rw[stk,List.length_append]
  split <;> simp <;> omega
def PsAt (w:World) (qo:Option Addr) (ps:List (List Int)):Prop:=ps=[]∨∃g off,qo=some ⟨g,off,none⟩∧g<w.heap.size∧∀k,k<ps.length→∃xo xc,w.cell? ⟨g,off+k,none⟩=some (.slice xo (ps.getD k []).length xc)∧ListAt w xo (ps.getD k [])
theorem PsAt.ext {w w':World} {qo:Option Addr} {ps:List (List Int)} (h:PsAt w qo ps) (E:Ext w w'):PsAt w' qo ps:=by
 rcases h with h | ⟨g,off,h1,h2,h3⟩
 ·exact Or.inl h
 ·refine Or.inr ⟨g,off,h1,Nat.lt_of_lt_of_le h2 E.size,fun k hk=>?_⟩
  obtain⟨xo,xc,c,l⟩:=h3 k hk
  exact⟨xo,xc,(E.cells.1 _ _ h2).trans c,l.ext E⟩
structure TB (w:World) (H n:Nat) (vs:Nat→Value) (ts:Nat→List Ru):Prop where
 row:w.rowIs H 57 n vs
 own:∀s,s<n→RO w (H+1) (vs s) (ts s)
 apart:∀s t,s<n→t<n→s≠t→∀g,(vs s).ownBlock=some g→(vs t).ownBlock≠some g
theorem TB.ext {w w':World} {H n:Nat} {vs:Nat→Value} {ts:Nat→List Ru} (h:TB w H n vs ts) (E:Ext w w'):TB w' H n vs ts:=
 ⟨h.row.of_block (Below.block E _ h.row.lt),fun s hs=>(h.own s hs).ext E,h.apart⟩
theorem TB.congr {w:World} {H n:Nat} {vs:Nat→Value} {ts ts':Nat→List Ru} (h:TB w H n vs ts) (e:∀s,s<n→ts s=ts' s):TB w H n vs ts':=
 ⟨h.row,fun s hs=>by rw[←e s hs];exact h.own s hs,h.apart⟩
theorem RO.setBelow {w:World} {base:Nat} {v:Value} {rs:List Ru} (h:RO w base v rs) {a:Addr} (ha:a.block<base) (u:Value):RO (w.setCell a u) base v rs:=by
 refine⟨h.1,?_⟩
 rcases h.2 with h2 | ⟨g,cap,cur,h1,h2,h3,h4⟩
 ·exact Or.inl h2
 ·exact Or.inr ⟨g,cap,cur,h1,h2,(blk_setCell_other _ _ _ _ (by omega)).trans h3,h4⟩
theorem TB.push {w w':World} {H n at_ g c:Nat} {vs:Nat→Value} {ts:Nat→List Ru} {o:Obj} {r:Ru} (h:TB w H n vs ts) (ha:at_<n)
 (hown:w'.ownsRow (H+1) 63 3 (.slice (some ⟨g,0,none⟩) ((ts at_).length+1) c) ((ts at_).length+1) (rcs (ts at_)++[.int .i64 r.1,.int .i64 r.2.1,.int .i64 r.2.2]))
 (hg:(w.alloc o).grownBy w' (vs at_).ownBlock) (hat:(vs at_).ownBlock=some g∨g=w.heap.size+1):
 TB (w'.setCell ⟨H,at_,none⟩ (.slice (some ⟨g,0,none⟩) ((ts at_).length+1) c)) H n (fun s=>if s=at_ then .slice (some ⟨g,0,none⟩) ((ts at_).length+1) c else vs s) (fun s=>if s=at_ then ts s++[r] else ts s):=by
 have hH:=h.row.lt
 have hne:some H≠(vs at_).ownBlock:=fun e=>by have:=((h.own at_ ha).block H e.symm).1;omega
 have hHb:w'.heap[H]? =w.heap[H]?:=(hg.block H (by simp;omega) hne).trans (blk_alloc_lt _ _ _ hH)
 refine⟨(h.row.of_block hHb).set at_ _,fun s hs=>?_,fun s t hs ht hst b hb=>?_⟩
 ·by_cases e:s=at_
  ·subst e
   simp only[↓reduceIte]
   refine RO.setBelow ?_ (by simp) _
   unfold RO
   rw[rcs_append,List.length_append]
   simpa[rcs] using hown
  ·simp only[if_neg e]
   refine RO.setBelow ?_ (by simp) _
   have h1:=(h.own s hs).ext ((Ext.refl w).alloc o)
   refine World.ownsRow.kept h1 hg ?_
   cases hb:(vs s).ownBlock with
   | none=>exact Or.inl rfl
   | some b=>exact Or.inr (fun e2=>h.apart s at_ hs ha e b hb e2.symm)
 ·have hlt:∀q,q<n→∀b,(vs q).ownBlock=some b→b<w.heap.size:=fun q hq b hb=>((h.own q hq).block b hb).2
  by_cases e:s=at_
  ·subst e
   simp only[↓reduceIte,Value.ownBlock,Option.some.injEq] at hb
   subst hb
   simp only[if_neg (Ne.symm hst)]
   rcases hat with h1 | h1
   ·exact h.apart s t hs ht hst g h1
   ·intro h2;have:=hlt t ht _ h2;omega
  ·simp only[if_neg e] at hb
   by_cases e2:t=at_
   ·subst e2
    simp only[↓reduceIte,Value.ownBlock,ne_eq,Option.some.injEq]
    rcases hat with h1 | h1
    ·intro h2;subst h2;exact h.apart s t hs ht hst _ hb h1
    ·intro h2;have:=hlt s hs _ hb;omega
   ·simp only[if_neg e2]
    exact h.apart s t hs ht hst b hb
end Go.Proofs.Ytolclgbpjiokfaa.Tb
namespace Wir
structure Od where
 k:Int
 n:Int
 v:Int
 rs:List (Int×Int×Int)
 fs:List Int
def od0:Od:=⟨0,0,0,[],[]⟩
def badR (v:Int) (r:Int×Int×Int):Bool:=decide (r.1≠v∨r.2.1<0∨11<r.2.1∨r.2.2<0∨7<r.2.2)
def badF:Int→List Int→Bool
 | _,[]=>false
 | last,f::r=>if f≤last∨11<f then true else badF f r
def wrong (o:Od):Int:=
 if o.n<1∨100000<o.n∨o.v<1∨1000<o.v then 3
 else if o.k=1 then(if 16<o.rs.length then 5 else if o.rs.any (badR o.v) then 3 else 0)
 else if o.k=2 then(if 12<o.fs.length then 5 else if badF (-1) o.fs then 3 else 0)
 else if o.k=3 then 0 else 1
def bare (o:Od):Od:=⟨o.k,o.n,o.v,if o.k=1 then o.rs else [],if o.k=2 then o.fs else []⟩
def turn (n c:Nat):Nat:=(2*n % 256+n / 128+c) % 256
def sumFrom (n:Nat) (b:List Nat):Nat:=b.foldl turn n
def sum (b:List Nat):Nat:=sumFrom 0 b
def two:List (Int×Int×Int)→List Nat
 | []=>[]
 | r::t=>r.2.1.toNat::r.2.2.toNat::two t
def one (fs:List Int):List Nat:=fs.map Int.toNat
def head (o:Od):List Nat:=[o.k.toNat,o.n.toNat / 65536,o.n.toNat / 256 % 256,o.n.toNat % 256,o.v.toNat / 256,o.v.toNat % 256]
def body (o:Od):List Nat:=head o++(if o.k=1 then o.rs.length::two o.rs else if o.k=2 then o.fs.length::one o.fs else [])
def full (o:Od):List Nat:=body o++[sum (body o)]
def bts (o:Od):List Nat×Int:=if wrong o≠0 then([],wrong o) else(full o,0)
def prs (v:Int):List Nat→List (Int×Int×Int)
 | a::b::r=>(v,(a:Int),(b:Int))::prs v r
 | _=>[]
def ints (b:List Nat):List Int:=b.map (fun x:Nat=>(x:Int))
def form:List Nat→Option Od
 | k::n0::n1::n2::v0::v1::r=>
  if k=1 then(match r with
   | []=>none
   | c::t=>if t.length=2*c then some ⟨1,65536*(n0:Int)+256*n1+n2,256*(v0:Int)+v1,prs (256*(v0:Int)+v1) t,[]⟩ else none)
  else if k=2 then(match r with
   | []=>none
   | c::t=>if t.length=c then some ⟨2,65536*(n0:Int)+256*n1+n2,256*(v0:Int)+v1,[],ints t⟩ else none)
  else(match r with
   | []=>some ⟨k,65536*(n0:Int)+256*n1+n2,256*(v0:Int)+v1,[],[]⟩
   | _::_=>none)
 | _=>none
def parse (b:List Nat):Od×Int:=
 if b.length<7∨sum (b.take (b.length - 1))≠b.getD (b.length - 1) 0 then(od0,2)
 else match form (b.take (b.length - 1)) with
  | none=>(od0,2)
  | some o=>if wrong o≠0 then(od0,wrong o) else(o,0)
theorem sumFrom_append (n:Nat) (x y:List Nat):sumFrom n (x++y)=sumFrom (sumFrom n x) y:=by simp[sumFrom]
theorem turn_lt (n c:Nat):turn n c<256:=by unfold turn;omega
theorem sumFrom_lt:∀(b:List Nat) (n:Nat),n<256→sumFrom n b<256
 | [],_,h=>h
 | c::r,n,_=>by have:=sumFrom_lt r (turn n c) (turn_lt n c);exact this
theorem sum_lt (b:List Nat):sum b<256:=sumFrom_lt b 0 (by omega)
theorem turn_inj {n m c d:Nat} (hn:n<256) (hm:m<256) (hc:c<256) (hd:d<256) (h:turn n c=turn m d) (e:n=m∨c=d):n=m∧c=d:=by
 unfold turn at h
 rcases e with e | e <;> subst e
 ·omega
 ·have r1:∀x:Nat,x<256→(x<128∧2*x % 256+x / 128=2*x)∨(128≤x∧2*x % 256+x / 128+255=2*x):=fun x hx=>by omega
  rcases r1 n hn with⟨a1,a2⟩ | ⟨a1,a2⟩ <;> rcases r1 m hm with⟨b1,b2⟩ | ⟨b1,b2⟩ <;> omega
theorem sumFrom_inj:∀(b:List Nat) {n m:Nat},(∀c∈b,c<256)→n<256→m<256→sumFrom n b=sumFrom m b→n=m
 | [],_,_,_,_,_,h=>h
 | c::r,n,m,hb,hn,hm,h=>by
  have h2:=sumFrom_inj r (fun x hx=>hb x (List.mem_cons_of_mem _ hx)) (turn_lt n c) (turn_lt m c) h
  have hc:=hb c List.mem_cons_self
  exact(turn_inj hn hm hc hc h2 (Or.inr rfl)).1
theorem sum_set {b:List Nat} {i c:Nat} (hb:∀x∈b,x<256) (hi:i<b.length) (hc:c<256) (hne:c≠b[i]):sum (b.set i c)≠sum b:=by
 intro h
 have e1:b.set i c=b.take i++c::b.drop (i+1):=by rw[List.set_eq_take_append_cons_drop,if_pos hi]
 have e2:b=b.take i++b[i]::b.drop (i+1):=by rw[List.getElem_cons_drop hi,List.take_append_drop]
 have h2:sumFrom 0 (b.take i++c::b.drop (i+1))=sumFrom 0 (b.take i++b[i]::b.drop (i+1)):=by
  rw[←e1, ←e2];exact h
 rw[sumFrom_append,sumFrom_append] at h2
 have hs:=sumFrom_lt (b.take i) 0 (by omega)
 have h3:=sumFrom_inj (b.drop (i+1)) (fun x hx=>hb x (List.mem_of_mem_drop hx)) (turn_lt _ c) (turn_lt _ b[i]) h2
 exact hne (turn_inj hs hs hc (hb _ (List.getElem_mem hi)) h3 (Or.inl rfl)).2
theorem two_len:∀rs:List (Int×Int×Int),(two rs).length=2*rs.length
 | []=>rfl
 | r::t=>by simp only[two,List.length_cons,two_len t];omega
theorem prs_two {v:Int}:∀{rs:List (Int×Int×Int)},rs.any (badR v)=false→prs v (two rs)=rs
 | [],_=>rfl
 | r::t,h=>by
  simp only[List.any_cons,Bool.or_eq_false_iff] at h
  have h1:¬(r.1≠v∨r.2.1<0∨11<r.2.1∨r.2.2<0∨7<r.2.2):=of_decide_eq_false h.1
  rw[two,prs,prs_two h.2,show((r.2.1.toNat:Nat):Int)=r.2.1 by omega,show((r.2.2.toNat:Nat):Int)=r.2.2 by omega]
  have:v=r.1:=by omega
  rw[this]
theorem two_prs {v:Int}:∀(c:Nat) {t:List Nat},t.length=2*c→two (prs v t)=t∧(prs v t).length=c
 | 0,t,h=>by
  have:t=[]:=List.eq_nil_of_length_eq_zero (by omega)
  subst this;exact⟨rfl,rfl⟩
 | c+1,a::b::t,h=>by
  have ih:=two_prs (v:=v) c (t:=t) (by simp only[List.length_cons] at h;omega)
  simp only[prs,two,Int.toNat_natCast,ih.1,List.length_cons,ih.2,and_self]
 | c+1,[a],h=>by simp only[List.length_cons,List.length_nil] at h;omega
 | c+1,[],h=>by simp only[List.length_nil] at h;omega
theorem badF_range:∀{last:Int} {fs:List Int}, -1≤last→badF last fs=false→∀f∈fs,0≤f∧f≤11
 | _,[],_,_,f,hf=>by cases hf
 | last,x::r,hl,h,f,hf=>by
  rw[badF] at h
  by_cases hx:x≤last∨11<x
  ·rw[if_pos hx] at h;cases h
  ·rw[if_neg hx] at h
   rcases List.mem_cons.1 hf with rfl | hf
   ·omega
   ·exact badF_range (by omega) h f hf
theorem ints_one:∀{fs:List Int},(∀f∈fs,0≤f∧f≤11)→ints (one fs)=fs
 | [],_=>rfl
 | x::r,h=>by
  have ih:=ints_one (fs:=r) (fun f hf=>h f (List.mem_cons_of_mem _ hf))
  have hx:=h x List.mem_cons_self
  unfold ints one at ih ⊢
  rw[List.map_cons,List.map_cons,ih,show((x.toNat:Nat):Int)=x by omega]
theorem one_ints:∀t:List Nat,one (ints t)=t
 | []=>rfl
 | x::r=>by
  have ih:=one_ints r
  unfold one ints at ih ⊢
  rw[List.map_cons,List.map_cons,ih,Int.toNat_natCast]
theorem right_cases {o:Od} (h:wrong o=0):(1≤o.n∧o.n≤100000∧1≤o.v∧o.v≤1000)∧((o.k=1∧o.rs.length≤16∧o.rs.any (badR o.v)=false)∨(o.k=2∧o.fs.length≤12∧badF (-1) o.fs=false)∨o.k=3):=by
 unfold wrong at h
 split at h
 ·omega
 ·rename_i h1
  refine⟨by omega,?_⟩
  split at h
  ·rename_i h2
   split at h
   ·omega
   ·rename_i h3
    split at h
    ·omega
    ·rename_i h4
     exact Or.inl ⟨h2,by omega,by simpa using h4⟩
  ·split at h
   ·rename_i h2
    split at h
    ·omega
    ·rename_i h3
     split at h
     ·omega
     ·rename_i h4
      exact Or.inr (Or.inl ⟨h2,by omega,by simpa using h4⟩)
   ·split at h
    ·rename_i h2
     exact Or.inr (Or.inr h2)
    ·omega
theorem wrong_bare (o:Od):wrong (bare o)=wrong o:=by
 obtain⟨k,n,v,rs,fs⟩:=o
 unfold wrong bare
 by_cases h1:k=1
 ·subst h1;simp
 ·by_cases h2:k=2
  ·subst h2;simp
  ·simp[h1,h2]
theorem form_body {o:Od} (h:wrong o=0):form (body o)=some (bare o):=by
 obtain⟨⟨n1,n2,v1,v2⟩,hk⟩:=right_cases h
 have en:65536*((o.n.toNat / 65536:Nat):Int)+256*((o.n.toNat / 256 % 256:Nat):Int)+((o.n.toNat % 256:Nat):Int)=o.n:=by omega
 have ev:256*((o.v.toNat / 256:Nat):Int)+((o.v.toNat % 256:Nat):Int)=o.v:=by omega
 rcases hk with⟨hk,hl,hb⟩ | ⟨hk,hl,hb⟩ | hk
 ·have e:body o=head o++(o.rs.length::two o.rs):=by rw[body,if_pos hk]
  rw[e,head,hk]
  simp only[List.cons_append,List.nil_append,form,if_pos (show(1:Int).toNat=1 from rfl),two_len,if_true,en,ev,prs_two hb,bare,hk,if_neg (show ¬(1:Int)=2 by omega)]
 ·have hk1:¬o.k=1:=by omega
  have e:body o=head o++(o.fs.length::one o.fs):=by rw[body,if_neg hk1,if_pos hk]
  have hl2:(one o.fs).length=o.fs.length:=by simp[one]
  rw[e,head,hk]
  simp only[List.cons_append,List.nil_append,form,if_neg (show ¬(2:Int).toNat=1 by decide),if_pos (show(2:Int).toNat=2 from rfl),hl2,if_true,en,ev,ints_one (badF_range (Int.le_refl _) hb),bare,hk,if_neg (show ¬(2:Int)=1 by omega)]
 ·have hk1:¬o.k=1:=by omega
  have hk2:¬o.k=2:=by omega
  have e:body o=head o++[]:=by rw[body,if_neg hk1,if_neg hk2]
  rw[e,head,hk]
  simp only[List.cons_append,List.nil_append,form,if_neg (show ¬(3:Int).toNat=1 by decide),if_neg (show ¬(3:Int).toNat=2 by decide),en,ev,bare,hk,if_neg (show ¬(3:Int)=1 by omega),if_neg (show ¬(3:Int)=2 by omega)]
  rfl
theorem body_len (o:Od):(body o).length=if o.k=1 then 7+2*o.rs.length else if o.k=2 then 7+o.fs.length else 6:=by
 unfold body head
 by_cases h1:o.k=1
 ·simp only[if_pos h1,List.length_append,List.length_cons,List.length_nil,two_len];omega
 ·by_cases h2:o.k=2
  ·simp only[if_neg h1,if_pos h2,List.length_append,List.length_cons,List.length_nil,one,List.length_map];omega
  ·simp only[if_neg h1,if_neg h2,List.length_append,List.length_cons,List.length_nil]
theorem full_len (o:Od):(full o).length=if o.k=1 then 8+2*o.rs.length else if o.k=2 then 8+o.fs.length else 7:=by
 unfold full
 rw[List.length_append,body_len,List.length_singleton]
 split
 ·omega
 ·split <;> omega
theorem take_full (o:Od):(full o).take ((full o).length - 1)=body o:=by simp[full]
theorem last_full (o:Od):(full o).getD ((full o).length - 1) 0=sum (body o):=by simp[full,List.getD_eq_getElem?_getD]
theorem parse_full {o:Od} (h:wrong o=0):parse (full o)=(bare o,0):=by
 have h7:¬(full o).length<7:=by rw[full_len];split;omega;split <;> omega
 unfold parse
 rw[take_full,last_full,if_neg (fun hh=>hh.elim h7 (fun hh=>hh rfl)),form_body h]
 simp only[wrong_bare,h,ne_eq,not_true_eq_false,if_false]
theorem parse_fail {b:List Nat} (h:(parse b).2≠0):(parse b).1=od0:=by
 unfold parse at h ⊢
 split
 ·rfl
 ·rename_i hc
  rw[if_neg hc] at h
  split
  ·rfl
  ·rename_i o ho
   rw[ho] at h
   simp only at h ⊢
   split
   ·rfl
   ·rename_i hw
    rw[if_neg hw] at h
    exact absurd rfl h
theorem form_inv {c:List Nat} {o:Od} (hc:∀x∈c,x<256) (h:form c=some o) (hw:wrong o=0):body o=c∧bare o=o:=by
 unfold form at h
 split at h
 ·rename_i k n0 n1 n2 v0 v1 r
  have b1:=hc n1 (by simp)
  have b2:=hc n2 (by simp)
  have b4:=hc v1 (by simp)
  have hn:∀m:Int,m=65536*(n0:Int)+256*n1+n2→m.toNat / 65536=n0∧m.toNat / 256 % 256=n1∧m.toNat % 256=n2:=fun m e=>by omega
  have hv:∀m:Int,m=256*(v0:Int)+v1→m.toNat / 256=v0∧m.toNat % 256=v1:=fun m e=>by omega
  obtain⟨e1,e2,e3⟩:=hn _ rfl
  obtain⟨e4,e5⟩:=hv _ rfl
  split at h
  ·rename_i hk
   subst hk
   split at h
   ·cases h
   ·rename_i c t
    split at h
    ·rename_i hl
     cases h
     obtain⟨t1,t2⟩:=two_prs (v:=256*(v0:Int)+v1) c hl
     refine⟨?_,by simp[bare]⟩
     unfold body head
     simp only[if_true,t1,t2,e1,e2,e3,e4,e5]
     rfl
    ·cases h
  ·rename_i hk1
   split at h
   ·rename_i hk
    subst hk
    split at h
    ·cases h
    ·rename_i c t
     split at h
     ·rename_i hl
      cases h
      refine⟨?_,by simp[bare]⟩
      unfold body head
      simp only[if_neg (show ¬(2:Int)=1 by omega),if_true,one_ints,e1,e2,e3,e4,e5,show(ints t).length=t.length by simp[ints],hl]
      rfl
     ·cases h
   ·rename_i hk2
    split at h
    ·cases h
     refine⟨?_,?_⟩
     ·unfold body head
      simp only[if_neg (show ¬(k:Int)=1 by omega),if_neg (show ¬(k:Int)=2 by omega),e1,e2,e3,e4,e5,Int.toNat_natCast]
      rfl
     ·simp only[bare,if_neg (show ¬(k:Int)=1 by omega),if_neg (show ¬(k:Int)=2 by omega)]
    ·cases h
 ·cases h
theorem full_parse {b:List Nat} (hb:∀x∈b,x<256) (h:(parse b).2=0):wrong (parse b).1=0∧full (parse b).1=b∧bare (parse b).1=(parse b).1:=by
 unfold parse at h ⊢
 split
 ·rename_i hc;rw[if_pos hc] at h;cases h
 ·rename_i hc
  rw[if_neg hc] at h
  split
  ·rename_i ho;rw[ho] at h;cases h
  ·rename_i o ho
   rw[ho] at h
   simp only at h ⊢
   split
   ·rename_i hw;rw[if_pos hw] at h;exact absurd h hw
   ·rename_i hw
    have hw0:wrong o=0:=by simpa using hw
    obtain⟨f1,f2⟩:=form_inv (fun x hx=>hb x (List.mem_of_mem_take hx)) ho hw0
    refine⟨hw0,?_,f2⟩
    unfold full
    rw[f1]
    have hs:sum (b.take (b.length - 1))=b.getD (b.length - 1) 0:=by
     refine Classical.byContradiction fun hh=>hc (Or.inr hh)
    have h7:¬b.length<7:=fun hh=>hc (Or.inl hh)
    rw[hs]
    have hlt:b.length - 1<b.length:=by omega
    have:b.getD (b.length - 1) 0=b[b.length - 1]:=by simp[List.getD_eq_getElem?_getD,hlt]
    rw[this]
    have e:=List.take_succ_eq_append_getElem hlt
    rw[←e,List.take_of_length_le (by omega)]
theorem two_lt {v:Int}:∀{rs:List (Int×Int×Int)},rs.any (badR v)=false→∀x∈two rs,x<256
 | [],_,x,hx=>by cases hx
 | r::t,h,x,hx=>by
  simp only[List.any_cons,Bool.or_eq_false_iff] at h
  have h1:¬(r.1≠v∨r.2.1<0∨11<r.2.1∨r.2.2<0∨7<r.2.2):=of_decide_eq_false h.1
  rw[two] at hx
  rcases List.mem_cons.1 hx with rfl | hx
  ·omega
  ·rcases List.mem_cons.1 hx with rfl | hx
   ·omega
   ·exact two_lt h.2 x hx
theorem body_lt {o:Od} (h:wrong o=0):∀x∈body o,x<256:=by
 obtain⟨⟨n1,n2,v1,v2⟩,hk⟩:=right_cases h
 intro x hx
 rw[body,List.mem_append] at hx
 rcases hx with hx | hx
 ·simp only[head,List.mem_cons,List.not_mem_nil,or_false] at hx
  omega
 ·rcases hk with⟨hk,hl,hb⟩ | ⟨hk,hl,hb⟩ | hk
  ·rw[if_pos hk] at hx
   rcases List.mem_cons.1 hx with rfl | hx
   ·omega
   ·exact two_lt hb x hx
  ·rw[if_neg (by omega),if_pos hk] at hx
   rcases List.mem_cons.1 hx with rfl | hx
   ·omega
   ·simp only[one,List.mem_map] at hx
    obtain⟨f,hf,rfl⟩:=hx
    have:=badF_range (Int.le_refl _) hb f hf
    omega
  ·rw[if_neg (by omega),if_neg (by omega)] at hx
   cases hx
theorem full_lt {o:Od} (h:wrong o=0):∀x∈full o,x<256:=by
 intro x hx
 rw[full,List.mem_append] at hx
 rcases hx with hx | hx
 ·exact body_lt h x hx
 ·rw[List.mem_singleton.1 hx];exact sum_lt _
theorem spoilt {o:Od} (h:wrong o=0) {i c:Nat} (hi:i<(full o).length) (hc:c<256) (hne:c≠(full o)[i]):parse ((full o).set i c)=(od0,2):=by
 have hl:((full o).set i c).length=(body o).length+1:=by simp[full]
 have hcond:((full o).set i c).length<7∨sum (((full o).set i c).take (((full o).set i c).length - 1))≠((full o).set i c).getD (((full o).set i c).length - 1) 0:=by
  right
  rw[hl,Nat.add_sub_cancel]
  have hfl:(full o).length=(body o).length+1:=by simp[full]
  by_cases hlast:i=(body o).length
  ·subst hlast
   have e1:((full o).set (body o).length c).take (body o).length=body o:=by
    rw[List.take_set_of_le (Nat.le_refl _)];simp[full]
   have e2:((full o).set (body o).length c).getD (body o).length 0=c:=by simp[List.getD_eq_getElem?_getD,hfl]
   rw[e1,e2]
   intro hh
   apply hne
   rw[←hh]
   simp[full]
  ·have hib:i<(body o).length:=by omega
   have e1:((full o).set i c).take (body o).length=(body o).set i c:=by
    rw[full,List.set_append_left _ _ hib];simp
   have e2:((full o).set i c).getD (body o).length 0=sum (body o):=by
    rw[full,List.set_append_left _ _ hib];simp[List.getD_eq_getElem?_getD]
   rw[e1,e2]
   have hg:(full o)[i]=(body o)[i]:=by simp[full,List.getElem_append_left hib]
   rw[hg] at hne
   exact sum_set (body_lt h) hib hc hne
 unfold parse
 rw[if_pos hcond]
end Wir
namespace Go.Proofs.Ytolclgbpjiokfaa.Ct
open Go.RowKit Go.Deep Stw Stp Tb Rul
structure Pl where
 v:Int
 fs:List Stf.Fl
 ps:List (List Int)
def pl0:Pl:=⟨0,[],[]⟩
structure Co where
 st:Int
 now:Pl
 nxt:Pl
 num:Int
 wts:List Int
def co0:Co:=⟨0,pl0,pl0,0,[]⟩
def nx (n:Int):Int:=IntKind.i64.wrap (n+1)
def rls (p:Pl) (s:Nat):List Ru:=rof p.v s p.ps p.ps.length
structure Tl where
 num:Int
 wts:List Int
 out:List (Nat×Wir.Od)
def one (k:Nat) (o:Option Wir.Od) (x:Tl):Tl:=match o with
 | none=>x
 | some o=>⟨nx x.num,x.wts++[nx x.num],x.out++[(k,⟨o.k,nx x.num,o.v,o.rs,o.fs⟩)]⟩
def tel (ord:Nat→Option Wir.Od) (x:Tl):Nat→Tl
 | 0=>x
 | k+1=>one k (ord k) (tel ord x k)
def beg (s:Int) (fs:List Stf.Fl):Nat→List Int
 | 0=>[]
 | k+1=>beg s fs k++(if(fs.getD k Fw.f0).fr=s then [(k:Int)] else [])
def addO (p:Pl) (s:Nat):Option Wir.Od:=if rls p s=[] then none else some ⟨1,0,p.v,rls p s,[]⟩
def drpO (p:Pl) (s:Nat):Option Wir.Od:=if rls p s=[] then none else some ⟨3,0,p.v,[],[]⟩
def stpO (now nxt:Pl) (s:Nat):Option Wir.Od:=if beg s nxt.fs nxt.fs.length=[]∧beg s now.fs now.fs.length=[] then none else some ⟨2,0,nxt.v,[],beg s nxt.fs nxt.fs.length⟩
structure Cg where
 c:Co
 out:List (Nat×Wir.Od)
def told (n:Nat) (ord:Nat→Option Wir.Od) (g:Cg):Cg:=
 ⟨⟨g.c.st,g.c.now,g.c.nxt,(tel ord ⟨g.c.num,g.c.wts,g.out⟩ n).num,(tel ord ⟨g.c.num,g.c.wts,g.out⟩ n).wts⟩,(tel ord ⟨g.c.num,g.c.wts,g.out⟩ n).out⟩
def setSt (g:Cg) (k:Int):Cg:=⟨⟨k,g.c.now,g.c.nxt,g.c.num,g.c.wts⟩,g.out⟩
def nextS (n:Nat) (g:Cg):Option Cg:=
 if g.c.st=1 then some (told n (stpO g.c.now g.c.nxt) (setSt g 2))
 else if g.c.st=2 then some (setSt g 3)
 else if g.c.st=4 then some ⟨⟨0,g.c.nxt,pl0,g.c.num,g.c.wts⟩,g.out⟩
 else none
def calmS (g:Cg):Cg:=if g.c.wts≠[] then g else setSt g 3
def goS (n:Nat) (g:Cg):Cg:=
 if g.c.wts≠[] then g
 else if g.c.st=1 then calmS (told n (stpO g.c.now g.c.nxt) (setSt g 2))
 else if g.c.st=2 then setSt g 3
 else if g.c.st=4 then⟨⟨0,g.c.nxt,pl0,g.c.num,g.c.wts⟩,g.out⟩
 else g
def full (n:Nat) (a b:Pl):Bool:=(List.range n).any fun s=>decide (16<(rls a s).length+(rls b s).length)
def askS (c:Co) (n:Int) (ls:List Lk) (fs:List Stf.Fl):Cg×Int:=
 if c.st≠0 then(⟨co0,[]⟩,11)
 else if(plnF n (nx c.now.v) ls fs).1≠0 then(⟨co0,[]⟩,(plnF n (nx c.now.v) ls fs).1)
 else if full n.toNat c.now ⟨nx c.now.v,fs,plnP n ls fs⟩=true then(⟨co0,[]⟩,10)
 else(goS n.toNat (told n.toNat (addO ⟨nx c.now.v,fs,plnP n ls fs⟩) ⟨⟨1,c.now,⟨nx c.now.v,fs,plnP n ls fs⟩,c.num,c.wts⟩,[]⟩),0)
def backS (c:Co) (n:Int) (ls:List Lk) (k:Int):Cg×Int:=
 if(wrong n ls).1≠0 then(⟨co0,[]⟩,(wrong n ls).1)
 else if k∉c.wts then(⟨co0,[]⟩,6)
 else(goS n.toNat ⟨⟨c.st,c.now,c.nxt,c.num,c.wts.erase k⟩,[]⟩,0)
def dropS (c:Co) (n:Int) (ls:List Lk):Cg×Int:=
 if(wrong n ls).1≠0 then(⟨co0,[]⟩,(wrong n ls).1)
 else if c.st≠3 then(⟨co0,[]⟩,11)
 else(goS n.toNat (told n.toNat (drpO c.now) ⟨⟨4,c.now,c.nxt,c.num,c.wts⟩,[]⟩),0)
structure PA where
 fo:Option Addr
 qo:Option Addr
 fc:Nat
 qc:Nat
def pa0:PA:=⟨none,none,0,0⟩
def pvl (p:Pl) (a:PA):Value:=.agg #[.int .i64 p.v,.slice a.fo p.fs.length a.fc,.slice a.qo p.ps.length a.qc]
structure PlAt (w:World) (p:Pl) (a:PA):Prop where
 hf:Fw.FlowsAt w a.fo p.fs
 hq:PthsAt w a.qo p.ps
theorem PlAt.ext {w w':World} {p:Pl} {a:PA} (h:PlAt w p a) (E:Ext w w'):PlAt w' p a:=⟨h.hf.ext E,h.hq.ext E⟩
theorem PlAt.zero (w:World):PlAt w pl0 pa0:=⟨Or.inl rfl,Or.inl rfl⟩
def PlNew (B:Nat) (w:World) (p:Pl) (a:PA):Prop:=∀V:World,w.heap.size≤V.heap.size→(∀b,B≤b→b<w.heap.size→V.heap[b]? =w.heap[b]?)→PlAt V p a
theorem PlNew.at {B:Nat} {w:World} {p:Pl} {a:PA} (h:PlNew B w p a):PlAt w p a:=h w (Nat.le_refl _) (fun _ _ _=>rfl)
theorem PlNew.zero (B:Nat) (w:World):PlNew B w pl0 pa0:=fun V _ _=>PlAt.zero V
theorem PlNew.ext {B:Nat} {w w':World} {p:Pl} {a:PA} (h:PlNew B w p a) (E:Ext w w'):PlNew B w' p a:=fun V hs hb=>h V (Nat.le_trans E.size hs) (fun b h1 h2=>(hb b h1 (Nat.lt_of_lt_of_le h2 E.size)).trans (Below.block E b h2))
structure PlOk (p:Pl):Prop where
 fl:p.fs.length≤16777216
 sm:∀f∈p.fs,f.via.length≤16777216∧f.nt.length≤16777216
 ql:p.ps.length≤16777216
 tt:(p.ps.map List.length).sum≤16777216
theorem PlOk.zero:PlOk pl0:=⟨by simp[pl0],by simp[pl0],by simp[pl0],by simp[pl0]⟩
structure CA where
 n:PA
 x:PA
 wo:Option Addr
 wc:Nat
def ca0:CA:=⟨pa0,pa0,none,0⟩
def cvl (c:Co) (a:CA):Value:=.agg #[.int .i64 c.st,.int .i64 c.now.v,.slice a.n.fo c.now.fs.length a.n.fc,.slice a.n.qo c.now.ps.length a.n.qc,.int .i64 c.nxt.v,.slice a.x.fo c.nxt.fs.length a.x.fc,.slice a.x.qo c.nxt.ps.length a.x.qc,.int .i64 c.num,.slice a.wo c.wts.length a.wc]
structure CoAt (w:World) (c:Co) (a:CA):Prop where
 hn:PlAt w c.now a.n
 hx:PlAt w c.nxt a.x
 hw:ListAt w a.wo c.wts
theorem CoAt.ext {w w':World} {c:Co} {a:CA} (h:CoAt w c a) (E:Ext w w'):CoAt w' c a:=⟨h.hn.ext E,h.hx.ext E,h.hw.ext E⟩
theorem CoAt.zero (w:World):CoAt w co0 ca0:=⟨PlAt.zero w,PlAt.zero w,Or.inl rfl⟩
structure CoOk (c:Co):Prop where
 n:PlOk c.now
 x:PlOk c.nxt
 w:c.wts.length≤16777200
theorem getD_sum {ps:List (List Int)}:∀{i:Nat},(ps.getD i []).length≤(ps.map List.length).sum:=by
 induction ps with
 | nil=>intro i;simp
 | cons p r ih=>
  intro i
  cases i with
  | zero=>simp
  | succ i=>have:=ih (i:=i);simp at this ⊢;omega
end Go.Proofs.Ytolclgbpjiokfaa.Ct
