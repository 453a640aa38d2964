/- How a search changes: a switch is closed and opened again, the way grows and shrinks, a better one is kept. -/
import Derived.Test.YtolclgbpjiokfaaU04
import Derived.Test.YtolclgbpjiokfaaU02
import Derived.Deep.OwnRows
import Derived.Deep.MidRow
import Derived.Laws.CopyOwn
import Derived.Deep.AppendLies
import Derived.Lib.LazyBuf
import Derived.WalkSmall
import Derived.Lib.SmallJoins
namespace Stp
open Stw
theorem chain_iff {C:Int→Int→Int}:∀{ps:List Int},chain C ps↔∀i,i+1<ps.length→0<C (ps.getD i 0) (ps.getD (i+1) 0)
 | []=>by simp[chain]
 | [a]=>by simp[chain]
 | a::b::r=>by
  simp only[chain]
  rw[chain_iff (ps:=b::r)]
  constructor
  ·rintro⟨h1,h2⟩ i hi
   cases i with
   | zero=>simpa using h1
   | succ i=>
    have:=h2 i (by simpa using hi)
    simpa[List.getD_cons_succ] using this
  ·intro h
   refine⟨by simpa using h 0 (by simp),fun i hi=>?_⟩
   have:=h (i+1) (by simpa using hi)
   simpa[List.getD_cons_succ] using this
theorem getD_eq {ps:List Int} {i:Nat} (h:i<ps.length):ps.getD i 0=ps[i]:=by simp[List.getD_eq_getElem?_getD,h]
theorem nodup_iff {ps:List Int}:ps.Nodup↔∀i,i<ps.length→¬ps.getD i 0∈ps.take i:=by
 rw[List.nodup_iff_pairwise_ne,List.pairwise_iff_getElem]
 constructor
 ·intro h i hi hm
  rw[List.mem_take_iff_getElem] at hm
  obtain⟨j,hj,e⟩:=hm
  rw[getD_eq hi] at e
  exact h j i (by omega) hi (by omega) e
 ·intro h i j hi hj hij e
  refine h j hj ?_
  rw[List.mem_take_iff_getElem,getD_eq hj]
  exact⟨i,by omega,e⟩
theorem pathB_iff {n:Int} {ls:List Lk} {ps:List Int} (hr:Right n ls):pathB n ls ps=true↔ps≠[]∧(∀x∈ps,0≤x∧x<n)∧ps.Nodup∧chain (cost ls) ps:=by
 have hC:∀a b,0≤cost ls a b:=fun a b=>(hr.cost a b).1
 rw[pathB_true,nodup_iff,chain_iff]
 constructor
 ·rintro⟨h0,h⟩
  refine⟨h0,fun x hx=>?_,fun i hi hm=>?_,fun i hi=>?_⟩
  ·obtain⟨i,hi,rfl⟩:=List.getElem_of_mem hx
   have:=h i hi
   simp only[okAt,Bool.and_eq_true] at this
   have:=swB_true.1 this.1.1
   rwa [getD_eq hi] at this
  ·have:=h i hi
   rw[okAt_false_met hm] at this
   cases this
  ·have:=h (i+1) hi
   have hc:=hC (ps.getD i 0) (ps.getD (i+1) 0)
   by_cases e:cost ls (ps.getD i 0) (ps.getD (i+1) 0)=0
   ·rw[okAt_false_cost (by omega) (by simpa using e)] at this
    cases this
   ·omega
 ·rintro⟨h0,h1,h2,h3⟩
  refine⟨h0,fun i hi=>okAt_mk (swB_true.2 (h1 _ (by rw[getD_eq hi];exact List.getElem_mem hi))) (h2 i hi) ?_⟩
  cases i with
  | zero=>exact Or.inl rfl
  | succ i=>
   right
   have:=h3 i hi
   simp only[Nat.add_sub_cancel]
   omega
theorem lst_snoc:∀(l:List Int) (x:Int),lst (l++[x])=x
 | [],_=>rfl
 | [_],_=>rfl
 | a::b::r,x=>by
  have:=lst_snoc (b::r) x
  simpa[lst] using this
theorem pc_snoc {C:Int→Int→Int}:∀(l:List Int) (x:Int),pc C (l++[x])=pc C l+(if l=[] then 0 else C (lst l) x)
 | [],_=>by simp[pc]
 | [a],x=>by simp[pc,lst]
 | a::b::r,x=>by
  have:=pc_snoc (C:=C) (b::r) x
  simp only[List.cons_append,pc,lst] at this ⊢
  rw[this]
  simp;omega
theorem lst_take {ps:List Int} {k:Nat} (h0:0<k) (h:k≤ps.length):lst (ps.take k)=ps.getD (k - 1) 0:=by
 obtain⟨j,rfl⟩:∃j,k=j+1:=⟨k - 1,by omega⟩
 rw[List.take_succ_eq_append_getElem (by omega:j<ps.length),lst_snoc]
 simp[List.getD_eq_getElem?_getD,show j<ps.length by omega]
theorem psum_eq {ls:List Lk} {ps:List Int}:∀k:Nat,k≤ps.length→psum ls ps k=pc (cost ls) (ps.take k)
 | 0,_=>by simp[psum,pc]
 | k+1,h=>by
  simp only[psum]
  rw[psum_eq k (by omega),List.take_succ_eq_append_getElem (by omega:k<ps.length),pc_snoc]
  by_cases e:k=0
  ·subst e;simp
  ·have hne:ps.take k≠[]:=by
    intro e2
    have:=congrArg List.length e2
    simp at this
    rcases this with h3 | h3
    ·omega
    ·subst h3;simp at h
   rw[if_neg e,if_neg hne,lst_take (by omega) (by omega),getD_eq (by omega:k<ps.length)]
theorem psum_all {ls:List Lk} {ps:List Int}:psum ls ps ps.length=pc (cost ls) ps:=by
 rw[psum_eq _ (Nat.le_refl _),List.take_length]
theorem length_iff {n:Int} {ls:List Lk} {ps:List Int} (hr:Right n ls):lengthOf n ls ps=if pathB n ls ps=true then(pc (cost ls) ps,true) else(0,false):=by
 unfold lengthOf
 have:(wrong n ls).1=0:=by rw[hr.wrong]
 simp only[this,true_and,psum_all]
theorem lst_eq:∀{q:List Int} (h:q≠[]),lst q=q.getLast h
 | [],h=>absurd rfl h
 | [a],_=>rfl
 | a::b::r,_=>by
  rw[List.getLast_cons (by simp)]
  exact lst_eq (q:=b::r) (by simp)
theorem pth_of {n:Int} {ls:List Lk} {ps:List Int} (hr:Right n ls) (h:pathB n ls ps=true):Pth (cost ls) (ps.getD 0 0) (lst ps) ps:=by
 obtain⟨h0,h1,h2,h3⟩:=(pathB_iff hr).1 h
 have hb:=hr.bounds
 cases ps with
 | nil=>exact absurd rfl h0
 | cons a r=>exact⟨⟨r,rfl⟩,rfl,h2,h3,fun x hx=>by have:=h1 x hx;omega⟩
theorem chain_rng {n:Int} {ls:List Lk} (hr:Right n ls):∀{p:List Int},chain (cost ls) p→(∀a r,p=a::r→0≤a∧a<n)→∀x∈p,0≤x∧x<n
 | [],_,_=>fun x hx=>by cases hx
 | [a],_,h=>fun x hx=>by simp at hx;subst hx;exact h _ _ rfl
 | a::b::r,hc,h=>fun x hx=>by
  rcases List.mem_cons.1 hx with rfl | hx
  ·exact h _ _ rfl
  ·refine chain_rng hr hc.2 (fun c s e=>?_) x hx
   cases e
   have:=(hr.cost a b).2.2 (by have:=hc.1;omega)
   omega
theorem Pth.path {n:Int} {ls:List Lk} {fr to:Int} {p:List Int} (hr:Right n ls) (h:Pth (cost ls) fr to p) (hf:0≤fr∧fr<n):pathB n ls p=true:=by
 rw[pathB_iff hr]
 obtain⟨r,rfl⟩:=h.head
 exact⟨by simp,chain_rng hr h.ch (fun a s e=>by cases e;exact hf),h.nd,h.ch⟩
theorem suffix_part {C:Int→Int→Int} (hC:∀a b,0≤C a b) {fr to x:Int}:∀{p:List Int},Pth C fr to p→x∈p→∃q,Pth C x to q∧pc C q≤pc C p
 | [],h,_=>by obtain⟨r,hr⟩:=h.head;cases hr
 | [a],h,hx=>by
  simp at hx
  subst hx
  obtain⟨r,hr⟩:=h.head
  cases hr
  exact⟨_,h,Int.le_refl _⟩
 | a::b::r,h,hx=>by
  rcases List.mem_cons.1 hx with rfl | hx
  ·obtain⟨s,hs⟩:=h.head
   cases hs
   exact⟨_,h,Int.le_refl _⟩
  ·have h':Pth C b to (b::r):=⟨⟨r,rfl⟩,h.last,(List.nodup_cons.1 h.nd).2,h.ch.2,fun y hy=>h.rng y (List.mem_cons_of_mem _ hy)⟩
   obtain⟨q,h1,h2⟩:=suffix_part hC h' hx
   refine⟨q,h1,?_⟩
   have:=hC a b
   simp only[pc]
   omega
theorem walk_path {C:Int→Int→Int} (hC:∀a b,0≤C a b) {to:Int}:∀{a:Int} {r:List Int},chain C (a::r)→lst (a::r)=to→(∀x∈a::r,0≤x∧x<8)→∃q,Pth C a to q∧pc C q≤pc C (a::r)
 | a,[],_,hl,hr=>⟨[a],⟨⟨[],rfl⟩,hl,by simp,trivial,hr⟩,Int.le_refl _⟩
 | a,b::r,hc,hl,hr=>by
  obtain⟨q,h1,h2⟩:=walk_path hC (a:=b) (r:=r) hc.2 hl (fun x hx=>hr x (List.mem_cons_of_mem _ hx))
  have hab:=hC a b
  by_cases ha:a∈q
  ·obtain⟨q',h3,h4⟩:=suffix_part hC h1 ha
   refine⟨q',h3,?_⟩
   simp only[pc];omega
  ·obtain⟨s,rfl⟩:=h1.head
   refine⟨a::b::s,⟨⟨_,rfl⟩,h1.last,List.nodup_cons.2 ⟨ha,h1.nd⟩,⟨hc.1,h1.ch⟩,fun x hx=>?_⟩,?_⟩
   ·rcases List.mem_cons.1 hx with rfl | hx
    ·exact hr _ (by simp)
    ·exact h1.rng x hx
   ·simp only[pc];omega
theorem getD_app {p q:List Int} {i:Nat} (h:i<p.length):(p++q).getD i 0=p.getD i 0:=by simp[List.getD_eq_getElem?_getD,List.getElem?_append,h]
theorem getD_new {p:List Int} {y:Int}:(p++[y]).getD p.length 0=y:=by simp[List.getD_eq_getElem?_getD]
theorem srv_plain {C:Int→Int→Int} {fr to:Int} {p:List Int} (h:Pth C fr to p):Srv C fr to [] [] p:=by
 refine⟨h,fun x _ hx=>(by cases hx),?_⟩
 have:∀q:List Int,metOf [] 0 q=0:=by
  intro q
  unfold metOf
  induction q with
  | nil=>rfl
  | cons a q ih=>simpa[mtv] using ih
 exact this p
theorem rch_pth {n:Int} {ls:List Lk} {a b:Int} (hr:Right n ls) (ha:0≤a∧a<n):Rch ls a b↔∃p,Pth (cost ls) a b p:=by
 have hC:∀a b,0≤cost ls a b:=fun a b=>(hr.cost a b).1
 have hb:=hr.bounds
 constructor
 ·intro h
  refine h (fun x=>∃p,Pth (cost ls) a x p) ⟨[a],⟨⟨[],rfl⟩,rfl,by simp,trivial,fun x hx=>by simp at hx;subst hx;omega⟩⟩ ?_
  rintro x y ⟨p,hp⟩ hc
  obtain⟨r,rfl⟩:=hp.head
  have hch:chain (cost ls) ((a::r)++[y]):=by
   rw[chain_iff]
   intro i hi
   simp only[List.length_append,List.length_cons,List.length_nil] at hi
   by_cases e:i+1<(a::r).length
   ·have:=chain_iff.1 hp.ch i e
    rw[getD_app (by omega),getD_app e]
    exact this
   ·have e2:i+1=(a::r).length:=by simp at e ⊢;omega
    rw[getD_app (by omega),e2,getD_new]
    have h3:(a::r).getD i 0=x:=by
     have h4:=lst_take (ps:=a::r) (k:=i+1) (by omega) (by omega)
     rw[List.take_of_length_le (by omega),hp.last] at h4
     simpa using h4.symm
    rw[h3]
    exact hc
  have hl:lst ((a::r)++[y])=y:=lst_snoc _ _
  have hrg:=(hr.cost x y).2.2 (by omega)
  obtain⟨q,h1,_⟩:=walk_path hC (a:=a) (r:=r++[y]) hch hl (fun z hz=>by
   rw[←List.cons_append] at hz
   rcases List.mem_append.1 hz with hz | hz
   ·exact hp.rng z hz
   ·simp at hz;subst hz;omega)
  exact⟨q,h1⟩
 ·rintro⟨p,hp⟩
  obtain⟨r,rfl⟩:=hp.head
  have:∀(r:List Int) (a:Int),chain (cost ls) (a::r)→Rch ls a (lst (a::r)):=by
   intro r
   induction r with
   | nil=>intro a _;exact Rch.refl _ _
   | cons b r ih=>intro a hc;exact((Rch.refl ls a).step hc.1).trans (ih b hc.2)
  rw[←hp.last]
  exact this r a hp.ch
theorem cost_more {ls:List Lk} {l:Lk} {a b:Int} (h:cost ls a b≠0):cost (ls++[l]) a b=cost ls a b:=by
 rw[cost_snoc,if_pos]
 cases e:anyJ ls a b
 ·exact absurd (cost_none e) h
 ·rfl
theorem chain_more {ls:List Lk} {l:Lk}:∀{p:List Int},chain (cost ls) p→chain (cost (ls++[l])) p∧pc (cost (ls++[l])) p=pc (cost ls) p
 | [],_=>⟨trivial,rfl⟩
 | [_],_=>⟨trivial,rfl⟩
 | a::b::r,h=>by
  have h1:=chain_more (l:=l) h.2
  have h2:=cost_more (l:=l) (show cost ls a b≠0 by have:=h.1;omega)
  refine⟨⟨by rw[h2];exact h.1,h1.1⟩,?_⟩
  simp only[pc,h2,h1.2]
theorem srv_more {ls:List Lk} {l:Lk} {fr to:Int} {via nt p:List Int} (h:Srv (cost ls) fr to via nt p):Srv (cost (ls++[l])) fr to via nt p:=
 ⟨⟨h.head,h.last,h.nd,(chain_more h.ch).1,h.rng⟩,h.not,h.met⟩
theorem pc_app {C:Int→Int→Int}:∀(u:List Int) (x:Int) (v:List Int),pc C (u++x::v)=pc C (u++[x])+pc C (x::v)
 | [],_,_=>by simp[pc]
 | [a],x,v=>by simp only[List.cons_append,List.nil_append,pc];omega
 | a::b::r,x,v=>by
  have:=pc_app (C:=C) (b::r) x v
  simp only[List.cons_append,pc] at this ⊢
  rw[this]
  omega
theorem chain_app {C:Int→Int→Int}:∀{u:List Int} {x:Int} {v:List Int},chain C (u++x::v)↔chain C (u++[x])∧chain C (x::v)
 | [],_,_=>by simp[chain]
 | [a],x,v=>by simp only[List.cons_append,List.nil_append,chain,and_true]
 | a::b::r,x,v=>by
  have:=chain_app (C:=C) (u:=b::r) (x:=x) (v:=v)
  simp only[List.cons_append,chain] at this ⊢
  rw[this,and_assoc]
theorem lst_app:∀(u:List Int) (x:Int) (v:List Int),lst (u++x::v)=lst (x::v)
 | [],_,_=>rfl
 | [a],x,v=>rfl
 | a::b::r,x,v=>by
  have:=lst_app (b::r) x v
  simpa[lst] using this
theorem part_best {C:Int→Int→Int} (hC:∀a b,0≤C a b) {fr to x:Int} {u v:List Int} {c:Int} (h:IsBest C fr to [] [] (u++x::v) c):Srv C x to [] [] (x::v)∧∀q,Pth C x to q→pc C (x::v)≤pc C q:=by
 obtain⟨h1,h2,h3⟩:=h
 have hch:=chain_app.1 h1.ch
 have hx:Pth C x to (x::v):=⟨⟨v,rfl⟩,by rw[←lst_app u x v];exact h1.last,(List.nodup_append.1 h1.nd).2.1,hch.2,fun y hy=>h1.rng y (List.mem_append.2 (Or.inr hy))⟩
 refine⟨srv_plain hx,fun q hq=>?_⟩
 obtain⟨s,rfl⟩:=hq.head
 have hw:chain C (u++x::s):=chain_app.2 ⟨hch.1,hq.ch⟩
 have hl:lst (u++x::s)=to:=by rw[lst_app];exact hq.last
 have hrg:∀y∈u++x::s,0≤y∧y<8:=fun y hy=>by
  rcases List.mem_append.1 hy with hy | hy
  ·exact h1.rng y (List.mem_append.2 (Or.inl hy))
  ·exact hq.rng y hy
 have key:∃q',Pth C fr to q'∧pc C q'≤pc C (u++x::s):=by
  obtain⟨r,hr⟩:=h1.head
  cases u with
  | nil=>
   simp at hr
   obtain⟨rfl,rfl⟩:=hr
   exact walk_path hC hw hl hrg
  | cons a u=>
   simp at hr
   obtain⟨rfl,rfl⟩:=hr
   exact walk_path hC hw hl hrg
 obtain⟨q',h4,h5⟩:=key
 have h6:=h3 q' (srv_plain h4)
 rw[pc_app u x v] at h2
 rw[pc_app u x s] at h5
 rcases h6 with h6 | ⟨h6,_⟩ <;> omega
end Stp
namespace Go.Proofs.Ytolclgbpjiokfaa
open Go.RowKit Go.Maps Stw Go.Deep
theorem hidp {p:Prop} (h:p):Hid p:=h
def dn (a b x y:Nat):Bool:=decide ((x<a∧y<a)∨(x=a∧y<b)∨(y=a∧x<b))
def cf (ls:List Lk) (a b j:Nat):Value:=.int .i64 (if dn a b (j / 8) (j % 8)=true then cost ls ((j / 8:Nat):Int) ((j % 8:Nat):Int) else 0)
theorem cf_zero (ls:List Lk) (j:Nat):cf ls 0 0 j=.int .i64 0:=by
 have:dn 0 0 (j / 8) (j % 8)=false:=by simp[dn]
 simp[cf,this]
theorem rep_get {n i:Nat} {x:Value} (h:i<n):(List.replicate n x).toArray[i]? =some x:=by simp[h]
theorem cf_step {ls:List Lk} {a b j:Nat} (hb:b<8) (ha:a<8) (hba:b<a):(if j=b*8+a then Value.int .i64 (cost ls a b) else if j=a*8+b then Value.int .i64 (cost ls a b) else cf ls a b j)=cf ls a (b+1) j:=by
 by_cases h1:j=b*8+a
 ·have e1:j / 8=b:=by omega
  have e2:j % 8=a:=by omega
  have:dn a (b+1) b a=true:=by simp[dn]
  rw[if_pos h1,cf,e1,e2,this,if_pos rfl,cost_comm]
 ·rw[if_neg h1]
  by_cases h2:j=a*8+b
  ·have e1:j / 8=a:=by omega
   have e2:j % 8=b:=by omega
   have:dn a (b+1) a b=true:=by simp[dn]
   rw[if_pos h2,cf,e1,e2,this,if_pos rfl]
  ·rw[if_neg h2,cf,cf]
   have:dn a b (j / 8) (j % 8)=dn a (b+1) (j / 8) (j % 8):=by
    unfold dn
    rw[decide_eq_decide]
    omega
   rw[this]
theorem cf_next {n:Int} {ls:List Lk} (hr:Right n ls) {a j:Nat}:cf ls a a j=cf ls (a+1) 0 j:=by
 unfold cf
 congr 1
 by_cases h:j / 8=a∧j % 8=a
 ·have:cost ls ((j / 8:Nat):Int) ((j % 8:Nat):Int)=0:=by
   have h3:=(hr.cost ((j / 8:Nat):Int) ((j % 8:Nat):Int)).2.2
   by_cases e:cost ls ((j / 8:Nat):Int) ((j % 8:Nat):Int)=0
   ·exact e
   ·have:=h3 e;omega
  rw[this];simp
 ·have:dn a a (j / 8) (j % 8)=dn (a+1) 0 (j / 8) (j % 8):=by
   unfold dn
   rw[decide_eq_decide]
   omega
  rw[this]
theorem cf_all {nn:Nat} {ls:List Lk} (hr:Right (nn:Int) ls) {j:Nat}:cf ls nn 0 j=.int .i64 (cost ls ((j / 8:Nat):Int) ((j % 8:Nat):Int)):=by
 unfold cf
 congr 1
 split
 ·rfl
 ·rename_i h
  have h3:=(hr.cost ((j / 8:Nat):Int) ((j % 8:Nat):Int)).2.2
  by_cases e:cost ls ((j / 8:Nat):Int) ((j % 8:Nat):Int)=0
  ·exact e.symm
  ·have:=h3 e
   exact absurd (by simp[dn];omega) h
def RB (w:World) (g:Nat):Prop:=∃rs,w.heap[g]? =some (.cells rs 104 (0,0))∧rs.size=64
theorem RB.of_block {w w':World} {g:Nat} (h:RB w g) (e:w'.heap[g]? =w.heap[g]?):RB w' g:=by
 obtain⟨rs,h1,h2⟩:=h
 exact⟨rs,e.trans h1,h2⟩
theorem RB.made (w:World) (cs:Array Value) (h:cs.size=64):RB (w.alloc (.cells cs 104)) w.heap.size:=⟨cs,blk_alloc_new _ _,h⟩
theorem RB.lt {w:World} {g:Nat} (h:RB w g):g<w.heap.size:=by
 obtain⟨rs,h1,h2⟩:=h
 exact(Array.getElem?_eq_some_iff.1 h1).1
theorem RB.set {w:World} {g:Nat} (h:RB w g) {a:Addr} (ha:g≠a.block) (v:Value):RB (w.setCell a v) g:=h.of_block (blk_setCell_other _ _ _ _ ha)
set_option maxRecDepth 100000 in
set_option maxHeartbeats 2000000 in
theorem costsOf_right (nn:Nat) (ao:Option Addr) (len cap:Nat) (ls:List Lk) (w:World) (hlen:ls.length=len) (hl:NetAt w ao ls) (hx:len≤9223372036854775807) (hr:wrong (nn:Int) ls=(0,0)):
 Calls Try.prog 45 #[.agg #[.int .i64 nn,.slice ao len cap]] w fun e w'=>∃cs:Array Value,e=.returned (.agg cs)∧cs.size=64∧(∀a b:Nat,a<8→b<8→cs[a*8+b]? =some (.int .i64 (cost ls a b)))∧Ext w w':=by
 have HR:=hidp hr
 have hright:=right_of (by rw[hr]:(wrong (nn:Int) ls).1=0)
 have hbd:=hright.bounds
 clear hr
 go_enter Try.func45,Try.ntmps45
 go_wp2
 go_loopw [9] (fun iv wr=>∃a:Nat,a≤nn∧iv=.int .i64 a∧wr.rowIs (w.heap.size+1+1) 104 64 (cf ls a 0)∧Below (w.heap.size+1) (w.alloc (.cells #[.int .i64 nn,.slice ao len cap] 24)) wr∧RB wr (w.heap.size+1)) (fun iv _=>nn - (intOf iv).toNat)
 case atStart=>
  refine⟨0,Nat.zero_le _,rfl,?_,?_,?_⟩
  ·have:=World.rowIs_alloc ((w.alloc (.cells #[.int .i64 nn,.slice ao len cap] 24)).alloc (.cells (List.replicate 64 (Value.int .i64 0)).toArray 104)) (List.replicate 64 (Value.int .i64 0)).toArray 104 (cf ls 0 0) (fun i hi=>by rw[cf_zero];exact rep_get (by rw[List.size_toArray,List.length_replicate] at hi;exact hi))
   simpa using this
  ·exact((Below.refl _ _).alloc (by simp) _).alloc (by simp) _
  ·have:=(RB.made (w.alloc (.cells #[.int .i64 nn,.slice ao len cap] 24)) (List.replicate 64 (Value.int .i64 0)).toArray (by rw[List.size_toArray,List.length_replicate])).of_block (blk_alloc_lt _ (.cells (List.replicate 64 (Value.int .i64 0)).toArray 104) _ (by simp))
   simpa using this
 case round=>
  obtain⟨a,ha,rfl,hrow,hbel,hRB⟩:=hrel
  by_cases hlt:a<nn
  ·go_wp2
   go_loopw [13] (fun iv wr=>∃b:Nat,b≤a∧iv=.int .i64 b∧wr.rowIs (w.heap.size+1+1) 104 64 (cf ls a b)∧Below (w.heap.size+1) (w.alloc (.cells #[.int .i64 nn,.slice ao len cap] 24)) wr∧RB wr (w.heap.size+1)) (fun iv _=>a - (intOf iv).toNat)
   case atStart=>exact⟨0,Nat.zero_le _,rfl,hrow,hbel,hRB⟩
   case round=>
    clear hrow hbel hRB
    obtain⟨b,hb,rfl,hrow,hbel,hRB⟩:=hrel
    have hEw:Ext w wr:=Below.trans ((Ext.refl w).alloc _) (hbel.mono (by omega))
    have k0:w.heap.size<w.heap.size+1:=by omega
    have c0:wr.cell? ⟨w.heap.size,0,none⟩=some (.int .i64 nn):=(hbel.cell (p:=⟨w.heap.size,0,none⟩) k0).trans (by simp)
    have c1:wr.cell? ⟨w.heap.size,1,none⟩=some (.slice ao len cap):=(hbel.cell (p:=⟨w.heap.size,1,none⟩) k0).trans (by simp)
    by_cases hlb:b<a
    ·go_wp2_with fail
     refine(Cost_any nn a b ao len cap ls _ hlen (hl.ext hEw) hx (i64_small (by omega) (by omega)) (i64_small (by omega) (by omega)) HR.out).mono ?_
     rintro e w1 ⟨rfl,E1⟩
     have hrow1:=hrow.of_block (Below.block E1 _ hrow.lt)
     have q1:=hrow1.cell (i:=a*8+b) (by omega)
     have q2:=hrow1.cell (i:=b*8+a) (by omega)
     have f1:=hrow1.frozen (a*8+b)
     have f2:=hrow1.frozen (b*8+a)
     go_wp2
     go_region
     go_wp2
     go_roundw
     case rel=>
      refine⟨b+1,by omega,by go_num,((hrow1.set _ _).set _ _).drew.congr (fun j hj=>cf_step (by omega) (by omega) hlb),?_,((hRB.of_block (Below.block E1 _ hRB.lt)).set (by simp) _).set (by simp) _⟩
      exact(((hbel.trans (Below.mono E1 (by have:=hrow.lt;omega))).setCell (by simp) _).setCell (by simp) _).drew
     case measure=>simp[intOf];omega
    ·go_wp2
     go_roundw
     case rel=>
      obtain rfl:b=a:=by omega
      exact⟨b+1,by omega,by go_num,hrow.congr (fun j _=>cf_next hright),hbel,hRB⟩
     case measure=>simp[intOf];omega
  ·obtain⟨cs,hcs,hsz,hget⟩:=hrow
   obtain⟨rs,hrs,hrz⟩:=hRB
   have h1:cs.all (·.oneCell')=true:=by
    rw[Array.all_eq_true]
    intro i hi
    have:=hget i (by omega)
    rw[Array.getElem?_eq_getElem hi] at this
    injection this with this
    rw[this];rfl
   go_wp2_with (first
    | (refine wpList_load_row rfl 104 (.tmp 3) rfl (w.heap.size+1+1) rfl 104 cs (0,0) _ hcs Try.underlying104 rfl ?i1 ?_)
    | (refine wpList_store_row rfl 104 (.tmp 2) (.tmp 32) rfl (w.heap.size+1) cs rfl rfl 104 rs hrs ?i2 ?i3 h1 ?_))
   case i1=>rw[hsz];kernel_rfl
   case i2=>rw[hsz];kernel_rfl
   case i3=>omega
   refine bodyPost_ret_by (results_cell_row Try.results45 _ _ (w.heap.size+1) 104 cs (0,0) _ rfl (setRow_heap _ _ rs cs _ _ hrs) Try.underlying104 rfl (by rw[hsz];kernel_rfl)) rfl ⟨cs,rfl,hsz,fun x y hx hy=>?_,?_⟩
   ·obtain rfl:a=nn:=by omega
    rw[hget (x*8+y) (by omega),cf_all hright,show(x*8+y) / 8=x by omega,show(x*8+y) % 8=y by omega]
   ·exact below_setRow (Below.trans ((Ext.refl w).alloc _) (hbel.mono (by omega))) (by omega) _
end Go.Proofs.Ytolclgbpjiokfaa
namespace Go.Proofs.Ytolclgbpjiokfaa
open Go.RowKit Go.Maps Stw Go.Deep
theorem infoI:(Try.prog.info? 3).map (fun i=>(i.zero,i.size,i.bytes))=some (some (.int .i64 0),1,8):=by kernel_rfl
set_option maxHeartbeats 1000000 in
theorem clonePath_any (b off n c:Nat) (ps:List Int) (w:World) (hn:ps.length=n) (hb:n*8≤140737488351232) (hp:IntsAt w b off ps):
 Calls Try.prog 80 #[.slice (some ⟨b,off,none⟩) n c] w fun e w'=>∃v',e=.returned v'∧w'.ownsRow w.heap.size 3 1 v' n (ps.map (Value.int .i64))∧v'≠.slice none 0 0∧Ext w w':=by
 obtain⟨i0,hi,hz0,hz1,hz2⟩:=info_parts infoI
 have hq:∀(w:World) (a:Option Addr) (n c:Nat),(binOp .eql 51 (.slice a n c) (.slice none 0 0)).run Try.prog w=.ok (.bool a.isNone) w:=fun w a n c=>Lib.run_eql_slice_nil w _ _ a n c 0 0 Try.underlying51
 have A:=hidp hp
 clear hp
 go_enter Try.func80,Try.ntmps80
 go_wp2_with (at_builtin;refine wpList_append_own _ rfl _ _ 51 rfl w.heap.size 3 i0 (.int .i64 0) 1 8 Try.underlying51 hi hz0 hz1 hz2 rfl (by decide) _ _ _ rfl (World.ownsRow_made w #[] 0 (Nat.le_refl _) (Nat.zero_le _) rfl) ⟨b,off,none⟩ n c (ps.map (Value.int .i64)) rfl ?qc1 ?qc2 ?qc3 ?qc4 ?qc5 ?qc6 ?_)
 case qc1=>simp;omega
 case qc2=>
  intro j u hj
  have hjn:j<ps.length:=by have:=(List.getElem?_eq_some_iff.1 hj).1;simpa using this
  have e:(⟨b,off,none⟩:Addr).add j=⟨b,off+j,none⟩:=Addr.add_mid b off j
  rw[e]
  have h1:=A.out j hjn
  have hlt:b<w.heap.size:=by
   rcases Nat.lt_or_ge b w.heap.size with h | h
   ·exact h
   ·have:w.heap[b]? =none:=by simp[h]
    simp[World.cell?,this] at h1
  rw[World.cell?_alloc_past _ _ _ hlt,h1]
  rw[List.getElem?_map,List.getElem?_eq_getElem hjn] at hj
  simp at hj
  rw[←hj]
  simp[List.getD_eq_getElem?_getD,hjn]
 case qc3=>intro u hu;obtain⟨x,_,rfl⟩:=List.mem_map.1 hu;rfl
 case qc4=>unfold maxLen;omega
 case qc5=>omega
 case qc6=>simp
 intro v' w1 hown hgrow hnil
 go_wp2
 go_ret
 refine⟨v',rfl,by simpa using hown,hnil,?_⟩
 exact((Below.refl _ w).alloc (Nat.le_refl _) _).grown hgrow (by simp) (by intro k hk;simp[Value.ownBlock] at hk;omega)
def sF (C:Int→Int→Int) (fr to:Int) (vv nv:Value) (cl:List Int) (wv bv:Value) (l:Int) (j:Nat):Value:=
 if j<64 then .int .i64 (C ((j / 8:Nat):Int) ((j % 8:Nat):Int)) else if j=64 then .int .i64 fr else if j=65 then .int .i64 to else if j=66 then vv else if j=67 then nv
 else if j<76 then .bool (decide (((j - 68:Nat):Int)∈cl)) else if j=76 then wv else if j=77 then bv else .int .i64 l
theorem sF_close {C:Int→Int→Int} {fr to l:Int} {vv nv wv bv:Value} {cl:List Int} {x:Nat} (hx:x<8) (j:Nat):(if j=68+x then Value.bool true else sF C fr to vv nv cl wv bv l j)=sF C fr to vv nv ((x:Int)::cl) wv bv l j:=by
 unfold sF
 by_cases h:j=68+x
 ·subst h
  simp[show ¬68+x<64 by omega,show ¬68+x=64 by omega,show ¬68+x=65 by omega,show ¬68+x=66 by omega,show ¬68+x=67 by omega,show 68+x<76 by omega]
 ·rw[if_neg h]
  repeat' split
  all_goals first | rfl | skip
  congr 1
  rw[decide_eq_decide,List.mem_cons]
  constructor
  ·exact Or.inr
  ·rintro(e | e)
   ·omega
   ·exact e
theorem sF_open {C:Int→Int→Int} {fr to l:Int} {vv nv wv bv:Value} {cl:List Int} {x:Nat} (hx:x<8) (hn:¬(x:Int)∈cl) (j:Nat):(if j=68+x then Value.bool false else sF C fr to vv nv ((x:Int)::cl) wv bv l j)=sF C fr to vv nv cl wv bv l j:=by
 unfold sF
 by_cases h:j=68+x
 ·subst h
  simp[show ¬68+x<64 by omega,show ¬68+x=64 by omega,show ¬68+x=65 by omega,show ¬68+x=66 by omega,show ¬68+x=67 by omega,show 68+x<76 by omega,hn]
 ·rw[if_neg h]
  repeat' split
  all_goals first | rfl | skip
  congr 1
  rw[decide_eq_decide,List.mem_cons]
  constructor
  ·rintro(e | e)
   ·omega
   ·exact e
  ·exact Or.inr
theorem sF_way {C:Int→Int→Int} {fr to l:Int} {vv nv wv bv v:Value} {cl:List Int} (j:Nat):(if j=76 then v else sF C fr to vv nv cl wv bv l j)=sF C fr to vv nv cl v bv l j:=by
 unfold sF
 by_cases h:j=76
 ·subst h;simp
 ·simp[h]
theorem sF_best {C:Int→Int→Int} {fr to l l':Int} {vv nv wv bv v:Value} {cl:List Int} {j:Nat} (hj:j<79):(if j=78 then Value.int .i64 l' else if j=77 then v else sF C fr to vv nv cl wv bv l j)=sF C fr to vv nv cl wv v l' j:=by
 unfold sF
 by_cases h:j=78
 ·subst h;simp
 ·by_cases h2:j=77
  ·subst h2;simp
  ·rw[if_neg h,if_neg h2]
   repeat' split
   all_goals first | rfl | omega
def BestIs (w:World) (S:Nat) (wv bv:Value) (l:Int):Option (List Int×Int)→Prop
 | none=>bv=.slice none 0 0
 | some (p,c)=>∃g cap,bv=.slice (some ⟨g,0,none⟩) p.length cap∧S<g∧g<w.heap.size∧IntsAt w g 0 p∧wv.ownBlock≠some g∧l=c∧p.length≤cap
structure SA (w:World) (S:Nat) (C:Int→Int→Int) (fr to:Int) (vv nv:Value) (cl way:List Int) (wv bv:Value) (l:Int) (best:Option (List Int×Int)):Prop where
 row:w.rowIs S 124 79 (sF C fr to vv nv cl wv bv l)
 own:w.ownsRow (S+1) 3 1 wv way.length (way.map (Value.int .i64))
 best:BestIs w S wv bv l best
end Go.Proofs.Ytolclgbpjiokfaa
namespace Go.Proofs.Ytolclgbpjiokfaa
open Go.RowKit Go.Maps Stw Go.Deep Stp
def SE (w:World) (S:Nat) (C:Int→Int→Int) (fr to:Int) (vv nv:Value) (cl way:List Int) (best:Option (List Int×Int)):Prop:=∃wv bv l,SA w S C fr to vv nv cl way wv bv l best
def VA (w:World) (S:Nat) (vo:Option Addr) (via:List Int):Prop:=via=[]∨∃b off,vo=some ⟨b,off,none⟩∧b<S∧IntsAt w b off via
theorem VA.below {w w':World} {S:Nat} {vo:Option Addr} {via:List Int} (h:VA w S vo via) (k:Below S w w'):VA w' S vo via:=by
 rcases h with h | ⟨b,off,h1,h2,h3⟩
 ·exact Or.inl h
 ·exact Or.inr ⟨b,off,h1,h2,fun i hi=>(k.cell (p:=⟨b,off+i,none⟩) h2).trans (h3 i hi)⟩
def EnterOk (S:Nat) (C:Int→Int→Int) (fr to:Int) (vo:Option Addr) (vc:Nat) (nv:Value) (via:List Int) (k:Nat):Prop:=
 ∀(cl way:List Int) (x:Nat) (c:Int) (m:Nat) (best:Option (List Int×Int)) (w:World),way.length+k=8→way.Nodup→(∀y∈way,0≤y∧y<8)→(∀y∈way,y∈cl)→x<8→¬(x:Int)∈cl→0≤c→c≤1000*(way.length:Int)→m≤via.length→
  VA w S vo via→SE w S C fr to (.slice vo via.length vc) nv cl way best→
  Calls Try.prog 62 #[.pointer (some ⟨S,0,none⟩),.int .i64 x,.int .i64 c,.int .i64 m] w fun e w'=>e=.returned (.tuple #[])∧Below S w w'∧SE w' S C fr to (.slice vo via.length vc) nv cl way (ent C to via k cl way x c m best)
def rowL (C:Int→Int→Int) (x:Nat):List Value:=(List.range 8).map fun(j:Nat)=>Value.int .i64 (C x j)
theorem rowL_get {C:Int→Int→Int} {x j:Nat} (h:j<8):(rowL C x)[j]? =some (.int .i64 (C x j)):=by simp[rowL,h]
theorem rowL_at {w:World} {S:Nat} {C:Int→Int→Int} {fr to l:Int} {vv nv wv bv:Value} {cl:List Int} {x:Nat} (hx:x<8) (h:w.rowIs S 124 79 (sF C fr to vv nv cl wv bv l)):w.rangeAt S (x*8) (rowL C x):=by
 intro j v hj
 have hj8:j<8:=by have:=(List.getElem?_eq_some_iff.1 hj).1;simpa[rowL] using this
 rw[rowL_get hj8] at hj
 injection hj with hj
 rw[h.cell (i:=x*8+j) (by omega), ←hj]
 simp only[sF,if_pos (show x*8+j<64 by omega),show(x*8+j) / 8=x by omega,show(x*8+j) % 8=j by omega]
theorem closed_at {w:World} {S:Nat} {C:Int→Int→Int} {fr to l:Int} {vv nv wv bv:Value} {cl:List Int} {x:Nat} (hx:x<8) (h:w.rowIs S 124 79 (sF C fr to vv nv cl wv bv l)):w.cell? ⟨S,68+x,none⟩=some (.bool (decide ((x:Int)∈cl))):=by
 rw[h.cell (i:=68+x) (by omega)]
 simp[sF,show ¬68+x<64 by omega,show ¬68+x=64 by omega,show ¬68+x=65 by omega,show ¬68+x=66 by omega,show ¬68+x=67 by omega,show 68+x<76 by omega]
theorem row_index {C:Int→Int→Int} {x j:Nat} (h:j<8) (w:World):(Instr.index 102 (.agg (rowL C x).toArray) (.int .i64 j)).run Try.prog w=.ok (.int .i64 (C x j)) w:=by
 have h1:(0:Int)≤(j:Int)∧(j:Int)<8:=by omega
 have h2:=rowL_get (C:=C) (x:=x) h
 have hi:(sizeOf 3).run Try.prog w=.ok 1 w:=by kernel_rfl
 simp[Instr.index,asIntOf,run_underlying Try.underlying102,h1,hi,part,h2]
 omega
def goF (C:Int→Int→Int) (to:Int) (via:List Int) (k:Nat) (cl way:List Int) (x:Int) (c:Int) (m:Nat) (b:Option (List Int×Int)) (s:Nat):Option (List Int×Int):=
 if 0<C x (s:Int)∧¬(s:Int)∈cl then ent C to via k cl way (s:Int) (c+C x (s:Int)) m b else b
set_option maxRecDepth 100000 in
set_option maxHeartbeats 2000000 in
theorem goOn_any {S:Nat} {C:Int→Int→Int} {fr to:Int} {vo:Option Addr} {vc:Nat} {nv:Value} {via:List Int} {k:Nat} (hC:∀a b,0≤C a b∧C a b≤1000) (IH:EnterOk S C fr to vo vc nv via k)
 (cl way:List Int) (x:Nat) (c:Int) (m:Nat) (best:Option (List Int×Int)) (w:World) (hwk:way.length+k=8) (hnd:way.Nodup) (hrg:∀y∈way,0≤y∧y<8) (hcl:∀y∈way,y∈cl) (hx:x<8) (hc0:0≤c) (hc1:c≤1000*((way.length:Int) - 1)) (hm:m≤via.length)
 (hv:VA w S vo via) (hs:SE w S C fr to (.slice vo via.length vc) nv cl way best):
 Calls Try.prog 79 #[.pointer (some ⟨S,0,none⟩),.int .i64 x,.int .i64 c,.int .i64 m] w fun e w'=>e=.returned (.tuple #[])∧Below S w w'∧SE w' S C fr to (.slice vo via.length vc) nv cl way ((List.range 8).foldl (goF C to via k cl way x c m) best):=by
 have hwl:way.length≤8:=by omega
 obtain⟨wv0,bv0,l0,hsa0⟩:=hs
 have hrange:=rowL_at hx hsa0.row
 go_enter Try.func79,Try.ntmps79
 go_wp2_with (refine wpList_load_mid rfl 102 (.tmp 14) rfl S (x*8) rfl (rowL C x) _ hrange Try.underlying102 rfl (by kernel_rfl) ?_)
 go_loopw [16] (fun iv wr=>∃j:Nat,j≤8∧iv=.int .i64 j∧Below S w wr∧SE wr S C fr to (.slice vo via.length vc) nv cl way ((List.range j).foldl (goF C to via k cl way x c m) best)) (fun iv _=>8 - (intOf iv).toNat)
 case atStart=>exact⟨0,by omega,rfl,Below.refl _ _,wv0,bv0,l0,hsa0⟩
 case round=>
  obtain⟨j,hj,rfl,hbel,hse⟩:=hrel
  by_cases hlt:j<8
  ·have hidx:=row_index (C:=C) (x:=x) hlt
   have hse':=hse
   obtain⟨wv,bv,l,hsa⟩:=hse
   have cc:=closed_at (x:=j) hlt hsa.row
   have hCj:=hC x j
   have hfold:(List.range (j+1)).foldl (goF C to via k cl way x c m) best=goF C to via k cl way x c m ((List.range j).foldl (goF C to via k cl way x c m) best) j:=by rw[List.range_succ,List.foldl_append];rfl
   have HFo:=hidp hfold
   obtain⟨b1,hb1⟩:∃b1,b1=(List.range j).foldl (goF C to via k cl way x c m) best:=⟨_,rfl⟩
   rw[←hb1] at hse' HFo
   obtain⟨v,hv0⟩:∃v,v=C x j:=⟨_,rfl⟩
   have HV:=hidp hv0
   rw[←hv0] at hidx hCj
   clear hv0 hfold hsa hb1
   by_cases hp:0<v
   ·cases hd:decide ((j:Int)∈cl)
    ·rw[hd] at cc
     have hnm:¬(j:Int)∈cl:=of_decide_eq_false hd
     have HN:=hidp hnm
     clear hd hnm
     go_wp2_with fail
     refine(IH cl way j (c+v) m b1 _ hwk hnd hrg hcl hlt HN.out (by omega) (by omega) hm (hv.below hbel) hse').mono ?_
     rintro e w1 ⟨rfl,hbel1,hse1⟩
     go_wp2
     go_roundw
     case rel=>
      refine⟨j+1,by omega,by go_num,hbel.trans hbel1,?_⟩
      rw[HFo.out,goF,if_pos ⟨by rw[←HV.out];exact hp,HN.out⟩, ←HV.out]
      exact hse1
     case measure=>simp[intOf];omega
    ·rw[hd] at cc
     have hnm:(j:Int)∈cl:=of_decide_eq_true hd
     have HN:=hidp hnm
     clear hd hnm
     go_wp2
     go_roundw
     case rel=>
      refine⟨j+1,by omega,by go_num,hbel,?_⟩
      rw[HFo.out,goF,if_neg (fun h=>h.2 HN.out)]
      exact hse'
     case measure=>simp[intOf];omega
   ·go_wp2
    go_roundw
    case rel=>
     refine⟨j+1,by omega,by go_num,hbel,?_⟩
     rw[HFo.out,goF,if_neg (fun h=>hp (by rw[HV.out];exact h.1))]
     exact hse'
    case measure=>simp[intOf];omega
  ·go_wp2
   obtain rfl:j=8:=by omega
   go_end0
   exact⟨rfl,hbel,hse⟩
end Go.Proofs.Ytolclgbpjiokfaa
namespace Go.Proofs.Ytolclgbpjiokfaa
open Go.RowKit Go.Maps Stw Go.Deep Stp
theorem own_cap {w:World} {base:Nat} {e:TypeId} {size g n cap:Nat} {xs:List Value} (h:w.ownsRow base e size (.slice (some ⟨g,0,none⟩) n cap) n xs):n≤cap∧cap≤maxLen:=by
 rcases h.2 with⟨h0,_⟩ | ⟨g',cap',cur,hv,_,_,h1,h2,_⟩
 ·cases h0
 ·cases hv;exact⟨h1,h2⟩
section
variable {w:World} {S:Nat} {C:Int→Int→Int} {fr to l:Int} {vv nv wv bv:Value} {cl way:List Int} {best:Option (List Int×Int)}
theorem intsAt_of_block {w w':World} {g o:Nat} {p:List Int} (h:IntsAt w g o p) (e:w'.heap[g]? =w.heap[g]?):IntsAt w' g o p:=fun i hi=>(World.cell?_of_block (a:=⟨g,o+i,none⟩) e).trans (h i hi)
theorem BestIs.kept {w':World} {wv':Value} (h:BestIs w S wv bv l best) (hsz:w.heap.size≤w'.heap.size) (hb:∀g,S<g→g<w.heap.size→wv.ownBlock≠some g→w'.heap[g]? =w.heap[g]?) (hv:∀g,S<g→g<w.heap.size→wv.ownBlock≠some g→wv'.ownBlock≠some g):BestIs w' S wv' bv l best:=by
 cases best with
 | none=>exact h
 | some x=>
  obtain⟨p,c⟩:=x
  obtain⟨g,cap,h1,h2,h3,h4,h5,h6,h7⟩:=h
  exact⟨g,cap,h1,h2,by omega,intsAt_of_block h4 (hb g h2 h3 h5),hv g h2 h3 h5,h6,h7⟩
theorem SA.close (h:SA w S C fr to vv nv cl way wv bv l best) {x:Nat} (hx:x<8):SA (w.setCell ⟨S,68+x,none⟩ (.bool true)) S C fr to vv nv ((x:Int)::cl) way wv bv l best:=
 ⟨(h.row.set _ _).congr (fun j _=>sF_close hx j),ownsRow_setCell_below h.own (by simp) _,h.best.kept (by simp) (fun g hg _ _=>blk_setCell_other _ _ _ _ (by simp;omega)) (fun g _ _ h=>h)⟩
theorem SA.reopen {x:Nat} (h:SA w S C fr to vv nv ((x:Int)::cl) way wv bv l best) (hx:x<8) (hn:¬(x:Int)∈cl):SA (w.setCell ⟨S,68+x,none⟩ (.bool false)) S C fr to vv nv cl way wv bv l best:=
 ⟨(h.row.set _ _).congr (fun j _=>sF_open hx hn j),ownsRow_setCell_below h.own (by simp) _,h.best.kept (by simp) (fun g hg _ _=>blk_setCell_other _ _ _ _ (by simp;omega)) (fun g _ _ h=>h)⟩
theorem SA.push {w':World} {o:Obj} {x:Int} {g cap:Nat} (h:SA w S C fr to vv nv cl way wv bv l best)
 (hown:w'.ownsRow (S+1) 3 1 (.slice (some ⟨g,0,none⟩) (way.length+1) cap) (way.length+1) (way.map (Value.int .i64)++[.int .i64 x])) (hg:(w.alloc o).grownBy w' wv.ownBlock) (hat:wv.ownBlock=some g∨g=w.heap.size+1):
 SA (w'.setCell ⟨S,76,none⟩ (.slice (some ⟨g,0,none⟩) (way.length+1) cap)) S C fr to vv nv cl (way++[x]) (.slice (some ⟨g,0,none⟩) (way.length+1) cap) bv l best:=by
 have hS:=h.row.lt
 have hne:wv.ownBlock≠some S:=by
  intro e
  have:=(h.own.lt S e).1
  omega
 have hblk:∀k,k<w.heap.size→wv.ownBlock≠some k→w'.heap[k]? =w.heap[k]?:=fun k hk hk2=>(hg.block k (by simp;omega) (fun e=>hk2 e.symm)).trans (blk_alloc_lt _ _ _ hk)
 refine⟨((h.row.of_block (hblk S hS hne)).set 76 _).congr (fun j _=>sF_way j),?_,h.best.kept ?_ (fun k hk1 hk2 hk3=>?_) (fun k hk1 hk2 hk3=>?_)⟩
 ·have:=ownsRow_setCell_below hown (a:=⟨S,76,none⟩) (by simp) (.slice (some ⟨g,0,none⟩) (way.length+1) cap)
  simpa using this
 ·have:=hg.size
  simp at this ⊢
  omega
 ·rw[blk_setCell_other _ _ _ _ (by simp;omega)]
  exact hblk k hk2 hk3
 ·intro e
  have e':g=k:=by simpa[Value.ownBlock] using e
  subst e'
  rcases hat with h1 | h1
  ·exact hk3 h1
  ·omega
theorem SA.pop {x:Int} {n g cap:Nat} (h:SA w S C fr to vv nv cl (way++[x]) (.slice (some ⟨g,0,none⟩) n cap) bv l best) (hn:n=way.length+1):
 SA (w.setCell ⟨S,76,none⟩ (.slice (some ⟨g,0,none⟩) way.length cap)) S C fr to vv nv cl way (.slice (some ⟨g,0,none⟩) way.length cap) bv l best:=by
 subst hn
 refine⟨(h.row.set 76 _).congr (fun j _=>sF_way j),?_,h.best.kept (by simp) (fun k hk _ _=>blk_setCell_other _ _ _ _ (by simp;omega)) (fun k _ _ h=>by simpa[Value.ownBlock] using h)⟩
 refine ownsRow_setCell_below ?_ (by simp) _
 have:=h.own
 simp only[List.length_append,List.length_cons,List.length_nil,List.map_append,List.map_cons,List.map_nil] at this
 exact ownsRow_pop (by simp) this
theorem SA.keep {w':World} {v':Value} {p:List Int} {c:Int} (h:SA w S C fr to vv nv cl way wv bv l best) (hE:Ext w w') (hown:w'.ownsRow w.heap.size 3 1 v' way.length (way.map (Value.int .i64))) (hp:0<way.length) (hw:p=way):
 SA ((w'.setCell ⟨S,77,none⟩ v').setCell ⟨S,78,none⟩ (.int .i64 c)) S C fr to vv nv cl way wv v' c (some (p,c)):=by
 subst hw
 have hS:=h.row.lt
 obtain⟨g,cap,rfl,hg1,hg2⟩:=hown.form hp
 refine⟨(((h.row.of_block (Below.block hE _ hS)).set 77 _).set 78 _).congr (fun j hj=>sF_best hj),?_,g,cap,rfl,by omega,by simpa using hg2,?_,?_,rfl,(own_cap hown).1⟩
 ·refine ownsRow_setCell_below (ownsRow_setCell_below ?_ (by simp) _) (by simp) _
  have hlt:=h.own.lt
  obtain⟨e1,e2⟩:=h.own
  refine⟨e1,?_⟩
  rcases e2 with e3 | ⟨g',cap',cur,hv,hb,hgc,r⟩
  ·exact Or.inl e3
  ·refine Or.inr ⟨g',cap',cur,hv,hb,(Below.block hE g' (hlt g' (by rw[hv];rfl)).2).trans hgc,r⟩
 ·intro i hi
  rw[World.cell?_setCell_other _ _ _ _ (by intro e;have:=congrArg Addr.block e;simp at this;omega),World.cell?_setCell_other _ _ _ _ (by intro e;have:=congrArg Addr.block e;simp at this;omega),Nat.zero_add,hown.cellAt i (by omega),List.getElem?_map,List.getElem?_eq_getElem hi]
  simp[List.getD_eq_getElem?_getD,hi]
 ·intro e
  have:=(h.own.lt g e).2
  omega
end
end Go.Proofs.Ytolclgbpjiokfaa
