/- What is kept for flows: lists of numbers as values; flows in memory. -/
import Derived.Test.YtolclgbpjiokfaaU01
import Derived.ProofKit
import Derived.OpenShut
import Derived.ChangeOld
import Derived.SizedLaws
import Derived.Deep.Slices
import Derived.Deep.Strs
import Derived.Lib.SmallJoins
import Derived.WalkKit
namespace Stw
def okAt (n:Int) (ls:List Lk) (ps:List Int) (i:Nat):Bool:=
 swB n (ps.getD i 0) && !((ps.take i).contains (ps.getD i 0)) && (i == 0 || !(cost ls (ps.getD (i - 1) 0) (ps.getD i 0) == 0))
def okTo (n:Int) (ls:List Lk) (ps:List Int) (k:Nat):Prop:=∀i,i<k→okAt n ls ps i=true
def psum (ls:List Lk) (ps:List Int):Nat→Int
 | 0=>0
 | k+1=>psum ls ps k+(if k=0 then 0 else cost ls (ps.getD (k - 1) 0) (ps.getD k 0))
def pathB (n:Int) (ls:List Lk) (ps:List Int):Bool:=!ps.isEmpty && (List.range ps.length).all (okAt n ls ps)
theorem pathB_true {n:Int} {ls:List Lk} {ps:List Int}:pathB n ls ps=true↔ps≠[]∧okTo n ls ps ps.length:=by
 simp[pathB,okTo]
theorem pathB_bad {n:Int} {ls:List Lk} {ps:List Int} {i:Nat} (h:i<ps.length) (hi:okAt n ls ps i=false):pathB n ls ps=false:=by
 cases e:pathB n ls ps
 ·rfl
 ·rw[pathB_true] at e
  rw[e.2 i h] at hi
  cases hi
theorem psum_range {ls:List Lk} {ps:List Int} (hc:∀a b,0≤cost ls a b∧cost ls a b≤1000):∀k:Nat,0≤psum ls ps k∧psum ls ps k≤1000*(k:Int)
 | 0=>by simp[psum]
 | k+1=>by
  have h:=psum_range (ps:=ps) hc k
  have h2:=hc (ps.getD (k - 1) 0) (ps.getD k 0)
  simp only[psum]
  split <;> (constructor <;> omega)
def lengthOf (n:Int) (ls:List Lk) (ps:List Int):Int×Bool:=
 if(wrong n ls).1=0∧pathB n ls ps=true then(psum ls ps ps.length,true) else(0,false)
theorem okAt_false_sw {n:Int} {ls:List Lk} {ps:List Int} {i:Nat} (h:swB n (ps.getD i 0)=false):okAt n ls ps i=false:=by simp only[okAt,h,Bool.false_and]
theorem okAt_false_met {n:Int} {ls:List Lk} {ps:List Int} {i:Nat} (h:ps.getD i 0∈ps.take i):okAt n ls ps i=false:=by
 have:(ps.take i).contains (ps.getD i 0)=true:=List.contains_iff_mem.2 h
 simp only[okAt,this,Bool.not_true,Bool.and_false,Bool.false_and]
theorem okAt_false_cost {n:Int} {ls:List Lk} {ps:List Int} {i:Nat} (h0:i≠0) (h:cost ls (ps.getD (i - 1) 0) (ps.getD i 0)=0):okAt n ls ps i=false:=by
 have:(i == 0)=false:=by simpa using h0
 simp only[okAt,this,h,beq_self_eq_true,Bool.not_true,Bool.or_self,Bool.and_false]
theorem okAt_mk {n:Int} {ls:List Lk} {ps:List Int} {i:Nat} (h1:swB n (ps.getD i 0)=true) (h2:¬ps.getD i 0∈ps.take i) (h3:i=0∨cost ls (ps.getD (i - 1) 0) (ps.getD i 0)≠0):okAt n ls ps i=true:=by
 have:(ps.take i).contains (ps.getD i 0)=false:=by
  cases e:(ps.take i).contains (ps.getD i 0)
  ·rfl
  ·exact absurd (List.contains_iff_mem.1 e) h2
 simp only[okAt,h1,this,Bool.not_false,Bool.true_and,Bool.or_eq_true,beq_iff_eq,Bool.not_eq_true',beq_eq_false_iff_ne]
 exact h3
theorem okTo_succ {n:Int} {ls:List Lk} {ps:List Int} {k:Nat} (h:okTo n ls ps k) (hk:okAt n ls ps k=true):okTo n ls ps (k+1):=by
 intro i hi
 by_cases e:i=k
 ·subst e;exact hk
 ·exact h i (by omega)
end Stw
namespace Go.Proofs.Ytolclgbpjiokfaa
open Go.RowKit
theorem getD_at {L:List Int} {k:Nat} (h:k<L.length):L.getD k 0=L[k]:=by simp[List.getD_eq_getElem?_getD,h]
set_option maxHeartbeats 1000000 in
theorem Ints_some (b1 o1 b2 o2 n c1 c2:Nat) (xs ys:List Int) (w:World) (ha:xs.length=n) (hb:ys.length=n) (hn:n≤4611686018427387904) (l1:b1<w.heap.size) (l2:b2<w.heap.size) (h1:IntsAt w b1 o1 xs) (h2:IntsAt w b2 o2 ys):
 Calls Try.prog 20 #[.slice (some ⟨b1,o1,none⟩) n c1,.slice (some ⟨b2,o2,none⟩) n c2] w fun e w'=>e=.returned (.bool (decide (xs=ys)))∧Ext w w':=by
 go_enter Try.func20,Try.ntmps20
 go_wp2
 go_loopw [13] (fun i wr=>∃k:Nat,k≤n∧i=.int .i64 k∧(∀j,j<k→xs.getD j 0=ys.getD j 0)∧Ext w wr) (fun i _=>n - (intOf i).toNat)
 case atStart=>exact⟨0,Nat.zero_le _,rfl,fun j hj=>by omega,Ext.refl w⟩
 case round=>
  obtain⟨k,hk,rfl,hpre,hext⟩:=hrel
  by_cases hlt:k<n
  ·have a0:=(hext.cells.1 _ _ l1).trans (h1 k (by omega))
   have b0:=(hext.cells.1 _ _ l2).trans (h2 k (by omega))
   have HP:Hid (∀j,j<k→xs.getD j 0=ys.getD j 0):=hpre
   obtain⟨x,hx⟩:∃x,x=xs.getD k 0:=⟨_,rfl⟩
   obtain⟨y,hy⟩:∃y,y=ys.getD k 0:=⟨_,rfl⟩
   rw[←hx] at a0
   rw[←hy] at b0
   have HX:Hid (x=xs.getD k 0):=hx
   have HY:Hid (y=ys.getD k 0):=hy
   clear hx hy hpre
   have i1:(k:Int)<(n:Int):=by omega
   go_wp2
   go_quiet (fail)
   cases hxy:(x == y)
   ·go_wp2
    go_ret
    have hne:decide (xs=ys)=false:=by
     simp only[decide_eq_false_iff_not]
     rintro rfl
     have:x≠y:=by simpa using hxy
     exact this (HX.out.trans HY.out.symm)
    exact⟨by rw[hne];rfl,hext.drewN _⟩
   ·go_wp2
    go_roundw
    case rel=>
     refine⟨k+1,by omega,by go_num,fun j hj=>?_,hext.drewN _⟩
     by_cases e:j=k
     ·subst e;rw[←HX.out, ←HY.out];simpa using hxy
     ·exact HP.out j (by omega)
    case measure=>simp[intOf];omega
  ·go_wp2
   go_ret
   have heq:decide (xs=ys)=true:=by
    simp only[decide_eq_true_eq]
    refine List.ext_getElem (by omega) (fun j j1 j2=>?_)
    have:=hpre j (by omega)
    rwa [getD_at j1,getD_at j2] at this
   exact⟨by rw[heq];rfl,hext⟩
set_option maxHeartbeats 400000 in
theorem Ints_diff (ao bo:Option Addr) (la lb c1 c2:Nat) (w:World) (h:la≠lb):
 Calls Try.prog 20 #[.slice ao la c1,.slice bo lb c2] w fun e w'=>e=.returned (.bool false)∧w'=w:=by
 have h':((la:Int) == (lb:Int))=false:=by simp;omega
 go_enter Try.func20,Try.ntmps20
 go_wp2
 go_ret
 exact⟨rfl,rfl⟩
set_option maxHeartbeats 400000 in
theorem Ints_none (ao bo:Option Addr) (c1 c2:Nat) (w:World):
 Calls Try.prog 20 #[.slice ao 0 c1,.slice bo 0 c2] w fun e w'=>e=.returned (.bool true)∧w'=w:=by
 go_enter Try.func20,Try.ntmps20
 go_wp2
 refine wp_loop_rounds 1 ?_
 rw[rounds_succ]
 go_wp2
 go_ret
 exact⟨rfl,rfl⟩
theorem Ints_any (ao bo:Option Addr) (la lb c1 c2:Nat) (xs ys:List Int) (w:World) (ha:xs.length=la) (hb:ys.length=lb) (hn:la≤4611686018427387904) (h1:ListAt w ao xs) (h2:ListAt w bo ys):
 Calls Try.prog 20 #[.slice ao la c1,.slice bo lb c2] w fun e w'=>e=.returned (.bool (decide (xs=ys)))∧Ext w w':=by
 by_cases hab:la=lb
 ·subst hab
  rcases h1 with rfl | ⟨b1,o1,rfl,l1,h1⟩
  ·have hys:ys=[]:=List.eq_nil_of_length_eq_zero (by simp at ha;omega)
   subst hys
   simp only[List.length_nil] at ha
   subst ha
   refine(Ints_none ao bo c1 c2 w).mono ?_
   rintro e w' ⟨rfl,rfl⟩
   exact⟨rfl,Ext.refl _⟩
  ·rcases h2 with rfl | ⟨b2,o2,rfl,l2,h2⟩
   ·have hxs:xs=[]:=List.eq_nil_of_length_eq_zero (by simp at hb;omega)
    subst hxs
    simp only[List.length_nil] at ha
    subst ha
    refine(Ints_none _ bo c1 c2 w).mono ?_
    rintro e w' ⟨rfl,rfl⟩
    exact⟨rfl,Ext.refl _⟩
   ·exact Ints_some b1 o1 b2 o2 la c1 c2 xs ys w ha hb hn l1 l2 h1 h2
 ·refine(Ints_diff ao bo la lb c1 c2 w hab).mono ?_
  rintro e w' ⟨rfl,rfl⟩
  have:decide (xs=ys)=false:=by
   simp only[decide_eq_false_iff_not]
   rintro rfl
   omega
  exact⟨by rw[this],Ext.refl _⟩
end Go.Proofs.Ytolclgbpjiokfaa
namespace Go.Proofs.Ytolclgbpjiokfaa
end Go.Proofs.Ytolclgbpjiokfaa
namespace Go.Proofs.Ytolclgbpjiokfaa
open Go.ChangeShapes Go.WideShapes Go.ChangeAt Go.RowKit Go.Deep Go.Joins
theorem cell_lt {w:World} {a:Addr} {v:Value} (h:w.cell? a=some v):a.block<w.heap.size:=by
 rcases Nat.lt_or_ge a.block w.heap.size with h1 | h1
 ·exact h1
 ·have:w.heap[a.block]? =none:=by simp[h1]
  simp[World.cell?,this] at h
section
variable {H:Type} {enc:TypeId×Value→H} {W:World}
set_option maxRecDepth 100000 in
theorem open_list {t:TypeId} (ht:Try.prog.underlying t=some (.slice 3)) {fuel:Nat} {cs:List Value} {x:DataW H×List MemPlace} (h:DataW.trod enc Try.prog W 0 (fun _=>true) true fuel t cs=some x)
 (hw:∀m∈x.1.weights Try.prog t,m≤reachBytes):
 ∃(ao:Option Addr) (len cap:Nat) (ps:List Int),cs=[.slice ao len cap]∧ps.length=len∧ListAt W ao ps∧(∀y∈ps,I64 y)∧len*8≤140737488351232∧len≤cap∧cap≤9223372036854775807:=by
 rcases open_ints ht Try.underlying3 Try.cells3 h with⟨hcs,_⟩ | ⟨a,len,cap,zs,hcs,_,hl,hm,hz,hx,hcell,hwz⟩
 ·exact⟨none,0,0,[],hcs,rfl,Or.inl rfl,fun y hy=>(by cases hy),by omega,by omega,by omega⟩
 ·have hz':zs.length=cap:=by simpa using hz
  refine⟨some a,len,cap,zs.take len,hcs,by simp;omega,?_,fun y hy=>hwz y (List.mem_of_mem_take hy),?_,hl,by unfold maxLen at hm;omega⟩
  ·by_cases h0:len=0
   ·exact Or.inl (by simp[h0])
   ·obtain⟨b,off,spot⟩:=a
    have hc:=hcell 0 (by omega)
    have hspot:spot=none:=by simpa[Addr.add] using World.cell?_spot hc
    subst hspot
    refine Or.inr ⟨b,off,rfl,by have:=cell_lt hc;simpa[Addr.add] using this,fun k hk=>?_⟩
    simp only[List.length_take] at hk
    have:=hcell k (by omega)
    have e1:(⟨b,off,none⟩:Addr).add k=⟨b,off+k,none⟩:=by
     unfold Addr.add
     split
     ·simp_all
     ·rfl
    rw[e1] at this
    rw[this]
    simp[List.getD_eq_getElem?_getD,show k<len by omega]
  ·subst hx
   have:=hw ((zs.take len).length*8+(zs.drop len).length*8) (by simp[DataW.weights,ht,Try.bytes3,lits];left;omega)
   simp[reachBytes] at this
   omega
theorem cells3_inv {w:World} {a:Addr} {cs:List Value} {x y z:Value} (h:w.cells? 0 a 3=some cs) (e:cs=[x,y,z]):w.cell? a=some x∧w.cell? (a.add 1)=some y∧w.cell? (a.add 2)=some z:=by
 obtain⟨_,_,hc⟩:=World.cells?_some h
 subst e
 exact⟨by simpa[Addr.add] using hc 0 (by omega),hc 1 (by omega),hc 2 (by omega)⟩
theorem weights_arg {ts:List TypeId} {ds:List (DataW H)} (hsz:(DataW.weightsEach Try.prog ts ds).all (· ≤reachBytes)=true) {j:Nat} {t:TypeId} {d:DataW H} (ht:ts[j]? =some t) (hd:ds[j]? =some d):∀m∈d.weights Try.prog t,m≤reachBytes:=
 fun m hm=>by simpa using List.all_eq_true.1 hsz _ (DataW.weights_mem_each ht hd m hm)
end
end Go.Proofs.Ytolclgbpjiokfaa
namespace Go.Proofs.Ytolclgbpjiokfaa
open Go.ChangeShapes Go.WideShapes Go.ChangeAt Go.RowKit Go.Deep Go.Joins Stw
theorem Try.cells24:Try.prog.cellsOf 24=2:=by kernel_rfl
theorem Try.cells43:Try.prog.cellsOf 88=3:=by kernel_rfl
theorem Try.bytes43:Try.prog.bytesOf 88=24:=by kernel_rfl
section
variable {H:Type} {enc:TypeId×Value→H} {W:World}
set_option maxRecDepth 100000 in
theorem open_links {fuel:Nat} {cs:List Value} {x:DataW H×List MemPlace} (h:DataW.trod enc Try.prog W 0 (fun _=>true) true fuel 22 cs=some x) (hw:∀m∈x.1.weights Try.prog 22,m≤reachBytes):
 ∃(ao:Option Addr) (len cap:Nat) (ls:List Lk),cs=[.slice ao len cap]∧ls.length=len∧NetAt W ao ls∧(∀l∈ls,I64 l.a∧I64 l.b∧I64 l.c)∧len*24≤140737488351232∧len≤cap∧cap≤9223372036854775807:=by
 rcases open_slice Try.underlying22 h with⟨hcs,_⟩ | ⟨a,len,cap,m,n,D,Pl,hcs,_,hl,hm,hmm,hx,hel⟩
 ·exact⟨none,0,0,[],hcs,rfl,Or.inl rfl,fun y hy=>(by cases hy),by omega,by omega,by omega⟩
 ·have hmc:m=cap:=by simpa using hmm
  have hfam:∀i,i<len→∃l:Int×Int×Int,(W.cell? (a.add (i*3))=some (.int .i64 l.1)∧W.cell? ((a.add (i*3)).add 1)=some (.int .i64 l.2.1)∧W.cell? ((a.add (i*3)).add 2)=some (.int .i64 l.2.2))∧I64 l.1∧I64 l.2.1∧I64 l.2.2:=by
   intro i hi
   obtain⟨cs',hcell,htr⟩:=hel i (by omega)
   rw[Try.cells43] at hcell
   obtain⟨y0,y1,y2,n',_,hlen,t0,t1,t2⟩:=trod_struct3 Try.underlying88 htr
   rw[Try.cells43] at hlen
   match cs',hlen with
   | [c0,c1,c2],_=>
    obtain⟨a0,e0,_,w0⟩:=DataW.trod_int Try.underlying3 t0
    obtain⟨a1,e1,_,w1⟩:=DataW.trod_int Try.underlying3 t1
    obtain⟨a2,e2,_,w2⟩:=DataW.trod_int Try.underlying3 t2
    simp[Try.cells3] at e0 e1 e2
    subst e0 e1 e2
    exact⟨(a0,a1,a2),cells3_inv hcell rfl,w0,w1,w2⟩
  obtain⟨F,hF⟩:=choose_lt hfam
  refine⟨some a,len,cap,(List.range len).map (fun i=>⟨(F i).1,(F i).2.1,(F i).2.2⟩),hcs,by simp,?_,?_,?_,hl,by unfold maxLen at hm;omega⟩
  ·by_cases h0:len=0
   ·exact Or.inl (by simp[h0])
   ·obtain⟨b,off,spot⟩:=a
    have hc:=(hF 0 (by omega)).1.1
    have hspot:spot=none:=by simpa[Addr.add] using World.cell?_spot hc
    subst hspot
    refine Or.inr ⟨b,off,rfl,by have:=cell_lt hc;simpa[Addr.add] using this,fun k hk=>?_⟩
    simp only[List.length_map,List.length_range] at hk
    obtain⟨⟨g0,g1,g2⟩,_⟩:=hF k hk
    have e0:(⟨b,off,none⟩:Addr).add (k*3)=⟨b,off+k*3,none⟩:=by
     unfold Addr.add
     split
     ·simp_all
     ·rfl
    rw[e0] at g0 g1 g2
    have e1:((List.range len).map (fun i=>(⟨(F i).1,(F i).2.1,(F i).2.2⟩:Lk))).getD k lk0=⟨(F k).1,(F k).2.1,(F k).2.2⟩:=by simp[List.getD_eq_getElem?_getD,hk]
    rw[e1]
    exact⟨g0,by simpa[Addr.add] using g1,by simpa[Addr.add] using g2⟩
  ·intro l hlm
   simp only[List.mem_map,List.mem_range] at hlm
   obtain⟨i,hi,rfl⟩:=hlm
   exact(hF i hi).2
  ·subst hx
   have:=hw ((len+(m - len))*24) (by simp[DataW.weights,Try.underlying22,Try.bytes43])
   simp[reachBytes] at this
   omega
set_option maxRecDepth 100000 in
theorem open_topo {b0:Nat} {v:Value} {d:DataW H} {p:List MemPlace} (hv:Value.okWide Try.prog W .any b0 24 v) (h:DataW.Trod enc Try.prog W 0 (fun _=>true) true 24 v d p)
 (hw:∀m∈d.weights Try.prog 24,m≤reachBytes):
 ∃(n:Int) (ao:Option Addr) (len cap:Nat) (ls:List Lk),v=.agg #[.int .i64 n,.slice ao len cap]∧I64 n∧ls.length=len∧NetAt W ao ls∧(∀l∈ls,I64 l.a∧I64 l.b∧I64 l.c)∧len*24≤140737488351232∧len≤cap∧cap≤9223372036854775807:=by
 obtain⟨c0,c1,y0,y1,m,rfl,rfl,rfl,hy0,hy1⟩:=open_agg2 Try.underlying24 (by kernel_rfl) Try.cells24 hv h
 obtain⟨n,e0,_,w0⟩:=DataW.trod_int Try.underlying3 hy0
 obtain⟨ao,len,cap,ls,e1,r⟩:=open_links hy1 (fun m hm=>hw m (by simp[DataW.weights,DataW.weightsEach,Try.underlying24];exact Or.inr hm))
 simp at e0 e1
 subst e0 e1
 exact⟨n,ao,len,cap,ls,rfl,w0,r⟩
end
end Go.Proofs.Ytolclgbpjiokfaa
namespace Stf
structure Fl where
 fr:Int
 to:Int
 via:List Int
 nt:List Int
def swB (s n:Int):Bool:=decide (0≤s∧s<n)
def ewl (a b n:Int) (L:List Int) (j:Nat):Int:=
 if swB (L.getD j 0) n=false then 6 else if L.getD j 0=a∨L.getD j 0=b then 8 else if L.getD j 0∈L.take j then 7 else 0
def first(e:Nat→Int) (len:Nat):Nat→Nat→Option Nat
 | 0,_=>none
 | m+1,k=>if len≤k then none else if e k≠0 then some k else first e len m (k+1)
def firstBad (e:Nat→Int) (len:Nat):Option Nat:=(List.range len).find? (fun k=>decide (e k≠0))
theorem firstBad_none {e:Nat→Int} {len:Nat} (h:∀k,k<len→e k=0):firstBad e len=none:=by
 rw[firstBad,List.find?_eq_none]
 intro x hx
 simp only[List.mem_range] at hx
 simp[h x hx]
theorem firstBad_some {e:Nat→Int} {len k:Nat} (hk:k<len) (h:∀j,j<k→e j=0) (hb:e k≠0):firstBad e len=some k:=by
 rw[firstBad,List.find?_range_eq_some]
 exact⟨by simpa using hb,by simpa using hk,fun j hj=>by simp[h j hj]⟩
def wlist (a b n:Int) (L:List Int):Int:=match firstBad (ewl a b n L) L.length with
 | some k=>ewl a b n L k
 | none=>0
def wflow (f:Fl) (n:Int):Int:=
 if swB f.fr n=false∨swB f.to n=false then 6 else if f.fr=f.to then 8 else if wlist f.fr f.to n f.via≠0 then wlist f.fr f.to n f.via
 else if wlist f.fr f.to n f.nt≠0 then wlist f.fr f.to n f.nt else if f.nt.any (fun s=>decide (s∈f.via)) then 8 else 0
def wflows (l:List Fl) (n:Int):Int×Int:=
 if 12<l.length then(5,0) else match firstBad (fun k=>wflow (l.getD k ⟨0,0,[],[]⟩) n) l.length with
  | some k=>(wflow (l.getD k ⟨0,0,[],[]⟩) n,k)
  | none=>(0,0)
theorem wlist_bad {a b n:Int} {L:List Int} {k:Nat} (hk:k<L.length) (h:∀j,j<k→ewl a b n L j=0) (hb:ewl a b n L k≠0):wlist a b n L=ewl a b n L k:=by
 rw[wlist,firstBad_some hk h hb]
theorem wlist_good {a b n:Int} {L:List Int} (h:∀j,j<L.length→ewl a b n L j=0):wlist a b n L=0:=by
 rw[wlist,firstBad_none h]
theorem ewl_zero {a b n:Int} {L:List Int} {j:Nat} (h:ewl a b n L j=0):swB (L.getD j 0) n=true∧L.getD j 0≠a∧L.getD j 0≠b∧L.getD j 0∉L.take j:=by
 unfold ewl at h
 split at h
 ·cases h
 ·rename_i h1
  split at h
  ·cases h
  ·rename_i h2
   split at h
   ·cases h
   ·rename_i h3
    exact⟨by simpa using h1,fun e=>h2 (Or.inl e),fun e=>h2 (Or.inr e),h3⟩
end Stf
namespace Go.Proofs.Ytolclgbpjiokfaa.Fw
open Go.RowKit Stf
theorem hid {p:Prop} (h:p):Hid p:=h
def FV (w:World) (xs:List Int) (v:Value):Prop:=∃o c,v=.slice o xs.length c∧ListAt w o xs∧xs.length≤c
theorem FV.ext {w w':World} {xs:List Int} {v:Value} (h:FV w xs v) (k:Ext w w'):FV w' xs v:=by
 obtain⟨o,c,h1,h2,h3⟩:=h
 exact⟨o,c,h1,h2.ext k,h3⟩
def FlowsAt (w:World) (ao:Option Addr) (fs:List Fl):Prop:=
 fs=[]∨∃b off,ao=some ⟨b,off,none⟩∧b<w.heap.size∧∀k (h:k<fs.length),∃v n,w.cell? ⟨b,off+k*4,none⟩=some (.int .i64 (fs[k]).fr)∧w.cell? ⟨b,off+k*4+1,none⟩=some (.int .i64 (fs[k]).to)∧w.cell? ⟨b,off+k*4+2,none⟩=some v∧w.cell? ⟨b,off+k*4+3,none⟩=some n∧FV w (fs[k]).via v∧FV w (fs[k]).nt n
theorem FlowsAt.ext {w w':World} {ao:Option Addr} {fs:List Fl} (h:FlowsAt w ao fs) (k:Ext w w'):FlowsAt w' ao fs:=by
 rcases h with h | ⟨b,off,h1,h2,h3⟩
 ·exact Or.inl h
 ·refine Or.inr ⟨b,off,h1,Nat.lt_of_lt_of_le h2 k.size,fun i hi=>?_⟩
  obtain⟨v,n,c0,c1,c2,c3,hv,hn⟩:=h3 i hi
  exact⟨v,n,(k.cells.1 _ _ h2).trans c0,(k.cells.1 _ _ h2).trans c1,(k.cells.1 _ _ h2).trans c2,(k.cells.1 _ _ h2).trans c3,hv.ext k,hn.ext k⟩
theorem fault_kept {w wr:World} {a b:Value} {T:TypeId} (h:Below (w.heap.size+1) (w.alloc (.cells #[a,b] T)) wr):wr.cell? ⟨w.heap.size,0,none⟩=some a∧wr.cell? ⟨w.heap.size,1,none⟩=some b∧wr.frozen? ⟨w.heap.size,0,none⟩=false∧wr.frozen? ⟨w.heap.size,1,none⟩=false∧w.heap.size<wr.heap.size:=by
 have k:w.heap.size<w.heap.size+1:=by omega
 refine⟨(h.cell (p:=⟨w.heap.size,0,none⟩) k).trans (by simp),(h.cell (p:=⟨w.heap.size,1,none⟩) k).trans (by simp),(h.frozen (p:=⟨w.heap.size,0,none⟩) k).trans (by simp),(h.frozen (p:=⟨w.heap.size,1,none⟩) k).trans (by simp),?_⟩
 have:=Below.size h
 simp at this
 omega
end Go.Proofs.Ytolclgbpjiokfaa.Fw
