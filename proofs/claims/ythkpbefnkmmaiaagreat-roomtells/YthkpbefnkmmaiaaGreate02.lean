import Derived.Test.YthkpbefnkmmaiaaGreate01
set_option maxRecDepth 100000
set_option maxHeartbeats 2000000
namespace Go.Proofs.YthkpbefnkmmaiaaGreat
open Go.Proofs.Tryz
section
open Go.RowKit Go.Maps Stw
theorem read_none(n:Int)(ao:Option Addr)(cap:Nat)(w:World)(hm:many n 0=false):
 Calls prog 21 #[.agg #[.int .i64 n,.slice ao 0 cap]] w fun e w'=>Ext w w'/\∃m,e=.returned (.tuple #[.map (some m),.agg #[.int .i64 0,.int .i64 0]])/\w.heap.size<=m/\q0e w' m []:=by
 simp only[many,decide_eq_false_iff_not] at hm
 have h1:¬n<1:=by omega
 have h2:¬8<n:=by omega
 clear hm
 have hmm:=@run_makeMap prog
 go_enter func21,ntmps21
 go_wp2
 refine wp_loop_rounds 1 ?_
 rw[rounds_succ]
 go_wp2
 have hown:=World.ownsMap_made (H:=Unit) ((w.alloc (.cells #[.int .i64 n,.slice ao 0 cap] 24)).alloc (.cells #[.int .i64 0,.int .i64 0] 43)) prog 107 (plainElem prog 3)
 have hmap:q0e (((w.alloc (.cells #[.int .i64 n,.slice ao 0 cap] 24)).alloc (.cells #[.int .i64 0,.int .i64 0] 43)).alloc (.map #[] 0)) (w.heap.size+1+1) []:=⟨0,by simp,.map [],by simpa using hown,fun _ _ _ _=>rfl⟩
 refine bodyPost_ret (v:=.tuple #[.map (some (w.heap.size+1+1)),.agg #[.int .i64 0,.int .i64 0]]) (by simp[results,results21,go_sem]) rfl ⟨?_,_,rfl,by omega,?_⟩
 ·exact((((Ext.refl w).alloc _).alloc _).alloc _)
 ·exact hmap
theorem read_any(n:Int)(ao:Option Addr)(len cap:Nat)(ls:List Lk)(w:World)(hlen:ls.length=len)(hl:Zg w ao ls)(hx:len<=9223372036854775807):
 Calls prog 21 #[.agg #[.int .i64 n,.slice ao len cap]] w fun e w'=>Ext w w'/\((Qc n ls=(0,0)/\∃m,e=.returned (.tuple #[.map (some m),.agg #[.int .i64 0,.int .i64 0]])/\w.heap.size<=m/\q0e w' m ls)\/
  ((Qc n ls).1≠0/\e=.returned (.tuple #[.map none,.agg #[.int .i64 (Qc n ls).1,.int .i64 (Qc n ls).2]]))):=by
 cases hm:many n len
 ·rcases hl with rfl | ⟨b,off,rfl,hb,hl⟩
  ·subst hlen
   refine(read_none n ao cap w hm).mono ?_
   rintro e w' ⟨h1,m,h2,h3,h4⟩
   exact⟨h1,Or.inl ⟨q2g hm (fun j hj=>by simp at hj),m,h2,h3,h4⟩⟩
  ·exact read_some n b off len cap ls w hm hlen hl hb
 ·refine(read_many n ao len cap w hm hx).mono ?_
  rintro e w' ⟨rfl,h1⟩
  have:=q2f (n:=n) (ls:=ls) (by rw[hlen];exact hm)
  exact⟨h1,Or.inr ⟨by rw[this];simp,by rw[this]⟩⟩
theorem read_fault(n:Int)(ao:Option Addr)(len cap:Nat)(ls:List Lk)(w:World)(hlen:ls.length=len)(hl:Zg w ao ls)(hx:len<=9223372036854775807):
 Calls prog 21 #[.agg #[.int .i64 n,.slice ao len cap]] w fun e w'=>Ext w w'/\∃mo,e=.returned (.tuple #[.map mo,.agg #[.int .i64 (Qc n ls).1,.int .i64 (Qc n ls).2]]):=by
 refine(read_any n ao len cap ls w hlen hl hx).mono ?_
 rintro e w' ⟨h0,⟨h1,m,h2,_⟩ | ⟨_,h2⟩⟩
 ·exact⟨h0,_,by rw[h1];exact h2⟩
 ·exact⟨h0,_,h2⟩
theorem Zb(n:Int)(ao:Option Addr)(len cap:Nat)(ls:List Lk)(w:World)(hlen:ls.length=len)(hl:Zg w ao ls)(hx:len<=9223372036854775807):
 Calls prog 9 #[.agg #[.int .i64 n,.slice ao len cap]] w fun e w'=>e=.returned (.agg #[.int .i64 (Qc n ls).1,.int .i64 (Qc n ls).2])/\Ext w w':=by
 go_enter func9,ntmps9
 go_wp2_with fail
 refine(read_fault n ao len cap ls _ hlen (hl.ext (((Ext.refl w).alloc _).alloc _)) hx).mono ?_
 rintro e w1 ⟨hb1,mo,rfl⟩
 obtain⟨q1,g1⟩:=hb1.cells
 have hz:w.heap.size+1<w1.heap.size:=by have:=hb1.size;simp at this;omega
 have d0:=q1 (w.heap.size+1) 0 (by simp)
 have d1:=q1 (w.heap.size+1) 1 (by simp)
 have e1:(w1.frozen? ⟨w.heap.size+1,0,none⟩)=false:=(g1 (w.heap.size+1) 0 (by simp)).trans (by simp)
 have e2:(w1.frozen? ⟨w.heap.size+1,1,none⟩)=false:=(g1 (w.heap.size+1) 1 (by simp)).trans (by simp)
 simp[go_sem] at d0 d1
 clear q1 g1
 go_wp2
 exact bodyPost_ret (v:=.agg #[.int .i64 (Qc n ls).1,.int .i64 (Qc n ls).2]) (by simp[results,results9,go_sem,d0,d1,hz]) rfl ⟨rfl,((((((Ext.refl w).alloc _).alloc _).trans hb1).setCell (by simp) _).setCell (by simp) _).alloc _⟩
theorem Cost_any(n a b:Int)(ao:Option Addr)(len cap:Nat)(ls:List Lk)(w:World)(hlen:ls.length=len)(hl:Zg w ao ls)(hx:len<=9223372036854775807)(ia:I64 a)(ib:I64 b)(hr:Qc n ls=(0,0)):
 Calls prog 109 #[.agg #[.int .i64 n,.slice ao len cap],.int .i64 a,.int .i64 b] w fun e w'=>e=.returned (.int .i64 (cost ls a b))/\Ext w w':=by
 have HR:Hid (Qc n ls=(0,0)):=hr
 clear hr
 go_enter func109,ntmps109
 go_wp2_with fail
 refine(read_any n ao len cap ls _ hlen (hl.ext ((Ext.refl w).alloc _)) hx).mono ?_
 rintro e w1 ⟨hb1,h⟩
 rcases h with⟨hw,m,rfl,hm,hmap⟩ | ⟨hw,rfl⟩
 ·clear hw
  go_wp2_with fail
  refine(q2x _ _ _).mono ?_;rintro e w2 ⟨rfl,hb2⟩
  have hm2:=(hmap.ext ((Ext.refl w1).alloc _)).ext hb2
  have hrun:=hm2.look ia ib
  go_wp2
  go_ret
  exact⟨rfl,(((((Ext.refl w).alloc _).trans hb1).alloc _).trans hb2)⟩
 ·exact absurd (by rw[HR.out]) hw
end
end Go.Proofs.YthkpbefnkmmaiaaGreat
namespace Stw
def okAt (n:Int) (ls:List Lk) (ps:List Int) (i:Nat):Bool:=
 swB n (ps.getD i 0) && !((ps.take i).contains (ps.getD i 0)) && (i == 0 || !(cost ls (ps.getD (i - 1) 0) (ps.getD i 0) == 0))
def okTo (n:Int) (ls:List Lk) (ps:List Int) (k:Nat):Prop:=∀i,i<k->okAt n ls ps i=true
def psum (ls:List Lk) (ps:List Int):Nat->Int
 | 0=>0
 | k+1=>psum ls ps k+(if k=0 then 0 else cost ls (ps.getD (k - 1) 0) (ps.getD k 0))
def q3k (n:Int) (ls:List Lk) (ps:List Int):Bool:=!ps.isEmpty && (List.range ps.length).all (okAt n ls ps)
variable {ls:List Lk}
theorem q6j{n:Int}{ps:List Int}:q3k n ls ps=true↔ps≠[]/\okTo n ls ps ps.length:=by
 simp[q3k,okTo]
variable {i:Nat}
theorem pathB_bad{n:Int}{ps:List Int}(h:i<ps.length)(hi:okAt n ls ps i=false):q3k n ls ps=false:=by
 cases e:q3k n ls ps
 ·rfl
 ·rw[q6j] at e
  rw[e.2 i h] at hi
  cases hi
theorem q9v{ls:List Lk}{ps:List Int}(hc:∀a b,0<=cost ls a b/\cost ls a b<=1000):∀k:Nat,0<=psum ls ps k/\psum ls ps k<=1000*(k:Int)
 | 0=>by simp[psum]
 | k+1=>by
  have h:=q9v (ps:=ps) hc k
  have h2:=hc (ps.getD (k - 1) 0) (ps.getD k 0)
  simp only[psum]
  split <;> (constructor <;> omega)
def lengthOf (n:Int) (ls:List Lk) (ps:List Int):Int×Bool:=
 if(Qc n ls).1=0/\q3k n ls ps=true then(psum ls ps ps.length,true) else(0,false)
theorem z1u{n:Int}{ps:List Int}(h:swB n (ps.getD i 0)=false):okAt n ls ps i=false:=by simp only[okAt,h,Bool.false_and]
theorem q4m{n:Int}{ps:List Int}(h:ps.getD i 0∈ps.take i):okAt n ls ps i=false:=by
 have:(ps.take i).contains (ps.getD i 0)=true:=List.contains_iff_mem.2 h
 simp only[okAt,this,Bool.not_true,Bool.and_false,Bool.false_and]
theorem q3m{n:Int}{ps:List Int}(h0:i≠0)(h:cost ls (ps.getD (i - 1) 0) (ps.getD i 0)=0):okAt n ls ps i=false:=by
 have:(i == 0)=false:=by simpa using h0
 simp only[okAt,this,h,beq_self_eq_true,Bool.not_true,Bool.or_self,Bool.and_false]
theorem z7i{n:Int}{ps:List Int}(h1:swB n (ps.getD i 0)=true)(h2:¬ps.getD i 0∈ps.take i)(h3:i=0\/cost ls (ps.getD (i - 1) 0) (ps.getD i 0)≠0):okAt n ls ps i=true:=by
 have:(ps.take i).contains (ps.getD i 0)=false:=by
  cases e:(ps.take i).contains (ps.getD i 0)
  ·rfl
  ·exact absurd (List.contains_iff_mem.1 e) h2
 simp only[okAt,h1,this,Bool.not_false,Bool.true_and,Bool.or_eq_true,beq_iff_eq,Bool.not_eq_true',beq_eq_false_iff_ne]
 exact h3
theorem z4k{n:Int}{ps:List Int}{k:Nat}(h:okTo n ls ps k)(hk:okAt n ls ps k=true):okTo n ls ps (k+1):=by
 intro i hi
 by_cases e:i=k
 ·subst e;exact hk
 ·exact h i (by omega)
end Stw
namespace Go.Proofs.YthkpbefnkmmaiaaGreat
open Go.Proofs.Tryz
section
open Go.RowKit
theorem z2g{L:List Int}{k:Nat}(h:k<L.length):L.getD k 0=L[k]:=by simp[h]
theorem Ints_some(b1 o1 b2 o2 n c1 c2:Nat)(xs ys:List Int)(w:World)(ha:xs.length=n)(hb:ys.length=n)(hn:n<=4611686018427387904)(l1:b1<w.heap.size)(l2:b2<w.heap.size)(h1:Q9 w b1 o1 xs)(h2:Q9 w b2 o2 ys):
 Calls prog 16 #[.slice (some ⟨b1,o1,none⟩) n c1,.slice (some ⟨b2,o2,none⟩) n c2] w fun e w'=>e=.returned (.bool (decide (xs=ys)))/\Ext w w':=by
 go_enter func16,ntmps16
 go_wp2
 go_loopw [13] (fun i wr=>∃k:Nat,k<=n/\i=.int .i64 k/\(∀j,j<k->xs.getD j 0=ys.getD j 0)/\Ext w wr) (fun i _=>n - (intOf i).toNat)
 case atStart=>exact⟨0,Zu _,rfl,fun j hj=>by omega,Ext.refl w⟩
 case round=>
  obtain⟨k,hk,rfl,hpre,hext⟩:=hrel
  by_cases hlt:k<n
  ·have a0:=(hext.cells.1 _ _ l1).trans (h1 k (by omega))
   have b0:=(hext.cells.1 _ _ l2).trans (h2 k (by omega))
   have HP:Hid (∀j,j<k->xs.getD j 0=ys.getD j 0):=hpre
   obtain⟨x,hx⟩:=Qy (xs.getD k 0)
   obtain⟨y,hy⟩:=Qy (ys.getD k 0)
   rw[<-hx] at a0
   rw[<-hy] at b0
   have HX:Hid (x=xs.getD k 0):=hx
   have HY:Hid (y=ys.getD k 0):=hy
   clear hx hy hpre
   have i1:(k:Int)<(n:Int):=by omega
   go_wp2
   go_quiet (fail)
   cases hxy:(x == y)
   ·go_wp2
    go_ret
    have hne:decide (xs=ys)=false:=by
     simp only[decide_eq_false_iff_not]
     rintro rfl
     have:x≠y:=by simpa using hxy
     exact this (HX.out.trans HY.out.symm)
    exact⟨by rw[hne];rfl,hext.drewN _⟩
   ·go_wp2
    go_roundw
    case rel=>
     refine⟨k+1,by omega,by go_num,fun j hj=>?_,hext.drewN _⟩
     by_cases e:j=k
     ·subst e;rw[<-HX.out, <-HY.out];simpa using hxy
     ·exact HP.out j (by omega)
    case measure=>simp[intOf];omega
  ·go_wp2
   go_ret
   have heq:decide (xs=ys)=true:=by
    simp only[decide_eq_true_eq]
    refine List.ext_getElem (by omega) (fun j j1 j2=>?_)
    have:=hpre j (by omega)
    rwa [z2g j1,z2g j2] at this
   exact⟨by rw[heq];rfl,hext⟩
theorem Ints_diff(ao bo:Option Addr)(la lb c1 c2:Nat)(w:World)(h:la≠lb):
 Calls prog 16 #[.slice ao la c1,.slice bo lb c2] w fun e w'=>e=.returned (.bool false)/\w'=w:=by
 have h':((la:Int) == (lb:Int))=false:=by simp;omega
 go_enter func16,ntmps16
 go_wp2
 go_ret
 exact⟨rfl,rfl⟩
theorem z6c(ao bo:Option Addr)(c1 c2:Nat)(w:World):
 Calls prog 16 #[.slice ao 0 c1,.slice bo 0 c2] w fun e w'=>e=.returned (.bool true)/\w'=w:=by
 go_enter func16,ntmps16
 go_wp2
 refine wp_loop_rounds 1 ?_
 rw[rounds_succ]
 go_wp2
 go_ret
 exact⟨rfl,rfl⟩
theorem q4e(ao bo:Option Addr)(la lb c1 c2:Nat)(xs ys:List Int)(w:World)(ha:xs.length=la)(hb:ys.length=lb)(hn:la<=4611686018427387904)(h1:Qj w ao xs)(h2:Qj w bo ys):
 Calls prog 16 #[.slice ao la c1,.slice bo lb c2] w fun e w'=>e=.returned (.bool (decide (xs=ys)))/\Ext w w':=by
 by_cases hab:la=lb
 ·subst hab
  rcases h1 with rfl | ⟨b1,o1,rfl,l1,h1⟩
  ·have hys:ys=[]:=List.eq_nil_of_length_eq_zero (by simp at ha;omega)
   subst hys
   simp only[List.length_nil] at ha
   subst ha
   refine(z6c ao bo c1 c2 w).mono ?_
   rintro e w' ⟨rfl,rfl⟩
   exact⟨rfl,Ext.refl _⟩
  ·rcases h2 with rfl | ⟨b2,o2,rfl,l2,h2⟩
   ·have hxs:xs=[]:=List.eq_nil_of_length_eq_zero (by simp at hb;omega)
    subst hxs
    simp only[List.length_nil] at ha
    subst ha
    refine(z6c _ bo c1 c2 w).mono ?_
    rintro e w' ⟨rfl,rfl⟩
    exact⟨rfl,Ext.refl _⟩
   ·exact Ints_some b1 o1 b2 o2 la c1 c2 xs ys w ha hb hn l1 l2 h1 h2
 ·refine(Ints_diff ao bo la lb c1 c2 w hab).mono ?_
  rintro e w' ⟨rfl,rfl⟩
  have:decide (xs=ys)=false:=by
   simp only[decide_eq_false_iff_not]
   rintro rfl
   omega
  exact⟨by rw[this],Ext.refl _⟩
end
section
open Go.ChangeShapes Go.WideShapes Go.ChangeAt Go.RowKit Go.Deep Go.Joins
theorem z2p{w:World}{a:Addr}{v:Value}(h:w.cell? a=some v):a.block<w.heap.size:=by
 rcases Nat.lt_or_ge a.block w.heap.size with h1 | h1
 ·exact h1
 ·have:w.heap[a.block]? =none:=by simp[h1]
  simp[World.cell?,this] at h
section
variable {H:Type} {enc:TypeId×Value->H} {W:World}
theorem z4j{t:TypeId}(ht:prog.underlying t=some (.slice 3)){fuel:Nat}{cs:List Value}{x:DataW H×List MemPlace}(h:DataW.trod enc prog W 0 (fun _=>true) true fuel t cs=some x)(hw:∀m∈x.1.weights prog t,m<=reachBytes):
 ∃(ao:Option Addr) (len cap:Nat) (ps:List Int),cs=[.slice ao len cap]/\ps.length=len/\Qj W ao ps/\(∀y∈ps,I64 y)/\len*8<=140737488351232/\len<=cap/\cap<=9223372036854775807:=by
 rcases open_ints ht underlying3 Tryz.cells3 h with⟨hcs,_⟩ | ⟨a,len,cap,zs,hcs,_,hl,hm,hz,hx,hcell,hwz⟩
 ·exact⟨none,0,0,[],hcs,rfl,Or.inl rfl,fun y hy=>(by cases hy),by omega,by omega,by omega⟩
 ·have hz':zs.length=cap:=by simpa using hz
  refine⟨some a,len,cap,zs.take len,hcs,by simp;omega,?_,fun y hy=>hwz y (List.mem_of_mem_take hy),?_,hl,by unfold maxLen at hm;omega⟩
  ·by_cases h0:len=0
   ·exact Or.inl (by simp[h0])
   ·obtain⟨b,off,spot⟩:=a
    have hc:=hcell 0 (by omega)
    have hspot:spot=none:=by simpa[Addr.add] using World.cell?_spot hc
    subst hspot
    refine Or.inr ⟨b,off,rfl,by have:=z2p hc;simpa[Addr.add] using this,fun k hk=>?_⟩
    simp only[List.length_take] at hk
    have:=hcell k (by omega)
    have e1:(⟨b,off,none⟩:Addr).add k=⟨b,off+k,none⟩:=by
     unfold Addr.add
     split
     ·simp_all
     ·rfl
    rw[e1] at this
    rw[this]
    simp[show k<len by omega]
  ·subst hx
   have:=hw ((zs.take len).length*8+(zs.drop len).length*8) (by simp[DataW.weights,ht,Tryz.bytes3,lits];left;omega)
   simp[reachBytes] at this
   omega
theorem cells3_inv{w:World}{a:Addr}{cs:List Value}{x y z:Value}(h:w.cells? 0 a 3=some cs)(e:cs=[x,y,z]):w.cell? a=some x/\w.cell? (a.add 1)=some y/\w.cell? (a.add 2)=some z:=by
 obtain⟨_,_,hc⟩:=World.cells?_some h
 subst e
 exact⟨by simpa[Addr.add] using hc 0 (by omega),hc 1 (by omega),hc 2 (by omega)⟩
theorem q7k{ts:List TypeId}{ds:List (DataW H)}(hsz:(DataW.weightsEach prog ts ds).all (· <=reachBytes)=true){j:Nat}{t:TypeId}{d:DataW H}(ht:ts[j]? =some t)(hd:ds[j]? =some d):∀m∈d.weights prog t,m<=reachBytes:=
 fun m hm=>by simpa using List.all_eq_true.1 hsz _ (DataW.weights_mem_each ht hd m hm)
end
end
section
open Go.ChangeShapes Go.WideShapes Go.ChangeAt Go.RowKit Go.Deep Go.Joins Stw
theorem Tryz.cells24:prog.cellsOf 24=2:=by kernel_rfl
theorem Tryz.cells43:prog.cellsOf 84=3:=by kernel_rfl
theorem Tryz.bytes43:prog.bytesOf 84=24:=by kernel_rfl
section
variable {H:Type} {enc:TypeId×Value->H} {W:World}
theorem open_links{fuel:Nat}{cs:List Value}{x:DataW H×List MemPlace}(h:DataW.trod enc prog W 0 (fun _=>true) true fuel 22 cs=some x)(hw:∀m∈x.1.weights prog 22,m<=reachBytes):
 ∃(ao:Option Addr) (len cap:Nat) (ls:List Lk),cs=[.slice ao len cap]/\ls.length=len/\Zg W ao ls/\(∀l∈ls,I64 l.a/\I64 l.b/\I64 l.c)/\len*24<=140737488351232/\len<=cap/\cap<=9223372036854775807:=by
 rcases open_slice underlying22 h with⟨hcs,_⟩ | ⟨a,len,cap,m,n,D,Pl,hcs,_,hl,hm,hmm,hx,hel⟩
 ·exact⟨none,0,0,[],hcs,rfl,Or.inl rfl,fun y hy=>(by cases hy),by omega,by omega,by omega⟩
 ·have hmc:m=cap:=by simpa using hmm
  have hfam:∀i,i<len->∃l:Int×Int×Int,(W.cell? (a.add (i*3))=some (.int .i64 l.1)/\W.cell? ((a.add (i*3)).add 1)=some (.int .i64 l.2.1)/\W.cell? ((a.add (i*3)).add 2)=some (.int .i64 l.2.2))/\I64 l.1/\I64 l.2.1/\I64 l.2.2:=by
   intro i hi
   obtain⟨cs',hcell,htr⟩:=hel i (by omega)
   rw[Tryz.cells43] at hcell
   obtain⟨y0,y1,y2,n',_,hlen,t0,t1,t2⟩:=trod_struct3 underlying84 htr
   rw[Tryz.cells43] at hlen
   match cs',hlen with
   | [c0,c1,c2],_=>
    obtain⟨a0,e0,_,w0⟩:=DataW.trod_int underlying3 t0
    obtain⟨a1,e1,_,w1⟩:=DataW.trod_int underlying3 t1
    obtain⟨a2,e2,_,w2⟩:=DataW.trod_int underlying3 t2
    simp[Tryz.cells3] at e0 e1 e2
    subst e0 e1 e2
    exact⟨(a0,a1,a2),cells3_inv hcell rfl,w0,w1,w2⟩
  obtain⟨F,hF⟩:=choose_lt hfam
  refine⟨some a,len,cap,(List.range len).map (fun i=>⟨(F i).1,(F i).2.1,(F i).2.2⟩),hcs,by simp,?_,?_,?_,hl,by unfold maxLen at hm;omega⟩
  ·by_cases h0:len=0
   ·exact Or.inl (by simp[h0])
   ·obtain⟨b,off,spot⟩:=a
    have hc:=(hF 0 (by omega)).1.1
    have hspot:spot=none:=by simpa[Addr.add] using World.cell?_spot hc
    subst hspot
    refine Or.inr ⟨b,off,rfl,by have:=z2p hc;simpa[Addr.add] using this,fun k hk=>?_⟩
    simp only[List.length_map,List.length_range] at hk
    obtain⟨⟨g0,g1,g2⟩,_⟩:=hF k hk
    have e0:(⟨b,off,none⟩:Addr).add (k*3)=⟨b,off+k*3,none⟩:=by
     unfold Addr.add
     split
     ·simp_all
     ·rfl
    rw[e0] at g0 g1 g2
    have e1:((List.range len).map (fun i=>(⟨(F i).1,(F i).2.1,(F i).2.2⟩:Lk))).getD k lk0=⟨(F k).1,(F k).2.1,(F k).2.2⟩:=by simp[hk]
    rw[e1]
    exact⟨g0,by simpa[Addr.add] using g1,by simpa[Addr.add] using g2⟩
  ·intro l hlm
   simp only[List.mem_map,List.mem_range] at hlm
   obtain⟨i,hi,rfl⟩:=hlm
   exact(hF i hi).2
  ·subst hx
   have:=hw ((len+(m - len))*24) (by simp[DataW.weights,underlying22,Tryz.bytes43])
   simp[reachBytes] at this
   omega
theorem open_topo{b0:Nat}{v:Value}{d:DataW H}{p:List MemPlace}(hv:Value.okWide prog W .any b0 24 v)(h:DataW.Trod enc prog W 0 (fun _=>true) true 24 v d p)(hw:∀m∈d.weights prog 24,m<=reachBytes):
 ∃(n:Int) (ao:Option Addr) (len cap:Nat) (ls:List Lk),v=.agg #[.int .i64 n,.slice ao len cap]/\I64 n/\ls.length=len/\Zg W ao ls/\(∀l∈ls,I64 l.a/\I64 l.b/\I64 l.c)/\len*24<=140737488351232/\len<=cap/\cap<=9223372036854775807:=by
 obtain⟨c0,c1,y0,y1,m,rfl,rfl,rfl,hy0,hy1⟩:=open_agg2 underlying24 (by kernel_rfl) Tryz.cells24 hv h
 obtain⟨n,e0,_,w0⟩:=DataW.trod_int underlying3 hy0
 obtain⟨ao,len,cap,ls,e1,r⟩:=open_links hy1 (fun m hm=>hw m (by simp[DataW.weights,DataW.weightsEach,underlying24];exact Or.inr hm))
 simp at e0 e1
 subst e0 e1
 exact⟨n,ao,len,cap,ls,rfl,w0,r⟩
end
end
end Go.Proofs.YthkpbefnkmmaiaaGreat
namespace Stf
structure Fl where
 fr:Int
 to:Int
 via:List Int
 nt:List Int
def swB (s n:Int):Bool:=decide (0<=s/\s<n)
def ewl (a b n:Int) (L:List Int) (j:Nat):Int:=
 if swB (L.getD j 0) n=false then 6 else if L.getD j 0=a\/L.getD j 0=b then 8 else if L.getD j 0∈L.take j then 7 else 0
def Zp (e:Nat->Int) (len:Nat):Option Nat:=(List.range len).find? (fun k=>decide (e k≠0))
variable {e:Nat->Int}
theorem q3b{len:Nat}(h:∀k,k<len->e k=0):Zp e len=none:=by
 rw[Zp,List.find?_eq_none]
 intro x hx
 simp only[List.mem_range] at hx
 simp[h x hx]
variable {k:Nat}
theorem q3a{len:Nat}(hk:k<len)(h:∀j,j<k->e j=0)(hb:e k≠0):Zp e len=some k:=by
 rw[Zp,List.find?_range_eq_some]
 exact⟨by simpa using hb,by simpa using hk,fun j hj=>by simp[h j hj]⟩
def Zx (a b n:Int) (L:List Int):Int:=match Zp (ewl a b n L) L.length with
 | some k=>ewl a b n L k
 | none=>0
def Q6 (f:Fl) (n:Int):Int:=
 if swB f.fr n=false\/swB f.to n=false then 6 else if f.fr=f.to then 8 else if Zx f.fr f.to n f.via≠0 then Zx f.fr f.to n f.via
 else if Zx f.fr f.to n f.nt≠0 then Zx f.fr f.to n f.nt else if f.nt.any (fun s=>decide (s∈f.via)) then 8 else 0
def Qp (l:List Fl) (n:Int):Int×Int:=
 if 12<l.length then(5,0) else match Zp (fun k=>Q6 (l.getD k ⟨0,0,[],[]⟩) n) l.length with
  | some k=>(Q6 (l.getD k ⟨0,0,[],[]⟩) n,k)
  | none=>(0,0)
variable {a b:Int} {L:List Int}
theorem q5d{n:Int}(hk:k<L.length)(h:∀j,j<k->ewl a b n L j=0)(hb:ewl a b n L k≠0):Zx a b n L=ewl a b n L k:=by
 rw[Zx,q3a hk h hb]
theorem q9n{n:Int}(h:∀j,j<L.length->ewl a b n L j=0):Zx a b n L=0:=by
 rw[Zx,q3b h]
theorem q4c{n:Int}{j:Nat}(h:ewl a b n L j=0):swB (L.getD j 0) n=true/\L.getD j 0≠a/\L.getD j 0≠b/\L.getD j 0∉L.take j:=by
 unfold ewl at h
 split at h
 ·cases h
 ·rename_i h1
  split at h
  ·cases h
  ·rename_i h2
   split at h
   ·cases h
   ·rename_i h3
    exact⟨by simpa using h1,fun e=>h2 (Or.inl e),fun e=>h2 (Or.inr e),h3⟩
end Stf
namespace Go.Proofs.YthkpbefnkmmaiaaGreat
open Go.Proofs.Tryz
namespace Fw
open Go.RowKit Stf
theorem hid{p:Prop}(h:p):Hid p:=h
def FV (w:World) (xs:List Int) (v:Value):Prop:=∃o c,v=.slice o xs.length c/\Qj w o xs/\xs.length<=c
theorem FV.ext{w w':World}{xs:List Int}{v:Value}(h:FV w xs v)(k:Ext w w'):FV w' xs v:=by
 obtain⟨o,c,h1,h2,h3⟩:=h
 exact⟨o,c,h1,h2.ext k,h3⟩
def Qk (w:World) (ao:Option Addr) (fs:List Fl):Prop:=
 fs=[]\/∃b off,ao=some ⟨b,off,none⟩/\b<w.heap.size/\∀k (h:k<fs.length),∃v n,w.cell? ⟨b,off+k*4,none⟩=some (.int .i64 (fs[k]).fr)/\w.cell? ⟨b,off+k*4+1,none⟩=some (.int .i64 (fs[k]).to)/\w.cell? ⟨b,off+k*4+2,none⟩=some v/\w.cell? ⟨b,off+k*4+3,none⟩=some n/\FV w (fs[k]).via v/\FV w (fs[k]).nt n
theorem Qk.ext{w w':World}{ao:Option Addr}{fs:List Fl}(h:Qk w ao fs)(k:Ext w w'):Qk w' ao fs:=by
 rcases h with h | ⟨b,off,h1,h2,h3⟩
 ·exact Or.inl h
 ·refine Or.inr ⟨b,off,h1,Q5 h2 k.size,fun i hi=>?_⟩
  obtain⟨v,n,c0,c1,c2,c3,hv,hn⟩:=h3 i hi
  exact⟨v,n,(k.cells.1 _ _ h2).trans c0,(k.cells.1 _ _ h2).trans c1,(k.cells.1 _ _ h2).trans c2,(k.cells.1 _ _ h2).trans c3,hv.ext k,hn.ext k⟩
theorem Ze{w wr:World}{a b:Value}{T:TypeId}(h:Below (w.heap.size+1) (w.alloc (.cells #[a,b] T)) wr):wr.cell? ⟨w.heap.size,0,none⟩=some a/\wr.cell? ⟨w.heap.size,1,none⟩=some b/\wr.frozen? ⟨w.heap.size,0,none⟩=false/\wr.frozen? ⟨w.heap.size,1,none⟩=false/\w.heap.size<wr.heap.size:=by
 have k:w.heap.size<w.heap.size+1:=by omega
 refine⟨(h.cell (p:=⟨w.heap.size,0,none⟩) k).trans (by simp),(h.cell (p:=⟨w.heap.size,1,none⟩) k).trans (by simp),(h.frozen (p:=⟨w.heap.size,0,none⟩) k).trans (by simp),(h.frozen (p:=⟨w.heap.size,1,none⟩) k).trans (by simp),?_⟩
 have:=Below.size h
 simp at this
 omega
end Fw
section
open Go.ChangeShapes Go.WideShapes Go.ChangeAt Go.RowKit Go.Deep Go.Joins Stw
theorem Tryz.cells28:prog.cellsOf 74=4:=by kernel_rfl
section
variable {H:Type} {enc:TypeId×Value->H} {W:World}
end
end
namespace Fw
open Go.RowKit Go.Maps Stf
theorem Qv(s n:Int)(w:World):
 Calls prog 120 #[.int .i64 s,.int .i64 n] w fun e w'=>e=.returned (.bool (swB s n))/\w'=w:=by
 by_cases h0:0<=s
 ·go_enter func120,ntmps120
  go_wp2
  go_ret
  exact⟨by simp[swB,h0],rfl⟩
 ·have e:swB s n=false:=by simp[swB,h0]
  rw[e]
  go_enter func120,ntmps120
  go_wp2
  go_ret
  exact⟨rfl,rfl⟩
theorem lawI:Keyed prog 3:=int_keyed underlying3
theorem zeroU(w:World):(zeroValue 202).run prog w=.ok (.agg #[]) w:=by kernel_rfl
def q1k (w:World) (m:Nat) (xs:List Int):Prop:=
 ∃n,n<=xs.length/\∃D:DataW Unit,w.ownsMap prog 3 (unitElem (H:=Unit)) m n D/\∀a,I64 a->Maps.has D (.int .i64 a)=decide (a∈xs)
theorem q1k.lt{w:World}{m:Nat}{xs:List Int}(h:q1k w m xs):m<w.heap.size:=by
 obtain⟨n,hn,D,hown,hD⟩:=h
 exact hown.lt
variable {w w':World} {m:Nat} {xs:List Int}
theorem q1k.ext(h:q1k w m xs)(k:Ext w w'):q1k w' m xs:=by
 obtain⟨n,hn,D,hown,hD⟩:=h
 refine⟨n,hn,D,?_,hD⟩
 have hlt:=hown.lt
 obtain⟨es,cl,hb,r⟩:=hown
 exact⟨es,cl,by rw[<-hb];exact Below.block k m hlt,r⟩
theorem q1k.look(h:q1k w m xs){a:Int}(ha:I64 a):
 (Instr.lookup 199 (.map (some m)) (.int .i64 a) true).run prog w=.ok (.tuple #[.agg #[],.bool (decide (a∈xs))]) w:=by
 obtain⟨n,hn,D,hown,hD⟩:=h
 obtain⟨v,ps,hrun,hv⟩:=hown.look_ok lawI underlying199 (zeroU w) unitElem_mk (keyOf_int_mk underlying3 ha)
 obtain⟨rfl,_⟩:=unitElem_inv hv
 rw[hrun,hD a ha]
theorem q1k.put(h:q1k w m xs){x:Int}(hx:I64 x)(hs:xs.length<maxLen):
 ∃w',(Instr.mapUpdate 199 (.map (some m)) (.int .i64 x) (.agg #[])).run prog w=.ok () w'/\q1k w' m (xs++[x])/\w.grownBy w' (some m):=by
 obtain⟨n,hn,D,hown,hD⟩:=h
 obtain⟨w',hrun,hown',hg⟩:=hown.update lawI underlying199 (Nat.lt_of_le_of_lt hn hs) (keyOf_int_mk underlying3 hx) unitElem_mk
 refine⟨w',hrun,⟨n+1,by simp;omega,_,hown',fun a ha=>?_⟩,hg⟩
 by_cases e:a=x
 ·subst e
  rw[has_put_same hown.isMap (lawI.key (keyOf_int_mk underlying3 hx))]
  simp
 ·rw[has_put_other (by simpa using e),hD a ha]
  simp[e]
theorem q1k.made(w:World):q1k (w.alloc (.map #[] 0)) w.heap.size []:=by
 refine⟨0,Ql _,.map [],?_,fun _ _=>rfl⟩
 exact World.ownsMap_made (H:=Unit) w prog 3 (unitElem (H:=Unit))
theorem i64_le{n:Int}(h:I64 n):n<=9223372036854775807:=(Joins.in64_of_wf h).2
theorem i64_sw{s n:Int}(hn:I64 n)(h:swB s n=true):I64 s:=by
 have h1:=i64_le hn
 simp only[swB,decide_eq_true_eq] at h
 exact WalkArith.wf_i64 (by omega)
variable {L:List Int}
theorem take_snocI{k:Nat}(h:k<L.length):L.take (k+1)=L.take k++[L.getD k 0]:=by
 rw[List.take_succ_eq_append_getElem h]
 simp[h]
theorem z2q{wr:World}{v0 v1 v2 v3:Value}{T:TypeId}(h:Below (w.heap.size+1) (w.alloc (.cells #[v0,v1,v2,v3] T)) wr):wr.cell? ⟨w.heap.size,0,none⟩=some v0/\wr.cell? ⟨w.heap.size,1,none⟩=some v1/\wr.cell? ⟨w.heap.size,2,none⟩=some v2/\wr.cell? ⟨w.heap.size,3,none⟩=some v3/\w.heap.size<wr.heap.size/\Ext w wr:=by
 have k:w.heap.size<w.heap.size+1:=by omega
 refine⟨(h.cell (p:=⟨w.heap.size,0,none⟩) k).trans (by simp),(h.cell (p:=⟨w.heap.size,1,none⟩) k).trans (by simp),(h.cell (p:=⟨w.heap.size,2,none⟩) k).trans (by simp),(h.cell (p:=⟨w.heap.size,3,none⟩) k).trans (by simp),?_,Below.trans ((Ext.refl w).alloc _) (h.mono (by omega))⟩
 have:=Below.size h
 simp at this
 omega
def WLOut (w':World) (e:Ending) (r:Int) (L:List Int):Prop:=(r=0/\∃m,e=.returned (.tuple #[.map (some m),.int .i64 0])/\q1k w' m L)\/(r≠0/\e=.returned (.tuple #[.map none,.int .i64 r]))
variable {r:Int}
theorem q5c{c:Int}(h:r=c)(hc:c≠0):WLOut w' (.returned (.tuple #[.map none,.int .i64 c])) r L:=Or.inr ⟨by rw[h];exact hc,by rw[h]⟩
theorem wlout_good(h:r=0)(hs:q1k w' m L):WLOut w' (.returned (.tuple #[.map (some m),.int .i64 0])) r L:=Or.inl ⟨h,m,rfl,hs⟩
theorem q5b(a b n:Int)(fv fn:Value)(lo:Option Addr)(lc len:Nat)(L:List Int)(w:World)(hlen:L.length=len)(hL:Qj w lo L)(hn:I64 n)(hx:len<=4611686018427387904):
 Calls prog 121 #[.agg #[.int .i64 a,.int .i64 b,fv,fn],.slice lo len lc,.int .i64 n] w fun e w'=>Ext w w'/\WLOut w' e (Zx a b n L) L:=by
 have hmm:=@run_makeMap prog
 go_enter func121,ntmps121
 go_wp2
 go_loopw [16] (fun iv wr=>∃k:Nat,k<=len/\iv=.int .i64 k/\(∀j,j<k->ewl a b n L j=0)/\q1k wr (w.heap.size+1) (L.take k)/\Below (w.heap.size+1) (w.alloc (.cells #[.int .i64 a,.int .i64 b,fv,fn] 74)) wr) (fun iv _=>len - (intOf iv).toNat)
 case atStart=>
  refine⟨0,Zu _,rfl,fun j hj=>by omega,?_,(Below.refl _ _).alloc (by simp) _⟩
  have:=q1k.made (w.alloc (.cells #[.int .i64 a,.int .i64 b,fv,fn] 74))
  simpa using this
 case round=>
  obtain⟨k,hk,rfl,hpre,hset,hbel⟩:=hrel
  obtain⟨c0,c1,c2,c3,hs0,hE⟩:=z2q hbel
  have hs1:=hset.lt
  clear c2 c3
  by_cases hlt:k<len
  ·obtain⟨bk,off,rfl,hbk,Q2⟩:∃bk off,lo=some ⟨bk,off,none⟩/\bk<w.heap.size/\Q9 w bk off L:=by
    rcases hL with rfl | h
    ·simp at hlen;omega
    ·exact h
   have ce:=(hE.cells.1 _ _ hbk).trans (Q2 k (by omega))
   have hbr:bk<wr.heap.size:=by omega
   have hts:=hid (take_snocI (L:=L) (k:=k) (by omega))
   obtain⟨x,hxx⟩:=Qy (L.getD k 0)
   rw[<-hxx] at ce hts
   have HX:=hid hxx
   have HP:=hid hpre
   have i1:(k:Int)<(len:Int):=by omega
   clear hxx hpre Q2
   have HE:Hid (ewl a b n L k=if swB x n=false then 6 else if x=a\/x=b then 8 else if x∈L.take k then 7 else 0):=by unfold ewl;rw[HX.out];exact hid rfl
   cases hsw:swB x n
   ·have hfin:Zx a b n L=6:=by
     have e1:ewl a b n L k=6:=by rw[HE.out,if_pos hsw]
     rw[q5d (by omega) HP.out (by rw[e1];decide),e1]
    have HF:=hid hfin
    clear hfin
    go_wp2_with (go_at_call 120;refine(Qv _ _ _).mono ?_;rintro e w1 ⟨rfl,rfl⟩;rw[hsw])
    go_ret2
    exact⟨hE,q5c HF.out (by decide)⟩
   ·have hxi:I64 x:=i64_sw hn hsw
    by_cases hab:x=a\/x=b
    ·have hfin:Zx a b n L=8:=by
      have e1:ewl a b n L k=8:=by rw[HE.out,if_neg (by simp[hsw]),if_pos hab]
      rw[q5d (by omega) HP.out (by rw[e1];decide),e1]
     have HF:=hid hfin
     clear hfin
     cases hxa:(x == a)
     ·have hxb:(x == b)=true:=by
       rcases hab with h | h
       ·simp[h] at hxa
       ·simp[h]
      clear hab
      go_wp2_with (go_at_call 120;refine(Qv _ _ _).mono ?_;rintro e w1 ⟨rfl,rfl⟩;rw[hsw])
      go_ret2
      exact⟨hE,q5c HF.out (by decide)⟩
     ·clear hab
      go_wp2_with (go_at_call 120;refine(Qv _ _ _).mono ?_;rintro e w1 ⟨rfl,rfl⟩;rw[hsw])
      go_ret2
      exact⟨hE,q5c HF.out (by decide)⟩
    ·have hxa:(x == a)=false:=by simpa using fun e=>hab (Or.inl e)
     have hxb:(x == b)=false:=by simpa using fun e=>hab (Or.inr e)
     have HAB:=hid hab
     clear hab
     have hrun:=hset.look hxi
     by_cases hmem:x∈L.take k
     ·have hfin:Zx a b n L=7:=by
       have e1:ewl a b n L k=7:=by rw[HE.out,if_neg (by simp[hsw]),if_neg HAB.out,if_pos hmem]
       rw[q5d (by omega) HP.out (by rw[e1];decide),e1]
      have HF:=hid hfin
      rw[dtt hmem] at hrun
      clear hfin hmem
      go_wp2_with (go_at_call 120;refine(Qv _ _ _).mono ?_;rintro e w1 ⟨rfl,rfl⟩;rw[hsw])
      go_ret2
      exact⟨hE.alloc _,q5c HF.out (by decide)⟩
     ·have hz:ewl a b n L k=0:=by rw[HE.out,if_neg (by simp[hsw]),if_neg HAB.out,if_neg hmem]
      have HZ:=hid hz
      rw[dff hmem] at hrun
      clear hz hmem
      obtain⟨w4,hrun4,hset4,hg4⟩:=(hset.ext ((Ext.refl wr).alloc (.cells #[] 202))).put hxi (by unfold maxLen;simp;omega)
      go_wp2_with (go_at_call 120;refine(Qv _ _ _).mono ?_;rintro e w1 ⟨rfl,rfl⟩;rw[hsw])
      refine⟨⟨k+1,by omega,by go_num,fun j hj=>?_,by rw[hts.out];exact hset4,Below.grown (hbel.alloc (by omega) _) hg4 (by simp;omega) (fun j hj=>by cases hj;omega)⟩,by simp[intOf];omega⟩
      by_cases e:j=k
      ·subst e;exact HZ.out
      ·exact HP.out j (by omega)
  ·have hall:L.take k=L:=List.take_of_length_le (by omega)
   rw[hall] at hset
   have hfin:Zx a b n L=0:=q9n (fun j hj=>hpre j (by omega))
   have HF:=hid hfin
   clear hfin hall
   go_wp2
   go_ret2
   exact⟨hE,wlout_good HF.out hset⟩
end Fw
end Go.Proofs.YthkpbefnkmmaiaaGreat
