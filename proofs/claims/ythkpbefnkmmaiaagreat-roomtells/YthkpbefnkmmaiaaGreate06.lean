import Derived.Test.YthkpbefnkmmaiaaGreate05
import Derived.Test.YthkpbefnkmmaiaaGreate03
set_option maxRecDepth 100000
set_option maxHeartbeats 2000000
namespace Stw
theorem z1v:∀(n:Nat) (l:List Int),l.Nodup->(∀x∈l,0<=x/\x<(n:Int))->l.length<=n
 | 0,l,_,h=>by
  cases l with
  | nil=>simp
  | cons a r=>have:=h a (by simp);omega
 | n+1,l,hd,h=>by
  have h1:=z1v n (l.erase (n:Int)) (hd.erase _) (fun x hx=>by
   have:=(hd.mem_erase_iff).1 hx
   have:=h x this.2
   omega)
  have h2:l.length<=(l.erase (n:Int)).length+1:=by
   rw[List.length_erase]
   split <;> omega
  omega
theorem getD_mem{L:List Int}{i:Nat}(h:i<L.length):L.getD i 0∈L:=by
 rw[Zt,List.getElem?_eq_getElem h];exact List.getElem_mem h
end Stw
namespace Go.Proofs.YthkpbefnkmmaiaaGreat
open Go.Proofs.Tryz
section
open Go.RowKit Go.Maps Stw Go.Deep Stp
theorem enter_ok{S:Nat}{C:Int->Int->Int}{fr to:Int}{vo:Option Addr}{vc:Nat}{nv:Value}{via:List Int}(hC:∀a b,0<=C a b/\C a b<=1000)(hvl:via.length<=4611686018427387904):∀k,z2x S C fr to vo vc nv via k
 | 0=>by
  intro cl way x c m Zk w hwk hnd hrg hcl hx hxc
  have h:=z1v 8 (way++[(x:Int)]) (z1x hnd (fun h=>hxc (hcl _ h))) (z1g hrg hx)
  simp at h
  omega
 | k+1=>enter_step hC hvl (enter_ok hC hvl k)
def matA (C:Int->Int->Int):Array Value:=((List.range 64).map fun(i:Nat)=>Value.int .i64 (C ((i / 8:Nat):Int) ((i % 8:Nat):Int))).toArray
def srcA (C:Int->Int->Int) (fr to:Int) (vv nv:Value):Array Value:=((List.range 79).map (sF C fr to vv nv [] (.slice none 0 0) (.slice none 0 0) 0)).toArray
theorem built_s(C:Int->Int->Int)(fr to:Int)(vv nv:Value):prog.built 190 [(0,.agg (matA C)),(1,.agg #[.int .i64 fr,.int .i64 to,vv,nv])]=some (srcA C fr to vv nv):=by kernel_rfl
variable {C:Int->Int->Int}
theorem mat_eq{cs:Array Value}(hs:cs.size=64)(h:∀a b:Nat,a<8->b<8->cs[a*8+b]? =some (.int .i64 (C a b))):cs=matA C:=by
 apply Array.ext
 ·rw[hs];simp[matA]
 ·intro i h1 h2
  have:=h (i / 8) (i % 8) (by omega) (by omega)
  rw[show i / 8*8+i % 8=i by omega,Array.getElem?_eq_getElem h1] at this
  injection this with this
  rw[this]
  simp[matA]
variable {w:World}
theorem z0n{P:Program}{ops:Array Oper}{rest:List Oper}{o:Oper}{a:Act}{Q:Exit->Act->World->Prop}(hg:o.guard=none)(t:TypeId)(i1 i2:Nat)(x1 x2:Operand)(ho:o.op=.build t #[(i1,x1),(i2,x2)])(v1 v2:Value)(h1:a.eval x1=v1)(h2:a.eval x2=v2)(cells:Array Value)(hb:P.built t [(i1,v1),(i2,v2)]=some cells)(h:wpList P ops Q rest (a.put o.dst (.agg cells)) w):wpList P ops Q (o::rest) a w:=by
  have hb':P.built t ((#[(i1,x1),(i2,x2)]:Array (Nat×Operand)).map fun(i,x)=>(i,a.eval x)).toList=some cells:=by simpa[h1,h2] using hb
  refine wpList_build hg t _ ho (by rw[hb'];rfl) ?_
  rw[hb'];exact h
def FOut (w w':World) (e:Ending):Option (List Int×Int)->Prop
 | none=>e=.returned (.tuple #[.slice none 0 0,.int .i64 9])
 | some (p,_)=>∃g cap,e=.returned (.tuple #[.slice (some ⟨g,0,none⟩) p.length cap,.int .i64 0])/\w.heap.size<=g/\g<w'.heap.size/\Q9 w' g 0 p/\p.length<=cap
variable {fr to l:Int} {nv vv:Value}
theorem sF_congr{wv bv:Value}{cl cl':List Int}(h:∀y,y∈cl↔y∈cl')(j:Nat):sF C fr to vv nv cl wv bv l j=sF C fr to vv nv cl' wv bv l j:=by
 unfold sF
 have:decide (((j - 68:Nat):Int)∈cl)=decide (((j - 68:Nat):Int)∈cl'):=by rw[decide_eq_decide];exact h _
 rw[this]
theorem srcA_row{i:Nat}(h:i<79):(srcA C fr to vv nv)[i]? =some (sF C fr to vv nv [] (.slice none 0 0) (.slice none 0 0) 0 i):=by simp[srcA,h]
theorem z3s:(srcA C fr to vv nv).size=79:=by simp[srcA]
variable {vo no:Option Addr} {v1 v2 n1 n2:Nat}
theorem sF_one{wo bo:Option Addr}{w1 w2 b1 b2:Nat}{cl:List Int}(j:Nat):(sF C fr to (.slice vo v1 v2) (.slice no n1 n2) cl (.slice wo w1 w2) (.slice bo b1 b2) l j).oneCell'=true:=by
 unfold sF
 repeat' split
 all_goals rfl
theorem srcA_one:(srcA C fr to (.slice vo v1 v2) (.slice no n1 n2)).all (·.oneCell')=true:=by
 rw[Array.all_eq_true]
 intro i hi
 have hi':i<79:=by rw[z3s] at hi;exact hi
 have:=srcA_row (C:=C) (fr:=fr) (to:=to) (vv:=.slice vo v1 v2) (nv:=.slice no n1 n2) hi'
 rw[Array.getElem?_eq_getElem hi] at this
 injection this with this
 rw[this]
 exact sF_one i
theorem z2n(hC:∀a b,0<=C a b/\C a b<=1000)(frn:Nat)(to:Int)(vo no:Option Addr)(vc nc:Nat)(via nt:List Int)(w:World)(hfr:frn<8)(hvl:via.length<=4611686018427387904)(hnl:nt.length<=4611686018427387904)(hv:Qj w vo via)(hn:Qj w no nt)(hnr:∀x∈nt,0<=x/\x<8)(hfn:¬(frn:Int)∈nt)(cs ss:Array Value)(hcs:cs.size=64)(hss:ss.size=79)(hone:ss.all (·.oneCell')=true)(hbt:prog.built 190 [(0,.agg cs),(1,.agg #[.int .i64 frn,.int .i64 to,.slice vo via.length vc,.slice no nt.length nc])]=some ss)(hsrc:∀i,i<79->ss[i]? =some (sF C frn to (.slice vo via.length vc) (.slice no nt.length nc) [] (.slice none 0 0) (.slice none 0 0) 0 i)):
  Calls prog 83 #[.agg cs,.agg #[.int .i64 frn,.int .i64 to,.slice vo via.length vc,.slice no nt.length nc]] w fun e w'=>Ext w w'/\FOut w w' e (find C frn to via nt):=by
  have hl1:((w.alloc (.cells cs 162)).alloc (.cells #[.int .i64 frn,.int .i64 to,.slice vo via.length vc,.slice no nt.length nc] 74)).heap[w.heap.size]? =some (.cells cs 162):=(bal _ _ _ (by simp)).trans (blk_alloc_new _ _)
  have hi1:(prog.info? 162).map (·.size)=some cs.size:=by rw[hcs];kernel_rfl
  have hl2:(((w.alloc (.cells cs 162)).alloc (.cells #[.int .i64 frn,.int .i64 to,.slice vo via.length vc,.slice no nt.length nc] 74)).alloc (.cells Tryz.zeroCells190 190)).heap[w.heap.size+1+1]? =some (.cells Tryz.zeroCells190 190):=by
   have:=blk_alloc_new ((w.alloc (.cells cs 162)).alloc (.cells #[.int .i64 frn,.int .i64 to,.slice vo via.length vc,.slice no nt.length nc] 74)) (.cells Tryz.zeroCells190 190)
   simpa using this
  have hi2:(prog.info? 190).map (·.size)=some ss.size:=by rw[hss];kernel_rfl
  have hz2:Tryz.zeroCells190.size=ss.size:=by rw[hss];kernel_rfl
  have hrow3:((((w.alloc (.cells cs 162)).alloc (.cells #[.int .i64 frn,.int .i64 to,.slice vo via.length vc,.slice no nt.length nc] 74)).alloc (.cells Tryz.zeroCells190 190)).setRow (w.heap.size+1+1) ss).rowIs (w.heap.size+1+1) 190 79 (sF C frn to (.slice vo via.length vc) (.slice no nt.length nc) [] (.slice none 0 0) (.slice none 0 0) 0):=⟨ss,setRow_heap _ _ _ ss _ _ hl2,hss,hsrc⟩
  have hbel3:Below (w.heap.size+1+1) ((w.alloc (.cells cs 162)).alloc (.cells #[.int .i64 frn,.int .i64 to,.slice vo via.length vc,.slice no nt.length nc] 74)) ((((w.alloc (.cells cs 162)).alloc (.cells #[.int .i64 frn,.int .i64 to,.slice vo via.length vc,.slice no nt.length nc] 74)).alloc (.cells Tryz.zeroCells190 190)).setRow (w.heap.size+1+1) ss):=below_setRow ((Below.refl _ _).alloc (by simp) _) (Ql _) _
  have hc3:∀wr,Below (w.heap.size+1+1) ((w.alloc (.cells cs 162)).alloc (.cells #[.int .i64 frn,.int .i64 to,.slice vo via.length vc,.slice no nt.length nc] 74)) wr->wr.cell? ⟨w.heap.size+1,3,none⟩=some (.slice no nt.length nc)/\wr.cell? ⟨w.heap.size+1,0,none⟩=some (.int .i64 frn)/\Ext w wr:=fun wr h=>
   ⟨(h.cell (p:=⟨w.heap.size+1,3,none⟩) (by simp)).trans (by simp),(h.cell (p:=⟨w.heap.size+1,0,none⟩) (by simp)).trans (by simp),Below.trans (((Ext.refl w).alloc _).alloc _) (h.mono (by omega))⟩
  obtain⟨c3,c0,hE3⟩:=hc3 _ hbel3
  have HC3:=Qa hc3
  clear hc3
  go_enter func83,ntmps83
  go_wp2_with (first
   | (refine wpList_load_row rfl 162 (.tmp 2) rfl w.heap.size rfl 162 cs (0,0) _ hl1 underlying162 rfl hi1 ?_)
   | (refine z0n rfl 190 0 1 (.tmp 9) (.tmp 10) rfl _ _ rfl rfl ss hbt ?_)
   | (refine wpList_store_row rfl 190 (.tmp 6) (.tmp 11) rfl (w.heap.size+1+1) ss rfl rfl 190 Tryz.zeroCells190 hl2 hi2 hz2 hone ?_))
  go_loopw [15] (fun iv wr=>∃k:Nat,k<=nt.length/\iv=.int .i64 k/\Below (w.heap.size+1+1) ((w.alloc (.cells cs 162)).alloc (.cells #[.int .i64 frn,.int .i64 to,.slice vo via.length vc,.slice no nt.length nc] 74)) wr/\wr.rowIs (w.heap.size+1+1) 190 79 (sF C frn to (.slice vo via.length vc) (.slice no nt.length nc) (nt.take k) (.slice none 0 0) (.slice none 0 0) 0)) (fun iv _=>nt.length - (intOf iv).toNat)
  case atStart=>exact⟨0,Zu _,rfl,hbel3,hrow3⟩
  case round=>
   clear hl1 hl2 hrow3 hbel3 c3 c0 hE3
   obtain⟨k,hk,rfl,hbel,hrow⟩:=hrel
   obtain⟨c3,c0,hE⟩:=HC3.out _ hbel
   by_cases hlt:k<nt.length
   ·obtain⟨b,off,rfl,hb,Q2⟩:∃b off,no=some ⟨b,off,none⟩/\b<w.heap.size/\Q9 w b off nt:=by
     rcases hn with rfl | h
     ·simp at hlt
     ·exact h
    have ce:=(hE.cells.1 _ _ hb).trans (Q2 k hlt)
    have hmem:nt.getD k 0∈nt:=getD_mem hlt
    have hr:=hnr _ hmem
    obtain⟨x,hx⟩:=Int.eq_ofNat_of_zero_le hr.1
    have HX:=Qa hx
    rw[hx] at ce hr
    clear hx hmem Q2
    have hx8:x<8:=by omega
    have ecc:=q0f hx8 hrow
    have efz:=hrow.frozen (68+x)
    have hbr:b<wr.heap.size:=by have:=hE.size;omega
    go_wp2
    go_roundw
    case rel=>
     refine⟨k+1,by omega,by go_num,hbel.setCell (by simp) _,((hrow.set _ _).congr (fun j _=>sF_close hx8 j)).congr (fun j _=>sF_congr (fun y=>?_) j)⟩
     rw[List.take_succ_eq_append_getElem hlt,List.mem_append,List.mem_cons]
     have e:nt[k]=(x:Int):=by rw[<-z2g hlt];exact HX.out
     rw[e]
     simp
     exact Or.comm
    case measure=>simp[intOf];omega
   ·have hkk:nt.take k=nt:=List.take_of_length_le (by omega)
    rw[hkk] at hrow
    clear hkk
    go_wp2_with fail
    refine(enter_ok hC hvl 8 nt [] frn 0 0 none _ (by simp) (by simp) (by simp) (by simp) hfr hfn (by omega) (by simp) (Zu _) ?_ ⟨_,_,_,hrow,World.ownsRow_nil _ _ _ _,rfl⟩).mono ?_
    ·rcases hv with h | ⟨b,off,h1,h2,h3⟩
     ·exact Or.inl h
     ·exact Or.inr ⟨b,off,h1,by omega,fun i hi=>(hE.cells.1 _ _ h2).trans (h3 i hi)⟩
    ·rintro e w4 ⟨rfl,hbl4,wv4,bv4,l4,hsa4⟩
     obtain⟨e65,e66,e76,e77,e78,efz⟩:=q0c hsa4.row
     have hE4:Ext w w4:=Below.trans hE (hbl4.mono (by have:=hE.size;omega))
     have heql:∀(w:World) (a:Option Addr) (n c:Nat),(binOp .eql 104 (.slice a n c) (.slice none 0 0)).run prog w=.ok (.bool a.isNone) w:=fun w a n c=>Lib.run_eql_slice_nil w _ _ a n c 0 0 underlying104
     have hbest:=hsa4.Zk
     have hfd:ent C to via 8 nt [] (frn:Int) 0 0 none=find C frn to via nt:=rfl
     rw[hfd] at hbest
     clear hsa4 hfd c3 c0
     cases hfi:find C frn to via nt with
     | none=>
      rw[hfi] at hbest
      have HF:=Qa hfi
      clear hfi
      have hbv:bv4=.slice none 0 0:=hbest
      subst hbv
      go_wp2
      go_ret2
      refine⟨hE4,?_⟩
      rw[HF.out]
      rfl
     | some y=>
      obtain⟨p,c⟩:=y
      rw[hfi] at hbest
      have HF:=Qa hfi
      clear hfi
      obtain⟨g,cap,rfl,h2,h3,h4,_,_,h7⟩:=hbest
      go_wp2
      go_ret2
      refine⟨hE4,?_⟩
      rw[HF.out]
      exact⟨g,cap,rfl,by omega,h3,h4,h7⟩
theorem z5m(hC:∀a b,0<=C a b/\C a b<=1000)(frn:Nat)(to:Int)(vo no:Option Addr)(vc nc:Nat)(via nt:List Int)(w:World)(hfr:frn<8)(hvl:via.length<=4611686018427387904)(hnl:nt.length<=4611686018427387904)(hv:Qj w vo via)(hn:Qj w no nt)(hnr:∀x∈nt,0<=x/\x<8)(hfn:¬(frn:Int)∈nt)(cs:Array Value)(hcs:cs.size=64)(hcc:∀a b:Nat,a<8->b<8->cs[a*8+b]? =some (.int .i64 (C a b))):
  Calls prog 83 #[.agg cs,.agg #[.int .i64 frn,.int .i64 to,.slice vo via.length vc,.slice no nt.length nc]] w fun e w'=>Ext w w'/\FOut w w' e (find C frn to via nt):=by
  obtain rfl:=mat_eq hcs hcc
  exact z2n hC frn to vo no vc nc via nt w hfr hvl hnl hv hn hnr hfn _ _ hcs z3s srcA_one (built_s _ _ _ _ _) (fun i hi=>srcA_row hi)
def fnd (n:Int) (ls:List Lk) (f:Stf.Fl):Int×List Int:=
 if(Qc n ls).1≠0 then((Qc n ls).1,[]) else if Stf.Q6 f n≠0 then(Stf.Q6 f n,[]) else match find (cost ls) f.fr f.to f.via f.nt with
  | none=>(9,[])
  | some (p,_)=>(0,p)
structure RightF (n:Int) (f:Stf.Fl):Prop where
 fr:0<=f.fr/\f.fr<n
 to:0<=f.to/\f.to<n
 ne:f.fr≠f.to
 via:∀x∈f.via,0<=x/\x<n/\x≠f.fr/\x≠f.to
 nt:∀x∈f.nt,0<=x/\x<n/\x≠f.fr/\x≠f.to
 vnd:f.via.Nodup
 nnd:f.nt.Nodup
 apart:∀x∈f.nt,¬x∈f.via
theorem z0a{a b n:Int}{L:List Int}(h:Stf.Zx a b n L=0):(∀x∈L,0<=x/\x<n/\x≠a/\x≠b)/\L.Nodup:=by
 have h0:=Fw.q9m h
 constructor
 ·intro x hx
  obtain⟨i,hi,rfl⟩:=List.getElem_of_mem hx
  obtain⟨h1,h2,h3,_⟩:=Stf.q4c (h0 i hi)
  rw[z2g hi] at h1 h2 h3
  simp only[Stf.swB,decide_eq_true_eq] at h1
  exact⟨h1.1,h1.2,h2,h3⟩
 ·rw[Stp.nodup_iff]
  intro i hi
  exact(Stf.q4c (h0 i hi)).2.2.2
variable {f:Stf.Fl}
theorem q5g{n:Int}(h:Stf.Q6 f n=0):RightF n f:=by
 unfold Stf.Q6 at h
 split at h
 ·cases h
 ·rename_i h1
  split at h
  ·cases h
  ·rename_i h2
   split at h
   ·rename_i h3;exact absurd h h3
   ·rename_i h3
    split at h
    ·rename_i h4;exact absurd h h4
    ·rename_i h4
     split at h
     ·cases h
     ·rename_i h5
      simp only[ne_eq,Decidable.not_not] at h3 h4
      obtain⟨v1,v2⟩:=z0a h3
      obtain⟨n1,n2⟩:=z0a h4
      simp only[not_or,Bool.not_eq_false,Stf.swB,decide_eq_true_eq] at h1
      refine⟨h1.1,h1.2,h2,v1,n1,v2,n2,fun x hx hv=>h5 ?_⟩
      rw[List.any_eq_true]
      exact⟨x,hx,dtt hv⟩
theorem flows_one{v:Value}{b:Nat}(h:w.heap.size=b)(hv:Fw.FV w f.via v)(hn:Fw.FV w f.nt nv):Fw.Qk (w.alloc (.cells #[.int .i64 f.fr,.int .i64 f.to,v,nv] 74)) (some ⟨b,0,none⟩) [f]:=by
 subst h
 refine Or.inr ⟨_,0,rfl,by simp,fun k hk=>?_⟩
 have:k=0:=by simp at hk;omega
 subst this
 exact⟨v,nv,by simp,by simp,by simp,by simp,hv.ext ((Ext.refl _).alloc _),hn.ext ((Ext.refl _).alloc _)⟩
theorem wflows_one{n:Int}:Stf.Qp [f] n=(Stf.Q6 f n,0):=by
 by_cases h:Stf.Q6 f n=0
 ·rw[Fw.q4q (by simp) (fun j hj=>by
   have e:j=0:=by simp at hj;omega
   subst e
   simpa using h),h]
 ·have:=Fw.q1o (fs:=[f]) (n:=n) (k:=0) (by simp) (by simp) (fun j hj=>by omega) (by simpa using h)
  simpa using this
theorem sm_one(h1:f.via.length<=4611686018427387904)(h2:f.nt.length<=4611686018427387904):Fw.Sm [f]:=by
 intro k hk
 have:k=0:=by simp at hk;omega
 subst this
 exact⟨h1,h2⟩
theorem FOut.none{w':World}{e:Ending}(h:FOut w w' e none):e=.returned (.tuple #[.slice none 0 0,.int .i64 9]):=h
end
section
open Go.RowKit Go.Maps Stw Go.Deep
theorem q5t(n c:Nat)(w:World):
 Calls prog 85 #[.slice none n c] w fun e w'=>e=.returned (.slice none 0 0)/\w'=w:=by
 have hq:∀(w:World) (a:Option Addr) (n c:Nat),(binOp .eql 30 (.slice a n c) (.slice none 0 0)).run prog w=.ok (.bool a.isNone) w:=fun w a n c=>Lib.run_eql_slice_nil w _ _ a n c 0 0 underlying30
 go_enter func85,ntmps85
 go_wp2
 go_ret
 exact⟨rfl,rfl⟩
theorem q4n(ad:Addr)(n c:Nat)(ps:List Int)(w:World)(hn:ps.length=n)(hb:n*8<=140737488351232)(hp:∀j u,(ps.map (Value.int .i64))[j]? =some u->(w.alloc (.cells #[] 3)).cell? (ad.add j)=some u):
 Calls prog 85 #[.slice (some ad) n c] w fun e w'=>∃v',e=.returned v'/\w'.ownsRow w.heap.size 3 1 v' n (ps.map (Value.int .i64))/\Ext w w':=by
 obtain⟨i0,hi,hz0,hz1,hz2⟩:=info_parts q8k
 have hq:∀(w:World) (a:Option Addr) (n c:Nat),(binOp .eql 30 (.slice a n c) (.slice none 0 0)).run prog w=.ok (.bool a.isNone) w:=fun w a n c=>Lib.run_eql_slice_nil w _ _ a n c 0 0 underlying30
 have A:=Qa hp
 clear hp
 go_enter func85,ntmps85
 go_wp2_with (at_builtin;refine wpList_append_own _ rfl _ _ 30 rfl w.heap.size 3 i0 (.int .i64 0) 1 8 underlying30 hi hz0 hz1 hz2 rfl (by decide) _ _ _ rfl (World.ownsRow_made w #[] 0 (Ql _) (Zu _) rfl) ad n c (ps.map (Value.int .i64)) rfl ?qc1 ?qc2 ?qc3 ?qc4 ?qc5 ?qc6 ?_)
 case qc1=>simp;omega
 case qc2=>exact A.out
 case qc3=>intro u hu;obtain⟨x,_,rfl⟩:=List.mem_map.1 hu;rfl
 case qc4=>unfold maxLen;omega
 case qc5=>omega
 case qc6=>simp
 intro v' w1 hown hgrow hnil
 go_wp2
 go_ret
 refine⟨v',rfl,by simpa using hown,?_⟩
 exact((Below.refl _ w).alloc (Ql _) _).grown hgrow (by simp) (by intro k hk;simp[Value.ownBlock] at hk;omega)
def FN (B:Nat) (w:World) (ps:List Int) (v:Value):Prop:=∃o c,v=.slice o ps.length c/\(ps=[]\/∃b off,o=some ⟨b,off,none⟩/\B<=b/\b<w.heap.size/\Q9 w b off ps)/\ps.length<=c
variable {w:World} {B:Nat}
theorem FN.fv{ps:List Int}{v:Value}(h:FN B w ps v):Fw.FV w ps v:=by
 obtain⟨o,c,h1,h2,h3⟩:=h
 exact⟨o,c,h1,h2.imp id (fun⟨b,off,k1,_,k3,k4⟩=>⟨b,off,k1,k3,k4⟩),h3⟩
variable {w':World}
theorem FN.q2n{B':Nat}{ps:List Int}{v:Value}(h:FN B w ps v)(hB:B'<=B)(hs:w.heap.size<=w'.heap.size)(hk:∀b,B<=b->b<w.heap.size->w'.heap[b]? =w.heap[b]?):FN B' w' ps v:=by
 obtain⟨o,c,h1,h2,h3⟩:=h
 refine⟨o,c,h1,h2.imp id (fun⟨b,off,k1,k2,k3,k4⟩=>⟨b,off,k1,by omega,by omega,fun i hi=>(cob (a:=⟨b,off+i,none⟩) (hk b k2 k3)).trans (k4 i hi)⟩),h3⟩
theorem FN.ext{ps:List Int}{v:Value}(h:FN B w ps v)(k:Ext w w'):FN B w' ps v:=h.q2n (Ql _) k.size (fun b _ hb=>Below.block k b hb)
theorem FN.setCell{ps:List Int}{v:Value}(h:FN B w ps v){a:Addr}(ha:a.block<B)(u:Value):FN B (w.setCell a u) ps v:=h.q2n (Ql _) (by simp) (fun b hb _=>Zm _ _ _ _ (by omega))
theorem q8o{base:Nat}{v:Value}{ps:List Int}(h:w.ownsRow base 3 1 v ps.length (ps.map (Value.int .i64))):FN base w ps v:=by
 rcases h.2 with⟨h1,h2⟩ | ⟨g,c,cur,hv,_,_,h3,_⟩
 ·exact⟨none,0,by rw[h1,h2],Or.inl (List.eq_nil_of_length_eq_zero h2),by omega⟩
 ·subst hv
  refine⟨some ⟨g,0,none⟩,c,rfl,Or.inr ⟨g,0,rfl,(h.lt g rfl).1,(h.lt g rfl).2,fun i hi=>?_⟩,h3⟩
  rw[Nat.zero_add,h.cellAt i (by omega),List.getElem?_map,List.getElem?_eq_getElem hi]
  simp[hi]
theorem q5u(o:Option Addr)(c:Nat)(ps:List Int)(w:World)(hb:ps.length*8<=140737488351232)(hp:Qj w o ps):
 Calls prog 85 #[.slice o ps.length c] w fun e w'=>∃v',e=.returned v'/\FN w.heap.size w' ps v'/\Ext w w':=by
 cases o with
 | none=>
  have he:ps=[]:=by
   rcases hp with h | ⟨b,off,h,_⟩
   ·exact h
   ·cases h
  refine(q5t ps.length c w).mono ?_
  rintro e w' ⟨rfl,rfl⟩
  exact⟨_,rfl,⟨none,0,by rw[he];rfl,Or.inl he,by rw[he];exact Ql _⟩,Ext.refl _⟩
 | some ad=>
  refine(q4n ad ps.length c ps w rfl hb (fun j u hj=>?_)).mono ?_
  ·have hjn:j<ps.length:=by have:=(List.getElem?_eq_some_iff.1 hj).1;simpa using this
   rcases hp with rfl | ⟨b,off,h,hlt,Q2⟩
   ·simp at hjn
   ·cases h
    rw[Addr.add_mid,World.cell?_alloc_past _ _ _ hlt,Q2 j hjn]
    rw[List.getElem?_map,List.getElem?_eq_getElem hjn] at hj
    simp at hj
    rw[<-hj]
    simp[hjn]
  ·rintro e w' ⟨v',rfl,hown,hE⟩
   exact⟨v',rfl,q8o hown,hE⟩
theorem z0h(f:Stf.Fl)(vo no:Option Addr)(vc nc:Nat)(w:World)(hv:Qj w vo f.via)(hvl:f.via.length<=16777216)(hn:Qj w no f.nt)(hnl:f.nt.length<=16777216):
 Calls prog 67 #[.agg #[.int .i64 f.fr,.int .i64 f.to,.slice vo f.via.length vc,.slice no f.nt.length nc]] w fun e w'=>∃v' n',e=.returned (.agg #[.int .i64 f.fr,.int .i64 f.to,v',n'])/\FN w.heap.size w' f.via v'/\FN w.heap.size w' f.nt n'/\Ext w w':=by
 obtain⟨fr,to,via,nt⟩:=f
 simp only at hv hvl hn hnl ⊢
 go_enter func67,ntmps67
 go_wp2_with fail
 refine(q5u vo vc via _ (by omega) (hv.ext (((Ext.refl w).alloc _).alloc _))).mono ?_
 rintro e w1 ⟨v',rfl,hv',E1⟩
 have hw1:Ext w w1:=(((Ext.refl w).alloc _).alloc _).trans E1
 have hs1:w.heap.size+1<w1.heap.size:=by have:=E1.size;simp at this;omega
 have hs0:w.heap.size<w1.heap.size:=by omega
 have q1:=E1.cells.1
 have g1:=E1.cells.2
 have b0:w1.cell? ⟨w.heap.size,0,none⟩=some (.int .i64 fr):=(q1 _ _ (by simp;omega)).trans (by simp)
 have b1:w1.cell? ⟨w.heap.size,1,none⟩=some (.int .i64 to):=(q1 _ _ (by simp;omega)).trans (by simp)
 have b2:w1.cell? ⟨w.heap.size,2,none⟩=some (.slice vo via.length vc):=(q1 _ _ (by simp;omega)).trans (by simp)
 have b3:w1.cell? ⟨w.heap.size,3,none⟩=some (.slice no nt.length nc):=(q1 _ _ (by simp;omega)).trans (by simp)
 have z0:w1.cell? ⟨w.heap.size+1,0,none⟩=some (.int .i64 0):=(q1 _ _ (by simp)).trans (by simp)
 have z1:w1.cell? ⟨w.heap.size+1,1,none⟩=some (.int .i64 0):=(q1 _ _ (by simp)).trans (by simp)
 have z2:w1.cell? ⟨w.heap.size+1,2,none⟩=some (.slice none 0 0):=(q1 _ _ (by simp)).trans (by simp)
 have z3:w1.cell? ⟨w.heap.size+1,3,none⟩=some (.slice none 0 0):=(q1 _ _ (by simp)).trans (by simp)
 have y0:∀i,w1.frozen? ⟨w.heap.size,i,none⟩=false:=fun i=>(g1 _ _ (by simp;omega)).trans (by simp)
 have y1:∀i,w1.frozen? ⟨w.heap.size+1,i,none⟩=false:=fun i=>(g1 _ _ (by simp)).trans (by simp)
 have hB1:w.heap.size+1+1<=((w.alloc (.cells #[.int .i64 fr,.int .i64 to,.slice vo via.length vc,.slice no nt.length nc] 74)).alloc (.cells #[.int .i64 0,.int .i64 0,.slice none 0 0,.slice none 0 0] 74)).heap.size:=by simp
 have hv2:FN (w.heap.size+1+1) w1 via v':=hv'.q2n hB1 (Ql _) (fun _ _ _=>rfl)
 clear q1 g1 hB1 hv'
 obtain⟨vo',vc',rfl,hv3⟩:=hv2
 have hv4:FN (w.heap.size+1+1) w1 via (.slice vo' via.length vc'):=⟨vo',vc',rfl,hv3⟩
 clear hv3
 go_wp2_with fail
 refine(q5u no nc nt _ (by omega) (hn.ext (hw1.setCell (Ql _) _))).mono ?_
 rintro e w2 ⟨n',rfl,hn',E2⟩
 have hw2:Ext w w2:=(hw1.setCell (Ql _) _).trans E2
 have hs2:w.heap.size+1<w2.heap.size:=by have:=E2.size;simp at this;omega
 have hs02:w.heap.size<w2.heap.size:=by omega
 have q2:=E2.cells.1
 have g2:=E2.cells.2
 have k0:w.heap.size<(w1.setCell ⟨w.heap.size,2,none⟩ (.slice vo' via.length vc')).heap.size:=by simpa using hs0
 have k1:w.heap.size+1<(w1.setCell ⟨w.heap.size,2,none⟩ (.slice vo' via.length vc')).heap.size:=by simpa using hs1
 have c0:w2.cell? ⟨w.heap.size,0,none⟩=some (.int .i64 fr):=(q2 _ _ k0).trans ((World.cell?_setCell_other _ _ _ _ (by simp)).trans b0)
 have c1:w2.cell? ⟨w.heap.size,1,none⟩=some (.int .i64 to):=(q2 _ _ k0).trans ((World.cell?_setCell_other _ _ _ _ (by simp)).trans b1)
 have c2:w2.cell? ⟨w.heap.size,2,none⟩=some (.slice vo' via.length vc'):=(q2 _ _ k0).trans (World.cell?_setCell_same _ _ _ b2)
 have c3:w2.cell? ⟨w.heap.size,3,none⟩=some (.slice no nt.length nc):=(q2 _ _ k0).trans ((World.cell?_setCell_other _ _ _ _ (by simp)).trans b3)
 have x0:w2.cell? ⟨w.heap.size+1,0,none⟩=some (.int .i64 0):=(q2 _ _ k1).trans ((World.cell?_setCell_other _ _ _ _ (by simp)).trans z0)
 have x1:w2.cell? ⟨w.heap.size+1,1,none⟩=some (.int .i64 0):=(q2 _ _ k1).trans ((World.cell?_setCell_other _ _ _ _ (by simp)).trans z1)
 have x2:w2.cell? ⟨w.heap.size+1,2,none⟩=some (.slice none 0 0):=(q2 _ _ k1).trans ((World.cell?_setCell_other _ _ _ _ (by simp)).trans z2)
 have x3:w2.cell? ⟨w.heap.size+1,3,none⟩=some (.slice none 0 0):=(q2 _ _ k1).trans ((World.cell?_setCell_other _ _ _ _ (by simp)).trans z3)
 have t0:∀i,w2.frozen? ⟨w.heap.size,i,none⟩=false:=fun i=>(g2 _ _ k0).trans (by simpa using y0 i)
 have t1:∀i,w2.frozen? ⟨w.heap.size+1,i,none⟩=false:=fun i=>(g2 _ _ k1).trans (by simpa using y1 i)
 have hv5:FN (w.heap.size+1+1) w2 via (.slice vo' via.length vc'):=(hv4.setCell (a:=⟨w.heap.size,2,none⟩) (by simp;omega) _).ext E2
 have hn2:FN (w.heap.size+1+1) w2 nt n':=hn'.q2n (by have:=hs1;simp;omega) (Ql _) (fun _ _ _=>rfl)
 clear q2 g2 b0 b1 b2 b3 z0 z1 z2 z3 y0 y1 hn' hv4 k0 k1
 obtain⟨no',nc',rfl,hn3⟩:=hn2
 have hn4:FN (w.heap.size+1+1) w2 nt (.slice no' nt.length nc'):=⟨no',nc',rfl,hn3⟩
 clear hn3
 go_wp2
 refine bodyPost_ret (v:=.agg #[.int .i64 fr,.int .i64 to,.slice vo' via.length vc',.slice no' nt.length nc']) (by simp[results,results67,go_sem,x0,x1,x2,x3]) rfl ⟨_,_,rfl,?_,?_,?_⟩
 ·exact(((((hv5.setCell (by simp;omega) _).setCell (by simp) _).setCell (by simp) _).setCell (by simp) _).setCell (by simp) _).q2n (by omega) (Ql _) (fun _ _ _=>rfl)
 ·exact(((((hn4.setCell (by simp;omega) _).setCell (by simp) _).setCell (by simp) _).setCell (by simp) _).setCell (by simp) _).q2n (by omega) (Ql _) (fun _ _ _=>rfl)
 ·exact((((hw2.setCell (by simp) _).setCell (by simp) _).setCell (by simp) _).setCell (by simp) _).setCell (by simp) _
end
section
open Go.RowKit Go.Maps Stw Go.Deep Stp
def LQ (w:World) (Q:Nat->Prop) (ps:List Int) (v:Value):Prop:=∃o c,v=.slice o ps.length c/\(ps=[]\/∃b off,o=some ⟨b,off,none⟩/\Q b/\b<w.heap.size/\Q9 w b off ps)/\ps.length<=c
variable {w w':World} {Q:Nat->Prop}
theorem LQ.mono{Q':Nat->Prop}{ps:List Int}{v:Value}(h:LQ w Q ps v)(H:∀b,Q b->b<w.heap.size->Q' b/\b<w'.heap.size/\w'.heap[b]? =w.heap[b]?):LQ w' Q' ps v:=by
 obtain⟨o,c,h1,h2,h3⟩:=h
 refine⟨o,c,h1,h2.imp id (fun⟨b,off,k1,k2,k3,k4⟩=>?_),h3⟩
 obtain⟨r1,r2,r3⟩:=H b k2 k3
 exact⟨b,off,k1,r1,r2,fun i hi=>(cob (a:=⟨b,off+i,none⟩) r3).trans (k4 i hi)⟩
theorem LQ.fv{ps:List Int}{v:Value}(h:LQ w Q ps v):Fw.FV w ps v:=by
 obtain⟨o,c,h1,h2,h3⟩:=h
 exact⟨o,c,h1,h2.imp id (fun⟨b,off,k1,_,k3,k4⟩=>⟨b,off,k1,k3,k4⟩),h3⟩
variable {B:Nat}
theorem FN.lq{ps:List Int}{v:Value}(h:FN B w ps v):LQ w (fun b=>B<=b) ps v:=h
def LQs (w:World) (Q:Nat->Prop):List (List Int)->List Value->Prop
 | [],[]=>True
 | p::ps,v::vs=>LQ w Q p v/\LQs w Q ps vs
 | _,_=>False
theorem LQs.mono{w w':World}{Q Q':Nat->Prop}(H:∀b,Q b->b<w.heap.size->Q' b/\b<w'.heap.size/\w'.heap[b]? =w.heap[b]?):∀{ps:List (List Int)} {vs:List Value},LQs w Q ps vs->LQs w' Q' ps vs
 | [],[],_=>trivial
 | [],_::_,h=>by cases h
 | _::_,[],h=>by cases h
 | _::_,_::_,h=>⟨h.1.mono H,LQs.mono H h.2⟩
theorem LQs.len{w:World}{Q:Nat->Prop}:∀{ps:List (List Int)} {vs:List Value},LQs w Q ps vs->vs.length=ps.length
 | [],[],_=>rfl
 | [],_::_,h=>by cases h
 | _::_,[],h=>by cases h
 | _::_,_::_,h=>by simp[LQs.len h.2]
theorem LQs.snoc{w:World}{Q:Nat->Prop}{p:List Int}{v:Value}:∀{ps:List (List Int)} {vs:List Value},LQs w Q ps vs->LQ w Q p v->LQs w Q (ps++[p]) (vs++[v])
 | [],[],_,k=>⟨k,trivial⟩
 | [],_::_,h,_=>by cases h
 | _::_,[],h,_=>by cases h
 | _::_,_::_,h,k=>⟨h.1,LQs.snoc h.2 k⟩
theorem LQs.get{w:World}{Q:Nat->Prop}:∀{ps:List (List Int)} {vs:List Value} {i:Nat},LQs w Q ps vs->i<ps.length->∃v,vs[i]? =some v/\LQ w Q (ps.getD i []) v
 | [],_,_,_,hi=>by simp at hi
 | _::_,[],_,h,_=>by cases h
 | _::_,v::_,0,h,_=>⟨v,rfl,h.1⟩
 | _::_,_::_,i+1,h,hi=>by
  obtain⟨v,h1,h2⟩:=LQs.get h.2 (i:=i) (by simpa using hi)
  exact⟨v,by simpa using h1,by simpa using h2⟩
def q0i (w:World) (qo:Option Addr) (ps:List (List Int)):Prop:=ps=[]\/∃g off,qo=some ⟨g,off,none⟩/\g<w.heap.size/\∀i,i<ps.length->∃v,w.cell? ⟨g,off+i,none⟩=some v/\Fw.FV w (ps.getD i []) v
theorem q0i.ext{w w':World}{qo:Option Addr}{ps:List (List Int)}(h:q0i w qo ps)(k:Ext w w'):q0i w' qo ps:=by
 rcases h with h | ⟨g,off,h1,h2,h3⟩
 ·exact Or.inl h
 ·refine Or.inr ⟨g,off,h1,Q5 h2 k.size,fun i hi=>?_⟩
  obtain⟨v,k1,k2⟩:=h3 i hi
  exact⟨v,(k.cells.1 _ _ h2).trans k1,k2.ext k⟩
theorem q5h{base n:Nat}{e:TypeId}{v:Value}{vs:List Value}{ps:List (List Int)}(h:w.ownsRow base e 1 v n vs)(hp:LQs w Q ps vs):∃qo qc,v=.slice qo ps.length qc/\q0i w qo ps:=by
 have hl:=hp.len
 have hn:vs.length=n:=by have:=h.1;omega
 rcases h.2 with⟨h1,h2⟩ | ⟨g,c,cur,hv,_⟩
 ·have:ps=[]:=List.eq_nil_of_length_eq_zero (by omega)
  subst this
  exact⟨none,0,h1,Or.inl rfl⟩
 ·subst hv
  refine⟨some ⟨g,0,none⟩,c,by rw[<-hl,hn],Or.inr ⟨g,0,rfl,(h.lt g rfl).2,fun i hi=>?_⟩⟩
  obtain⟨u,k1,k2⟩:=hp.get hi
  exact⟨u,by rw[Nat.zero_add,h.cellAt i (by omega)];exact k1,k2.fv⟩
def plnF (n version:Int) (ls:List Lk) (fs:List Stf.Fl):Int×Int:=
 if(Qc n ls).1≠0 then Qc n ls else if version<1\/1000<version then(3,0) else if(Stf.Qp fs n).1≠0 then Stf.Qp fs n
 else match Stf.Zp (fun k=>(fnd n ls (fs.getD k Fw.f0)).1) fs.length with
  | some k=>((fnd n ls (fs.getD k Fw.f0)).1,(k:Int))
  | none=>(0,0)
def Qs (n:Int) (ls:List Lk) (fs:List Stf.Fl):List (List Int):=fs.map fun f=>(fnd n ls f).2
theorem z4f{n:Int}{ls:List Lk}{fs:List Stf.Fl}{k:Nat}(h:k<fs.length):(Qs n ls fs).take (k+1)=(Qs n ls fs).take k++[(fnd n ls (fs.getD k Fw.f0)).2]:=by
 have h':k<(Qs n ls fs).length:=by simpa[Qs] using h
 rw[List.take_succ_eq_append_getElem h']
 simp[Qs,h]
theorem infoP:(prog.info? 104).map (fun i=>(i.zero,i.size,i.bytes))=some (some (.slice none 0 0),1,24):=by kernel_rfl
theorem lqs_push{w1:World}{qv v' v:Value}{V:List Value}{ps:List (List Int)}{p:List Int}{ex:Nat->Prop}(hl:LQs w1 (fun b=>B<=b/\qv.ownBlock≠some b/\ex b) ps V)(hp:LQ w1 (fun b=>B<=b/\qv.ownBlock≠some b/\ex b) p v)(hs:w1.heap.size<=w.heap.size)(hb:∀b,b<w1.heap.size->w.heap[b]? =w1.heap[b]?)(hg:w.grownBy w' qv.ownBlock)(Q2:v'.ownBlock=qv.ownBlock\/v'.ownBlock=some w.heap.size):
  LQs w' (fun b=>B<=b/\v'.ownBlock≠some b/\ex b) (ps++[p]) (V++[v]):=by
  have H:∀b,(B<=b/\qv.ownBlock≠some b/\ex b)->b<w1.heap.size->(B<=b/\v'.ownBlock≠some b/\ex b)/\b<w'.heap.size/\w'.heap[b]? =w1.heap[b]?:=fun b hQ hlt=>by
   have hs':=hg.size
   refine⟨⟨hQ.1,fun e=>?_,hQ.2.2⟩,by omega,(hg.block b (by omega) (fun e=>hQ.2.1 e.symm)).trans (hb b hlt)⟩
   rcases Q2 with h | h
   ·exact hQ.2.1 (h.symm.trans e)
   ·rw[h] at e;injection e with e;omega
  exact LQs.snoc (hl.mono H) (hp.mono H)
end
end Go.Proofs.YthkpbefnkmmaiaaGreat
