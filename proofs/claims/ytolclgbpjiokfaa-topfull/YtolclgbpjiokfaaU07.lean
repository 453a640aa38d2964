/- Rules in plain words: their order, rows of them that are sorted, and the one way to sort them that keeps those of one place as they stood. -/
import Derived.Test.YtolclgbpjiokfaaU05
import Derived.Test.YtolclgbpjiokfaaU03
import Derived.Test.YtolclgbpjiokfaaU06
import Derived.WalkKit
import Derived.Sort.Lot0
import Derived.Sort.LotA
namespace Go.Proofs.Ytolclgbpjiokfaa
open Go.RowKit Go.Maps Stw Go.Deep
set_option maxHeartbeats 1000000 in
theorem cloneInts_nil (n c:Nat) (w:World):
 Calls Try.prog 63 #[.slice none n c] w fun e w'=>e=.returned (.slice none 0 0)∧w'=w:=by
 have hq:∀(w:World) (a:Option Addr) (n c:Nat),(binOp .eql 31 (.slice a n c) (.slice none 0 0)).run Try.prog w=.ok (.bool a.isNone) w:=fun w a n c=>Lib.run_eql_slice_nil w _ _ a n c 0 0 Try.underlying31
 go_enter Try.func63,Try.ntmps63
 go_wp2
 go_ret
 exact⟨rfl,rfl⟩
set_option maxHeartbeats 1000000 in
theorem cloneInts_some (ad:Addr) (n c:Nat) (ps:List Int) (w:World) (hn:ps.length=n) (hb:n*8≤140737488351232) (hp:∀j u,(ps.map (Value.int .i64))[j]? =some u→(w.alloc (.cells #[] 3)).cell? (ad.add j)=some u):
 Calls Try.prog 63 #[.slice (some ad) n c] w fun e w'=>∃v',e=.returned v'∧w'.ownsRow w.heap.size 3 1 v' n (ps.map (Value.int .i64))∧Ext w w':=by
 obtain⟨i0,hi,hz0,hz1,hz2⟩:=info_parts infoI
 have hq:∀(w:World) (a:Option Addr) (n c:Nat),(binOp .eql 31 (.slice a n c) (.slice none 0 0)).run Try.prog w=.ok (.bool a.isNone) w:=fun w a n c=>Lib.run_eql_slice_nil w _ _ a n c 0 0 Try.underlying31
 have A:=hidp hp
 clear hp
 go_enter Try.func63,Try.ntmps63
 go_wp2_with (at_builtin;refine wpList_append_own _ rfl _ _ 31 rfl w.heap.size 3 i0 (.int .i64 0) 1 8 Try.underlying31 hi hz0 hz1 hz2 rfl (by decide) _ _ _ rfl (World.ownsRow_made w #[] 0 (Nat.le_refl _) (Nat.zero_le _) rfl) ad n c (ps.map (Value.int .i64)) rfl ?qc1 ?qc2 ?qc3 ?qc4 ?qc5 ?qc6 ?_)
 case qc1=>simp;omega
 case qc2=>exact A.out
 case qc3=>intro u hu;obtain⟨x,_,rfl⟩:=List.mem_map.1 hu;rfl
 case qc4=>unfold maxLen;omega
 case qc5=>omega
 case qc6=>simp
 intro v' w1 hown hgrow hnil
 go_wp2
 go_ret
 refine⟨v',rfl,by simpa using hown,?_⟩
 exact((Below.refl _ w).alloc (Nat.le_refl _) _).grown hgrow (by simp) (by intro k hk;simp[Value.ownBlock] at hk;omega)
def FN (B:Nat) (w:World) (ps:List Int) (v:Value):Prop:=∃o c,v=.slice o ps.length c∧(ps=[]∨∃b off,o=some ⟨b,off,none⟩∧B≤b∧b<w.heap.size∧IntsAt w b off ps)∧ps.length≤c
theorem FN.fv {B:Nat} {w:World} {ps:List Int} {v:Value} (h:FN B w ps v):Fw.FV w ps v:=by
 obtain⟨o,c,h1,h2,h3⟩:=h
 exact⟨o,c,h1,h2.imp id (fun⟨b,off,k1,_,k3,k4⟩=>⟨b,off,k1,k3,k4⟩),h3⟩
theorem FN.of_blocks {B B':Nat} {w w':World} {ps:List Int} {v:Value} (h:FN B w ps v) (hB:B'≤B) (hs:w.heap.size≤w'.heap.size) (hk:∀b,B≤b→b<w.heap.size→w'.heap[b]? =w.heap[b]?):FN B' w' ps v:=by
 obtain⟨o,c,h1,h2,h3⟩:=h
 refine⟨o,c,h1,h2.imp id (fun⟨b,off,k1,k2,k3,k4⟩=>⟨b,off,k1,by omega,by omega,fun i hi=>(World.cell?_of_block (a:=⟨b,off+i,none⟩) (hk b k2 k3)).trans (k4 i hi)⟩),h3⟩
theorem FN.ext {B:Nat} {w w':World} {ps:List Int} {v:Value} (h:FN B w ps v) (k:Ext w w'):FN B w' ps v:=h.of_blocks (Nat.le_refl _) k.size (fun b _ hb=>Below.block k b hb)
theorem FN.setCell {B:Nat} {w:World} {ps:List Int} {v:Value} (h:FN B w ps v) {a:Addr} (ha:a.block<B) (u:Value):FN B (w.setCell a u) ps v:=h.of_blocks (Nat.le_refl _) (by simp) (fun b hb _=>blk_setCell_other _ _ _ _ (by omega))
theorem fn_own {w:World} {base:Nat} {v:Value} {ps:List Int} (h:w.ownsRow base 3 1 v ps.length (ps.map (Value.int .i64))):FN base w ps v:=by
 rcases h.2 with⟨h1,h2⟩ | ⟨g,c,cur,hv,_,_,h3,_⟩
 ·exact⟨none,0,by rw[h1,h2],Or.inl (List.eq_nil_of_length_eq_zero h2),by omega⟩
 ·subst hv
  refine⟨some ⟨g,0,none⟩,c,rfl,Or.inr ⟨g,0,rfl,(h.lt g rfl).1,(h.lt g rfl).2,fun i hi=>?_⟩,h3⟩
  rw[Nat.zero_add,h.cellAt i (by omega),List.getElem?_map,List.getElem?_eq_getElem hi]
  simp[List.getD_eq_getElem?_getD,hi]
theorem cloneInts_any (o:Option Addr) (c:Nat) (ps:List Int) (w:World) (hb:ps.length*8≤140737488351232) (hp:ListAt w o ps):
 Calls Try.prog 63 #[.slice o ps.length c] w fun e w'=>∃v',e=.returned v'∧FN w.heap.size w' ps v'∧Ext w w':=by
 cases o with
 | none=>
  have he:ps=[]:=by
   rcases hp with h | ⟨b,off,h,_⟩
   ·exact h
   ·cases h
  refine(cloneInts_nil ps.length c w).mono ?_
  rintro e w' ⟨rfl,rfl⟩
  exact⟨_,rfl,⟨none,0,by rw[he];rfl,Or.inl he,by rw[he];exact Nat.le_refl _⟩,Ext.refl _⟩
 | some ad=>
  refine(cloneInts_some ad ps.length c ps w rfl hb (fun j u hj=>?_)).mono ?_
  ·have hjn:j<ps.length:=by have:=(List.getElem?_eq_some_iff.1 hj).1;simpa using this
   rcases hp with rfl | ⟨b,off,h,hlt,hat⟩
   ·simp at hjn
   ·cases h
    rw[Addr.add_mid,World.cell?_alloc_past _ _ _ hlt,hat j hjn]
    rw[List.getElem?_map,List.getElem?_eq_getElem hjn] at hj
    simp at hj
    rw[←hj]
    simp[List.getD_eq_getElem?_getD,hjn]
  ·rintro e w' ⟨v',rfl,hown,hE⟩
   exact⟨v',rfl,fn_own hown,hE⟩
set_option maxHeartbeats 1000000 in
theorem copyOf_any (f:Stf.Fl) (vo no:Option Addr) (vc nc:Nat) (w:World) (hv:ListAt w vo f.via) (hvl:f.via.length≤16777216) (hn:ListAt w no f.nt) (hnl:f.nt.length≤16777216):
 Calls Try.prog 47 #[.agg #[.int .i64 f.fr,.int .i64 f.to,.slice vo f.via.length vc,.slice no f.nt.length nc]] w fun e w'=>∃v' n',e=.returned (.agg #[.int .i64 f.fr,.int .i64 f.to,v',n'])∧FN w.heap.size w' f.via v'∧FN w.heap.size w' f.nt n'∧Ext w w':=by
 obtain⟨fr,to,via,nt⟩:=f
 simp only at hv hvl hn hnl ⊢
 go_enter Try.func47,Try.ntmps47
 go_wp2_with fail
 refine(cloneInts_any vo vc via _ (by omega) (hv.ext (((Ext.refl w).alloc _).alloc _))).mono ?_
 rintro e w1 ⟨v',rfl,hv',E1⟩
 have hw1:Ext w w1:=(((Ext.refl w).alloc _).alloc _).trans E1
 have hs1:w.heap.size+1<w1.heap.size:=by have:=E1.size;simp at this;omega
 have hs0:w.heap.size<w1.heap.size:=by omega
 have q1:=E1.cells.1
 have g1:=E1.cells.2
 have b0:w1.cell? ⟨w.heap.size,0,none⟩=some (.int .i64 fr):=(q1 _ _ (by simp;omega)).trans (by simp)
 have b1:w1.cell? ⟨w.heap.size,1,none⟩=some (.int .i64 to):=(q1 _ _ (by simp;omega)).trans (by simp)
 have b2:w1.cell? ⟨w.heap.size,2,none⟩=some (.slice vo via.length vc):=(q1 _ _ (by simp;omega)).trans (by simp)
 have b3:w1.cell? ⟨w.heap.size,3,none⟩=some (.slice no nt.length nc):=(q1 _ _ (by simp;omega)).trans (by simp)
 have z0:w1.cell? ⟨w.heap.size+1,0,none⟩=some (.int .i64 0):=(q1 _ _ (by simp)).trans (by simp)
 have z1:w1.cell? ⟨w.heap.size+1,1,none⟩=some (.int .i64 0):=(q1 _ _ (by simp)).trans (by simp)
 have z2:w1.cell? ⟨w.heap.size+1,2,none⟩=some (.slice none 0 0):=(q1 _ _ (by simp)).trans (by simp)
 have z3:w1.cell? ⟨w.heap.size+1,3,none⟩=some (.slice none 0 0):=(q1 _ _ (by simp)).trans (by simp)
 have y0:∀i,w1.frozen? ⟨w.heap.size,i,none⟩=false:=fun i=>(g1 _ _ (by simp;omega)).trans (by simp)
 have y1:∀i,w1.frozen? ⟨w.heap.size+1,i,none⟩=false:=fun i=>(g1 _ _ (by simp)).trans (by simp)
 have hB1:w.heap.size+1+1≤((w.alloc (.cells #[.int .i64 fr,.int .i64 to,.slice vo via.length vc,.slice no nt.length nc] 55)).alloc (.cells #[.int .i64 0,.int .i64 0,.slice none 0 0,.slice none 0 0] 55)).heap.size:=by simp
 have hv2:FN (w.heap.size+1+1) w1 via v':=hv'.of_blocks hB1 (Nat.le_refl _) (fun _ _ _=>rfl)
 clear q1 g1 hB1 hv'
 obtain⟨vo',vc',rfl,hv3⟩:=hv2
 have hv4:FN (w.heap.size+1+1) w1 via (.slice vo' via.length vc'):=⟨vo',vc',rfl,hv3⟩
 clear hv3
 go_wp2_with fail
 refine(cloneInts_any no nc nt _ (by omega) (hn.ext (hw1.setCell (Nat.le_refl _) _))).mono ?_
 rintro e w2 ⟨n',rfl,hn',E2⟩
 have hw2:Ext w w2:=(hw1.setCell (Nat.le_refl _) _).trans E2
 have hs2:w.heap.size+1<w2.heap.size:=by have:=E2.size;simp at this;omega
 have hs02:w.heap.size<w2.heap.size:=by omega
 have q2:=E2.cells.1
 have g2:=E2.cells.2
 have k0:w.heap.size<(w1.setCell ⟨w.heap.size,2,none⟩ (.slice vo' via.length vc')).heap.size:=by simpa using hs0
 have k1:w.heap.size+1<(w1.setCell ⟨w.heap.size,2,none⟩ (.slice vo' via.length vc')).heap.size:=by simpa using hs1
 have c0:w2.cell? ⟨w.heap.size,0,none⟩=some (.int .i64 fr):=(q2 _ _ k0).trans ((World.cell?_setCell_other _ _ _ _ (by simp)).trans b0)
 have c1:w2.cell? ⟨w.heap.size,1,none⟩=some (.int .i64 to):=(q2 _ _ k0).trans ((World.cell?_setCell_other _ _ _ _ (by simp)).trans b1)
 have c2:w2.cell? ⟨w.heap.size,2,none⟩=some (.slice vo' via.length vc'):=(q2 _ _ k0).trans (World.cell?_setCell_same _ _ _ b2)
 have c3:w2.cell? ⟨w.heap.size,3,none⟩=some (.slice no nt.length nc):=(q2 _ _ k0).trans ((World.cell?_setCell_other _ _ _ _ (by simp)).trans b3)
 have x0:w2.cell? ⟨w.heap.size+1,0,none⟩=some (.int .i64 0):=(q2 _ _ k1).trans ((World.cell?_setCell_other _ _ _ _ (by simp)).trans z0)
 have x1:w2.cell? ⟨w.heap.size+1,1,none⟩=some (.int .i64 0):=(q2 _ _ k1).trans ((World.cell?_setCell_other _ _ _ _ (by simp)).trans z1)
 have x2:w2.cell? ⟨w.heap.size+1,2,none⟩=some (.slice none 0 0):=(q2 _ _ k1).trans ((World.cell?_setCell_other _ _ _ _ (by simp)).trans z2)
 have x3:w2.cell? ⟨w.heap.size+1,3,none⟩=some (.slice none 0 0):=(q2 _ _ k1).trans ((World.cell?_setCell_other _ _ _ _ (by simp)).trans z3)
 have t0:∀i,w2.frozen? ⟨w.heap.size,i,none⟩=false:=fun i=>(g2 _ _ k0).trans (by simpa using y0 i)
 have t1:∀i,w2.frozen? ⟨w.heap.size+1,i,none⟩=false:=fun i=>(g2 _ _ k1).trans (by simpa using y1 i)
 have hv5:FN (w.heap.size+1+1) w2 via (.slice vo' via.length vc'):=(hv4.setCell (a:=⟨w.heap.size,2,none⟩) (by simp;omega) _).ext E2
 have hn2:FN (w.heap.size+1+1) w2 nt n':=hn'.of_blocks (by have:=hs1;simp;omega) (Nat.le_refl _) (fun _ _ _=>rfl)
 clear q2 g2 b0 b1 b2 b3 z0 z1 z2 z3 y0 y1 hn' hv4 k0 k1
 obtain⟨no',nc',rfl,hn3⟩:=hn2
 have hn4:FN (w.heap.size+1+1) w2 nt (.slice no' nt.length nc'):=⟨no',nc',rfl,hn3⟩
 clear hn3
 go_wp2
 refine bodyPost_ret (v:=.agg #[.int .i64 fr,.int .i64 to,.slice vo' via.length vc',.slice no' nt.length nc']) (by simp[results,Try.results47,go_sem,x0,x1,x2,x3]) rfl ⟨_,_,rfl,?_,?_,?_⟩
 ·exact(((((hv5.setCell (by simp;omega) _).setCell (by simp) _).setCell (by simp) _).setCell (by simp) _).setCell (by simp) _).of_blocks (by omega) (Nat.le_refl _) (fun _ _ _=>rfl)
 ·exact(((((hn4.setCell (by simp;omega) _).setCell (by simp) _).setCell (by simp) _).setCell (by simp) _).setCell (by simp) _).of_blocks (by omega) (Nat.le_refl _) (fun _ _ _=>rfl)
 ·exact((((hw2.setCell (by simp) _).setCell (by simp) _).setCell (by simp) _).setCell (by simp) _).setCell (by simp) _
end Go.Proofs.Ytolclgbpjiokfaa
namespace Go.Proofs.Ytolclgbpjiokfaa
open Go.RowKit Go.Maps Stw Go.Deep Stp
def LQ (w:World) (Q:Nat→Prop) (ps:List Int) (v:Value):Prop:=∃o c,v=.slice o ps.length c∧(ps=[]∨∃b off,o=some ⟨b,off,none⟩∧Q b∧b<w.heap.size∧IntsAt w b off ps)∧ps.length≤c
theorem LQ.mono {w w':World} {Q Q':Nat→Prop} {ps:List Int} {v:Value} (h:LQ w Q ps v) (H:∀b,Q b→b<w.heap.size→Q' b∧b<w'.heap.size∧w'.heap[b]? =w.heap[b]?):LQ w' Q' ps v:=by
 obtain⟨o,c,h1,h2,h3⟩:=h
 refine⟨o,c,h1,h2.imp id (fun⟨b,off,k1,k2,k3,k4⟩=>?_),h3⟩
 obtain⟨r1,r2,r3⟩:=H b k2 k3
 exact⟨b,off,k1,r1,r2,fun i hi=>(World.cell?_of_block (a:=⟨b,off+i,none⟩) r3).trans (k4 i hi)⟩
theorem LQ.fv {w:World} {Q:Nat→Prop} {ps:List Int} {v:Value} (h:LQ w Q ps v):Fw.FV w ps v:=by
 obtain⟨o,c,h1,h2,h3⟩:=h
 exact⟨o,c,h1,h2.imp id (fun⟨b,off,k1,_,k3,k4⟩=>⟨b,off,k1,k3,k4⟩),h3⟩
theorem FN.lq {B:Nat} {w:World} {ps:List Int} {v:Value} (h:FN B w ps v):LQ w (fun b=>B≤b) ps v:=h
theorem LQ.one {w:World} {Q:Nat→Prop} {ps:List Int} {v:Value} (h:LQ w Q ps v):v.oneCell'=true:=by
 obtain⟨o,c,rfl,_⟩:=h
 rfl
def LQs (w:World) (Q:Nat→Prop):List (List Int)→List Value→Prop
 | [],[]=>True
 | p::ps,v::vs=>LQ w Q p v∧LQs w Q ps vs
 | _,_=>False
theorem LQs.mono {w w':World} {Q Q':Nat→Prop} (H:∀b,Q b→b<w.heap.size→Q' b∧b<w'.heap.size∧w'.heap[b]? =w.heap[b]?):∀{ps:List (List Int)} {vs:List Value},LQs w Q ps vs→LQs w' Q' ps vs
 | [],[],_=>trivial
 | [],_::_,h=>by cases h
 | _::_,[],h=>by cases h
 | _::_,_::_,h=>⟨h.1.mono H,LQs.mono H h.2⟩
theorem LQs.len {w:World} {Q:Nat→Prop}:∀{ps:List (List Int)} {vs:List Value},LQs w Q ps vs→vs.length=ps.length
 | [],[],_=>rfl
 | [],_::_,h=>by cases h
 | _::_,[],h=>by cases h
 | _::_,_::_,h=>by simp[LQs.len h.2]
theorem LQs.snoc {w:World} {Q:Nat→Prop} {p:List Int} {v:Value}:∀{ps:List (List Int)} {vs:List Value},LQs w Q ps vs→LQ w Q p v→LQs w Q (ps++[p]) (vs++[v])
 | [],[],_,k=>⟨k,trivial⟩
 | [],_::_,h,_=>by cases h
 | _::_,[],h,_=>by cases h
 | _::_,_::_,h,k=>⟨h.1,LQs.snoc h.2 k⟩
theorem LQs.get {w:World} {Q:Nat→Prop}:∀{ps:List (List Int)} {vs:List Value} {i:Nat},LQs w Q ps vs→i<ps.length→∃v,vs[i]? =some v∧LQ w Q (ps.getD i []) v
 | [],_,_,_,hi=>by simp at hi
 | _::_,[],_,h,_=>by cases h
 | _::_,v::_,0,h,_=>⟨v,rfl,h.1⟩
 | _::_,_::_,i+1,h,hi=>by
  obtain⟨v,h1,h2⟩:=LQs.get h.2 (i:=i) (by simpa using hi)
  exact⟨v,by simpa using h1,by simpa using h2⟩
def PthsAt (w:World) (qo:Option Addr) (ps:List (List Int)):Prop:=ps=[]∨∃g off,qo=some ⟨g,off,none⟩∧g<w.heap.size∧∀i,i<ps.length→∃v,w.cell? ⟨g,off+i,none⟩=some v∧Fw.FV w (ps.getD i []) v
theorem PthsAt.ext {w w':World} {qo:Option Addr} {ps:List (List Int)} (h:PthsAt w qo ps) (k:Ext w w'):PthsAt w' qo ps:=by
 rcases h with h | ⟨g,off,h1,h2,h3⟩
 ·exact Or.inl h
 ·refine Or.inr ⟨g,off,h1,Nat.lt_of_lt_of_le h2 k.size,fun i hi=>?_⟩
  obtain⟨v,k1,k2⟩:=h3 i hi
  exact⟨v,(k.cells.1 _ _ h2).trans k1,k2.ext k⟩
theorem pths_own {w:World} {base n:Nat} {e:TypeId} {v:Value} {vs:List Value} {ps:List (List Int)} {Q:Nat→Prop} (h:w.ownsRow base e 1 v n vs) (hp:LQs w Q ps vs):∃qo qc,v=.slice qo ps.length qc∧PthsAt w qo ps:=by
 have hl:=hp.len
 have hn:vs.length=n:=by have:=h.1;omega
 rcases h.2 with⟨h1,h2⟩ | ⟨g,c,cur,hv,_⟩
 ·have:ps=[]:=List.eq_nil_of_length_eq_zero (by omega)
  subst this
  exact⟨none,0,h1,Or.inl rfl⟩
 ·subst hv
  refine⟨some ⟨g,0,none⟩,c,by rw[←hl,hn],Or.inr ⟨g,0,rfl,(h.lt g rfl).2,fun i hi=>?_⟩⟩
  obtain⟨u,k1,k2⟩:=hp.get hi
  exact⟨u,by rw[Nat.zero_add,h.cellAt i (by omega)];exact k1,k2.fv⟩
def plnF (n version:Int) (ls:List Lk) (fs:List Stf.Fl):Int×Int:=
 if(wrong n ls).1≠0 then wrong n ls else if version<1∨1000<version then(3,0) else if(Stf.wflows fs n).1≠0 then Stf.wflows fs n
 else match Stf.firstBad (fun k=>(fnd n ls (fs.getD k Fw.f0)).1) fs.length with
  | some k=>((fnd n ls (fs.getD k Fw.f0)).1,(k:Int))
  | none=>(0,0)
def plnP (n:Int) (ls:List Lk) (fs:List Stf.Fl):List (List Int):=fs.map fun f=>(fnd n ls f).2
theorem plnP_take {n:Int} {ls:List Lk} {fs:List Stf.Fl} {k:Nat} (h:k<fs.length):(plnP n ls fs).take (k+1)=(plnP n ls fs).take k++[(fnd n ls (fs.getD k Fw.f0)).2]:=by
 have h':k<(plnP n ls fs).length:=by simpa[plnP] using h
 rw[List.take_succ_eq_append_getElem h']
 simp[plnP,List.getD_eq_getElem?_getD,h]
def PlanOut (w w':World) (e:Ending) (n version:Int) (ls:List Lk) (fs:List Stf.Fl):Prop:=
 ∃(pv:Int) (fo:Option Addr) (fl fc:Nat) (qo:Option Addr) (ql qc:Nat),e=.returned (.tuple #[.agg #[.int .i64 pv,.slice fo fl fc,.slice qo ql qc],.agg #[.int .i64 (plnF n version ls fs).1,.int .i64 (plnF n version ls fs).2]])∧Ext w w'∧
  (((plnF n version ls fs).1≠0∧pv=0∧fl=0∧ql=0)∨((plnF n version ls fs).1=0∧pv=version∧fl=fs.length∧Fw.FlowsAt w' fo fs∧ql=(plnP n ls fs).length∧PthsAt w' qo (plnP n ls fs)))
theorem plan_bad {w w':World} {n version:Int} {ls:List Lk} {fs:List Stf.Fl} {r:Int×Int} (h:plnF n version ls fs=r) (hr:r.1≠0) (hE:Ext w w'):PlanOut w w' (.returned (.tuple #[.agg #[.int .i64 0,.slice none 0 0,.slice none 0 0],.agg #[.int .i64 r.1,.int .i64 r.2]])) n version ls fs:=
 ⟨0,none,0,0,none,0,0,by rw[h],hE,Or.inl ⟨by rw[h];exact hr,rfl,rfl,rfl⟩⟩
theorem infoP:(Try.prog.info? 51).map (fun i=>(i.zero,i.size,i.bytes))=some (some (.slice none 0 0),1,24):=by kernel_rfl
theorem lqs_push {w w1 w':World} {B:Nat} {qv v' v:Value} {V:List Value} {ps:List (List Int)} {p:List Int} {ex:Nat→Prop} (hl:LQs w1 (fun b=>B≤b∧qv.ownBlock≠some b∧ex b) ps V) (hp:LQ w1 (fun b=>B≤b∧qv.ownBlock≠some b∧ex b) p v)
 (hs:w1.heap.size≤w.heap.size) (hb:∀b,b<w1.heap.size→w.heap[b]? =w1.heap[b]?) (hg:w.grownBy w' qv.ownBlock) (hat:v'.ownBlock=qv.ownBlock∨v'.ownBlock=some w.heap.size):
 LQs w' (fun b=>B≤b∧v'.ownBlock≠some b∧ex b) (ps++[p]) (V++[v]):=by
 have H:∀b,(B≤b∧qv.ownBlock≠some b∧ex b)→b<w1.heap.size→(B≤b∧v'.ownBlock≠some b∧ex b)∧b<w'.heap.size∧w'.heap[b]? =w1.heap[b]?:=fun b hQ hlt=>by
  have hs':=hg.size
  refine⟨⟨hQ.1,fun e=>?_,hQ.2.2⟩,by omega,(hg.block b (by omega) (fun e=>hQ.2.1 e.symm)).trans (hb b hlt)⟩
  rcases hat with h | h
  ·exact hQ.2.1 (h.symm.trans e)
  ·rw[h] at e;injection e with e;omega
 exact LQs.snoc (hl.mono H) (hp.mono H)
end Go.Proofs.Ytolclgbpjiokfaa
namespace Rul
abbrev Ru:=Int×Int×Int
end Rul
namespace Rul
open Go.Sort
def lt (a b:Ru):Bool:=decide (a.1<b.1∨a.1=b.1∧a.2.1<b.2.1)
def key (a:Ru):Int×Int:=(a.1,a.2.1)
theorem lt_true {a b:Ru}:lt a b=true↔(a.1<b.1∨a.1=b.1∧a.2.1<b.2.1):=by simp[lt]
theorem lt_false {a b:Ru}:lt a b=false↔¬(a.1<b.1∨a.1=b.1∧a.2.1<b.2.1):=by simp[lt]
theorem swo:SWO lt where
 irrefl x:=by rw[lt_false];omega
 trans x y z h1 h2:=by rw[lt_true] at *;omega
 ntrans x y z h1 h2:=by rw[lt_false] at *;omega
theorem lt_asymm {a b:Ru} (h:lt a b=true):lt b a=false:=by rw[lt_true] at h;rw[lt_false];omega
theorem lt_ne_key {a b:Ru} (h:lt a b=true):key a≠key b:=by
 rw[lt_true] at h;intro e;simp[key] at e;omega
theorem key_of_not {a b:Ru} (h1:lt a b=false) (h2:lt b a=false):key a=key b:=by
 rw[lt_false] at h1 h2;simp[key];omega
theorem lt_of_le_lt {a b c:Ru} (h1:lt b a=false) (h2:lt b c=true):lt a c=true:=by rw[lt_false] at h1;rw[lt_true] at *;omega
theorem lt_of_lt_le {a b c:Ru} (h1:lt a b=true) (h2:lt c b=false):lt a c=true:=by rw[lt_false] at h2;rw[lt_true] at *;omega
def fl (k:Int×Int) (l:List Ru):List Ru:=l.filter (fun r=>decide (key r=k))
def Sm (x y:List Ru):Prop:=∀k,fl k x=fl k y
theorem Sm.refl (x:List Ru):Sm x x:=fun _=>rfl
theorem Sm.symm {x y:List Ru} (h:Sm x y):Sm y x:=fun k=>(h k).symm
theorem Sm.trans {x y z:List Ru} (h:Sm x y) (g:Sm y z):Sm x z:=fun k=>(h k).trans (g k)
theorem fl_append (k:Int×Int) (x y:List Ru):fl k (x++y)=fl k x++fl k y:=by simp[fl]
theorem Sm.app {x y x' y':List Ru} (h:Sm x x') (g:Sm y y'):Sm (x++y) (x'++y'):=fun k=>by rw[fl_append,fl_append,h k,g k]
theorem mem_fl {k:Int×Int} {l:List Ru} {r:Ru}:r∈fl k l↔r∈l∧key r=k:=by simp[fl]
theorem Sm.mem {x y:List Ru} (h:Sm x y) {r:Ru} (hr:r∈x):r∈y:=by
 have:r∈fl (key r) x:=mem_fl.2 ⟨hr,rfl⟩
 rw[h] at this
 exact(mem_fl.1 this).1
theorem Sm.swap {x y:List Ru} (h:∀a∈x,∀b∈y,key a≠key b):Sm (x++y) (y++x):=fun k=>by
 rw[fl_append,fl_append]
 rcases hx:fl k x with _ | ⟨a,x'⟩
 ·simp
 ·have ha:a∈fl k x:=by rw[hx];simp
  have hy:fl k y=[]:=by
   refine List.eq_nil_iff_forall_not_mem.2 fun b hb=>?_
   have h1:=mem_fl.1 ha
   have h2:=mem_fl.1 hb
   exact h a h1.1 b h2.1 (h1.2.trans h2.2.symm)
  rw[hy];simp
def Srt (l:List Ru):Prop:=l.Pairwise (fun a b=>lt b a=false)
theorem srt_unique:∀{x y:List Ru},Srt x→Srt y→Sm x y→x=y
 | [],[],_,_,_=>rfl
 | [],b::y,_,_,h=>by
  have:=h.symm.mem (r:=b) (by simp)
  simp at this
 | a::x,[],_,_,h=>by
  have:=h.mem (r:=a) (by simp)
  simp at this
 | a::x,b::y,hx,hy,h=>by
  have hx':=List.pairwise_cons.1 hx
  have hy':=List.pairwise_cons.1 hy
  have ha:a∈b::y:=h.mem (by simp)
  have hb:b∈a::x:=h.symm.mem (by simp)
  have h1:lt a b=false:=by
   rcases List.mem_cons.1 ha with rfl | ha
   ·exact swo.irrefl _
   ·exact hy'.1 a ha
  have h2:lt b a=false:=by
   rcases List.mem_cons.1 hb with rfl | hb
   ·exact swo.irrefl _
   ·exact hx'.1 b hb
  have hk:=key_of_not h1 h2
  have e:=h (key a)
  simp only[fl,List.filter_cons,hk,decide_true,↓reduceIte] at e
  injection e with e1 e2
  subst e1
  have ht:Sm x y:=fun k=>by
   have:=h k
   simp only[fl,List.filter_cons] at this
   by_cases hk:key a=k
   ·simpa[hk,fl] using this
   ·simpa[hk,fl] using this
  rw[srt_unique hx'.2 hy'.2 ht]
theorem srt_append {x y:List Ru}:Srt (x++y)↔Srt x∧Srt y∧∀a∈x,∀b∈y,lt b a=false:=List.pairwise_append
theorem sym_ok {X1 X2 Y1 Y2 Z1 Z2:List Ru} (hX:Srt (X1++X2)) (hY:Srt (Y1++Y2)) (h1:∀x∈X2,∀y∈Y1,lt y x=true) (h2:∀x∈X1,∀y∈Y2,lt y x=false)
 (g1:Srt Z1) (g2:Srt Z2) (s1:Sm Z1 (X1++Y1)) (s2:Sm Z2 (X2++Y2)):Srt (Z1++Z2)∧Sm (Z1++Z2) ((X1++X2)++(Y1++Y2)):=by
 have hX':=srt_append.1 hX
 have hY':=srt_append.1 hY
 refine⟨srt_append.2 ⟨g1,g2,fun a ha b hb=>?_⟩,(s1.app s2).trans ?_⟩
 ·rcases List.mem_append.1 (s1.mem ha) with ha | ha <;> rcases List.mem_append.1 (s2.mem hb) with hb | hb
  ·exact hX'.2.2 a ha b hb
  ·exact h2 a ha b hb
  ·exact lt_asymm (h1 b hb a ha)
  ·exact hY'.2.2 a ha b hb
 ·have:Sm (Y1++X2) (X2++Y1):=Sm.swap fun a ha b hb=>lt_ne_key (h1 b hb a ha)
  have:=((Sm.refl X1).app this).app (Sm.refl Y2)
  simpa using this
theorem ins_front {x:Ru} {Y1 Y2:List Ru} (hY:Srt (Y1++Y2)) (h1:∀y∈Y1,lt y x=true) (h2:∀y∈Y2,lt y x=false):Srt (Y1++x::Y2)∧Sm (Y1++x::Y2) (x::(Y1++Y2)):=by
 have hY':=srt_append.1 hY
 refine⟨srt_append.2 ⟨hY'.1,List.pairwise_cons.2 ⟨h2,hY'.2.1⟩,fun a ha b hb=>?_⟩,?_⟩
 ·rcases List.mem_cons.1 hb with rfl | hb
  ·exact lt_asymm (h1 a ha)
  ·exact hY'.2.2 a ha b hb
 ·have:Sm (Y1++[x]) ([x]++Y1):=Sm.swap fun a ha b hb=>by
   rw[List.mem_singleton] at hb;subst hb;exact lt_ne_key (h1 a ha)
  simpa using this.app (Sm.refl Y2)
theorem ins_back {y:Ru} {X1 X2:List Ru} (hX:Srt (X1++X2)) (h1:∀x∈X1,lt y x=false) (h2:∀x∈X2,lt y x=true):Srt (X1++y::X2)∧Sm (X1++y::X2) (X1++X2++[y]):=by
 have hX':=srt_append.1 hX
 refine⟨srt_append.2 ⟨hX'.1,List.pairwise_cons.2 ⟨fun b hb=>lt_asymm (h2 b hb),hX'.2.1⟩,fun a ha b hb=>?_⟩,?_⟩
 ·rcases List.mem_cons.1 hb with rfl | hb
  ·exact h1 a ha
  ·exact hX'.2.2 a ha b hb
 ·have:Sm ([y]++X2) (X2++[y]):=Sm.swap fun a ha b hb=>by
   rw[List.mem_singleton] at ha;subst ha;exact lt_ne_key (h2 b hb)
  simpa using(Sm.refl X1).app this
def seg (d:Array Ru) (a b:Nat):List Ru:=(List.range' a (b - a)).map (fun i=>d[i]!)
theorem seg_length (d:Array Ru) (a b:Nat):(seg d a b).length=b - a:=by simp[seg]
theorem mem_seg {d:Array Ru} {a b:Nat} {r:Ru}:r∈seg d a b↔∃i,a≤i∧i<b∧d[i]! =r:=by
 simp only[seg,List.mem_map,List.mem_range'_1]
 constructor
 ·rintro⟨i,hi,h⟩;exact⟨i,by omega,by omega,h⟩
 ·rintro⟨i,h1,h2,h⟩;exact⟨i,⟨by omega,by omega⟩,h⟩
theorem seg_append (d:Array Ru) {a m b:Nat} (h1:a≤m) (h2:m≤b):seg d a b=seg d a m++seg d m b:=by
 simp only[seg]
 rw[←List.map_append]
 congr 1
 have:b - a=(m - a)+(b - m):=by omega
 rw[this, ←List.range'_append]
 congr 2;omega
theorem seg_nil (d:Array Ru) {a b:Nat} (h:b≤a):seg d a b=[]:=by simp[seg,show b - a=0 by omega]
theorem seg_one (d:Array Ru) (a:Nat):seg d a (a+1)=[d[a]!]:=by simp[seg]
theorem seg_shift {d d':Array Ru} {a a' b b':Nat} (hn:b' - a'=b - a) (h:∀i,i<b - a→d'[a'+i]! =d[a+i]!):seg d' a' b'=seg d a b:=by
 simp only[seg]
 refine List.ext_getElem (by simp[hn]) fun i h1 h2=>?_
 simp at h1 h2 ⊢
 exact h i h2
theorem seg_congr {d d':Array Ru} {a b:Nat} (h:∀i,a≤i→i<b→d'[i]! =d[i]!):seg d' a b=seg d a b:=seg_shift rfl fun i hi=>h _ (by omega) (by omega)
theorem seg_all (d:Array Ru):seg d 0 d.size=d.toList:=by
 refine List.ext_getElem (by simp[seg]) fun i h1 h2=>?_
 simp[seg] at h1 h2 ⊢
 rw[getElem!_pos d i h1]
theorem srt_seg {d:Array Ru} {a b:Nat}:Srt (seg d a b)↔SortedIn lt a b d:=by
 unfold Srt seg
 rw[List.pairwise_map]
 constructor
 ·intro h i j h1 h2 h3
  have h':=List.pairwise_iff_getElem.1 h (i - a) (j - a) (by simp;omega) (by simp;omega) (by omega)
  simpa[show a+(i - a)=i by omega,show a+(j - a)=j by omega] using h'
 ·intro h
  refine List.pairwise_iff_getElem.2 fun i j h1 h2 h3=>?_
  simp at h1 h2 ⊢
  exact h _ _ (by omega) (by omega) (by omega)
def Out (a b:Nat) (d d':Array Ru):Prop:=d'.size=d.size∧∀i,i<a∨b≤i→d'[i]! =d[i]!
theorem Out.refl (a b:Nat) (d:Array Ru):Out a b d d:=⟨rfl,fun _ _=>rfl⟩
theorem Out.trans {a b:Nat} {d d' d'':Array Ru} (h:Out a b d d') (g:Out a b d' d''):Out a b d d'':=⟨g.1.trans h.1,fun i hi=>(g.2 i hi).trans (h.2 i hi)⟩
theorem Out.wide {a b a' b':Nat} {d d':Array Ru} (h:Out a b d d') (h1:a'≤a) (h2:b≤b'):Out a' b' d d':=⟨h.1,fun i hi=>h.2 i (by omega)⟩
theorem Out.swp {a b i j:Nat} (d:Array Ru) (h1:a≤i) (h2:i<b) (h3:a≤j) (h4:j<b):Out a b d (swp d i j):=⟨size_swp _ _ _,fun k hk=>swp_other _ _ _ _ (by omega) (by omega)⟩
def Mrg (a b:Nat) (d d':Array Ru):Prop:=Out a b d d'∧SortedIn lt a b d'∧Sm (seg d' a b) (seg d a b)
theorem Out.seg_left {a b:Nat} {d d':Array Ru} (h:Out a b d d') {x y:Nat} (hy:y≤a):seg d' x y=seg d x y:=seg_congr fun i _ hi=>h.2 i (by omega)
theorem Out.seg_right {a b:Nat} {d d':Array Ru} (h:Out a b d d') {x y:Nat} (hx:b≤x):seg d' x y=seg d x y:=seg_congr fun i hi _=>h.2 i (by omega)
theorem Mrg.whole {a b n:Nat} {d d':Array Ru} (h:Mrg a b d d') (hab:a≤b) (hb:b≤n):Sm (seg d' 0 n) (seg d 0 n):=by
 rw[seg_append d' (Nat.zero_le a) (Nat.le_trans hab hb),seg_append d' hab hb,seg_append d (Nat.zero_le a) (Nat.le_trans hab hb),seg_append d hab hb,h.1.seg_left (Nat.le_refl _),h.1.seg_right (Nat.le_refl _)]
 exact(Sm.refl _).app (h.2.2.app (Sm.refl _))
theorem Out.sorted_left {a b:Nat} {d d':Array Ru} (h:Out a b d d') {x y:Nat} (hy:y≤a) (hs:SortedIn lt x y d):SortedIn lt x y d':=by
 rw[←srt_seg,h.seg_left hy,srt_seg];exact hs
theorem Out.sorted_right {a b:Nat} {d d':Array Ru} (h:Out a b d d') {x y:Nat} (hx:b≤x) (hs:SortedIn lt x y d):SortedIn lt x y d':=by
 rw[←srt_seg,h.seg_right hx,srt_seg];exact hs
theorem mrg_front {a b i:Nat} {d d':Array Ru} (hb:a+1≤i) (hib:i≤b) (hs:SortedIn lt (a+1) b d) (h1:∀t,a+1≤t→t<i→lt d[t]! d[a]! =true) (h2:∀t,i≤t→t<b→lt d[t]! d[a]! =false)
 (hsz:d'.size=d.size) (g1:∀t,a≤t→t<i - 1→d'[t]! =d[t+1]!) (g2:d'[i - 1]! =d[a]!) (g3:∀t,t<a∨i≤t→d'[t]! =d[t]!):Mrg a b d d':=by
 have e1:seg d' a (i - 1)=seg d (a+1) i:=seg_shift (by omega) fun t ht=>by rw[g1 _ (by omega) (by omega)];congr 1;omega
 have e2:seg d' (i - 1) i=[d[a]!]:=by
  have:=seg_one d' (i - 1)
  rwa [show i - 1+1=i by omega,g2] at this
 have e3:seg d' i b=seg d i b:=seg_congr fun t ht _=>g3 t (Or.inr ht)
 have hY:=srt_seg.2 hs
 rw[seg_append d (m:=i) hb hib] at hY
 have:=ins_front (x:=d[a]!) hY (fun y hy=>by obtain⟨t,t1,t2,rfl⟩:=mem_seg.1 hy;exact h1 t t1 t2) (fun y hy=>by obtain⟨t,t1,t2,rfl⟩:=mem_seg.1 hy;exact h2 t t1 t2)
 have e:seg d' a b=seg d (a+1) i++d[a]!::seg d i b:=by
  rw[seg_append d' (m:=i - 1) (by omega) (by omega),seg_append d' (a:=i - 1) (m:=i) (by omega) hib,e1,e2,e3];simp
 have e':seg d a b=d[a]!::(seg d (a+1) i++seg d i b):=by
  rw[seg_append d (m:=a+1) (by omega) (by omega),seg_one,seg_append d hb hib];simp
 exact⟨⟨hsz,fun t ht=>g3 t (by omega)⟩,by rw[←srt_seg,e];exact this.1,by rw[e,e'];exact this.2⟩
theorem mrg_back {a m i:Nat} {d d':Array Ru} (hb:a≤i) (him:i≤m) (hs:SortedIn lt a m d) (h1:∀t,a≤t→t<i→lt d[m]! d[t]! =false) (h2:∀t,i≤t→t<m→lt d[m]! d[t]! =true)
 (hsz:d'.size=d.size) (g1:∀t,i<t→t≤m→d'[t]! =d[t - 1]!) (g2:d'[i]! =d[m]!) (g3:∀t,t<i∨m<t→d'[t]! =d[t]!):Mrg a (m+1) d d':=by
 have e1:seg d' (i+1) (m+1)=seg d i m:=seg_shift (by omega) fun t ht=>by rw[g1 _ (by omega) (by omega)];congr 1;omega
 have e2:seg d' i (i+1)=[d[m]!]:=by rw[seg_one,g2]
 have e3:seg d' a i=seg d a i:=seg_congr fun t _ ht=>g3 t (Or.inl ht)
 have hX:=srt_seg.2 hs
 rw[seg_append d (m:=i) hb him] at hX
 have:=ins_back (y:=d[m]!) hX (fun y hy=>by obtain⟨t,t1,t2,rfl⟩:=mem_seg.1 hy;exact h1 t t1 t2) (fun y hy=>by obtain⟨t,t1,t2,rfl⟩:=mem_seg.1 hy;exact h2 t t1 t2)
 have e:seg d' a (m+1)=seg d a i++d[m]!::seg d i m:=by
  rw[seg_append d' (m:=i) hb (by omega),seg_append d' (a:=i) (m:=i+1) (by omega) (by omega),e1,e2,e3];simp
 have e':seg d a (m+1)=seg d a i++seg d i m++[d[m]!]:=by
  rw[seg_append d (m:=m) (by omega) (by omega),seg_one,seg_append d hb him]
 exact⟨⟨hsz,fun t ht=>g3 t (by omega)⟩,by rw[←srt_seg,e];exact this.1,by rw[e,e'];exact this.2⟩
structure Rot (a m b:Nat) (d d':Array Ru):Prop where
 out:Out a b d d'
 left:∀t,t<b - m→d'[a+t]! =d[m+t]!
 right:∀t,t<m - a→d'[a+(b - m)+t]! =d[a+t]!
theorem Rot.triv_left {a b:Nat} (d:Array Ru):Rot a a b d d:=⟨Out.refl _ _ _,fun _ _=>rfl,fun t ht=>by omega⟩
theorem Rot.triv_right {a b:Nat} (d:Array Ru):Rot a b b d d:=⟨Out.refl _ _ _,fun t ht=>by omega,fun t ht=>by congr 1;omega⟩
structure Swr (a b n:Nat) (d d':Array Ru):Prop where
 size:d'.size=d.size
 left:∀t,t<n→d'[a+t]! =d[b+t]!
 right:∀t,t<n→d'[b+t]! =d[a+t]!
 out:∀t,(t<a∨a+n≤t)→(t<b∨b+n≤t)→d'[t]! =d[t]!
theorem Swr.zero (a b:Nat) (d:Array Ru):Swr a b 0 d d:=⟨rfl,fun t h=>by omega,fun t h=>by omega,fun _ _ _=>rfl⟩
theorem Swr.succ {a b n:Nat} {d d':Array Ru} (h:Swr a b n d d') (hab:a+n<b) (hb:b+n<d.size):Swr a b (n+1) d (swp d' (a+n) (b+n)):=by
 have ha:a+n<d'.size:=by rw[h.size];omega
 have hb':b+n<d'.size:=by rw[h.size];omega
 refine⟨by rw[size_swp,h.size],fun t ht=>?_,fun t ht=>?_,fun t h1 h2=>?_⟩
 ·by_cases e:t=n
  ·subst e;rw[swp_left _ _ _ ha (by omega),h.out _ (by omega) (by omega)]
  ·rw[swp_other _ _ _ _ (by omega) (by omega)];exact h.left t (by omega)
 ·by_cases e:t=n
  ·subst e;rw[swp_right _ _ _ hb',h.out _ (by omega) (by omega)]
  ·rw[swp_other _ _ _ _ (by omega) (by omega)];exact h.right t (by omega)
 ·rw[swp_other _ _ _ _ (by omega) (by omega)];exact h.out t (by omega) (by omega)
structure Rtg (a m b i j:Nat) (d d':Array Ru):Prop where
 size:d'.size=d.size
 ia:a+i≤m
 jb:m+j≤b
 out:∀t,t<a∨b≤t→d'[t]! =d[t]!
 done:∀D:Array Ru,Rot (m - i) m (m+j) d' D→Rot a m b d D
theorem Rtg.start {a m b:Nat} {d:Array Ru} (h1:a≤m) (h2:m≤b):Rtg a m b (m - a) (b - m) d d:=
 ⟨rfl,by omega,by omega,fun _ _=>rfl,fun D h=>by rwa [show m - (m - a)=a by omega,show m+(b - m)=b by omega] at h⟩
theorem Rtg.more {a m b i j:Nat} {d d1 d2:Array Ru} (h:Rtg a m b i j d d1) (hij:j<i) (s:Swr (m - i) m j d1 d2):Rtg a m b (i - j) j d d2:=by
 have:=h.ia
 have:=h.jb
 refine⟨s.size.trans h.size,by omega,h.jb,fun t ht=>(s.out t (by omega) (by omega)).trans (h.out t ht),fun D hD=>h.done D ⟨⟨hD.out.1.trans s.size,fun t ht=>?_⟩,fun t ht=>?_,fun t ht=>?_⟩⟩
 ·rw[hD.out.2 t (by omega)];exact s.out t (by omega) (by omega)
 ·rw[hD.out.2 _ (by omega),s.left t (by omega)]
 ·by_cases e:t<j
  ·have:=hD.left t (by omega)
   rw[show m - (i - j)+t=m - i+(m+j - m)+t by omega] at this
   rw[this,s.right t e]
  ·have:=hD.right (t - j) (by omega)
   rw[show m - (i - j)+(m+j - m)+(t - j)=m - i+(m+j - m)+t by omega,show m - (i - j)+(t - j)=m - i+t by omega] at this
   rw[this,s.out _ (by omega) (by omega)]
theorem Rtg.less {a m b i j:Nat} {d d1 d2:Array Ru} (h:Rtg a m b i j d d1) (hij:i<j) (s:Swr (m - i) (m+j - i) i d1 d2):Rtg a m b i (j - i) d d2:=by
 have:=h.ia
 have:=h.jb
 refine⟨s.size.trans h.size,h.ia,by omega,fun t ht=>(s.out t (by omega) (by omega)).trans (h.out t ht),fun D hD=>h.done D ⟨⟨hD.out.1.trans s.size,fun t ht=>?_⟩,fun t ht=>?_,fun t ht=>?_⟩⟩
 ·rw[hD.out.2 t (by omega)];exact s.out t (by omega) (by omega)
 ·by_cases e:t<j - i
  ·rw[hD.left t (by omega),s.out _ (by omega) (by omega)]
  ·have:=hD.right (t - (j - i)) (by omega)
   rw[show m - i+(m+(j - i) - m)+(t - (j - i))=m - i+t by omega] at this
   have e2:=s.left (t - (j - i)) (by omega)
   rw[this,e2];congr 1;omega
 ·rw[hD.out.2 _ (by omega)]
  have:=s.right t (by omega)
  rw[show m+j - i+t=m - i+(m+j - m)+t by omega] at this
  rw[this]
theorem Rtg.last {a m b i:Nat} {d d1 d2:Array Ru} (h:Rtg a m b i i d d1) (s:Swr (m - i) m i d1 d2):Rot a m b d d2:=by
 have:=h.ia
 have:=h.jb
 refine h.done d2 ⟨⟨s.size,fun t ht=>s.out t (by omega) (by omega)⟩,fun t ht=>s.left t (by omega),fun t ht=>?_⟩
 have:=s.right t (by omega)
 rw[show m+t=m - i+(m+i - m)+t by omega] at this
 exact this
theorem mrg_sym {a m b mid s:Nat} {d d1 d2 d3:Array Ru} (ham:a≤m) (hmb:m≤b) (h1:a≤mid) (h2:mid≤b) (sX:SortedIn lt a m d) (sY:SortedIn lt m b d)
 (hlo:a≤s) (hlo':mid+m≤b+s) (hhi:s≤m) (hhi':s≤mid)
 (q1:a<s→mid+m<b+s→lt d[mid+m - s]! d[s - 1]! =false) (q2:s<m→s<mid→lt d[mid+m - 1 - s]! d[s]! =true)
 (hr:Rot s m (mid+m - s) d d1) (g1:Mrg a mid d1 d2) (g2:Mrg mid b d2 d3):Mrg a b d d3:=by
 have eX:=seg_append d hlo hhi
 have eY:=seg_append d (a:=m) (m:=mid+m - s) (b:=b) (by omega) (by omega)
 have hX:Srt (seg d a s++seg d s m):=by rw[←eX,srt_seg];exact sX
 have hY:Srt (seg d m (mid+m - s)++seg d (mid+m - s) b):=by rw[←eY,srt_seg];exact sY
 have f1:seg d1 a mid=seg d a s++seg d m (mid+m - s):=by
  rw[seg_append d1 hlo hhi',hr.out.seg_left (Nat.le_refl _)]
  congr 1
  exact seg_shift (by omega) fun t ht=>hr.left t (by omega)
 have f2:seg d1 mid b=seg d s m++seg d (mid+m - s) b:=by
  rw[seg_append d1 (a:=mid) (m:=mid+m - s) (by omega) (by omega),hr.out.seg_right (Nat.le_refl _)]
  congr 1
  refine seg_shift (by omega) fun t ht=>?_
  have:=hr.right t (by omega)
  rwa [show s+(mid+m - s - m)+t=mid+t by omega] at this
 have hle1:∀x∈seg d s m,∀y∈seg d m (mid+m - s),lt y x=true:=fun x hx y hy=>by
  obtain⟨i,i1,i2,rfl⟩:=mem_seg.1 hx
  obtain⟨j,j1,j2,rfl⟩:=mem_seg.1 hy
  have hq:=q2 (by omega) (by omega)
  have k1:lt d[i]! d[s]! =false:=by
   by_cases e:i=s
   ·subst e;exact swo.irrefl _
   ·exact sX _ _ (by omega) (by omega) (by omega)
  have k2:lt d[mid+m - 1 - s]! d[j]! =false:=by
   by_cases e:j=mid+m - 1 - s
   ·subst e;exact swo.irrefl _
   ·exact sY _ _ (by omega) (by omega) (by omega)
  exact lt_of_le_lt k2 (lt_of_lt_le hq k1)
 have hle2:∀x∈seg d a s,∀y∈seg d (mid+m - s) b,lt y x=false:=fun x hx y hy=>by
  obtain⟨i,i1,i2,rfl⟩:=mem_seg.1 hx
  obtain⟨j,j1,j2,rfl⟩:=mem_seg.1 hy
  have hq:=q1 (by omega) (by omega)
  have k1:lt d[s - 1]! d[i]! =false:=by
   by_cases e:i=s - 1
   ·subst e;exact swo.irrefl _
   ·exact sX _ _ (by omega) (by omega) (by omega)
  have k2:lt d[j]! d[mid+m - s]! =false:=by
   by_cases e:j=mid+m - s
   ·subst e;exact swo.irrefl _
   ·exact sY _ _ (by omega) (by omega) (by omega)
  exact swo.ntrans _ _ _ k2 (swo.ntrans _ _ _ hq k1)
 have z1:seg d3 a mid=seg d2 a mid:=g2.1.seg_left (Nat.le_refl _)
 have z2:seg d2 mid b=seg d1 mid b:=g1.1.seg_right (Nat.le_refl _)
 have r:=sym_ok hX hY hle1 hle2 (Z1:=seg d3 a mid) (Z2:=seg d3 mid b) (by rw[z1,srt_seg];exact g1.2.1) (srt_seg.2 g2.2.1) (by rw[z1, ←f1];exact g1.2.2) (by rw[←f2, ←z2];exact g2.2.2)
 rw[←eX, ←eY, ←seg_append d ham hmb, ←seg_append d3 h1 h2] at r
 exact⟨((hr.out.wide hlo (by omega)).trans (g1.1.wide (Nat.le_refl _) h2)).trans (g2.1.wide h1 (Nat.le_refl _)),srt_seg.1 r.1,r.2⟩
theorem rot_sorted {a m b mid s:Nat} {d d1:Array Ru} (sX:SortedIn lt a m d) (sY:SortedIn lt m b d) (hlo':mid+m≤b+s) (hhi:s≤m) (hhi':s≤mid) (_:a≤s)
 (hr:Rot s m (mid+m - s) d d1):SortedIn lt a s d1∧SortedIn lt s mid d1∧SortedIn lt mid (mid+m - s) d1∧SortedIn lt (mid+m - s) b d1:=by
 have f1:seg d1 s mid=seg d m (mid+m - s):=seg_shift (by omega) fun t ht=>hr.left t (by omega)
 have f2:seg d1 mid (mid+m - s)=seg d s m:=by
  refine seg_shift (by omega) fun t ht=>?_
  have:=hr.right t (by omega)
  rwa [show s+(mid+m - s - m)+t=mid+t by omega] at this
 have s1:SortedIn lt a s d:=fun i j h1 h2 h3=>sX i j h1 h2 (by omega)
 have s2:SortedIn lt s m d:=fun i j h1 h2 h3=>sX i j (by omega) h2 h3
 have s3:SortedIn lt m (mid+m - s) d:=fun i j h1 h2 h3=>sY i j h1 h2 (by omega)
 have s4:SortedIn lt (mid+m - s) b d:=fun i j h1 h2 h3=>sY i j (by omega) h2 h3
 exact⟨hr.out.sorted_left (Nat.le_refl _) s1,by rw[←srt_seg,f1,srt_seg];exact s3,by rw[←srt_seg,f2,srt_seg];exact s2,hr.out.sorted_right (Nat.le_refl _) s4⟩
theorem Mrg.same {a b:Nat} {d:Array Ru} (h:SortedIn lt a b d):Mrg a b d d:=⟨Out.refl _ _ _,h,Sm.refl _⟩
end Rul
