/- What within and shapes answer: whether a number is from one to another; a map of the kinds of orders, with how many entries their lists have at most and how many bytes each. -/
import Derived.Test.YtolclgbpjiokfaaU07
import Derived.Test.YtolclgbpjiokfaaU08
import Derived.Maps.OwnSet
namespace Go.Proofs.Ytolclgbpjiokfaa
open Go.RowKit Go.Maps Stw Go.Deep Stp
theorem plnF_wrong {n version:Int} {ls:List Lk} {fs:List Stf.Fl} (h:(wrong n ls).1≠0):plnF n version ls fs=wrong n ls:=by unfold plnF;rw[if_pos h]
theorem plnF_range {n version:Int} {ls:List Lk} {fs:List Stf.Fl} (h:(wrong n ls).1=0) (h1:version<1∨1000<version):plnF n version ls fs=(3,0):=by unfold plnF;rw[if_neg (by simp[h]),if_pos h1]
theorem plnF_flows {n version:Int} {ls:List Lk} {fs:List Stf.Fl} (h:(wrong n ls).1=0) (h1:¬(version<1∨1000<version)) (h2:(Stf.wflows fs n).1≠0):plnF n version ls fs=Stf.wflows fs n:=by unfold plnF;rw[if_neg (by simp[h]),if_neg h1,if_pos h2]
theorem plnF_bad {n version:Int} {ls:List Lk} {fs:List Stf.Fl} {k:Nat} (h:(wrong n ls).1=0) (h1:¬(version<1∨1000<version)) (h2:(Stf.wflows fs n).1=0) (hk:k<fs.length) (hp:∀j,j<k→(fnd n ls (fs.getD j Fw.f0)).1=0) (hb:(fnd n ls (fs.getD k Fw.f0)).1≠0):plnF n version ls fs=((fnd n ls (fs.getD k Fw.f0)).1,(k:Int)):=by
 unfold plnF
 rw[if_neg (by simp[h]),if_neg h1,if_neg (by simp[h2]),Stf.firstBad_some hk hp hb]
theorem plnF_good {n version:Int} {ls:List Lk} {fs:List Stf.Fl} (h:(wrong n ls).1=0) (h1:¬(version<1∨1000<version)) (h2:(Stf.wflows fs n).1=0) (hp:∀j,j<fs.length→(fnd n ls (fs.getD j Fw.f0)).1=0):plnF n version ls fs=(0,0):=by
 unfold plnF
 rw[if_neg (by simp[h]),if_neg h1,if_neg (by simp[h2]),Stf.firstBad_none hp]
theorem own_extU {w w':World} {base:Nat} {e:TypeId} {size n:Nat} {v:Value} {xs:List Value} (h:w.ownsRow base e size v n xs) (k:Ext w w'):w'.ownsRow base e size v n xs:=by
 refine⟨h.1,?_⟩
 rcases h.2 with h2 | ⟨g,cap,cur,h1,h2,h3,h4⟩
 ·exact Or.inl h2
 ·exact Or.inr ⟨g,cap,cur,h1,h2,(Below.block k g (Array.getElem?_eq_some_iff.1 h3).1).trans h3,h4⟩
theorem wflows_len {n:Int} {fs:List Stf.Fl} (h:(Stf.wflows fs n).1=0):fs.length≤12:=by
 by_cases h1:12<fs.length
 ·rw[Stf.wflows,if_pos h1] at h;simp at h
 ·omega
structure PB (w w1:World) (n:Int) (ao:Option Addr) (len cap:Nat):Prop where
 sz:w.heap.size+1+1<w1.heap.size
 n0:w1.cell? ⟨w.heap.size,0,none⟩=some (.int .i64 n)
 n1:w1.cell? ⟨w.heap.size,1,none⟩=some (.slice ao len cap)
 p0:w1.cell? ⟨w.heap.size+1,0,none⟩=some (.int .i64 0)
 p1:w1.cell? ⟨w.heap.size+1,1,none⟩=some (.slice none 0 0)
 p2:w1.cell? ⟨w.heap.size+1,2,none⟩=some (.slice none 0 0)
 f0:w1.cell? ⟨w.heap.size+1+1,0,none⟩=some (.int .i64 0)
 f1:w1.cell? ⟨w.heap.size+1+1,1,none⟩=some (.int .i64 0)
 z1:∀i,w1.frozen? ⟨w.heap.size+1,i,none⟩=false
 z2:∀i,w1.frozen? ⟨w.heap.size+1+1,i,none⟩=false
theorem PB.below {w w1 w2:World} {n:Int} {ao:Option Addr} {len cap B:Nat} (h:PB w w1 n ao len cap) (k:Below B w1 w2) (hB:w.heap.size+1+1<B):PB w w2 n ao len cap:=by
 have hs:=k.size
 have e0:w.heap.size<B:=by omega
 have e1:w.heap.size+1<B:=by omega
 exact⟨by have:=h.sz;omega,(k.cell (p:=⟨w.heap.size,0,none⟩) e0).trans h.n0,(k.cell (p:=⟨w.heap.size,1,none⟩) e0).trans h.n1,(k.cell (p:=⟨w.heap.size+1,0,none⟩) e1).trans h.p0,(k.cell (p:=⟨w.heap.size+1,1,none⟩) e1).trans h.p1,(k.cell (p:=⟨w.heap.size+1,2,none⟩) e1).trans h.p2,
  (k.cell (p:=⟨w.heap.size+1+1,0,none⟩) hB).trans h.f0,(k.cell (p:=⟨w.heap.size+1+1,1,none⟩) hB).trans h.f1,fun i=>(k.frozen (p:=⟨w.heap.size+1,i,none⟩) e1).trans (h.z1 i),fun i=>(k.frozen (p:=⟨w.heap.size+1+1,i,none⟩) hB).trans (h.z2 i)⟩
theorem PB.ext {w w1 w2:World} {n:Int} {ao:Option Addr} {len cap:Nat} (h:PB w w1 n ao len cap) (k:Ext w1 w2):PB w w2 n ao len cap:=h.below k h.sz
theorem box_cell {w:World} {b:Nat} {A:Array Value} {t:TypeId} (h:w.heap[b]? =some (.cells A t (0,0))) (i:Nat):w.cell? ⟨b,i,none⟩=A[i]?:=cell_of_row _ _ _ A t (0,0) h
theorem box_frozen {w:World} {b:Nat} {A:Array Value} {t:TypeId} (h:w.heap[b]? =some (.cells A t (0,0))) (i:Nat):w.frozen? ⟨b,i,none⟩=false:=by simp[World.frozen?,h]
theorem PB.start (w:World) (n:Int) (ao:Option Addr) (len cap:Nat):PB w (((w.alloc (.cells #[.int .i64 n,.slice ao len cap] 24)).alloc (.cells #[.int .i64 0,.slice none 0 0,.slice none 0 0] 30)).alloc (.cells #[.int .i64 0,.int .i64 0] 44)) n ao len cap:=by
 have h0:(((w.alloc (.cells #[.int .i64 n,.slice ao len cap] 24)).alloc (.cells #[.int .i64 0,.slice none 0 0,.slice none 0 0] 30)).alloc (.cells #[.int .i64 0,.int .i64 0] 44)).heap[w.heap.size]? =some (.cells #[.int .i64 n,.slice ao len cap] 24 (0,0)):=
  (blk_alloc_lt _ _ _ (by simp;omega)).trans ((blk_alloc_lt _ _ _ (by simp)).trans (blk_alloc_new _ _))
 have h1:(((w.alloc (.cells #[.int .i64 n,.slice ao len cap] 24)).alloc (.cells #[.int .i64 0,.slice none 0 0,.slice none 0 0] 30)).alloc (.cells #[.int .i64 0,.int .i64 0] 44)).heap[w.heap.size+1]? =some (.cells #[.int .i64 0,.slice none 0 0,.slice none 0 0] 30 (0,0)):=by
  have:=blk_alloc_new (w.alloc (.cells #[.int .i64 n,.slice ao len cap] 24)) (.cells #[.int .i64 0,.slice none 0 0,.slice none 0 0] 30)
  rw[World.size_alloc] at this
  exact(blk_alloc_lt _ _ _ (by simp)).trans this
 have h2:(((w.alloc (.cells #[.int .i64 n,.slice ao len cap] 24)).alloc (.cells #[.int .i64 0,.slice none 0 0,.slice none 0 0] 30)).alloc (.cells #[.int .i64 0,.int .i64 0] 44)).heap[w.heap.size+1+1]? =some (.cells #[.int .i64 0,.int .i64 0] 44 (0,0)):=by
  have:=blk_alloc_new ((w.alloc (.cells #[.int .i64 n,.slice ao len cap] 24)).alloc (.cells #[.int .i64 0,.slice none 0 0,.slice none 0 0] 30)) (.cells #[.int .i64 0,.int .i64 0] 44)
  rw[World.size_alloc,World.size_alloc] at this
  exact this
 exact⟨by simp,box_cell h0 0,box_cell h0 1,box_cell h1 0,box_cell h1 1,box_cell h1 2,box_cell h2 0,box_cell h2 1,fun i=>box_frozen h1 i,fun i=>box_frozen h2 i⟩
structure C5 (W:World) (A B:Nat) (v0 v1 v2 u0 u1:Value):Prop where
 a0:W.cell? ⟨A,0,none⟩=some v0
 a1:W.cell? ⟨A,1,none⟩=some v1
 a2:W.cell? ⟨A,2,none⟩=some v2
 b0:W.cell? ⟨B,0,none⟩=some u0
 b1:W.cell? ⟨B,1,none⟩=some u1
theorem C5.alloc {W:World} {A B:Nat} {v0 v1 v2 u0 u1:Value} (h:C5 W A B v0 v1 v2 u0 u1) (hA:A<W.heap.size) (hB:B<W.heap.size) (o:Obj):C5 (W.alloc o) A B v0 v1 v2 u0 u1:=
 ⟨(World.cell?_alloc_past _ _ _ hA).trans h.a0,(World.cell?_alloc_past _ _ _ hA).trans h.a1,(World.cell?_alloc_past _ _ _ hA).trans h.a2,(World.cell?_alloc_past _ _ _ hB).trans h.b0,(World.cell?_alloc_past _ _ _ hB).trans h.b1⟩
theorem C5.drew {W:World} {A B:Nat} {v0 v1 v2 u0 u1:Value} (h:C5 W A B v0 v1 v2 u0 u1):C5 W.drew A B v0 v1 v2 u0 u1:=⟨h.a0,h.a1,h.a2,h.b0,h.b1⟩
theorem c5_sets {W:World} {A B:Nat} {x0 x1 x2 y0 y1 v0 v1 v2 u0 u1:Value} (hAB:A≠B) (h:C5 W A B x0 x1 x2 y0 y1):C5 (((((W.setCell ⟨A,0,none⟩ v0).setCell ⟨A,1,none⟩ v1).setCell ⟨A,2,none⟩ v2).setCell ⟨B,0,none⟩ u0).setCell ⟨B,1,none⟩ u1) A B v0 v1 v2 u0 u1:=by
 have ne:∀{a b c d:Nat},a≠c∨b≠d→(⟨a,b,none⟩:Addr)≠⟨c,d,none⟩:=fun {a b c d} h e=>by cases e;simp at h
 have oth:∀(X:World) {a b c d:Nat} (v:Value),a≠c∨b≠d→(X.setCell ⟨c,d,none⟩ v).cell? ⟨a,b,none⟩=X.cell? ⟨a,b,none⟩:=fun X {a b c d} v h=>World.cell?_setCell_other X ⟨c,d,none⟩ ⟨a,b,none⟩ v (fun e=>by cases e;simp at h)
 refine⟨?_,?_,?_,?_,?_⟩
 ·rw[oth _ _ (Or.inl hAB),oth _ _ (Or.inl hAB),oth _ _ (Or.inr (by decide)),oth _ _ (Or.inr (by decide)),World.cell?_setCell_same _ _ _ h.a0]
 ·rw[oth _ _ (Or.inl hAB),oth _ _ (Or.inl hAB),oth _ _ (Or.inr (by decide)),World.cell?_setCell_same _ _ _ ((oth _ _ (Or.inr (by decide))).trans h.a1)]
 ·rw[oth _ _ (Or.inl hAB),oth _ _ (Or.inl hAB),World.cell?_setCell_same _ _ _ ((oth _ _ (Or.inr (by decide))).trans ((oth _ _ (Or.inr (by decide))).trans h.a2))]
 ·have hBA:B≠A:=fun e=>hAB e.symm
  rw[oth _ _ (Or.inr (by decide)),World.cell?_setCell_same _ _ _ ((oth _ _ (Or.inl hBA)).trans ((oth _ _ (Or.inl hBA)).trans ((oth _ _ (Or.inl hBA)).trans h.b0)))]
 ·have hBA:B≠A:=fun e=>hAB e.symm
  rw[World.cell?_setCell_same _ _ _ ((oth _ _ (Or.inr (by decide))).trans ((oth _ _ (Or.inl hBA)).trans ((oth _ _ (Or.inl hBA)).trans ((oth _ _ (Or.inl hBA)).trans h.b1))))]
theorem PB.c5 {w w1:World} {n:Int} {ao:Option Addr} {len cap:Nat} (h:PB w w1 n ao len cap):C5 w1 (w.heap.size+1) (w.heap.size+1+1) (.int .i64 0) (.slice none 0 0) (.slice none 0 0) (.int .i64 0) (.int .i64 0):=⟨h.p0,h.p1,h.p2,h.f0,h.f1⟩
theorem plan_ret {W:World} {A B:Nat} {v0 v1 v2 u0 u1:Value} {fn:Func} {tmps:Array Value} (hres:fn.results=#[.cell 6 30,.cell 7 44]) (h6:tmps.getD 6 undef=.pointer (some ⟨A,0,none⟩)) (h7:tmps.getD 7 undef=.pointer (some ⟨B,0,none⟩)) (h:C5 W A B v0 v1 v2 u0 u1):
 (results fn tmps).run Try.prog W=.ok (.tuple #[.agg #[v0,v1,v2],.agg #[u0,u1]]) W:=by
 have e1:(loadVar 30 ⟨A,0,none⟩).run Try.prog W=.ok (.agg [v0,v1,v2].toArray) W:=run_loadVar_mid W A 0 30 [v0,v1,v2] _ (fun j v hj=>by
  rw[Nat.zero_add]
  match j,hj with
  | 0,hj=>simp at hj;subst hj;exact h.a0
  | 1,hj=>simp at hj;subst hj;exact h.a1
  | 2,hj=>simp at hj;subst hj;exact h.a2) Try.underlying30 rfl (by kernel_rfl)
 have e2:(loadVar 44 ⟨B,0,none⟩).run Try.prog W=.ok (.agg [u0,u1].toArray) W:=run_loadVar_mid W B 0 44 [u0,u1] _ (fun j v hj=>by
  rw[Nat.zero_add]
  match j,hj with
  | 0,hj=>simp at hj;subst hj;exact h.b0
  | 1,hj=>simp at hj;subst hj;exact h.b1) Try.underlying44 rfl (by kernel_rfl)
 have h6':tmps[6]?.getD undef=.pointer (some ⟨A,0,none⟩):=by simpa using h6
 have h7':tmps[7]?.getD undef=.pointer (some ⟨B,0,none⟩):=by simpa using h7
 simp[results,hres,h6',h7',asAddr,e1,e2]
theorem news1' {W:World} {n:Nat} (h:W.heap.size=n) (v:Value) (T:TypeId):∀(j:Nat) (u:Value),[v][j]? =some u→(W.alloc (.cells #[v] T)).cell? ((⟨n,0,none⟩:Addr).add j)=some u:=by
 intro j u hj
 subst h
 match j,hj with
 | 0,hj=>simp at hj;subst hj;simp[Addr.add]
theorem one1s (o:Option Addr) (l c:Nat):∀u∈[Value.slice o l c],u.oneCell'=true:=by intro u hu;simp at hu;subst hu;rfl
def pF (v0 v1 v2:Value) (j:Nat):Value:=if j=0 then v0 else if j=1 then v1 else v2
theorem pF_two {v0 v1 v2 v:Value} {j:Nat} (hj:j<3):(if j=2 then v else pF v0 v1 v2 j)=pF v0 v1 v j:=by
 unfold pF
 by_cases h:j=2
 ·subst h;simp
 ·rw[if_neg h]
  by_cases h0:j=0
  ·simp[h0]
  ·simp[show j=1 by omega]
theorem plan_row {W:World} {b:Nat} (h:W.heap.size=b) (v0 v1 v2:Value):(W.alloc (.cells #[v0,v1,v2] 30)).rowIs b 30 3 (pF v0 v1 v2):=by
 subst h
 have:=World.rowIs_alloc W #[v0,v1,v2] 30 (pF v0 v1 v2) (fun i hi=>by
  have hi':i<3:=hi
  match i,hi' with
  | 0,_ | 1,_ | 2,_=>simp[pF])
 exact this
theorem plan_push {w0 w3 w4:World} {o:Obj} {P k g c:Nat} {v0 v1 qv v:Value} {V:List Value} {ps:List (List Int)} {p:List Int} (hrow:w3.rowIs P 30 3 (pF v0 v1 qv)) (hown:w3.ownsRow (P+1) 51 1 qv k V) (hl:LQs w3 (fun b=>P+1≤b∧qv.ownBlock≠some b∧True) ps V) (hp:LQ w3 (fun b=>P+1≤b∧qv.ownBlock≠some b∧True) p v)
 (hbel:Below P w0 w3) (hown4:w4.ownsRow (P+1) 51 1 (.slice (some ⟨g,0,none⟩) (k+1) c) (k+1) (V++[v])) (hg:(w3.alloc o).grownBy w4 qv.ownBlock) (hat:qv.ownBlock=some g∨g=w3.heap.size+1):
 (w4.setCell ⟨P,2,none⟩ (.slice (some ⟨g,0,none⟩) (k+1) c)).rowIs P 30 3 (pF v0 v1 (.slice (some ⟨g,0,none⟩) (k+1) c))∧(w4.setCell ⟨P,2,none⟩ (.slice (some ⟨g,0,none⟩) (k+1) c)).ownsRow (P+1) 51 1 (.slice (some ⟨g,0,none⟩) (k+1) c) (k+1) (V++[v])∧
  LQs (w4.setCell ⟨P,2,none⟩ (.slice (some ⟨g,0,none⟩) (k+1) c)) (fun b=>P+1≤b∧(Value.slice (some ⟨g,0,none⟩) (k+1) c).ownBlock≠some b∧True) (ps++[p]) (V++[v])∧Below P w0 (w4.setCell ⟨P,2,none⟩ (.slice (some ⟨g,0,none⟩) (k+1) c)):=by
 have hP:=hrow.lt
 have hneP:some P≠qv.ownBlock:=fun e=>by have:=(hown.lt P e.symm).1;omega
 have hat':(Value.slice (some ⟨g,0,none⟩) (k+1) c).ownBlock=qv.ownBlock∨(Value.slice (some ⟨g,0,none⟩) (k+1) c).ownBlock=some (w3.alloc o).heap.size:=by
  rcases hat with h | h
  ·left;rw[h];rfl
  ·right;rw[World.size_alloc,h];rfl
 have hlq:=lqs_push (w:=w3.alloc o) (w1:=w3) hl hp (by simp) (fun b hb=>blk_alloc_lt _ _ _ hb) hg hat'
 refine⟨((hrow.of_block ((hg.block P (by simp;omega) hneP).trans (blk_alloc_lt _ _ _ hP))).set 2 _).congr (fun j hj=>pF_two hj),ownsRow_setCell_below hown4 (by simp) _,hlq.mono (fun b hb hlt=>⟨hb,by simpa using hlt,blk_setCell_other _ _ _ _ (by simp;omega)⟩),?_⟩
 exact(Below.grown (hbel.alloc (by omega) o) hg (by simp;omega) (fun j hj=>by have:=(hown.lt j hj).1;omega)).setCell (by simp) _
theorem pths_sets {W:World} {P A B k:Nat} {qv v0 v1 v2 u0 u1:Value} {V:List Value} {ps:List (List Int)} (hown:W.ownsRow (P+1) 51 1 qv k V) (hl:LQs W (fun b=>P+1≤b∧qv.ownBlock≠some b∧True) ps V) (hA:A<P+1) (hB:B<P+1):
 ∃qo qc,qv=.slice qo ps.length qc∧PthsAt (((((W.setCell ⟨A,0,none⟩ v0).setCell ⟨A,1,none⟩ v1).setCell ⟨A,2,none⟩ v2).setCell ⟨B,0,none⟩ u0).setCell ⟨B,1,none⟩ u1) qo ps:=by
 refine pths_own (ownsRow_setCell_below (ownsRow_setCell_below (ownsRow_setCell_below (ownsRow_setCell_below (ownsRow_setCell_below hown hA _) hA _) hA _) hB _) hB _) (hl.mono (Q':=fun _=>True) (fun b hb hlt=>⟨trivial,by simpa using hlt,?_⟩))
 rw[blk_setCell_other _ _ _ _ (by simp;omega),blk_setCell_other _ _ _ _ (by simp;omega),blk_setCell_other _ _ _ _ (by simp;omega),blk_setCell_other _ _ _ _ (by simp;omega),blk_setCell_other _ _ _ _ (by simp;omega)]
end Go.Proofs.Ytolclgbpjiokfaa
namespace Go.Proofs.Ytolclgbpjiokfaa
open Go.RowKit Go.Maps Stw Go.Deep Stp
def LFs (w:World) (Q:Nat→Prop):List Stf.Fl→List Value→Prop
 | [],[]=>True
 | f::fs,a::b::c::d::vs=>(a=.int .i64 f.fr∧b=.int .i64 f.to∧LQ w Q f.via c∧LQ w Q f.nt d)∧LFs w Q fs vs
 | _,_=>False
theorem LFs.nil_of {w:World} {Q:Nat→Prop} {vs:List Value} (h:LFs w Q [] vs):vs=[]:=by
 cases vs with
 | nil=>rfl
 | cons=>simp[LFs] at h
theorem LFs.cons_of {w:World} {Q:Nat→Prop} {f:Stf.Fl} {fs:List Stf.Fl} {vs:List Value} (h:LFs w Q (f::fs) vs):∃c d us,vs=.int .i64 f.fr::.int .i64 f.to::c::d::us∧LQ w Q f.via c∧LQ w Q f.nt d∧LFs w Q fs us:=by
 match vs,h with
 | a::b::c::d::us,h=>
  obtain⟨⟨rfl,rfl,h3,h4⟩,h5⟩:=h
  exact⟨c,d,us,rfl,h3,h4,h5⟩
 | [],h=>simp[LFs] at h
 | [_],h=>simp[LFs] at h
 | [_,_],h=>simp[LFs] at h
 | [_,_,_],h=>simp[LFs] at h
theorem LFs.mono {w w':World} {Q Q':Nat→Prop} (H:∀b,Q b→b<w.heap.size→Q' b∧b<w'.heap.size∧w'.heap[b]? =w.heap[b]?):∀{fs:List Stf.Fl} {vs:List Value},LFs w Q fs vs→LFs w' Q' fs vs
 | [],vs,h=>by rw[h.nil_of];trivial
 | f::fs,vs,h=>by
  obtain⟨c,d,us,rfl,h1,h2,h3⟩:=h.cons_of
  exact⟨⟨rfl,rfl,h1.mono H,h2.mono H⟩,LFs.mono H h3⟩
theorem LFs.len {w:World} {Q:Nat→Prop}:∀{fs:List Stf.Fl} {vs:List Value},LFs w Q fs vs→vs.length=fs.length*4
 | [],vs,h=>by rw[h.nil_of];rfl
 | f::fs,vs,h=>by
  obtain⟨c,d,us,rfl,_,_,h3⟩:=h.cons_of
  have:=LFs.len h3
  simp only[List.length_cons]
  omega
theorem LFs.snoc {w:World} {Q:Nat→Prop} {f:Stf.Fl} {v n:Value} (kv:LQ w Q f.via v) (kn:LQ w Q f.nt n):∀{fs:List Stf.Fl} {vs:List Value},LFs w Q fs vs→LFs w Q (fs++[f]) (vs++[.int .i64 f.fr,.int .i64 f.to,v,n])
 | [],vs,h=>by rw[h.nil_of];exact⟨⟨rfl,rfl,kv,kn⟩,trivial⟩
 | g::fs,vs,h=>by
  obtain⟨c,d,us,rfl,h1,h2,h3⟩:=h.cons_of
  exact⟨⟨rfl,rfl,h1,h2⟩,LFs.snoc kv kn h3⟩
theorem LFs.get {w:World} {Q:Nat→Prop}:∀{fs:List Stf.Fl} {vs:List Value} {i:Nat} (hi:i<fs.length),LFs w Q fs vs→∃c d,vs[i*4]? =some (.int .i64 fs[i].fr)∧vs[i*4+1]? =some (.int .i64 fs[i].to)∧vs[i*4+2]? =some c∧vs[i*4+3]? =some d∧LQ w Q fs[i].via c∧LQ w Q fs[i].nt d
 | [],_,_,hi,_=>by simp at hi
 | f::fs,vs,0,_,h=>by
  obtain⟨c,d,us,rfl,h1,h2,h3⟩:=h.cons_of
  exact⟨c,d,rfl,rfl,rfl,rfl,h1,h2⟩
 | f::fs,vs,i+1,hi,h=>by
  obtain⟨c,d,us,rfl,h1,h2,h3⟩:=h.cons_of
  obtain⟨c',d',k0,k1,k2,k3,k4,k5⟩:=LFs.get (i:=i) (by simpa using hi) h3
  have e:(i+1)*4=i*4+4:=by omega
  refine⟨c',d',?_,?_,?_,?_,k4,k5⟩
  ·rw[e];exact k0
  ·rw[e];exact k1
  ·rw[e];exact k2
  ·rw[e];exact k3
theorem flows_own {w:World} {base n:Nat} {e:TypeId} {v:Value} {vs:List Value} {fs:List Stf.Fl} {Q:Nat→Prop} (h:w.ownsRow base e 4 v n vs) (hp:LFs w Q fs vs):∃fo fc,v=.slice fo fs.length fc∧Fw.FlowsAt w fo fs:=by
 have hl:=hp.len
 have hn:vs.length=n*4:=h.1
 rcases h.2 with⟨h1,h2⟩ | ⟨g,c,cur,hv,_⟩
 ·have:fs=[]:=List.eq_nil_of_length_eq_zero (by omega)
  subst this
  exact⟨none,0,h1,Or.inl rfl⟩
 ·subst hv
  obtain rfl:n=fs.length:=by omega
  refine⟨some ⟨g,0,none⟩,c,rfl,Or.inr ⟨g,0,rfl,(h.lt g rfl).2,fun i hi=>?_⟩⟩
  obtain⟨c',d',k0,k1,k2,k3,k4,k5⟩:=hp.get hi
  refine⟨c',d',?_,?_,?_,?_,k4.fv,k5.fv⟩
  ·rw[Nat.zero_add,h.cellAt _ (by omega)];exact k0
  ·rw[Nat.zero_add,h.cellAt _ (by omega)];exact k1
  ·rw[Nat.zero_add,h.cellAt _ (by omega)];exact k2
  ·rw[Nat.zero_add,h.cellAt _ (by omega)];exact k3
def Qn (P:Nat) (fv qv:Value) (b:Nat):Prop:=P+1≤b∧qv.ownBlock≠some b∧fv.ownBlock≠some b
structure PSt (P:Nat) (w0 w:World) (v0 fv qv:Value) (kf kq:Nat) (FV V:List Value) (fs:List Stf.Fl) (ps:List (List Int)):Prop where
 row:w.rowIs P 30 3 (pF v0 fv qv)
 ownF:w.ownsRow (P+1) 55 4 fv kf FV
 ownQ:w.ownsRow (P+1) 51 1 qv kq V
 apart:∀b,fv.ownBlock=some b→qv.ownBlock≠some b
 lf:LFs w (Qn P fv qv) fs FV
 lq:LQs w (Qn P fv qv) ps V
 bel:Below P w0 w
theorem PSt.ext {P:Nat} {w0 w w':World} {v0 fv qv:Value} {kf kq:Nat} {FV V:List Value} {fs:List Stf.Fl} {ps:List (List Int)} (h:PSt P w0 w v0 fv qv kf kq FV V fs ps) (E:Ext w w'):PSt P w0 w' v0 fv qv kf kq FV V fs ps:=by
 have H:∀b,Qn P fv qv b→b<w.heap.size→Qn P fv qv b∧b<w'.heap.size∧w'.heap[b]? =w.heap[b]?:=fun b hb hlt=>⟨hb,Nat.lt_of_lt_of_le hlt E.size,Below.block E b hlt⟩
 have hP:=h.row.lt
 exact⟨h.row.of_block (Below.block E _ hP),own_extU h.ownF E,own_extU h.ownQ E,h.apart,h.lf.mono H,h.lq.mono H,below_ext h.bel E (by omega)⟩
theorem pF_one {v0 v1 v2 v:Value} {j:Nat} (_hj:j<3):(if j=1 then v else pF v0 v1 v2 j)=pF v0 v v2 j:=by
 unfold pF
 by_cases h:j=1
 ·subst h;simp
 ·rw[if_neg h]
  by_cases h0:j=0
  ·simp[h0]
  ·rw[if_neg h0,if_neg h,if_neg h0,if_neg h]
theorem PSt.fresh {P:Nat} {w0 w w':World} {v0 fv qv v:Value} {kf kq:Nat} {FV V:List Value} {fs:List Stf.Fl} {ps:List (List Int)} {p:List Int} (h:PSt P w0 w v0 fv qv kf kq FV V fs ps) (hp:LQ w' (fun b=>w.heap.size≤b) p v):LQ w' (Qn P fv qv) p v:=by
 have hP:=h.row.lt
 refine hp.mono (fun b hb hlt=>⟨⟨by omega,fun e=>?_,fun e=>?_⟩,hlt,rfl⟩)
 ·have:=(h.ownQ.lt b e).2;omega
 ·have:=(h.ownF.lt b e).2;omega
theorem PSt.pushF {P:Nat} {w0 w w':World} {o:Obj} {v0 fv qv v n:Value} {kf kq g c:Nat} {FV V:List Value} {fs:List Stf.Fl} {ps:List (List Int)} {f:Stf.Fl} (h:PSt P w0 w v0 fv qv kf kq FV V fs ps) (kv:LQ w (Qn P fv qv) f.via v) (kn:LQ w (Qn P fv qv) f.nt n)
 (hown:w'.ownsRow (P+1) 55 4 (.slice (some ⟨g,0,none⟩) (kf+1) c) (kf+1) (FV++[.int .i64 f.fr,.int .i64 f.to,v,n])) (hg:(w.alloc o).grownBy w' fv.ownBlock) (hat:fv.ownBlock=some g∨g=w.heap.size+1):
 PSt P w0 (w'.setCell ⟨P,1,none⟩ (.slice (some ⟨g,0,none⟩) (kf+1) c)) v0 (.slice (some ⟨g,0,none⟩) (kf+1) c) qv (kf+1) kq (FV++[.int .i64 f.fr,.int .i64 f.to,v,n]) V (fs++[f]) ps:=by
 have hP:=h.row.lt
 have hneP:some P≠fv.ownBlock:=fun e=>by have:=(h.ownF.lt P e.symm).1;omega
 have hge:P+1≤g:=(hown.lt g rfl).1
 have hs:=hg.size
 rw[World.size_alloc] at hs
 have H:∀b,Qn P fv qv b→b<w.heap.size→Qn P (.slice (some ⟨g,0,none⟩) (kf+1) c) qv b∧b<(w'.setCell ⟨P,1,none⟩ (.slice (some ⟨g,0,none⟩) (kf+1) c)).heap.size∧(w'.setCell ⟨P,1,none⟩ (.slice (some ⟨g,0,none⟩) (kf+1) c)).heap[b]? =w.heap[b]?:=fun b hb hlt=>by
  have hb1:=hb.1
  refine⟨⟨hb.1,hb.2.1,fun e=>?_⟩,by simp;omega,(blk_setCell_other _ _ _ _ (by simp;omega)).trans ((hg.block b (by simp;omega) (fun e=>hb.2.2 e.symm)).trans (blk_alloc_lt _ _ _ hlt))⟩
  have e':g=b:=by simpa[Value.ownBlock] using e
  rcases hat with k | k
  ·exact hb.2.2 (by rw[k,e'])
  ·omega
 refine⟨((h.row.of_block ((hg.block P (by simp;omega) hneP).trans (blk_alloc_lt _ _ _ hP))).set 1 _).congr (fun j hj=>pF_one hj),ownsRow_setCell_below hown (by simp) _,ownsRow_setCell_below ((h.ownQ.alloc o).kept hg ?_) (by simp) _,fun b e=>?_,LFs.snoc (kv.mono H) (kn.mono H) (h.lf.mono H),h.lq.mono H,?_⟩
 ·cases hq:qv.ownBlock with
  | none=>exact Or.inl rfl
  | some b=>exact Or.inr (fun e=>h.apart b e.symm hq)
 ·have e':g=b:=by simpa[Value.ownBlock] using e
  subst e'
  rcases hat with k | k
  ·exact h.apart g k
  ·intro hq;have:=(h.ownQ.lt g hq).2;omega
 ·exact(Below.grown (h.bel.alloc (by omega) o) hg (by simp;omega) (fun j hj=>by have:=(h.ownF.lt j hj).1;omega)).setCell (by simp) _
theorem PSt.pushQ {P:Nat} {w0 w w':World} {o:Obj} {v0 fv qv v:Value} {kf kq g c:Nat} {FV V:List Value} {fs:List Stf.Fl} {ps:List (List Int)} {p:List Int} (h:PSt P w0 w v0 fv qv kf kq FV V fs ps) (kv:LQ w (Qn P fv qv) p v)
 (hown:w'.ownsRow (P+1) 51 1 (.slice (some ⟨g,0,none⟩) (kq+1) c) (kq+1) (V++[v])) (hg:(w.alloc o).grownBy w' qv.ownBlock) (hat:qv.ownBlock=some g∨g=w.heap.size+1):
 PSt P w0 (w'.setCell ⟨P,2,none⟩ (.slice (some ⟨g,0,none⟩) (kq+1) c)) v0 fv (.slice (some ⟨g,0,none⟩) (kq+1) c) kf (kq+1) FV (V++[v]) fs (ps++[p]):=by
 have hP:=h.row.lt
 have hneP:some P≠qv.ownBlock:=fun e=>by have:=(h.ownQ.lt P e.symm).1;omega
 have hge:P+1≤g:=(hown.lt g rfl).1
 have hs:=hg.size
 rw[World.size_alloc] at hs
 have H:∀b,Qn P fv qv b→b<w.heap.size→Qn P fv (.slice (some ⟨g,0,none⟩) (kq+1) c) b∧b<(w'.setCell ⟨P,2,none⟩ (.slice (some ⟨g,0,none⟩) (kq+1) c)).heap.size∧(w'.setCell ⟨P,2,none⟩ (.slice (some ⟨g,0,none⟩) (kq+1) c)).heap[b]? =w.heap[b]?:=fun b hb hlt=>by
  have hb1:=hb.1
  refine⟨⟨hb.1,fun e=>?_,hb.2.2⟩,by simp;omega,(blk_setCell_other _ _ _ _ (by simp;omega)).trans ((hg.block b (by simp;omega) (fun e=>hb.2.1 e.symm)).trans (blk_alloc_lt _ _ _ hlt))⟩
  have e':g=b:=by simpa[Value.ownBlock] using e
  rcases hat with k | k
  ·exact hb.2.1 (by rw[k,e'])
  ·omega
 refine⟨((h.row.of_block ((hg.block P (by simp;omega) hneP).trans (blk_alloc_lt _ _ _ hP))).set 2 _).congr (fun j hj=>pF_two hj),ownsRow_setCell_below ((h.ownF.alloc o).kept hg ?_) (by simp) _,ownsRow_setCell_below hown (by simp) _,fun b e hq=>?_,h.lf.mono H,LQs.snoc (h.lq.mono H) (kv.mono H),?_⟩
 ·cases hq:fv.ownBlock with
  | none=>exact Or.inl rfl
  | some b=>exact Or.inr (fun e=>h.apart b hq e.symm)
 ·have e':g=b:=by simpa[Value.ownBlock] using hq
  subst e'
  rcases hat with k | k
  ·exact h.apart g e k
  ·have:=(h.ownF.lt g e).2;omega
 ·exact(Below.grown (h.bel.alloc (by omega) o) hg (by simp;omega) (fun j hj=>by have:=(h.ownQ.lt j hj).1;omega)).setCell (by simp) _
theorem PSt.fin {P A B:Nat} {w0 w:World} {v0 fv qv a0 a1 a2 b0 b1:Value} {kf kq:Nat} {FV V:List Value} {fs:List Stf.Fl} {ps:List (List Int)} (h:PSt P w0 w v0 fv qv kf kq FV V fs ps) (hA:A<P) (hB:B<P):
 ∃fo fc qo qc,fv=.slice fo fs.length fc∧qv=.slice qo ps.length qc∧Fw.FlowsAt (((((w.setCell ⟨A,0,none⟩ a0).setCell ⟨A,1,none⟩ a1).setCell ⟨A,2,none⟩ a2).setCell ⟨B,0,none⟩ b0).setCell ⟨B,1,none⟩ b1) fo fs∧PthsAt (((((w.setCell ⟨A,0,none⟩ a0).setCell ⟨A,1,none⟩ a1).setCell ⟨A,2,none⟩ a2).setCell ⟨B,0,none⟩ b0).setCell ⟨B,1,none⟩ b1) qo ps:=by
 have H:∀b,Qn P fv qv b→b<w.heap.size→Qn P fv qv b∧b<(((((w.setCell ⟨A,0,none⟩ a0).setCell ⟨A,1,none⟩ a1).setCell ⟨A,2,none⟩ a2).setCell ⟨B,0,none⟩ b0).setCell ⟨B,1,none⟩ b1).heap.size∧(((((w.setCell ⟨A,0,none⟩ a0).setCell ⟨A,1,none⟩ a1).setCell ⟨A,2,none⟩ a2).setCell ⟨B,0,none⟩ b0).setCell ⟨B,1,none⟩ b1).heap[b]? =w.heap[b]?:=fun b hb hlt=>by
  have hb1:=hb.1
  refine⟨hb,by simpa using hlt,?_⟩
  rw[blk_setCell_other _ _ _ _ (by simp;omega),blk_setCell_other _ _ _ _ (by simp;omega),blk_setCell_other _ _ _ _ (by simp;omega),blk_setCell_other _ _ _ _ (by simp;omega),blk_setCell_other _ _ _ _ (by simp;omega)]
 have hA':A<P+1:=by omega
 have hB':B<P+1:=by omega
 obtain⟨fo,fc,h1,h2⟩:=flows_own (ownsRow_setCell_below (ownsRow_setCell_below (ownsRow_setCell_below (ownsRow_setCell_below (ownsRow_setCell_below h.ownF (a:=⟨A,0,none⟩) hA' a0) (a:=⟨A,1,none⟩) hA' a1) (a:=⟨A,2,none⟩) hA' a2) (a:=⟨B,0,none⟩) hB' b0) (a:=⟨B,1,none⟩) hB' b1) (h.lf.mono H)
 obtain⟨qo,qc,h3,h4⟩:=pths_own (ownsRow_setCell_below (ownsRow_setCell_below (ownsRow_setCell_below (ownsRow_setCell_below (ownsRow_setCell_below h.ownQ (a:=⟨A,0,none⟩) hA' a0) (a:=⟨A,1,none⟩) hA' a1) (a:=⟨A,2,none⟩) hA' a2) (a:=⟨B,0,none⟩) hB' b0) (a:=⟨B,1,none⟩) hB' b1) (h.lq.mono H)
 exact⟨fo,fc,qo,qc,h1,h3,h2,h4⟩
theorem PSt.fin3 {P:Nat} {w0 w:World} {v0 fv qv:Value} {kf kq:Nat} {FV V:List Value} {fs:List Stf.Fl} {ps:List (List Int)} (h:PSt P w0 w v0 fv qv kf kq FV V fs ps):
 ∃fo fc qo qc,fv=.slice fo fs.length fc∧qv=.slice qo ps.length qc∧∀U:World,w.heap.size≤U.heap.size→(∀b,P+1≤b→b<w.heap.size→U.heap[b]? =w.heap[b]?)→Fw.FlowsAt U fo fs∧PthsAt U qo ps:=by
 have own:∀(U:World) (e:TypeId) (sz:Nat) (v:Value) (n:Nat) (xs:List Value),w.ownsRow (P+1) e sz v n xs→(∀b,P+1≤b→b<w.heap.size→U.heap[b]? =w.heap[b]?)→U.ownsRow (P+1) e sz v n xs:=fun U e sz v n xs ho hU=>by
  refine⟨ho.1,?_⟩
  rcases ho.2 with h2 | ⟨g,cap,cur,h1,h2,h3,h4⟩
  ·exact Or.inl h2
  ·exact Or.inr ⟨g,cap,cur,h1,h2,(hU g h2 (Array.getElem?_eq_some_iff.1 h3).1).trans h3,h4⟩
 obtain⟨fo,fc,h1,_⟩:=flows_own h.ownF h.lf
 obtain⟨qo,qc,h3,_⟩:=pths_own h.ownQ h.lq
 refine⟨fo,fc,qo,qc,h1,h3,fun U hs hU=>?_⟩
 have H:∀b,Qn P fv qv b→b<w.heap.size→Qn P fv qv b∧b<U.heap.size∧U.heap[b]? =w.heap[b]?:=fun b hb hlt=>⟨hb,by omega,hU b hb.1 hlt⟩
 obtain⟨fo',fc',k1,k2⟩:=flows_own (own U _ _ _ _ _ h.ownF hU) (h.lf.mono H)
 obtain⟨qo',qc',k3,k4⟩:=pths_own (own U _ _ _ _ _ h.ownQ hU) (h.lq.mono H)
 rw[h1] at k1
 rw[h3] at k3
 cases k1
 cases k3
 exact⟨k2,k4⟩
theorem pst_start {W:World} {b:Nat} (h:W.heap.size=b) (v0:Value):PSt b W (W.alloc (.cells #[v0,.slice none 0 0,.slice none 0 0] 30)) v0 (.slice none 0 0) (.slice none 0 0) 0 0 [] [] [] []:=
 ⟨plan_row h _ _ _,World.ownsRow_nil _ _ _ _,World.ownsRow_nil _ _ _ _,fun b e=>by simp[Value.ownBlock] at e,trivial,trivial,(Below.refl _ _).alloc (by omega) _⟩
theorem rng_len:∀(n:Nat) (l:List Int),l.Nodup→(∀x∈l,0≤x∧x<(n:Int))→l.length≤n:=by
 intro n
 induction n with
 | zero=>intro l _ h;cases l with
  | nil=>simp
  | cons a r=>have:=h a (by simp);omega
 | succ n ih=>
  intro l hd h
  have h1:=ih (l.erase (n:Int)) (hd.erase _) (fun x hx=>by
   have:=(hd.mem_erase_iff).1 hx
   have:=h x this.2
   omega)
  have h2:l.length≤(l.erase (n:Int)).length+1:=by
   rw[List.length_erase]
   split <;> omega
  omega
theorem wflows_all {fs:List Stf.Fl} {n:Int} (h:(Stf.wflows fs n).1=0):∀k,k<fs.length→Stf.wflow (fs.getD k Fw.f0) n=0:=by
 unfold Stf.wflows at h
 split at h
 ·cases h
 ·split at h
  ·rename_i k hk
   rw[Stf.firstBad] at hk
   have:=List.find?_some hk
   simp at this
   exact absurd h this
  ·rename_i hk
   intro j hj
   rw[Stf.firstBad,List.find?_eq_none] at hk
   have:=hk j (by simpa using hj)
   simpa[Fw.f0] using this
theorem fnd_none {n:Int} {ls:List Lk} {f:Stf.Fl} (h:(wrong n ls).1=0) (h1:Stf.wflow f n=0) (h2:find (cost ls) f.fr f.to f.via f.nt=none):fnd n ls f=(9,[]):=by
 unfold fnd
 rw[if_neg (by simp[h]),if_neg (by simp[h1]),h2]
theorem fnd_some {n:Int} {ls:List Lk} {f:Stf.Fl} {p:List Int} {c:Int} (h:(wrong n ls).1=0) (h1:Stf.wflow f n=0) (h2:find (cost ls) f.fr f.to f.via f.nt=some (p,c)):fnd n ls f=(0,p):=by
 unfold fnd
 rw[if_neg (by simp[h]),if_neg (by simp[h1]),h2]
def PlanNew (w w':World) (e:Ending) (n version:Int) (ls:List Lk) (fs:List Stf.Fl):Prop:=
 ∃(pv:Int) (fo:Option Addr) (fl fc:Nat) (qo:Option Addr) (ql qc:Nat),e=.returned (.tuple #[.agg #[.int .i64 pv,.slice fo fl fc,.slice qo ql qc],.agg #[.int .i64 (plnF n version ls fs).1,.int .i64 (plnF n version ls fs).2]])∧Ext w w'∧
  (((plnF n version ls fs).1≠0∧pv=0∧fl=0∧ql=0)∨((plnF n version ls fs).1=0∧pv=version∧fl=fs.length∧ql=(plnP n ls fs).length∧∀U:World,w'.heap.size≤U.heap.size→(∀b,w.heap.size≤b→b<w'.heap.size→U.heap[b]? =w'.heap[b]?)→Fw.FlowsAt U fo fs∧PthsAt U qo (plnP n ls fs)))
theorem planN_bad {w w':World} {n version:Int} {ls:List Lk} {fs:List Stf.Fl} {r:Int×Int} (h:plnF n version ls fs=r) (hr:r.1≠0) (hE:Ext w w'):PlanNew w w' (.returned (.tuple #[.agg #[.int .i64 0,.slice none 0 0,.slice none 0 0],.agg #[.int .i64 r.1,.int .i64 r.2]])) n version ls fs:=
 ⟨0,none,0,0,none,0,0,by rw[h],hE,Or.inl ⟨by rw[h];exact hr,rfl,rfl,rfl⟩⟩
theorem PlanNew.out {w w':World} {e:Ending} {n version:Int} {ls:List Lk} {fs:List Stf.Fl} (h:PlanNew w w' e n version ls fs):PlanOut w w' e n version ls fs:=by
 obtain⟨pv,fo,fl,fc,qo,ql,qc,h1,h2,h3⟩:=h
 refine⟨pv,fo,fl,fc,qo,ql,qc,h1,h2,h3.imp id (fun⟨k1,k2,k3,k4,k5⟩=>?_)⟩
 have:=k5 w' (Nat.le_refl _) (fun _ _ _=>rfl)
 exact⟨k1,k2,k3,this.1,k4,this.2⟩
theorem infoFl:(Try.prog.info? 55).map (fun i=>(i.zero,i.size,i.bytes))=some (some (.agg #[.int .i64 0,.int .i64 0,.slice none 0 0,.slice none 0 0]),4,64):=by kernel_rfl
theorem one4s (a b:Int) (o o':Option Addr) (l c l' c':Nat):∀u∈[Value.int .i64 a,.int .i64 b,.slice o l c,.slice o' l' c'],u.oneCell'=true:=by
 intro u hu
 simp at hu
 rcases hu with rfl | rfl | rfl | rfl <;> rfl
end Go.Proofs.Ytolclgbpjiokfaa
namespace Go.Proofs.Ytolclgbpjiokfaa.Wi
open Go.RowKit Go.Maps Go.Deep Tb Rul
def inB (x lo hi:Int):Bool:=decide (lo≤x∧x≤hi)
theorem inB_true {x lo hi:Int}:inB x lo hi=true↔lo≤x∧x≤hi:=by simp[inB]
theorem inB_false {x lo hi:Int}:inB x lo hi=false↔¬(lo≤x∧x≤hi):=by simp[inB]
set_option maxHeartbeats 400000 in
theorem within_any (x lo hi:Int) (w:World):
 Calls Try.prog 98 #[.int .i64 x,.int .i64 lo,.int .i64 hi] w fun e w'=>e=.returned (.bool (inB x lo hi))∧w'=w:=by
 by_cases h1:lo≤x
 ·by_cases h2:x≤hi
  ·rw[inB_true.2 ⟨h1,h2⟩]
   go_enter Try.func98,Try.ntmps98
   go_wp2
   go_ret
   exact⟨by first | rfl | simp,rfl⟩
  ·rw[inB_false.2 (by omega)]
   go_enter Try.func98,Try.ntmps98
   go_wp2
   go_ret
   exact⟨by first | rfl | simp,rfl⟩
 ·rw[inB_false.2 (by omega)]
  go_enter Try.func98,Try.ntmps98
  go_wp2
  go_ret
  exact⟨by first | rfl | simp,rfl⟩
def shE (v:Value):Option (DataW Unit×List MemPlace):=
 match v with
 | .agg cs=>match cs.toList with
  | [.int .i64 a,.int .i64 b]=>some (.agg [.lit (.int .i64 a),.lit (.int .i64 b)],[])
  | _=>none
 | _=>none
theorem shE_mk (a b:Int):shE (.agg #[.int .i64 a,.int .i64 b])=some (.agg [.lit (.int .i64 a),.lit (.int .i64 b)],[]):=rfl
theorem shE_inv {v:Value} {a b:Int} {ps:List MemPlace} (h:shE v=some (.agg [.lit (.int .i64 a),.lit (.int .i64 b)],ps)):v=.agg #[.int .i64 a,.int .i64 b]:=by
 unfold shE at h
 split at h
 ·rename_i cs
  split at h
  ·rename_i a' b' hc
   simp only[Option.some.injEq,Prod.mk.injEq,DataW.agg.injEq,List.cons.injEq,DataW.lit.injEq,Lit.int.injEq,true_and,and_true] at h
   obtain⟨⟨rfl,rfl⟩,_⟩:=h
   have:cs=#[.int .i64 a',.int .i64 b']:=by apply Array.ext';simpa using hc
   rw[this]
  ·cases h
 ·cases h
def sh (a b:Int):DataW Unit:=.agg [.lit (.int .i64 a),.lit (.int .i64 b)]
def kd (k:Int):Lit:=.int .i64 k
def D3:DataW Unit:=(((DataW.map []).put (kd 1) (sh 16 2)).put (kd 2) (sh 12 1)).put (kd 3) (sh 0 0)
def most (k:Int):Int:=if k=1 then 16 else if k=2 then 12 else 0
def wide (k:Int):Int:=if k=1 then 2 else if k=2 then 1 else 0
def isK (k:Int):Bool:=decide (k=1∨k=2∨k=3)
theorem kd_ne {a b:Int} (h:a≠b):kd a≠kd b:=fun e=>h (by simpa[kd] using e)
theorem kd_key (a:Int) (h:I64 a):WideAt.IsKeyLit (kd a):=(int_keyed Try.underlying3).key (keyOf_int_mk Try.underlying3 h)
theorem D3_at (k:Int):D3.atKey (kd k) (sh 0 0)=sh (most k) (wide k)∧Maps.has D3 (kd k)=isK k:=by
 have k1:=kd_key 1 (i64_small (by omega) (by omega))
 have k2:=kd_key 2 (i64_small (by omega) (by omega))
 have k3:=kd_key 3 (i64_small (by omega) (by omega))
 have m0:IsMap (DataW.map []:DataW Unit):=isMap_empty
 unfold D3
 by_cases h3:k=3
 ·subst h3
  exact⟨atKey_put_same ((m0.put _ _).put _ _) k3 _ _,has_put_same ((m0.put _ _).put _ _) k3 _⟩
 ·rw[atKey_put_other (kd_ne h3),has_put_other (kd_ne h3)]
  by_cases h2:k=2
  ·subst h2
   exact⟨atKey_put_same (m0.put _ _) k2 _ _,has_put_same (m0.put _ _) k2 _⟩
  ·rw[atKey_put_other (kd_ne h2),has_put_other (kd_ne h2)]
   by_cases h1:k=1
   ·subst h1
    exact⟨atKey_put_same m0 k1 _ _,has_put_same m0 k1 _⟩
   ·rw[atKey_put_other (kd_ne h1),has_put_other (kd_ne h1)]
    refine⟨?_,?_⟩
    ·simp only[most,wide,if_neg h1,if_neg h2];rfl
    ·have:isK k=false:=by simp[isK,h1,h2,h3]
     rw[this];rfl
def Shp (w:World) (m:Nat):Prop:=w.ownsMap Try.prog 3 shE m 3 D3
theorem Shp.ext {w w':World} {m:Nat} (h:Shp w m) (k:Ext w w'):Shp w' m:=by
 have hlt:=World.ownsMap.lt h
 obtain⟨es,cl,hb,r⟩:=h
 exact⟨es,cl,by rw[←hb];exact Below.block k m hlt,r⟩
theorem zeroSh (w:World):(zeroValue 177).run Try.prog w=.ok (.agg #[.int .i64 0,.int .i64 0]) w:=by kernel_rfl
theorem Shp.look {w:World} {m:Nat} (h:Shp w m) {k:Int} (hk:I64 k):
 (Instr.lookup 179 (.map (some m)) (.int .i64 k) true).run Try.prog w=.ok (.tuple #[.agg #[.int .i64 (most k),.int .i64 (wide k)],.bool (isK k)]) w
 ∧(Instr.lookup 179 (.map (some m)) (.int .i64 k) false).run Try.prog w=.ok (.agg #[.int .i64 (most k),.int .i64 (wide k)]) w:=by
 have K:Keyed Try.prog 3:=int_keyed Try.underlying3
 have hkey:keyOf Try.prog 3 (.int .i64 k)=some (kd k):=keyOf_int_mk Try.underlying3 hk
 obtain⟨v,ps,r1,h1⟩:=World.ownsMap.look_ok h K Try.underlying179 (zeroSh w) (shE_mk 0 0) hkey
 obtain⟨u,qs,r2,h2⟩:=World.ownsMap.lookup h K Try.underlying179 (zeroSh w) (shE_mk 0 0) hkey
 obtain⟨e1,e2⟩:=D3_at k
 unfold sh at e1
 rw[e1] at h1 h2
 rw[e2] at r1
 rw[shE_inv h1] at r1
 rw[shE_inv h2] at r2
 exact⟨r1,r2⟩
set_option maxRecDepth 100000 in
set_option maxHeartbeats 1000000 in
theorem shapes_any (w:World):
 Calls Try.prog 99 #[] w fun e w'=>∃m,e=.returned (.map (some m))∧Shp w' m∧Ext w w':=by
 have K:Keyed Try.prog 3:=int_keyed Try.underlying3
 have hkey:∀k:Int,I64 k→keyOf Try.prog 3 (.int .i64 k)=some (kd k):=fun k hk=>keyOf_int_mk Try.underlying3 hk
 have hmm:=@run_makeMap Try.prog
 have o0:=World.ownsMap_made w Try.prog 3 shE
 obtain⟨w1,r1,o1,g1⟩:=o0.update K Try.underlying179 (by decide) (hkey 1 (i64_small (by omega) (by omega))) (shE_mk 16 2)
 obtain⟨w2,r2,o2,g2⟩:=o1.update K Try.underlying179 (by decide) (hkey 2 (i64_small (by omega) (by omega))) (shE_mk 12 1)
 obtain⟨w3,r3,o3,g3⟩:=o2.update K Try.underlying179 (by decide) (hkey 3 (i64_small (by omega) (by omega))) (shE_mk 0 0)
 have E1:Ext w w1:=Below.grown ((Ext.refl w).alloc _) g1 (by simp) (fun j hj=>by cases hj;exact Nat.le_refl _)
 have E2:Ext w w2:=Below.grown E1 g2 (Ext.size E1) (fun j hj=>by cases hj;exact Nat.le_refl _)
 have E3:Ext w w3:=Below.grown E2 g3 (Ext.size E2) (fun j hj=>by cases hj;exact Nat.le_refl _)
 have HS:Hid (Shp w3 w.heap.size):=o3
 clear o0 o1 o2 o3 g1 g2 g3 hkey
 go_enter Try.func99,Try.ntmps99
 go_wp2
 go_ret
 exact⟨_,rfl,HS.out,E3⟩
end Go.Proofs.Ytolclgbpjiokfaa.Wi
