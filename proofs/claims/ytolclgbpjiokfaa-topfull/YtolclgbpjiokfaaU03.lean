/- How flows that came in are read. -/
import Derived.Test.YtolclgbpjiokfaaU02
import Derived.Maps.OwnOps
import Derived.Maps.OwnSet
import Derived.Lib.SmallJoins
namespace Go.Proofs.Ytolclgbpjiokfaa
open Go.ChangeShapes Go.WideShapes Go.ChangeAt Go.RowKit Go.Deep Go.Joins Stw
theorem Try.cells28:Try.prog.cellsOf 55=4:=by kernel_rfl
section
variable {H:Type} {enc:TypeId×Value→H} {W:World}
set_option maxRecDepth 100000 in
theorem open_flow {b0:Nat} {v:Value} {d:DataW H} {p:List MemPlace} (hv:Value.okWide Try.prog W .any b0 55 v) (h:DataW.Trod enc Try.prog W 0 (fun _=>true) true 55 v d p)
 (hw:∀m∈d.weights Try.prog 55,m≤reachBytes):
 ∃(f:Stf.Fl) (vo no:Option Addr) (vc nc:Nat),v=.agg #[.int .i64 f.fr,.int .i64 f.to,.slice vo f.via.length vc,.slice no f.nt.length nc]∧ListAt W vo f.via∧ListAt W no f.nt∧f.via.length*8≤140737488351232∧f.nt.length*8≤140737488351232∧f.via.length≤vc∧f.nt.length≤nc∧(∀y∈f.via,I64 y)∧(∀y∈f.nt,I64 y):=by
 obtain⟨c0,c1,c2,c3,y0,y1,y2,y3,m,rfl,rfl,rfl,h0,h1,h2,h3⟩:=open_agg4 Try.underlying55 (by kernel_rfl) Try.cells28 hv h
 obtain⟨a0,e0,_,w0⟩:=DataW.trod_int Try.underlying3 h0
 obtain⟨a1,e1,_,w1⟩:=DataW.trod_int Try.underlying3 h1
 obtain⟨vo,vl,vc,X,e2,hX,hvl,hvi,hvb,hvc,_⟩:=open_list Try.underlying31 h2 (fun m hm=>hw m (by simp[DataW.weights,DataW.weightsEach,Try.underlying55];exact Or.inr (Or.inr (Or.inl hm))))
 obtain⟨no,nl,nc,Y,e3,hY,hnl,hni,hnb,hnc,_⟩:=open_list Try.underlying31 h3 (fun m hm=>hw m (by simp[DataW.weights,DataW.weightsEach,Try.underlying55];exact Or.inr (Or.inr (Or.inr hm))))
 simp at e0 e1 e2 e3
 subst e0 e1 e2 e3 hX hY
 exact⟨⟨a0,a1,X,Y⟩,vo,no,vc,nc,rfl,hvl,hnl,hvb,hnb,hvc,hnc,hvi,hni⟩
end
end Go.Proofs.Ytolclgbpjiokfaa
namespace Go.Proofs.Ytolclgbpjiokfaa.Fw
open Go.RowKit Go.Maps Stf
set_option maxHeartbeats 400000 in
theorem isSwitch_any (s n:Int) (w:World):
 Calls Try.prog 77 #[.int .i64 s,.int .i64 n] w fun e w'=>e=.returned (.bool (swB s n))∧w'=w:=by
 by_cases h0:0≤s
 ·go_enter Try.func77,Try.ntmps77
  go_wp2
  go_ret
  exact⟨by simp[swB,h0],rfl⟩
 ·have e:swB s n=false:=by simp[swB,h0]
  rw[e]
  go_enter Try.func77,Try.ntmps77
  go_wp2
  go_ret
  exact⟨rfl,rfl⟩
theorem lawI:Keyed Try.prog 3:=int_keyed Try.underlying3
theorem zeroU (w:World):(zeroValue 148).run Try.prog w=.ok (.agg #[]) w:=by kernel_rfl
def IntSet (w:World) (m:Nat) (xs:List Int):Prop:=
 ∃n,n≤xs.length∧∃D:DataW Unit,w.ownsMap Try.prog 3 (unitElem (H:=Unit)) m n D∧∀a,I64 a→Maps.has D (.int .i64 a)=decide (a∈xs)
theorem IntSet.lt {w:World} {m:Nat} {xs:List Int} (h:IntSet w m xs):m<w.heap.size:=by
 obtain⟨n,hn,D,hown,hD⟩:=h
 exact hown.lt
theorem IntSet.ext {w w':World} {m:Nat} {xs:List Int} (h:IntSet w m xs) (k:Ext w w'):IntSet w' m xs:=by
 obtain⟨n,hn,D,hown,hD⟩:=h
 refine⟨n,hn,D,?_,hD⟩
 have hlt:=hown.lt
 obtain⟨es,cl,hb,r⟩:=hown
 exact⟨es,cl,by rw[←hb];exact Below.block k m hlt,r⟩
theorem IntSet.look {w:World} {m:Nat} {xs:List Int} (h:IntSet w m xs) {a:Int} (ha:I64 a):
 (Instr.lookup 145 (.map (some m)) (.int .i64 a) true).run Try.prog w=.ok (.tuple #[.agg #[],.bool (decide (a∈xs))]) w:=by
 obtain⟨n,hn,D,hown,hD⟩:=h
 obtain⟨v,ps,hrun,hv⟩:=hown.look_ok lawI Try.underlying145 (zeroU w) unitElem_mk (keyOf_int_mk Try.underlying3 ha)
 obtain⟨rfl,_⟩:=unitElem_inv hv
 rw[hrun,hD a ha]
theorem IntSet.put {w:World} {m:Nat} {xs:List Int} (h:IntSet w m xs) {x:Int} (hx:I64 x) (hs:xs.length<maxLen):
 ∃w',(Instr.mapUpdate 145 (.map (some m)) (.int .i64 x) (.agg #[])).run Try.prog w=.ok () w'∧IntSet w' m (xs++[x])∧w.grownBy w' (some m):=by
 obtain⟨n,hn,D,hown,hD⟩:=h
 obtain⟨w',hrun,hown',hg⟩:=hown.update lawI Try.underlying145 (Nat.lt_of_le_of_lt hn hs) (keyOf_int_mk Try.underlying3 hx) unitElem_mk
 refine⟨w',hrun,⟨n+1,by simp;omega,_,hown',fun a ha=>?_⟩,hg⟩
 by_cases e:a=x
 ·subst e
  rw[has_put_same hown.isMap (lawI.key (keyOf_int_mk Try.underlying3 hx))]
  simp
 ·rw[has_put_other (by simpa using e),hD a ha]
  simp[e]
theorem IntSet.made (w:World):IntSet (w.alloc (.map #[] 0)) w.heap.size []:=by
 refine⟨0,Nat.le_refl _,.map [],?_,fun _ _=>rfl⟩
 exact World.ownsMap_made (H:=Unit) w Try.prog 3 (unitElem (H:=Unit))
end Go.Proofs.Ytolclgbpjiokfaa.Fw
namespace Go.Proofs.Ytolclgbpjiokfaa.Fw
open Go.RowKit Go.Maps Stf
theorem i64_le {n:Int} (h:I64 n):n≤9223372036854775807:=(Joins.in64_of_wf h).2
theorem i64_sw {s n:Int} (hn:I64 n) (h:swB s n=true):I64 s:=by
 have h1:=i64_le hn
 simp only[swB,decide_eq_true_eq] at h
 exact WalkArith.wf_i64 (by omega)
theorem take_snocI {L:List Int} {k:Nat} (h:k<L.length):L.take (k+1)=L.take k++[L.getD k 0]:=by
 rw[List.take_succ_eq_append_getElem h]
 simp[List.getD_eq_getElem?_getD,h]
theorem box_kept {w wr:World} {v0 v1 v2 v3:Value} {T:TypeId} (h:Below (w.heap.size+1) (w.alloc (.cells #[v0,v1,v2,v3] T)) wr):wr.cell? ⟨w.heap.size,0,none⟩=some v0∧wr.cell? ⟨w.heap.size,1,none⟩=some v1∧wr.cell? ⟨w.heap.size,2,none⟩=some v2∧wr.cell? ⟨w.heap.size,3,none⟩=some v3∧w.heap.size<wr.heap.size∧Ext w wr:=by
 have k:w.heap.size<w.heap.size+1:=by omega
 refine⟨(h.cell (p:=⟨w.heap.size,0,none⟩) k).trans (by simp),(h.cell (p:=⟨w.heap.size,1,none⟩) k).trans (by simp),(h.cell (p:=⟨w.heap.size,2,none⟩) k).trans (by simp),(h.cell (p:=⟨w.heap.size,3,none⟩) k).trans (by simp),?_,Below.trans ((Ext.refl w).alloc _) (h.mono (by omega))⟩
 have:=Below.size h
 simp at this
 omega
def WLOut (w':World) (e:Ending) (r:Int) (L:List Int):Prop:=(r=0∧∃m,e=.returned (.tuple #[.map (some m),.int .i64 0])∧IntSet w' m L)∨(r≠0∧e=.returned (.tuple #[.map none,.int .i64 r]))
theorem wlout_bad {w':World} {r c:Int} {L:List Int} (h:r=c) (hc:c≠0):WLOut w' (.returned (.tuple #[.map none,.int .i64 c])) r L:=Or.inr ⟨by rw[h];exact hc,by rw[h]⟩
theorem wlout_good {w':World} {r:Int} {m:Nat} {L:List Int} (h:r=0) (hs:IntSet w' m L):WLOut w' (.returned (.tuple #[.map (some m),.int .i64 0])) r L:=Or.inl ⟨h,m,rfl,hs⟩
set_option maxHeartbeats 2000000 in
theorem wrongList_any (a b n:Int) (fv fn:Value) (lo:Option Addr) (lc len:Nat) (L:List Int) (w:World) (hlen:L.length=len) (hL:ListAt w lo L) (hn:I64 n) (hx:len≤4611686018427387904):
 Calls Try.prog 78 #[.agg #[.int .i64 a,.int .i64 b,fv,fn],.slice lo len lc,.int .i64 n] w fun e w'=>Ext w w'∧WLOut w' e (wlist a b n L) L:=by
 have hmm:=@run_makeMap Try.prog
 go_enter Try.func78,Try.ntmps78
 go_wp2
 go_loopw [16] (fun iv wr=>∃k:Nat,k≤len∧iv=.int .i64 k∧(∀j,j<k→ewl a b n L j=0)∧IntSet wr (w.heap.size+1) (L.take k)∧Below (w.heap.size+1) (w.alloc (.cells #[.int .i64 a,.int .i64 b,fv,fn] 55)) wr) (fun iv _=>len - (intOf iv).toNat)
 case atStart=>
  refine⟨0,Nat.zero_le _,rfl,fun j hj=>by omega,?_,(Below.refl _ _).alloc (by simp) _⟩
  have:=IntSet.made (w.alloc (.cells #[.int .i64 a,.int .i64 b,fv,fn] 55))
  simpa using this
 case round=>
  obtain⟨k,hk,rfl,hpre,hset,hbel⟩:=hrel
  obtain⟨c0,c1,c2,c3,hs0,hE⟩:=box_kept hbel
  have hs1:=hset.lt
  clear c2 c3
  by_cases hlt:k<len
  ·obtain⟨bk,off,rfl,hbk,hat⟩:∃bk off,lo=some ⟨bk,off,none⟩∧bk<w.heap.size∧IntsAt w bk off L:=by
    rcases hL with rfl | h
    ·simp at hlen;omega
    ·exact h
   have ce:=(hE.cells.1 _ _ hbk).trans (hat k (by omega))
   have hbr:bk<wr.heap.size:=by omega
   have hts:=hid (take_snocI (L:=L) (k:=k) (by omega))
   obtain⟨x,hxx⟩:∃x,x=L.getD k 0:=⟨_,rfl⟩
   rw[←hxx] at ce hts
   have HX:=hid hxx
   have HP:=hid hpre
   have i1:(k:Int)<(len:Int):=by omega
   clear hxx hpre hat
   have HE:Hid (ewl a b n L k=if swB x n=false then 6 else if x=a∨x=b then 8 else if x∈L.take k then 7 else 0):=by unfold ewl;rw[HX.out];exact hid rfl
   cases hsw:swB x n
   ·have hfin:wlist a b n L=6:=by
     have e1:ewl a b n L k=6:=by rw[HE.out,if_pos hsw]
     rw[wlist_bad (by omega) HP.out (by rw[e1];decide),e1]
    have HF:=hid hfin
    clear hfin
    go_wp2_with (go_at_call 77;refine(isSwitch_any _ _ _).mono ?_;rintro e w1 ⟨rfl,rfl⟩;rw[hsw])
    go_ret2
    exact⟨hE,wlout_bad HF.out (by decide)⟩
   ·have hxi:I64 x:=i64_sw hn hsw
    by_cases hab:x=a∨x=b
    ·have hfin:wlist a b n L=8:=by
      have e1:ewl a b n L k=8:=by rw[HE.out,if_neg (by simp[hsw]),if_pos hab]
      rw[wlist_bad (by omega) HP.out (by rw[e1];decide),e1]
     have HF:=hid hfin
     clear hfin
     cases hxa:(x == a)
     ·have hxb:(x == b)=true:=by
       rcases hab with h | h
       ·simp[h] at hxa
       ·simp[h]
      clear hab
      go_wp2_with (go_at_call 77;refine(isSwitch_any _ _ _).mono ?_;rintro e w1 ⟨rfl,rfl⟩;rw[hsw])
      go_ret2
      exact⟨hE,wlout_bad HF.out (by decide)⟩
     ·clear hab
      go_wp2_with (go_at_call 77;refine(isSwitch_any _ _ _).mono ?_;rintro e w1 ⟨rfl,rfl⟩;rw[hsw])
      go_ret2
      exact⟨hE,wlout_bad HF.out (by decide)⟩
    ·have hxa:(x == a)=false:=by simpa using fun e=>hab (Or.inl e)
     have hxb:(x == b)=false:=by simpa using fun e=>hab (Or.inr e)
     have HAB:=hid hab
     clear hab
     have hrun:=hset.look hxi
     by_cases hmem:x∈L.take k
     ·have hfin:wlist a b n L=7:=by
       have e1:ewl a b n L k=7:=by rw[HE.out,if_neg (by simp[hsw]),if_neg HAB.out,if_pos hmem]
       rw[wlist_bad (by omega) HP.out (by rw[e1];decide),e1]
      have HF:=hid hfin
      rw[decide_eq_true hmem] at hrun
      clear hfin hmem
      go_wp2_with (go_at_call 77;refine(isSwitch_any _ _ _).mono ?_;rintro e w1 ⟨rfl,rfl⟩;rw[hsw])
      go_ret2
      exact⟨hE.alloc _,wlout_bad HF.out (by decide)⟩
     ·have hz:ewl a b n L k=0:=by rw[HE.out,if_neg (by simp[hsw]),if_neg HAB.out,if_neg hmem]
      have HZ:=hid hz
      rw[decide_eq_false hmem] at hrun
      clear hz hmem
      obtain⟨w4,hrun4,hset4,hg4⟩:=(hset.ext ((Ext.refl wr).alloc (.cells #[] 148))).put hxi (by unfold maxLen;simp;omega)
      go_wp2_with (go_at_call 77;refine(isSwitch_any _ _ _).mono ?_;rintro e w1 ⟨rfl,rfl⟩;rw[hsw])
      refine⟨⟨k+1,by omega,by go_num,fun j hj=>?_,by rw[hts.out];exact hset4,Below.grown (hbel.alloc (by omega) _) hg4 (by simp;omega) (fun j hj=>by cases hj;omega)⟩,by simp[intOf];omega⟩
      by_cases e:j=k
      ·subst e;exact HZ.out
      ·exact HP.out j (by omega)
  ·have hall:L.take k=L:=List.take_of_length_le (by omega)
   rw[hall] at hset
   have hfin:wlist a b n L=0:=wlist_good (fun j hj=>hpre j (by omega))
   have HF:=hid hfin
   clear hfin hall
   go_wp2
   go_ret2
   exact⟨hE,wlout_good HF.out hset⟩
end Go.Proofs.Ytolclgbpjiokfaa.Fw
namespace Go.Proofs.Ytolclgbpjiokfaa.Fw
open Go.RowKit Go.Maps Stf
theorem ext_box {w w1:World} {o:Obj} (E:Ext (w.alloc o) w1):Below (w.heap.size+1) (w.alloc o) w1:=by
 have h:(w.alloc o).heap.size=w.heap.size+1:=by simp
 rw[←h];exact E
theorem wlist_zero {a b n:Int} {L:List Int} (h:wlist a b n L=0):∀j,j<L.length→ewl a b n L j=0:=by
 unfold wlist at h
 cases hf:firstBad (ewl a b n L) L.length with
 | none=>
  rw[firstBad,List.find?_eq_none] at hf
  intro j hj
  have:=hf j (by simpa using hj)
  simpa using this
 | some k=>
  rw[hf] at h
  rw[firstBad] at hf
  have:=List.find?_some hf
  simp at this
  exact absurd h this
set_option maxHeartbeats 2000000 in
theorem wrongFlow_any (a b n:Int) (X Y:List Int) (v nv:Value) (w:World) (hv:FV w X v) (hn:FV w Y nv) (hI:I64 n) (hX:X.length≤4611686018427387904) (hY:Y.length≤4611686018427387904):
 Calls Try.prog 60 #[.agg #[.int .i64 a,.int .i64 b,v,nv],.int .i64 n] w fun e w'=>e=.returned (.int .i64 (wflow ⟨a,b,X,Y⟩ n))∧Ext w w':=by
 obtain⟨vo,vc,rfl,hvl,_⟩:=hv
 obtain⟨no,nc,rfl,hnl,_⟩:=hn
 cases h1:swB a n
 ·have hw:wflow ⟨a,b,X,Y⟩ n=6:=by simp[wflow,h1]
  rw[hw]
  go_enter Try.func60,Try.ntmps60
  go_wp2_with (go_at_call 77;refine(isSwitch_any _ _ _).mono ?_;rintro e w1 ⟨rfl,rfl⟩;rw[h1])
  go_ret
  exact⟨rfl,(Ext.refl _).alloc _⟩
 ·cases h2:swB b n
  ·have hw:wflow ⟨a,b,X,Y⟩ n=6:=by simp[wflow,h2]
   rw[hw]
   go_enter Try.func60,Try.ntmps60
   go_wp2_with fail
   refine(isSwitch_any _ _ _).mono ?_;rintro e w1 ⟨rfl,rfl⟩;rw[h1]
   go_wp2_with fail
   refine(isSwitch_any _ _ _).mono ?_;rintro e w1 ⟨rfl,rfl⟩;rw[h2]
   go_wp2
   go_ret
   exact⟨rfl,(Ext.refl _).alloc _⟩
  ·cases h3:(a == b)
   ·have h3':a≠b:=by simpa using h3
    obtain⟨r1,hr1⟩:∃r1,r1=wlist a b n X:=⟨_,rfl⟩
    obtain⟨r2,hr2⟩:∃r2,r2=wlist a b n Y:=⟨_,rfl⟩
    have hw:wflow ⟨a,b,X,Y⟩ n=if r1≠0 then r1 else if r2≠0 then r2 else if Y.any (fun s=>decide (s∈X)) then 8 else 0:=by simp[wflow,h1,h2,h3',hr1,hr2]
    have HW:=hid hw
    have HR1:=hid hr1
    have HR2:=hid hr2
    clear hw hr1 hr2 h3'
    go_enter Try.func60,Try.ntmps60
    go_wp2_with fail
    refine(isSwitch_any _ _ _).mono ?_;rintro e w1 ⟨rfl,rfl⟩;rw[h1]
    go_wp2_with fail
    refine(isSwitch_any _ _ _).mono ?_;rintro e w1 ⟨rfl,rfl⟩;rw[h2]
    go_wp2_with fail
    refine(wrongList_any a b n _ _ vo vc X.length X _ rfl (hvl.ext ((Ext.refl _).alloc _)) hI hX).mono ?_
    rintro e w1 ⟨E1,ho⟩
    obtain⟨c0,c1,c2,c3,hs1,hE1⟩:=box_kept (ext_box E1)
    rw[←HR1.out] at ho
    rcases ho with⟨hz,m,rfl,hset⟩ | ⟨hz,rfl⟩
    ·subst hz
     go_wp2_with fail
     refine(wrongList_any a b n _ _ no nc Y.length Y _ rfl (hnl.ext hE1) hI hY).mono ?_
     rintro e w2 ⟨E2,ho⟩
     obtain⟨d0,d1,d2,d3,hs2,hE2⟩:=box_kept ((ext_box E1).trans (Below.mono E2 (by omega)))
     rw[←HR2.out] at ho
     have hset2:=hset.ext E2
     clear c0 c1 c2 c3 hset
     rcases ho with⟨hz2,m2,rfl,hset3⟩ | ⟨hz,rfl⟩
     ·subst hz2
      have hY0:=wlist_zero HR2.out.symm
      have HY:=hid hY0
      clear hset3 hY0
      go_wp2
      go_loopw [55] (fun iv wr=>∃k:Nat,k≤Y.length∧iv=.int .i64 k∧(∀j,j<k→Y.getD j 0∉X)∧Ext w2 wr) (fun iv _=>Y.length - (intOf iv).toNat)
      case atStart=>exact⟨0,Nat.zero_le _,rfl,fun j hj=>by omega,Ext.refl _⟩
      case round=>
       obtain⟨k,hk,rfl,hpre,hext⟩:=hrel
       by_cases hlt:k<Y.length
       ·obtain⟨bk,off,rfl,hbk,hat⟩:∃bk off,no=some ⟨bk,off,none⟩∧bk<w.heap.size∧IntsAt w bk off Y:=by
         rcases hnl with rfl | h
         ·simp at hlt
         ·exact h
        have ce:=((hE2.trans hext).cells.1 _ _ hbk).trans (hat k hlt)
        have hbr:bk<wr.heap.size:=by have:=(hE2.trans hext).size;omega
        have hsw:=(ewl_zero (HY.out k hlt)).1
        obtain⟨x,hxx⟩:∃x,x=Y.getD k 0:=⟨_,rfl⟩
        rw[←hxx] at ce hsw
        have HX:=hid hxx
        have HP:=hid hpre
        have i1:(k:Int)<(Y.length:Int):=by omega
        have hxi:=i64_sw hI hsw
        have hrun:=(hset2.ext hext).look hxi
        clear hxx hpre hat hsw
        by_cases hmem:x∈X
        ·rw[decide_eq_true hmem] at hrun
         have hany:Y.any (fun s=>decide (s∈X))=true:=by
          rw[List.any_eq_true]
          refine⟨x,?_,decide_eq_true hmem⟩
          rw[HX.out]
          simp[List.getD_eq_getElem?_getD,hlt]
         have HA:=hid hany
         clear hmem hany
         go_wp2
         go_ret
         exact⟨by rw[HW.out,HA.out];rfl,(hE2.trans hext).alloc _⟩
        ·rw[decide_eq_false hmem] at hrun
         have HM:=hid hmem
         clear hmem
         go_wp2
         refine⟨⟨k+1,by omega,by go_num,fun j hj=>?_,hext.alloc _⟩,by simp[intOf];omega⟩
         by_cases e:j=k
         ·subst e;rw[←HX.out];exact HM.out
         ·exact HP.out j (by omega)
       ·have hany:Y.any (fun s=>decide (s∈X))=false:=by
         rw[List.any_eq_false]
         intro y hy
         obtain⟨i,hi,rfl⟩:=List.getElem_of_mem hy
         have:=hpre i (by omega)
         simpa[List.getD_eq_getElem?_getD,hi] using this
        have HA:=hid hany
        clear hany hpre
        go_wp2
        go_ret
        exact⟨by rw[HW.out,HA.out];rfl,hE2.trans hext⟩
     ·have hz':(r2 != 0)=true:=by simpa using hz
      go_wp2
      go_ret
      exact⟨by rw[HW.out];simp[hz],hE2⟩
    ·have hz':(r1 != 0)=true:=by simpa using hz
     go_wp2
     go_ret
     exact⟨by rw[HW.out,if_pos hz];rfl,hE1⟩
   ·have h3':a=b:=by simpa using h3
    have hw:wflow ⟨a,b,X,Y⟩ n=8:=by simp[wflow,h2,h3']
    have HW:=hid hw
    clear hw h3'
    go_enter Try.func60,Try.ntmps60
    go_wp2_with fail
    refine(isSwitch_any _ _ _).mono ?_;rintro e w1 ⟨rfl,rfl⟩;rw[h1]
    go_wp2_with fail
    refine(isSwitch_any _ _ _).mono ?_;rintro e w1 ⟨rfl,rfl⟩;rw[h2]
    go_wp2
    go_ret
    exact⟨by rw[HW.out];rfl,(Ext.refl _).alloc _⟩
end Go.Proofs.Ytolclgbpjiokfaa.Fw
namespace Go.Proofs.Ytolclgbpjiokfaa.Fw
open Go.RowKit Go.Maps Stf
def f0:Fl:=⟨0,0,[],[]⟩
def Sm (fs:List Fl):Prop:=∀k (h:k<fs.length),(fs[k]).via.length≤4611686018427387904∧(fs[k]).nt.length≤4611686018427387904
theorem wflows_bad {fs:List Fl} {n:Int} {k:Nat} (hl:¬12<fs.length) (hk:k<fs.length) (h:∀j,j<k→wflow (fs.getD j f0) n=0) (hb:wflow (fs.getD k f0) n≠0):wflows fs n=(wflow (fs.getD k f0) n,(k:Int)):=by
 rw[wflows,if_neg hl]
 have:=firstBad_some (e:=fun k=>wflow (fs.getD k ⟨0,0,[],[]⟩) n) hk h hb
 rw[this];rfl
theorem wflows_good {fs:List Fl} {n:Int} (hl:¬12<fs.length) (h:∀j,j<fs.length→wflow (fs.getD j f0) n=0):wflows fs n=(0,0):=by
 rw[wflows,if_neg hl]
 have:=firstBad_none (e:=fun k=>wflow (fs.getD k ⟨0,0,[],[]⟩) n) h
 rw[this]
theorem FlowsAt.get {w:World} {ao:Option Addr} {fs:List Fl} (h:FlowsAt w ao fs) {k:Nat} (hk:k<fs.length):∃b off vo vc no nc a t X Y,ao=some ⟨b,off,none⟩∧b<w.heap.size∧fs.getD k f0=⟨a,t,X,Y⟩∧
 w.cell? ⟨b,off+k*4,none⟩=some (.int .i64 a)∧w.cell? ⟨b,off+k*4+1,none⟩=some (.int .i64 t)∧w.cell? ⟨b,off+k*4+2,none⟩=some (.slice vo X.length vc)∧w.cell? ⟨b,off+k*4+3,none⟩=some (.slice no Y.length nc)∧FV w X (.slice vo X.length vc)∧FV w Y (.slice no Y.length nc):=by
 rcases h with rfl | ⟨b,off,h1,h2,h3⟩
 ·simp at hk
 ·obtain⟨v,n,c0,c1,c2,c3,hv,hn⟩:=h3 k hk
  have hg:fs.getD k f0=fs[k]:=by simp[List.getD_eq_getElem?_getD,hk]
  have hv':=hv
  have hn':=hn
  obtain⟨vo,vc,rfl,_⟩:=hv
  obtain⟨no,nc,rfl,_⟩:=hn
  exact⟨b,off,vo,vc,no,nc,(fs[k]).fr,(fs[k]).to,(fs[k]).via,(fs[k]).nt,h1,h2,hg,c0,c1,c2,c3,hv',hn'⟩
theorem Sm.get {fs:List Fl} (h:Sm fs) {k:Nat} (hk:k<fs.length) {a t:Int} {X Y:List Int} (e:fs.getD k f0=⟨a,t,X,Y⟩):X.length≤4611686018427387904∧Y.length≤4611686018427387904:=by
 have hg:fs.getD k f0=fs[k]:=by simp[List.getD_eq_getElem?_getD,hk]
 have:=h k hk
 rw[←hg,e] at this
 exact this
set_option maxHeartbeats 1000000 in
theorem Wrong_many (ao:Option Addr) (len cap:Nat) (n:Int) (w:World) (h:12<len) (hl:len≤9223372036854775807):
 Calls Try.prog 44 #[.slice ao len cap,.int .i64 n] w fun e w'=>e=.returned (.agg #[.int .i64 5,.int .i64 0])∧Ext w w':=by
 go_enter Try.func44,Try.ntmps44
 go_wp2
 exact bodyPost_ret (v:=.agg #[.int .i64 5,.int .i64 0]) (by simp[results,Try.results44,go_sem]) rfl ⟨rfl,(Ext.refl w).alloc _⟩
set_option maxRecDepth 100000 in
set_option maxHeartbeats 2000000 in
theorem Wrong_few (ao:Option Addr) (len cap:Nat) (n:Int) (fs:List Fl) (w:World) (hlen:fs.length=len) (hf:FlowsAt w ao fs) (hI:I64 n) (hS:Sm fs) (h12:¬12<len):
 Calls Try.prog 44 #[.slice ao len cap,.int .i64 n] w fun e w'=>e=.returned (.agg #[.int .i64 (wflows fs n).1,.int .i64 (wflows fs n).2])∧Ext w w':=by
 have hl12:¬12<fs.length:=by omega
 go_enter Try.func44,Try.ntmps44
 go_wp2
 go_loopw [14] (fun iv wr=>∃k:Nat,k≤len∧iv=.int .i64 k∧(∀j,j<k→wflow (fs.getD j f0) n=0)∧Below (w.heap.size+1) (w.alloc (.cells #[.int .i64 0,.int .i64 0] 44)) wr) (fun iv _=>len - (intOf iv).toNat)
 case atStart=>exact⟨0,Nat.zero_le _,rfl,fun j hj=>by omega,Below.refl _ _⟩
 case round=>
  obtain⟨k,hk,rfl,hpre,hbel⟩:=hrel
  obtain⟨z0,z1,y0,y1,hsz⟩:=fault_kept hbel
  have hEw:Ext w wr:=Below.trans ((Ext.refl w).alloc _) (hbel.mono (by omega))
  have HP:=hid hpre
  clear hpre
  by_cases hlt:k<len
  ·obtain⟨b,off,vo,vc,no,nc,a,t,X,Y,rfl,hb,hg,c0,c1,c2,c3,hv,hn⟩:=(hf.ext hEw).get (k:=k) (by omega)
   have hsm:=hS.get (k:=k) (by omega) hg
   have i1:(k:Int)<(len:Int):=by omega
   have HG:=hid hg
   clear hg
   obtain⟨r,hr⟩:∃r,r=wflow ⟨a,t,X,Y⟩ n:=⟨_,rfl⟩
   have HR:=hid hr
   go_wp2_with fail
   refine(wrongFlow_any a t n X Y _ _ _ (hv.ext ((Ext.refl _).alloc _)) (hn.ext ((Ext.refl _).alloc _)) hI hsm.1 hsm.2).mono ?_
   rintro e w1 ⟨he,E1⟩
   rw[←hr] at he
   subst he
   clear hr
   have hbel1:Below (w.heap.size+1) (w.alloc (.cells #[.int .i64 0,.int .i64 0] 44)) w1:=(hbel.alloc (by omega) _).trans (Below.mono E1 (by simp;omega))
   obtain⟨z0',z1',y0',y1',hsz'⟩:=fault_kept hbel1
   have hE1:Ext w w1:=(hEw.alloc _).trans E1
   clear z0 z1 y0 y1
   by_cases h0:r=0
   ·subst h0
    go_wp2
    refine⟨⟨k+1,by omega,by go_num,fun j hj=>?_,hbel1⟩,by simp[intOf];omega⟩
    by_cases e:j=k
    ·subst e;rw[HG.out, ←HR.out]
    ·exact HP.out j (by omega)
   ·have h0':(r != 0)=true:=by simpa using h0
    go_wp2
    have hfin:wflows fs n=(r,(k:Int)):=by rw[wflows_bad hl12 (by omega) HP.out (by rw[HG.out, ←HR.out];exact h0),HG.out, ←HR.out]
    refine bodyPost_ret (v:=.agg #[.int .i64 r,.int .i64 k]) (by simp[results,Try.results44,go_sem,z0',z1']) rfl ⟨by rw[hfin],?_⟩
    exact(hE1.setCell (Nat.le_refl _) _).setCell (Nat.le_refl _) _
  ·have hfin:wflows fs n=(0,0):=wflows_good hl12 (fun j hj=>HP.out j (by omega))
   have HF:=hid hfin
   clear hfin
   go_wp2
   refine bodyPost_ret (v:=.agg #[.int .i64 0,.int .i64 0]) (by simp[results,Try.results44,go_sem,z0,z1]) rfl ⟨by rw[HF.out],?_⟩
   exact(hEw.setCell (Nat.le_refl _) _).setCell (Nat.le_refl _) _
theorem Wrong_any (ao:Option Addr) (len cap:Nat) (n:Int) (fs:List Fl) (w:World) (hlen:fs.length=len) (hf:FlowsAt w ao fs) (hI:I64 n) (hS:Sm fs) (hl:len≤9223372036854775807):
 Calls Try.prog 44 #[.slice ao len cap,.int .i64 n] w fun e w'=>e=.returned (.agg #[.int .i64 (wflows fs n).1,.int .i64 (wflows fs n).2])∧Ext w w':=by
 by_cases h:12<len
 ·have e:wflows fs n=(5,0):=by rw[wflows,if_pos (by omega)]
  rw[e]
  exact Wrong_many ao len cap n w h hl
 ·exact Wrong_few ao len cap n fs w hlen hf hI hS h
end Go.Proofs.Ytolclgbpjiokfaa.Fw
namespace Go.Proofs.Ytolclgbpjiokfaa
open Go.ChangeShapes Go.WideShapes Go.ChangeAt Go.RowKit Go.Deep Go.Joins Stw
theorem Try.cells26:Try.prog.cellsOf 31=1:=by kernel_rfl
theorem Try.bytes28:Try.prog.bytesOf 55=64:=by kernel_rfl
section
variable {H:Type} {enc:TypeId×Value→H} {W:World}
theorem weights_all {e:TypeId} {d:DataW H}:∀{l:List (DataW H)},d∈l→∀m∈d.weights Try.prog e,m∈DataW.weightsAll Try.prog e l
 | [],h,_,_=>by cases h
 | x::r,h,m,hm=>by
  rw[DataW.weightsAll,List.mem_append]
  rcases List.mem_cons.1 h with rfl | h
  ·exact Or.inl hm
  ·exact Or.inr (weights_all h m hm)
theorem cells4_inv {w:World} {a:Addr} {cs:List Value} {x y z u:Value} (h:w.cells? 0 a 4=some cs) (e:cs=[x,y,z,u]):w.cell? a=some x∧w.cell? (a.add 1)=some y∧w.cell? (a.add 2)=some z∧w.cell? (a.add 3)=some u:=by
 obtain⟨_,_,hc⟩:=World.cells?_some h
 subst e
 exact⟨by simpa[Addr.add] using hc 0 (by omega),hc 1 (by omega),hc 2 (by omega),hc 3 (by omega)⟩
theorem four_of {cs:List Value} (h:cs.length=4):∃c0 c1 c2 c3,cs=[c0,c1,c2,c3]:=by
 match cs,h with
 | [c0,c1,c2,c3],_=>exact⟨c0,c1,c2,c3,rfl⟩
set_option maxRecDepth 100000 in
theorem open_flow4 {fuel:Nat} {cs:List Value} {x:DataW H×List MemPlace} (h:DataW.trod enc Try.prog W 0 (fun _=>true) true fuel 55 cs=some x) (hw:∀m∈x.1.weights Try.prog 55,m≤reachBytes):
 ∃(f:Stf.Fl) (v n:Value),cs=[.int .i64 f.fr,.int .i64 f.to,v,n]∧Fw.FV W f.via v∧Fw.FV W f.nt n∧f.via.length≤4611686018427387904∧f.nt.length≤4611686018427387904:=by
 obtain⟨y0,y1,y2,y3,n',rfl,hlen,t0,t1,t2,t3⟩:=trod_struct4 Try.underlying55 h
 rw[Try.cells28] at hlen
 obtain⟨c0,c1,c2,c3,rfl⟩:∃c0 c1 c2 c3,cs=[c0,c1,c2,c3]:=four_of hlen
 obtain⟨a0,e0,_,w0⟩:=DataW.trod_int Try.underlying3 t0
 obtain⟨a1,e1,_,w1⟩:=DataW.trod_int Try.underlying3 t1
 obtain⟨vo,vl,vc,X,e2,hX,hvl,hvi,hvb,hvc,_⟩:=open_list Try.underlying31 t2 (fun m hm=>hw m (by simp[DataW.weights,DataW.weightsEach,Try.underlying55];exact Or.inr (Or.inr (Or.inl hm))))
 obtain⟨no,nl,nc,Y,e3,hY,hnl,hni,hnb,hnc,_⟩:=open_list Try.underlying31 t3 (fun m hm=>hw m (by simp[DataW.weights,DataW.weightsEach,Try.underlying55];exact Or.inr (Or.inr (Or.inr hm))))
 simp[Try.cells3,Try.cells26] at e0 e1 e2 e3
 subst e0 e1 e2 e3 hX hY
 exact⟨⟨a0,a1,X,Y⟩,_,_,rfl,⟨vo,vc,rfl,hvl,hvc⟩,⟨no,nc,rfl,hnl,hnc⟩,by simp only;omega,by simp only;omega⟩
set_option maxRecDepth 100000 in
theorem open_flows {fuel:Nat} {cs:List Value} {x:DataW H×List MemPlace} (h:DataW.trod enc Try.prog W 0 (fun _=>true) true fuel 27 cs=some x) (hw:∀m∈x.1.weights Try.prog 27,m≤reachBytes):
 ∃(ao:Option Addr) (len cap:Nat) (fs:List Stf.Fl),cs=[.slice ao len cap]∧fs.length=len∧Fw.FlowsAt W ao fs∧len≤9223372036854775807∧Fw.Sm fs:=by
 rcases open_slice Try.underlying27 h with⟨hcs,_⟩ | ⟨a,len,cap,m,n,D,Pl,hcs,_,hl,hm,hmm,hx,hel⟩
 ·exact⟨none,0,0,[],hcs,rfl,Or.inl rfl,by omega,fun k hk=>by simp at hk⟩
 ·have hmc:m=cap:=by simpa using hmm
  have hwD:∀i,i<len→∀m∈(D i).weights Try.prog 55,m≤reachBytes:=fun i hi m hm=>hw m (by
   rw[hx]
   simp only[DataW.weights,Try.underlying27]
   refine List.mem_cons_of_mem _ (List.mem_append_left _ (weights_all (List.mem_map.2 ⟨i,by simpa using hi,rfl⟩) m hm)))
  have hfam:∀i,i<len→∃q:(Int×Int×List Int×List Int)×Value×Value,(W.cell? (a.add (i*4))=some (.int .i64 q.1.1)∧W.cell? ((a.add (i*4)).add 1)=some (.int .i64 q.1.2.1)∧W.cell? ((a.add (i*4)).add 2)=some q.2.1∧W.cell? ((a.add (i*4)).add 3)=some q.2.2)∧
   Fw.FV W q.1.2.2.1 q.2.1∧Fw.FV W q.1.2.2.2 q.2.2∧q.1.2.2.1.length≤4611686018427387904∧q.1.2.2.2.length≤4611686018427387904:=by
   intro i hi
   obtain⟨cs',hcell,htr⟩:=hel i (by omega)
   rw[Try.cells28] at hcell
   obtain⟨f,v,nv,hc,h1,h2,h3,h4⟩:=open_flow4 htr (hwD i hi)
   exact⟨((f.fr,f.to,f.via,f.nt),v,nv),cells4_inv hcell hc,h1,h2,h3,h4⟩
  have:Inhabited ((Int×Int×List Int×List Int)×Value×Value):=⟨((0,0,[],[]),.int .i64 0,.int .i64 0)⟩
  obtain⟨F,hF⟩:=choose_lt hfam
  have hget:∀k (h:k<((List.range len).map (fun i=>(⟨(F i).1.1,(F i).1.2.1,(F i).1.2.2.1,(F i).1.2.2.2⟩:Stf.Fl))).length),((List.range len).map (fun i=>(⟨(F i).1.1,(F i).1.2.1,(F i).1.2.2.1,(F i).1.2.2.2⟩:Stf.Fl)))[k]=⟨(F k).1.1,(F k).1.2.1,(F k).1.2.2.1,(F k).1.2.2.2⟩:=fun k h=>by simp
  refine⟨some a,len,cap,(List.range len).map (fun i=>⟨(F i).1.1,(F i).1.2.1,(F i).1.2.2.1,(F i).1.2.2.2⟩),hcs,by simp,?_,by unfold maxLen at hm;omega,fun k hk=>?_⟩
  ·by_cases h0:len=0
   ·exact Or.inl (by simp[h0])
   ·obtain⟨b,off,spot⟩:=a
    have hc:=(hF 0 (by omega)).1.1
    have hspot:spot=none:=by simpa[Addr.add] using World.cell?_spot hc
    subst hspot
    refine Or.inr ⟨b,off,rfl,by have:=cell_lt hc;simpa[Addr.add] using this,fun k hk=>?_⟩
    have hk':k<len:=by simpa using hk
    obtain⟨⟨g0,g1,g2,g3⟩,hv,hn,_⟩:=hF k hk'
    have e0:(⟨b,off,none⟩:Addr).add (k*4)=⟨b,off+k*4,none⟩:=by
     unfold Addr.add
     split
     ·simp_all
     ·rfl
    rw[e0] at g0 g1 g2 g3
    rw[hget k hk]
    exact⟨_,_,g0,by simpa[Addr.add] using g1,by simpa[Addr.add] using g2,by simpa[Addr.add] using g3,hv,hn⟩
  ·have hk':k<len:=by simpa using hk
   rw[hget k hk]
   exact(hF k hk').2.2.2
end
end Go.Proofs.Ytolclgbpjiokfaa
