/- What ask makes of a world. -/
import Derived.Test.YtolclgbpjiokfaaU22
import Derived.Test.YtolclgbpjiokfaaU25
import Derived.Deep.RegionHeld3
import Derived.Test.YtolclgbpjiokfaaU23
import Derived.Test.YtolclgbpjiokfaaU14
namespace Go.Proofs.Ytolclgbpjiokfaa.Rm
open Go.RowKit Go.Deep Stw Stp Tb Rul Ct
def MOut (tl:List Value) (w0:World) (P n:Nat) (tg:Nat→Nat) (w:World) (sb ob bb:Nat) (R:Wd×Int) (e:Ending) (w':World):Prop:=
 e=.returned (.int .i64 R.2)∧∃tg' a' kv' lv',WSt 95 tl w0 P n tg' w' R.1 a' sb ob bb kv' lv'∧Kpt tg tg' w w'
theorem Inv.rows {n:Nat} {ls:List Lk} {t:Nat} {W:Wd} (h:Inv n ls t W) (s:Nat):(W.od.getD s []).length≤1∧(W.bk.getD s []).length≤1:=by
 by_cases hs:s<n
 ·rcases h.one hs with⟨e1,e2⟩ | ⟨o,e1,e2⟩ | ⟨k,e1,e2⟩ <;> rw[e1,e2] <;> simp
 ·have e1:W.od.getD s []=[]:=by rw[List.getD_eq_getElem?_getD,List.getElem?_eq_none (by rw[h.lod];omega)];rfl
  have e2:W.bk.getD s []=[]:=by rw[List.getD_eq_getElem?_getD,List.getElem?_eq_none (by rw[h.lbk];omega)];rfl
  rw[e1,e2];simp
theorem WSt.fresh {T:TypeId} {tl:List Value} {w0 w w':World} {P n:Nat} {tg:Nat→Nat} {W:Wd} {a:CA} {sb ob bb:Nat} {kv lv:Value} {D:World→Prop} (h:WSt T tl w0 P n tg w W a sb ob bb kv lv) (hD:∀U:World,w'.heap.size≤U.heap.size→(∀b,w.heap.size≤b→b<w'.heap.size→U.heap[b]? =w'.heap[b]?)→D U):Stb (fun b=>tg b=0) w' D:=
 fun U hU kU=>hD U hU (fun b hb hlt=>kU b (h.nw b hb) hlt)
theorem WSt.fresh1 {T:TypeId} {tl:List Value} {w0 w w3 w4:World} {P n:Nat} {tg:Nat→Nat} {W:Wd} {a:CA} {sb ob bb:Nat} {kv lv:Value} {D:World→Prop} (h:WSt T tl w0 P n tg w W a sb ob bb kv lv) (hD:∀U:World,w3.heap.size≤U.heap.size→(∀b,w.heap.size+1≤b→b<w3.heap.size→U.heap[b]? =w3.heap[b]?)→D U) (hs:w4.heap.size=w3.heap.size) (hb:∀b,b≠w.heap.size→w4.heap[b]? =w3.heap[b]?):Stb (fun b=>tg b=0) w4 D:=
 fun U hU kU=>hD U (by omega) (fun b h1 h2=>(kU b (h.nw b (by omega)) (by omega)).trans (hb b (by omega)))
theorem w9_row {V:World} {R:Nat} {T:TypeId} {f:Nat→Value} {x0 x1 x2 x3 x4 x5 x6 x7 x8:Value} (h:V.rowIs R T 9 f):(W9 V R x0 x1 x2 x3 x4 x5 x6 x7 x8).rowIs R T 9 (fun j=>[x0,x1,x2,x3,x4,x5,x6,x7,x8].getD j vd):=by
 unfold W9
 refine(((((((((h.set 0 _).set 1 _).set 2 _).set 3 _).set 4 _).set 5 _).set 6 _).set 7 _).set 8 _).congr (fun j hj=>?_)
 obtain rfl | rfl | rfl | rfl | rfl | rfl | rfl | rfl | rfl:j=0∨j=1∨j=2∨j=3∨j=4∨j=5∨j=6∨j=7∨j=8:=by omega
 all_goals rfl
theorem drop_words {n:Nat} {ls:List Lk} {t:Nat} {W:Wd} (h:Inv n ls t W) (ht:t≤1000) (h0:(dropS W.co n ls).2=0):(∀x∈(dropS W.co n ls).1.out,x.1<n)∧(dropS W.co n ls).1.out.length≤1000:=by
 have hst:=drop_calm' h0
 have hnum:=h.num
 have h1:=drop_told (c:=W.co) h.wr h.n8.2 hst h.ok.now h.dyn.n0 (by omega)
 have h2:=drop_few (c:=W.co) h.wr h.n8.2 hst
 exact⟨fun x hx=>(h1.ok x hx).1,by omega⟩
theorem hapD_no {n:Nat} {ls:List Lk} {W:Wd} (h:(dropS W.co n ls).2≠0):hapD n ls W=(W,(dropS W.co n ls).2):=by unfold hapD;rw[if_pos h]
theorem hapD_yes {n:Nat} {ls:List Lk} {W:Wd} (h:(dropS W.co n ls).2=0):hapD n ls W=(⟨(dropS W.co n ls).1.c,W.sw,putO W.od (dropS W.co n ls).1.out,W.bk,W.pk,W.pn⟩,0):=by unfold hapD;rw[if_neg (by simpa using h)]
set_option maxRecDepth 100000 in
set_option maxHeartbeats 4000000 in
theorem drop_any (n len cap:Nat) (ls:List Lk) (ao:Option Addr) (t:Nat) (w0:World) (P:Nat) (tg:Nat→Nat) (w:World) (W:Wd) (a:CA) (sb ob bb:Nat) (kv lv:Value) (h:WSt 95 [.int .i64 (n:Int),.slice ao len cap] w0 P n tg w W a sb ob bb kv lv) (hI:Inv n ls t W) (ht:t≤1000) (hlen:ls.length=len) (hnet:NetAt w0 ao ls) (hx:len≤9223372036854775807):
 Calls Try.prog 56 #[.pointer (some ⟨P,0,none⟩)] w fun e w'=>MOut [.int .i64 (n:Int),.slice ao len cap] w0 P n tg w sb ob bb (hapD n ls W) e w':=by
 have HW:=hidp h
 have HI:=hidp hI
 have hP:=h.row.lt
 have HS:Hid (∀V,Ext w V→V.cell? ⟨P,0,none⟩=some (.int .i64 W.co.st)∧V.cell? ⟨P,1,none⟩=some (.int .i64 W.co.now.v)∧V.cell? ⟨P,2,none⟩=some (.slice a.n.fo W.co.now.fs.length a.n.fc)∧V.cell? ⟨P,3,none⟩=some (.slice a.n.qo W.co.now.ps.length a.n.qc)∧V.cell? ⟨P,4,none⟩=some (.int .i64 W.co.nxt.v)∧V.cell? ⟨P,5,none⟩=some (.slice a.x.fo W.co.nxt.fs.length a.x.fc)∧V.cell? ⟨P,6,none⟩=some (.slice a.x.qo W.co.nxt.ps.length a.x.qc)∧V.cell? ⟨P,7,none⟩=some (.int .i64 W.co.num)∧V.cell? ⟨P,8,none⟩=some (.slice a.wo W.co.wts.length a.wc)∧V.cell? ⟨P,14,none⟩=some (.int .i64 (n:Int))∧V.cell? ⟨P,15,none⟩=some (.slice ao len cap)):=fun V hV=>by
  have hr:=HW.out.row.of_block (Below.block hV P hP)
  exact⟨hr.cell (i:=0) (by simp),hr.cell (i:=1) (by simp),hr.cell (i:=2) (by simp),hr.cell (i:=3) (by simp),hr.cell (i:=4) (by simp),hr.cell (i:=5) (by simp),hr.cell (i:=6) (by simp),hr.cell (i:=7) (by simp),hr.cell (i:=8) (by simp),hr.cell (i:=14) (by simp),hr.cell (i:=15) (by simp)⟩
 have HCA:Hid (∀V,Ext w V→Calls Try.prog 75 #[cvl W.co a,.agg #[.int .i64 (n:Int),.slice ao len cap]] V fun e w'=>GoOut V.heap.size V (dropS W.co n ls).1 (dropS W.co n ls).2 e w'):=fun V hV=>Drop_any W.co a n ao len cap ls V ((HW.out.toExt hV).co.at) (HI.out.small ht) hlen (hnet.ext (HW.out.ext.trans hV)) hx
 clear h hI hlen hnet hx
 unfold cvl at HCA
 go_enter Try.func56,Try.ntmps56
 go_wp2
 have hd:Ext w w.drew:=(Ext.refl w).drew
 have hda:Ext w (w.alloc (.cells #[.int .i64 0,.int .i64 0,.slice none 0 0,.slice none 0 0,.int .i64 0,.slice none 0 0,.slice none 0 0,.int .i64 0,.slice none 0 0] 33)).drew:=((Ext.refl w).alloc _).drew
 go_region_held3 (fun V=>V.cell? ⟨P,0,none⟩=some (.int .i64 W.co.st)∧V.cell? ⟨P,1,none⟩=some (.int .i64 W.co.now.v)∧V.cell? ⟨P,2,none⟩=some (.slice a.n.fo W.co.now.fs.length a.n.fc)∧V.cell? ⟨P,3,none⟩=some (.slice a.n.qo W.co.now.ps.length a.n.qc)∧V.cell? ⟨P,4,none⟩=some (.int .i64 W.co.nxt.v)∧V.cell? ⟨P,5,none⟩=some (.slice a.x.fo W.co.nxt.fs.length a.x.fc)∧V.cell? ⟨P,6,none⟩=some (.slice a.x.qo W.co.nxt.ps.length a.x.qc)∧V.cell? ⟨P,7,none⟩=some (.int .i64 W.co.num)∧V.cell? ⟨P,8,none⟩=some (.slice a.wo W.co.wts.length a.wc)∧V.cell? ⟨P,14,none⟩=some (.int .i64 (n:Int))∧V.cell? ⟨P,15,none⟩=some (.slice ao len cap))
  (first | (with_reducible exact HS.out _ hd) | (with_reducible exact HS.out _ hda) | (with_reducible exact HS.out _ mk1) | (with_reducible exact HS.out _ mk2) | (with_reducible exact HS.out _ (mk1.alloc _)) | (with_reducible exact HS.out _ mk3) | fail)
  (first
  | (go_at_call 75
     with_reducible refine(HCA.out _ hd).mono ?_
     intro e w3 hG
     obtain⟨k0,k1,o2,l2,q2,o3,l3,q3,k4,o5,l5,q5,o6,l6,q6,k7,o8,l8,q8,tO,l9,tc,rfl,E9,HF⟩:=hG.letters
     have mk1:=hd.trans E9)
  | (go_at_call 75
     with_reducible refine(HCA.out _ hda).mono ?_
     intro e w3 hG
     obtain⟨k0,k1,o2,l2,q2,o3,l3,q3,k4,o5,l5,q5,o6,l6,q6,k7,o8,l8,q8,tO,l9,tc,rfl,E9,HF⟩:=hG.letters
     have mk2:=hda.trans E9
     have mk3:=W9_ext0 mk2 (Nat.le_refl w.heap.size) (x0:=.int .i64 k0) (x1:=.int .i64 k1) (x2:=.slice o2 l2 q2) (x3:=.slice o3 l3 q3) (x4:=.int .i64 k4) (x5:=.slice o5 l5 q5) (x6:=.slice o6 l6 q6) (x7:=.int .i64 k7) (x8:=.slice o8 l8 q8)
     unfold W9 at mk3
     have HB:w3.rowIs w.heap.size 33 9 _:=(box_row (T:=33) (show w.heap.size=w.heap.size from rfl) _ _ _ _ _ _ _ _ _).of_block (Below.block E9 _ (by simp))
     have u0:=HB.cell (i:=0) (by omega)
     have u1:=HB.cell (i:=1) (by omega)
     have u2:=HB.cell (i:=2) (by omega)
     have u3:=HB.cell (i:=3) (by omega)
     have u4:=HB.cell (i:=4) (by omega)
     have u5:=HB.cell (i:=5) (by omega)
     have u6:=HB.cell (i:=6) (by omega)
     have u7:=HB.cell (i:=7) (by omega)
     have u8:=HB.cell (i:=8) (by omega)
     have uz:=HB.frozen
     have HHB:=hidp HB
     clear HB))
 all_goals
  first
  | (have _t:=mk1
     obtain⟨w4,hw4⟩:∃w4,w4=w3.alloc (.cells #[.int .i64 k0,.int .i64 k1,.slice o2 l2 q2,.slice o3 l3 q3,.int .i64 k4,.slice o5 l5 q5,.slice o6 l6 q6,.int .i64 k7,.slice o8 l8 q8] 33):=⟨_,rfl⟩
     have R4:w4.rowIs w3.heap.size 33 9 (fun j=>[.int .i64 k0,.int .i64 k1,.slice o2 l2 q2,.slice o3 l3 q3,.int .i64 k4,.slice o5 l5 q5,.slice o6 l6 q6,.int .i64 k7,.slice o8 l8 q8].getD j vd):=by rw[hw4];exact box_row rfl _ _ _ _ _ _ _ _ _
     have E4:Ext w w4:=by rw[hw4];exact mk1.alloc _
     have HST:Hid (∃a',Value.agg #[.int .i64 k0,.int .i64 k1,.slice o2 l2 q2,.slice o3 l3 q3,.int .i64 k4,.slice o5 l5 q5,.slice o6 l6 q6,.int .i64 k7,.slice o8 l8 q8]=cvl (dropS W.co n ls).1.c a'∧l9=(dropS W.co n ls).1.out.length∧Stb (fun b=>tg b=0) w4 (fun U=>CoAt U (dropS W.co n ls).1.c a'∧TosAt U tO (dropS W.co n ls).1.out)):=by
      obtain⟨a',ea,el,hU⟩:=HF.out
      exact⟨a',ea,el,(HW.out.fresh hU).ext (by rw[hw4];exact(Ext.refl w3).alloc _)⟩
     rw[←hw4]
     clear hw4 mk1 E9 hG HF _t)
  | (have _t:=mk2
     obtain⟨w4,hw4⟩:∃w4,w4=W9 w3 w.heap.size (.int .i64 k0) (.int .i64 k1) (.slice o2 l2 q2) (.slice o3 l3 q3) (.int .i64 k4) (.slice o5 l5 q5) (.slice o6 l6 q6) (.int .i64 k7) (.slice o8 l8 q8):=⟨_,rfl⟩
     have R4:w4.rowIs w.heap.size 33 9 (fun j=>[.int .i64 k0,.int .i64 k1,.slice o2 l2 q2,.slice o3 l3 q3,.int .i64 k4,.slice o5 l5 q5,.slice o6 l6 q6,.int .i64 k7,.slice o8 l8 q8].getD j vd):=by rw[hw4];exact w9_row HHB.out
     have E4:Ext w w4:=by rw[hw4];exact W9_ext0 mk2 (Nat.le_refl _)
     have HST:Hid (∃a',Value.agg #[.int .i64 k0,.int .i64 k1,.slice o2 l2 q2,.slice o3 l3 q3,.int .i64 k4,.slice o5 l5 q5,.slice o6 l6 q6,.int .i64 k7,.slice o8 l8 q8]=cvl (dropS W.co n ls).1.c a'∧l9=(dropS W.co n ls).1.out.length∧Stb (fun b=>tg b=0) w4 (fun U=>CoAt U (dropS W.co n ls).1.c a'∧TosAt U tO (dropS W.co n ls).1.out)):=by
      obtain⟨a',ea,el,hU⟩:=HF.out
      refine⟨a',ea,el,?_⟩
      rw[hw4]
      exact HW.out.fresh1 (fun U h1 h2=>hU U h1 (fun b hb h3=>h2 b (by simpa using hb) h3)) W9_size0 W9_block0
     unfold W9 at hw4
     rw[←hw4]
     clear hw4 mk2 mk3 E9 hG HF _t u0 u1 u2 u3 u4 u5 u6 u7 u8 uz HHB)
  have x0:=R4.cell (i:=0) (by omega)
  have x1:=R4.cell (i:=1) (by omega)
  have x2:=R4.cell (i:=2) (by omega)
  have x3:=R4.cell (i:=3) (by omega)
  have x4:=R4.cell (i:=4) (by omega)
  have x5:=R4.cell (i:=5) (by omega)
  have x6:=R4.cell (i:=6) (by omega)
  have x7:=R4.cell (i:=7) (by omega)
  have x8:=R4.cell (i:=8) (by omega)
  simp only[List.getD_cons_zero,List.getD_cons_succ] at x0 x1 x2 x3 x4 x5 x6 x7 x8
  clear R4
  by_cases h0:(dropS W.co n ls).2=0
  ·have HD:=hidp (hapD_yes h0)
   have HDW:=hidp (drop_words HI.out ht h0)
   rw[h0]
   clear h0
   go_wp2_with fail
   have HT:Hid (Calls Try.prog 66 #[.pointer (some ⟨P,0,none⟩),.agg #[.int .i64 k0,.int .i64 k1,.slice o2 l2 q2,.slice o3 l3 q3,.int .i64 k4,.slice o5 l5 q5,.slice o6 l6 q6,.int .i64 k7,.slice o8 l8 q8],.slice tO l9 tc] w4 fun e w'=>e=.returned (.tuple #[])∧∃tg' a',WSt 95 [.int .i64 (n:Int),.slice ao len cap] w0 P n tg' w' ⟨(dropS W.co n ls).1.c,W.sw,putO W.od (dropS W.co n ls).1.out,W.bk,W.pk,W.pn⟩ a' sb ob bb kv lv∧Kpt tg tg' w4 w'):=by
    obtain⟨a',ea,el,hS⟩:=HST.out
    show Calls _ _ _ _ _
    rw[ea,el]
    exact(take_any _ w0 P n tg w4 W a sb ob bb kv lv _ a' _ tO tc (HW.out.toExt E4) HI.out.lod hS HDW.out.1 HDW.out.2 (fun s=>by have:=(HI.out.rows s).1;omega)).mono (fun e w' ⟨h1,tg',h2,h3⟩=>⟨h1,tg',a',h2,h3⟩)
   refine Calls.mono HT.out ?_
   rintro e w5 ⟨rfl,tg5,a5,hW5,hK5⟩
   have HW5:=hidp hW5
   have HK5:=hidp hK5
   clear hW5 hK5 HT x0 x1 x2 x3 x4 x5 x6 x7 x8
   go_wp2
   go_ret
   rw[HD.out]
   exact⟨rfl,tg5,a5,kv,lv,HW5.out,(Kpt.ext E4).trans HK5.out⟩
  ·have HD:=hidp (hapD_no h0)
   have b0:((dropS W.co n ls).2 != 0)=true:=by simpa using h0
   clear h0
   go_wp2
   go_ret
   rw[HD.out]
   exact⟨rfl,tg,a,kv,lv,HW.out.toExt E4,Kpt.ext E4⟩
end Go.Proofs.Ytolclgbpjiokfaa.Rm
namespace Go.Proofs.Ytolclgbpjiokfaa.Rm
open Go.RowKit Go.Deep Stw Stp Tb Rul Ct
theorem ask_words {n:Nat} {ls:List Lk} {t:Nat} {W:Wd} {fs:List Stf.Fl} (h:Inv n ls t W) (ht:t≤1000) (h0:(askS W.co n ls fs).2=0):(∀x∈(askS W.co n ls fs).1.out,x.1<n)∧(askS W.co n ls fs).1.out.length≤1000:=by
 have ha:=Ct.ask_cases h0
 have hnum:=h.num
 have h1:=ha.told h.dyn.n0 (by omega)
 have h2:=ha.few
 exact⟨fun x hx=>(h1.ok x hx).1,by omega⟩
theorem hapA_no {n:Nat} {ls:List Lk} {W:Wd} {fs:List Stf.Fl} (h:(askS W.co n ls fs).2≠0):hapA n ls W fs=(W,(askS W.co n ls fs).2):=by unfold hapA;rw[if_pos h]
theorem hapA_yes {n:Nat} {ls:List Lk} {W:Wd} {fs:List Stf.Fl} (h:(askS W.co n ls fs).2=0):hapA n ls W fs=(⟨(askS W.co n ls fs).1.c,W.sw,putO W.od (askS W.co n ls fs).1.out,W.bk,W.pk,W.pn++[(askS W.co n ls fs).1.c.nxt]⟩,0):=by unfold hapA;rw[if_neg (by simpa using h)]
theorem cvl_nxt {k0 k1 k4 k7:Int} {o2 o3 o5 o6 o8:Option Addr} {l2 q2 l3 q3 l5 q5 l6 q6 l8 q8:Nat} {c:Co} {a:CA} (h:Value.agg #[.int .i64 k0,.int .i64 k1,.slice o2 l2 q2,.slice o3 l3 q3,.int .i64 k4,.slice o5 l5 q5,.slice o6 l6 q6,.int .i64 k7,.slice o8 l8 q8]=cvl c a):Value.agg #[.int .i64 k4,.slice o5 l5 q5,.slice o6 l6 q6]=pvl c.nxt a.x:=by
 unfold cvl at h
 unfold pvl
 simp only[Value.agg.injEq,Array.mk.injEq,List.cons.injEq,Value.int.injEq,Value.slice.injEq,true_and,and_true] at h ⊢
 exact⟨h.2.2.2.2.1,h.2.2.2.2.2.1,h.2.2.2.2.2.2.1⟩
theorem news3 {w W:World} {H:Nat} (hH:w.heap.size=H) {a b c:Value} {T:TypeId} (E:Ext (w.alloc (.cells #[a,b,c] T)) W):∀(j:Nat) (u:Value),[a,b,c][j]? =some u→W.cell? ((⟨H,0,none⟩:Addr).add j)=some u:=fun j u hu=>by
 have hb:(w.alloc (.cells #[a,b,c] T)).heap[H]? =some (.cells #[a,b,c] T (0,0)):=by rw[←hH];exact blk_alloc_new _ _
 have hb2:W.heap[H]? =some (.cells #[a,b,c] T (0,0)):=(Below.block E H (by simp;omega)).trans hb
 have hadd:(⟨H,0,none⟩:Addr).add j=⟨H,j,none⟩:=by unfold Addr.add;split <;> simp_all
 rw[hadd,cell_of_row _ _ _ _ _ _ hb2]
 have:j<3:=(List.getElem?_eq_some_iff.1 hu).1
 obtain rfl | rfl | rfl:j=0∨j=1∨j=2:=by omega
 all_goals exact hu
theorem one3p (a:Int) (o o':Option Addr) (l c l' c':Nat):∀u∈[Value.int .i64 a,.slice o l c,.slice o' l' c'],u.oneCell'=true:=by
 intro u hu
 simp at hu
 rcases hu with rfl | rfl | rfl <;> rfl
theorem infoPlan:(Try.prog.info? 30).map (fun i=>(i.zero,i.size,i.bytes))=some (some (.agg #[.int .i64 0,.slice none 0 0,.slice none 0 0]),3,56):=by kernel_rfl
set_option maxRecDepth 100000 in
set_option maxHeartbeats 4000000 in
theorem ask_any (n len cap:Nat) (lo:Option Addr) (lc:Nat) (fs:List Stf.Fl) (ls:List Lk) (ao:Option Addr) (t:Nat) (w0:World) (P:Nat) (tg:Nat→Nat) (w:World) (W:Wd) (a:CA) (sb ob bb:Nat) (kv lv:Value) (h:WSt 95 [.int .i64 (n:Int),.slice ao len cap] w0 P n tg w W a sb ob bb kv lv) (hI:Inv n ls t W) (ht:t≤900) (hlen:ls.length=len) (hnet:NetAt w0 ao ls) (hx:len≤9223372036854775807) (hf:Fw.FlowsAt w0 lo fs) (hS:Fw.Sm fs) (hlx:fs.length≤9223372036854775807):
 Calls Try.prog 51 #[.pointer (some ⟨P,0,none⟩),.slice lo fs.length lc] w fun e w'=>MOut [.int .i64 (n:Int),.slice ao len cap] w0 P n tg w sb ob bb (hapA n ls W fs) e w':=by
 obtain⟨i0,hi0,hz00,hz01,hz02⟩:=info_parts infoPlan
 have HW:=hidp h
 have HI:=hidp hI
 have hP:=h.row.lt
 have HS:Hid (∀V,Ext w V→V.cell? ⟨P,0,none⟩=some (.int .i64 W.co.st)∧V.cell? ⟨P,1,none⟩=some (.int .i64 W.co.now.v)∧V.cell? ⟨P,2,none⟩=some (.slice a.n.fo W.co.now.fs.length a.n.fc)∧V.cell? ⟨P,3,none⟩=some (.slice a.n.qo W.co.now.ps.length a.n.qc)∧V.cell? ⟨P,4,none⟩=some (.int .i64 W.co.nxt.v)∧V.cell? ⟨P,5,none⟩=some (.slice a.x.fo W.co.nxt.fs.length a.x.fc)∧V.cell? ⟨P,6,none⟩=some (.slice a.x.qo W.co.nxt.ps.length a.x.qc)∧V.cell? ⟨P,7,none⟩=some (.int .i64 W.co.num)∧V.cell? ⟨P,8,none⟩=some (.slice a.wo W.co.wts.length a.wc)∧V.cell? ⟨P,14,none⟩=some (.int .i64 (n:Int))∧V.cell? ⟨P,15,none⟩=some (.slice ao len cap)):=fun V hV=>by
  have hr:=HW.out.row.of_block (Below.block hV P hP)
  exact⟨hr.cell (i:=0) (by simp),hr.cell (i:=1) (by simp),hr.cell (i:=2) (by simp),hr.cell (i:=3) (by simp),hr.cell (i:=4) (by simp),hr.cell (i:=5) (by simp),hr.cell (i:=6) (by simp),hr.cell (i:=7) (by simp),hr.cell (i:=8) (by simp),hr.cell (i:=14) (by simp),hr.cell (i:=15) (by simp)⟩
 have HCA:Hid (∀V,Ext w V→Calls Try.prog 65 #[cvl W.co a,.agg #[.int .i64 (n:Int),.slice ao len cap],.slice lo fs.length lc] V fun e w'=>GoOut V.heap.size V (askS W.co n ls fs).1 (askS W.co n ls fs).2 e w'):=fun V hV=>Ask_any W.co a n ao len cap ls lo fs.length lc fs V ((HW.out.toExt hV).co.at) (HI.out.small (by omega)) hlen (hnet.ext (HW.out.ext.trans hV)) hx (i64_small (by omega) (by have:=HI.out.n8;omega)) rfl (hf.ext (HW.out.ext.trans hV)) hS hlx
 clear h hI hlen hnet hx hf hS hlx
 unfold cvl at HCA
 go_enter Try.func51,Try.ntmps51
 go_wp2
 have hd:Ext w w.drew:=(Ext.refl w).drew
 have hda:Ext w (w.alloc (.cells #[.int .i64 0,.int .i64 0,.slice none 0 0,.slice none 0 0,.int .i64 0,.slice none 0 0,.slice none 0 0,.int .i64 0,.slice none 0 0] 33)).drew:=((Ext.refl w).alloc _).drew
 go_region_held3 (fun V=>V.cell? ⟨P,0,none⟩=some (.int .i64 W.co.st)∧V.cell? ⟨P,1,none⟩=some (.int .i64 W.co.now.v)∧V.cell? ⟨P,2,none⟩=some (.slice a.n.fo W.co.now.fs.length a.n.fc)∧V.cell? ⟨P,3,none⟩=some (.slice a.n.qo W.co.now.ps.length a.n.qc)∧V.cell? ⟨P,4,none⟩=some (.int .i64 W.co.nxt.v)∧V.cell? ⟨P,5,none⟩=some (.slice a.x.fo W.co.nxt.fs.length a.x.fc)∧V.cell? ⟨P,6,none⟩=some (.slice a.x.qo W.co.nxt.ps.length a.x.qc)∧V.cell? ⟨P,7,none⟩=some (.int .i64 W.co.num)∧V.cell? ⟨P,8,none⟩=some (.slice a.wo W.co.wts.length a.wc)∧V.cell? ⟨P,14,none⟩=some (.int .i64 (n:Int))∧V.cell? ⟨P,15,none⟩=some (.slice ao len cap))
  (first | (with_reducible exact HS.out _ hd) | (with_reducible exact HS.out _ hda) | (with_reducible exact HS.out _ mk1) | (with_reducible exact HS.out _ mk2) | (with_reducible exact HS.out _ (mk1.alloc _)) | (with_reducible exact HS.out _ mk3) | fail)
  (first
  | (go_at_call 65
     with_reducible refine(HCA.out _ hd).mono ?_
     intro e w3 hG
     obtain⟨k0,k1,o2,l2,q2,o3,l3,q3,k4,o5,l5,q5,o6,l6,q6,k7,o8,l8,q8,tO,l9,tc,rfl,E9,HF⟩:=hG.letters
     have mk1:=hd.trans E9)
  | (go_at_call 65
     with_reducible refine(HCA.out _ hda).mono ?_
     intro e w3 hG
     obtain⟨k0,k1,o2,l2,q2,o3,l3,q3,k4,o5,l5,q5,o6,l6,q6,k7,o8,l8,q8,tO,l9,tc,rfl,E9,HF⟩:=hG.letters
     have mk2:=hda.trans E9
     have mk3:=W9_ext0 mk2 (Nat.le_refl w.heap.size) (x0:=.int .i64 k0) (x1:=.int .i64 k1) (x2:=.slice o2 l2 q2) (x3:=.slice o3 l3 q3) (x4:=.int .i64 k4) (x5:=.slice o5 l5 q5) (x6:=.slice o6 l6 q6) (x7:=.int .i64 k7) (x8:=.slice o8 l8 q8)
     unfold W9 at mk3
     have HB:w3.rowIs w.heap.size 33 9 _:=(box_row (T:=33) (show w.heap.size=w.heap.size from rfl) _ _ _ _ _ _ _ _ _).of_block (Below.block E9 _ (by simp))
     have u0:=HB.cell (i:=0) (by omega)
     have u1:=HB.cell (i:=1) (by omega)
     have u2:=HB.cell (i:=2) (by omega)
     have u3:=HB.cell (i:=3) (by omega)
     have u4:=HB.cell (i:=4) (by omega)
     have u5:=HB.cell (i:=5) (by omega)
     have u6:=HB.cell (i:=6) (by omega)
     have u7:=HB.cell (i:=7) (by omega)
     have u8:=HB.cell (i:=8) (by omega)
     have uz:=HB.frozen
     have HHB:=hidp HB
     clear HB))
 ·have _t:=mk1
  obtain⟨w4,hw4⟩:∃w4,w4=w3.alloc (.cells #[.int .i64 k0,.int .i64 k1,.slice o2 l2 q2,.slice o3 l3 q3,.int .i64 k4,.slice o5 l5 q5,.slice o6 l6 q6,.int .i64 k7,.slice o8 l8 q8] 33):=⟨_,rfl⟩
  have R4:w4.rowIs w3.heap.size 33 9 (fun j=>[.int .i64 k0,.int .i64 k1,.slice o2 l2 q2,.slice o3 l3 q3,.int .i64 k4,.slice o5 l5 q5,.slice o6 l6 q6,.int .i64 k7,.slice o8 l8 q8].getD j vd):=by rw[hw4];exact box_row rfl _ _ _ _ _ _ _ _ _
  have E4:Ext w w4:=by rw[hw4];exact mk1.alloc _
  have HST:Hid (∃a',Value.agg #[.int .i64 k0,.int .i64 k1,.slice o2 l2 q2,.slice o3 l3 q3,.int .i64 k4,.slice o5 l5 q5,.slice o6 l6 q6,.int .i64 k7,.slice o8 l8 q8]=cvl (askS W.co n ls fs).1.c a'∧l9=(askS W.co n ls fs).1.out.length∧Stb (fun b=>tg b=0) w4 (fun U=>CoAt U (askS W.co n ls fs).1.c a'∧TosAt U tO (askS W.co n ls fs).1.out)):=by
   obtain⟨a',ea,el,hU⟩:=HF.out
   exact⟨a',ea,el,(HW.out.fresh hU).ext (by rw[hw4];exact(Ext.refl w3).alloc _)⟩
  have HX0:Hid (tg w3.heap.size=0):=HW.out.nw _ mk1.size
  rw[←hw4]
  clear hw4 E9 hG HF _t
  generalize w3.heap.size=X at R4 HX0 ⊢
  clear mk1
  have x0:=R4.cell (i:=0) (by omega)
  have x1:=R4.cell (i:=1) (by omega)
  have x2:=R4.cell (i:=2) (by omega)
  have x3:=R4.cell (i:=3) (by omega)
  have x4:=R4.cell (i:=4) (by omega)
  have x5:=R4.cell (i:=5) (by omega)
  have x6:=R4.cell (i:=6) (by omega)
  have x7:=R4.cell (i:=7) (by omega)
  have x8:=R4.cell (i:=8) (by omega)
  simp only[List.getD_cons_zero,List.getD_cons_succ] at x0 x1 x2 x3 x4 x5 x6 x7 x8
  have hXl:=R4.lt
  clear R4
  by_cases h0:(askS W.co n ls fs).2=0
  ·have HD:=hidp (hapA_yes h0)
   have HDW:=hidp (ask_words HI.out (by omega) h0)
   rw[h0]
   clear h0
   go_wp2_with fail
   have HT:Hid (Calls Try.prog 66 #[.pointer (some ⟨P,0,none⟩),.agg #[.int .i64 k0,.int .i64 k1,.slice o2 l2 q2,.slice o3 l3 q3,.int .i64 k4,.slice o5 l5 q5,.slice o6 l6 q6,.int .i64 k7,.slice o8 l8 q8],.slice tO l9 tc] w4 fun e w'=>e=.returned (.tuple #[])∧∃tg' a',Value.agg #[.int .i64 k4,.slice o5 l5 q5,.slice o6 l6 q6]=pvl (askS W.co n ls fs).1.c.nxt a'.x∧WSt 95 [.int .i64 (n:Int),.slice ao len cap] w0 P n tg' w' ⟨(askS W.co n ls fs).1.c,W.sw,putO W.od (askS W.co n ls fs).1.out,W.bk,W.pk,W.pn⟩ a' sb ob bb kv lv∧Kpt tg tg' w4 w'):=by
    obtain⟨a',ea,el,hS⟩:=HST.out
    show Calls _ _ _ _ _
    have en:=cvl_nxt ea
    rw[ea,el]
    exact(take_any _ w0 P n tg w4 W a sb ob bb kv lv _ a' _ tO tc (HW.out.toExt E4) HI.out.lod hS HDW.out.1 HDW.out.2 (fun s=>by have:=(HI.out.rows s).1;omega)).mono (fun e w' ⟨h1,tg',h2,h3⟩=>⟨h1,tg',a',en,h2,h3⟩)
   refine Calls.mono HT.out ?_
   rintro e w5 ⟨rfl,tg5,a5,en,hW5,hK5⟩
   have HW5:=hidp hW5
   have HK5:=hidp hK5
   obtain⟨p,hp⟩:∃p,p=(askS W.co n ls fs).1.c.nxt:=⟨_,rfl⟩
   have HP:=hidp hp
   have hP5:=hW5.row.lt
   have HCP:Hid (∀V,Ext w5 V→Calls Try.prog 67 #[.agg #[.int .i64 k4,.slice o5 l5 q5,.slice o6 l6 q6]] V fun e w'=>∃ap:PA,e=.returned (.agg #[.int .i64 p.v,.slice ap.fo p.fs.length ap.fc,.slice ap.qo p.ps.length ap.qc])∧PlNew V.heap.size w' p ap∧Ext V w'):=fun V hV=>by
    rw[en,hp]
    have hok:PlOk (askS W.co n ls fs).1.c.nxt:=by
     have h1:=(hapA_inv (fs:=fs) HI.out (by omega)).small (by omega)
     rw[HD.out] at h1
     exact h1.x
    exact Copy_any _ a5.x V ((HW5.out.toExt hV).co.at.hx) hok
   have HSX:Hid (∀V,Ext w5 V→V.cell? ⟨P,13,none⟩=some lv∧V.cell? ⟨X,4,none⟩=some (.int .i64 k4)∧V.cell? ⟨X,5,none⟩=some (.slice o5 l5 q5)∧V.cell? ⟨X,6,none⟩=some (.slice o6 l6 q6)):=fun V hV=>by
    have hbX:w5.heap[X]? =w4.heap[X]?:=(hK5.blk X hXl (Or.inl HX0.out)).2
    have hX5:X<w5.heap.size:=Nat.lt_of_lt_of_le hXl hK5.size
    exact⟨(hV.cells.1 _ _ hP5).trans (HW5.out.row.cell (i:=13) (by simp)),(hV.cells.1 _ _ hX5).trans ((World.cell?_of_block (a:=⟨X,4,none⟩) hbX).trans x4),(hV.cells.1 _ _ hX5).trans ((World.cell?_of_block (a:=⟨X,5,none⟩) hbX).trans x5),(hV.cells.1 _ _ hX5).trans ((World.cell?_of_block (a:=⟨X,6,none⟩) hbX).trans x6)⟩
   obtain⟨xs,hrw,hpl⟩:=hW5.pls
   have HRW:=hidp hrw
   have HPL:=hidp hpl
   have hpn:W.pn.length≤1000:=by have:=HI.out.pl;omega
   clear hW5 hK5 HT x0 x1 x2 x3 x4 x5 x6 x7 x8 en hrw hpl hp
   go_wp2
   refine Last.LH.start (m:=14) (S:=fun V=>V.cell? ⟨P,13,none⟩=some lv∧V.cell? ⟨X,4,none⟩=some (.int .i64 k4)∧V.cell? ⟨X,5,none⟩=some (.slice o5 l5 q5)∧V.cell? ⟨X,6,none⟩=some (.slice o6 l6 q6)) (by kernel_rfl) ?_
   have hHeld:(fun V:World=>V.cell? ⟨P,13,none⟩=some lv∧V.cell? ⟨X,4,none⟩=some (.int .i64 k4)∧V.cell? ⟨X,5,none⟩=some (.slice o5 l5 q5)∧V.cell? ⟨X,6,none⟩=some (.slice o6 l6 q6)) w5.drew:=HSX.out _ (Ext.refl _).drew
   refine Last.LH.take (i:=0) (v:=?v0a) rfl (by kernel_rfl) (by kernel_rfl) (by kernel_rfl) (by kernel_rfl) (fun _ _ _ h=>h) (by rfl) ?hy0a hHeld ?rest0a
   case hy0a=>intro W hSW;(try dsimp only at hSW);go_simp;with_reducible rfl
   refine Last.LH.take (i:=1) (v:=?v1a) rfl (by kernel_rfl) (by kernel_rfl) (by kernel_rfl) (by kernel_rfl) (fun _ _ _ h=>h) (by rfl) ?hy1a hHeld ?rest1a
   case hy1a=>intro W hSW;(try dsimp only at hSW);go_simp;with_reducible rfl
   refine Last.LH.take (i:=2) (v:=?v2a) rfl (by kernel_rfl) (by kernel_rfl) (by kernel_rfl) (by kernel_rfl) (fun _ _ _ h=>h) (by rfl) ?hy2a hHeld ?rest2a
   case hy2a=>intro W hSW;(try dsimp only at hSW);go_simp;with_reducible rfl
   refine Last.LH.take (i:=3) (v:=?v3a) rfl (by kernel_rfl) (by kernel_rfl) (by kernel_rfl) (by kernel_rfl) (fun _ _ _ h=>h) (by rfl) ?hy3a hHeld ?rest3a
   case hy3a=>intro W hSW;(try dsimp only at hSW);go_simp;with_reducible rfl
   refine Last.LH.take (i:=4) (v:=?v4a) rfl (by kernel_rfl) (by kernel_rfl) (by kernel_rfl) (by kernel_rfl) (fun _ _ _ h=>h) (by rfl) ?hy4a hHeld ?rest4a
   case hy4a=>intro W hSW;(try dsimp only at hSW);go_simp;with_reducible rfl
   refine Last.LH.take (i:=5) (v:=?v5a) rfl (by kernel_rfl) (by kernel_rfl) (by kernel_rfl) (by kernel_rfl) (fun _ _ _ h=>h) (by rfl) ?hy5a hHeld ?rest5a
   case hy5a=>intro W hSW;(try dsimp only at hSW);go_simp;with_reducible rfl
   refine Last.LH.take (i:=6) (v:=?v6a) rfl (by kernel_rfl) (by kernel_rfl) (by kernel_rfl) (by kernel_rfl) (fun _ _ _ h=>h) (by rfl) ?hy6a hHeld ?rest6a
   case hy6a=>intro W hSW;(try dsimp only at hSW);go_simp;with_reducible rfl
   refine Last.LH.take (i:=7) (v:=?v7a) rfl (by kernel_rfl) (by kernel_rfl) (by kernel_rfl) (by kernel_rfl) (fun _ _ _ h=>h) (by rfl) ?hy7a hHeld ?rest7a
   case hy7a=>intro W hSW;(try dsimp only at hSW);go_simp;with_reducible rfl
   refine Last.LH.one (i:=8) (by kernel_rfl) rfl (fun K hK=>?_)
   go_simp
   refine(HCP.out _ (Ext.refl _).drew).mono ?_
   rintro e w6 ⟨ap,rfl,hN,E6⟩
   have HN:=hidp hN
   have E56:Ext w5 w6:=(Ext.refl _).drew.trans E6
   refine hK _ _ (fun _=>HSX.out _ E56) ?_
   clear hK K hHeld hN E6
   refine Last.LH.one (i:=9) (by kernel_rfl) rfl (fun K hK=>?_)
   go_simp
   refine hK _ _ (fun _=>HSX.out _ (E56.alloc _)) ?_
   clear hK K
   have EA:Ext w5 (w6.alloc (.cells #[.int .i64 p.v,.slice ap.fo p.fs.length ap.fc,.slice ap.qo p.ps.length ap.qc] 30)):=E56.alloc _
   refine Last.LH.one (i:=10) (by kernel_rfl) rfl (fun K hK=>?_)
   refine step_append_rw _ rfl (.tmp 35) (.tmp 39) 38 rfl 30 i0 _ 3 56 Try.underlying38 hi0 hz00 hz01 hz02 rfl (by decide) lv W.pn.length xs rfl ?rwa ⟨w6.heap.size,0,none⟩ 1 [.int .i64 p.v,.slice ap.fo p.fs.length ap.fc,.slice ap.qo p.ps.length ap.qc] rfl rfl ?newsa (one3p p.v ap.fo ap.qo p.fs.length ap.fc p.ps.length ap.qc) ?h63a ?hba ?_
   case rwa=>with_reducible exact(HRW.out.keep (KeepP.ext (S:=fun _=>True) EA) trivial).rw
   case newsa=>with_reducible exact news3 rfl (Ext.refl _)
   case h63a=>unfold maxLen;omega
   case hba=>omega
   intro g off cap2 w7 hr7 hg7 hat7
   have HPU:=hidp (WSt.pushL (p:=p) (ap:=ap) (HW5.out.toExt EA) (HRW.out.keep (KeepP.ext (S:=fun _=>True) EA) trivial) (fun i hi=>by
    obtain⟨b,b0,b1,b2,b3⟩:=HPL.out i hi
    exact⟨b,b0,b1,b2,b3.keep (KeepP.ext (S:=fun _=>True) EA) trivial⟩) ((HW5.out.fresh (HN.out)).ext ((Ext.refl w6).alloc _)) hr7 hg7 hat7)
   obtain⟨c13,d4,d5,d6⟩:=HSX.out _ EA
   have t1:=HW5.out.tP
   have tX:tg5 X=0:=by
    have h1:=(HK5.out.blk X hXl (Or.inl HX0.out)).1
    rw[h1];exact HX0.out
   have hX5:X<w5.heap.size:=Nat.lt_of_lt_of_le hXl HK5.out.size
   have gP:=grown_keep hg7 HRW.out.tg (b:=P) (by rw[t1];decide) (Nat.lt_of_lt_of_le hP5 EA.size)
   have gX:=(grown_keep hg7 HRW.out.tg (b:=X) (by rw[tX];decide) (Nat.lt_of_lt_of_le hX5 EA.size)).1
   have fP7:w7.frozen? ⟨P,13,none⟩=false:=(gP.2 13).trans ((EA.cells.2 _ _ hP5).trans (HW5.out.row.frozen 13))
   have hP7:P<w7.heap.size:=Nat.lt_of_lt_of_le (Nat.lt_of_lt_of_le hP5 EA.size) hg7.size
   have hS7:=And.intro ((gP.1 13).trans c13) (And.intro ((gX 4).trans d4) (And.intro ((gX 5).trans d5) ((gX 6).trans d6)))
   clear gP gX c13 d4 d5 d6 hr7 hg7 hat7 t1 tX
   have co7:=hS7.1
   refine hK _ _ (fun _=>hS7) ?_
   clear hK K
   refine Last.LH.one (i:=11) (by kernel_rfl) rfl (fun K hK=>?_)
   go_simp
   refine hK _ _ (fun _=>hS7) ?_
   clear hK K
   refine Last.LH.one (i:=12) (by kernel_rfl) rfl (fun K hK=>?_)
   go_simp
   refine hK _ _ (fun _=>hS7) ?_
   clear hK K
   refine Last.LH.one (i:=13) (by kernel_rfl) rfl (fun K hK=>?_)
   go_simp
   refine hK _ _ (fun _=>hS7) ?_
   clear hK K
   refine Last.LH.one (i:=14) (by kernel_rfl) rfl (fun K hK=>?_)
   go_simp
   refine hK _ _ (fun h=>absurd rfl h) ?_
   clear hK K
   refine Last.LH.done (by kernel_rfl) ?_
   clear hS7 co7 fP7
   go_wp2
   go_ret
   rw[HD.out]
   obtain⟨tg7,hW7,hK7⟩:=HPU.out
   rw[HP.out] at hW7
   exact⟨rfl,tg7,a5,kv,_,hW7,((Kpt.ext E4).trans HK5.out).trans ((Kpt.ext EA).trans hK7)⟩
  ·have HD:=hidp (hapA_no h0)
   have b0:((askS W.co n ls fs).2 != 0)=true:=by simpa using h0
   clear h0
   go_wp2
   go_ret
   rw[HD.out]
   exact⟨rfl,tg,a,kv,lv,HW.out.toExt E4,Kpt.ext E4⟩
 ·have _t:=mk2
  obtain⟨w4,hw4⟩:∃w4,w4=W9 w3 w.heap.size (.int .i64 k0) (.int .i64 k1) (.slice o2 l2 q2) (.slice o3 l3 q3) (.int .i64 k4) (.slice o5 l5 q5) (.slice o6 l6 q6) (.int .i64 k7) (.slice o8 l8 q8):=⟨_,rfl⟩
  have R4:w4.rowIs w.heap.size 33 9 (fun j=>[.int .i64 k0,.int .i64 k1,.slice o2 l2 q2,.slice o3 l3 q3,.int .i64 k4,.slice o5 l5 q5,.slice o6 l6 q6,.int .i64 k7,.slice o8 l8 q8].getD j vd):=by rw[hw4];exact w9_row HHB.out
  have E4:Ext w w4:=by rw[hw4];exact W9_ext0 mk2 (Nat.le_refl _)
  have HST:Hid (∃a',Value.agg #[.int .i64 k0,.int .i64 k1,.slice o2 l2 q2,.slice o3 l3 q3,.int .i64 k4,.slice o5 l5 q5,.slice o6 l6 q6,.int .i64 k7,.slice o8 l8 q8]=cvl (askS W.co n ls fs).1.c a'∧l9=(askS W.co n ls fs).1.out.length∧Stb (fun b=>tg b=0) w4 (fun U=>CoAt U (askS W.co n ls fs).1.c a'∧TosAt U tO (askS W.co n ls fs).1.out)):=by
   obtain⟨a',ea,el,hU⟩:=HF.out
   refine⟨a',ea,el,?_⟩
   rw[hw4]
   exact HW.out.fresh1 (fun U h1 h2=>hU U h1 (fun b hb h3=>h2 b (by simpa using hb) h3)) W9_size0 W9_block0
  have HX0:Hid (tg w.heap.size=0):=HW.out.nw _ (Nat.le_refl _)
  unfold W9 at hw4
  rw[←hw4]
  clear hda
  generalize w.heap.size=X at R4 HX0 ⊢
  clear hw4 mk2 mk3 E9 hG HF _t u0 u1 u2 u3 u4 u5 u6 u7 u8 uz HHB
  have x0:=R4.cell (i:=0) (by omega)
  have x1:=R4.cell (i:=1) (by omega)
  have x2:=R4.cell (i:=2) (by omega)
  have x3:=R4.cell (i:=3) (by omega)
  have x4:=R4.cell (i:=4) (by omega)
  have x5:=R4.cell (i:=5) (by omega)
  have x6:=R4.cell (i:=6) (by omega)
  have x7:=R4.cell (i:=7) (by omega)
  have x8:=R4.cell (i:=8) (by omega)
  simp only[List.getD_cons_zero,List.getD_cons_succ] at x0 x1 x2 x3 x4 x5 x6 x7 x8
  have hXl:=R4.lt
  clear R4
  by_cases h0:(askS W.co n ls fs).2=0
  ·have HD:=hidp (hapA_yes h0)
   have HDW:=hidp (ask_words HI.out (by omega) h0)
   rw[h0]
   clear h0
   go_wp2_with fail
   have HT:Hid (Calls Try.prog 66 #[.pointer (some ⟨P,0,none⟩),.agg #[.int .i64 k0,.int .i64 k1,.slice o2 l2 q2,.slice o3 l3 q3,.int .i64 k4,.slice o5 l5 q5,.slice o6 l6 q6,.int .i64 k7,.slice o8 l8 q8],.slice tO l9 tc] w4 fun e w'=>e=.returned (.tuple #[])∧∃tg' a',Value.agg #[.int .i64 k4,.slice o5 l5 q5,.slice o6 l6 q6]=pvl (askS W.co n ls fs).1.c.nxt a'.x∧WSt 95 [.int .i64 (n:Int),.slice ao len cap] w0 P n tg' w' ⟨(askS W.co n ls fs).1.c,W.sw,putO W.od (askS W.co n ls fs).1.out,W.bk,W.pk,W.pn⟩ a' sb ob bb kv lv∧Kpt tg tg' w4 w'):=by
    obtain⟨a',ea,el,hS⟩:=HST.out
    show Calls _ _ _ _ _
    have en:=cvl_nxt ea
    rw[ea,el]
    exact(take_any _ w0 P n tg w4 W a sb ob bb kv lv _ a' _ tO tc (HW.out.toExt E4) HI.out.lod hS HDW.out.1 HDW.out.2 (fun s=>by have:=(HI.out.rows s).1;omega)).mono (fun e w' ⟨h1,tg',h2,h3⟩=>⟨h1,tg',a',en,h2,h3⟩)
   refine Calls.mono HT.out ?_
   rintro e w5 ⟨rfl,tg5,a5,en,hW5,hK5⟩
   have HW5:=hidp hW5
   have HK5:=hidp hK5
   obtain⟨p,hp⟩:∃p,p=(askS W.co n ls fs).1.c.nxt:=⟨_,rfl⟩
   have HP:=hidp hp
   have hP5:=hW5.row.lt
   have HCP:Hid (∀V,Ext w5 V→Calls Try.prog 67 #[.agg #[.int .i64 k4,.slice o5 l5 q5,.slice o6 l6 q6]] V fun e w'=>∃ap:PA,e=.returned (.agg #[.int .i64 p.v,.slice ap.fo p.fs.length ap.fc,.slice ap.qo p.ps.length ap.qc])∧PlNew V.heap.size w' p ap∧Ext V w'):=fun V hV=>by
    rw[en,hp]
    have hok:PlOk (askS W.co n ls fs).1.c.nxt:=by
     have h1:=(hapA_inv (fs:=fs) HI.out (by omega)).small (by omega)
     rw[HD.out] at h1
     exact h1.x
    exact Copy_any _ a5.x V ((HW5.out.toExt hV).co.at.hx) hok
   have HSX:Hid (∀V,Ext w5 V→V.cell? ⟨P,13,none⟩=some lv∧V.cell? ⟨X,4,none⟩=some (.int .i64 k4)∧V.cell? ⟨X,5,none⟩=some (.slice o5 l5 q5)∧V.cell? ⟨X,6,none⟩=some (.slice o6 l6 q6)):=fun V hV=>by
    have hbX:w5.heap[X]? =w4.heap[X]?:=(hK5.blk X hXl (Or.inl HX0.out)).2
    have hX5:X<w5.heap.size:=Nat.lt_of_lt_of_le hXl hK5.size
    exact⟨(hV.cells.1 _ _ hP5).trans (HW5.out.row.cell (i:=13) (by simp)),(hV.cells.1 _ _ hX5).trans ((World.cell?_of_block (a:=⟨X,4,none⟩) hbX).trans x4),(hV.cells.1 _ _ hX5).trans ((World.cell?_of_block (a:=⟨X,5,none⟩) hbX).trans x5),(hV.cells.1 _ _ hX5).trans ((World.cell?_of_block (a:=⟨X,6,none⟩) hbX).trans x6)⟩
   obtain⟨xs,hrw,hpl⟩:=hW5.pls
   have HRW:=hidp hrw
   have HPL:=hidp hpl
   have hpn:W.pn.length≤1000:=by have:=HI.out.pl;omega
   clear hW5 hK5 HT x0 x1 x2 x3 x4 x5 x6 x7 x8 en hrw hpl hp
   go_wp2
   refine Last.LH.start (m:=14) (S:=fun V=>V.cell? ⟨P,13,none⟩=some lv∧V.cell? ⟨X,4,none⟩=some (.int .i64 k4)∧V.cell? ⟨X,5,none⟩=some (.slice o5 l5 q5)∧V.cell? ⟨X,6,none⟩=some (.slice o6 l6 q6)) (by kernel_rfl) ?_
   have hHeld:(fun V:World=>V.cell? ⟨P,13,none⟩=some lv∧V.cell? ⟨X,4,none⟩=some (.int .i64 k4)∧V.cell? ⟨X,5,none⟩=some (.slice o5 l5 q5)∧V.cell? ⟨X,6,none⟩=some (.slice o6 l6 q6)) w5.drew:=HSX.out _ (Ext.refl _).drew
   refine Last.LH.take (i:=0) (v:=?v0b) rfl (by kernel_rfl) (by kernel_rfl) (by kernel_rfl) (by kernel_rfl) (fun _ _ _ h=>h) (by rfl) ?hy0b hHeld ?rest0b
   case hy0b=>intro W hSW;(try dsimp only at hSW);go_simp;with_reducible rfl
   refine Last.LH.take (i:=1) (v:=?v1b) rfl (by kernel_rfl) (by kernel_rfl) (by kernel_rfl) (by kernel_rfl) (fun _ _ _ h=>h) (by rfl) ?hy1b hHeld ?rest1b
   case hy1b=>intro W hSW;(try dsimp only at hSW);go_simp;with_reducible rfl
   refine Last.LH.take (i:=2) (v:=?v2b) rfl (by kernel_rfl) (by kernel_rfl) (by kernel_rfl) (by kernel_rfl) (fun _ _ _ h=>h) (by rfl) ?hy2b hHeld ?rest2b
   case hy2b=>intro W hSW;(try dsimp only at hSW);go_simp;with_reducible rfl
   refine Last.LH.take (i:=3) (v:=?v3b) rfl (by kernel_rfl) (by kernel_rfl) (by kernel_rfl) (by kernel_rfl) (fun _ _ _ h=>h) (by rfl) ?hy3b hHeld ?rest3b
   case hy3b=>intro W hSW;(try dsimp only at hSW);go_simp;with_reducible rfl
   refine Last.LH.take (i:=4) (v:=?v4b) rfl (by kernel_rfl) (by kernel_rfl) (by kernel_rfl) (by kernel_rfl) (fun _ _ _ h=>h) (by rfl) ?hy4b hHeld ?rest4b
   case hy4b=>intro W hSW;(try dsimp only at hSW);go_simp;with_reducible rfl
   refine Last.LH.take (i:=5) (v:=?v5b) rfl (by kernel_rfl) (by kernel_rfl) (by kernel_rfl) (by kernel_rfl) (fun _ _ _ h=>h) (by rfl) ?hy5b hHeld ?rest5b
   case hy5b=>intro W hSW;(try dsimp only at hSW);go_simp;with_reducible rfl
   refine Last.LH.take (i:=6) (v:=?v6b) rfl (by kernel_rfl) (by kernel_rfl) (by kernel_rfl) (by kernel_rfl) (fun _ _ _ h=>h) (by rfl) ?hy6b hHeld ?rest6b
   case hy6b=>intro W hSW;(try dsimp only at hSW);go_simp;with_reducible rfl
   refine Last.LH.take (i:=7) (v:=?v7b) rfl (by kernel_rfl) (by kernel_rfl) (by kernel_rfl) (by kernel_rfl) (fun _ _ _ h=>h) (by rfl) ?hy7b hHeld ?rest7b
   case hy7b=>intro W hSW;(try dsimp only at hSW);go_simp;with_reducible rfl
   refine Last.LH.one (i:=8) (by kernel_rfl) rfl (fun K hK=>?_)
   go_simp
   refine(HCP.out _ (Ext.refl _).drew).mono ?_
   rintro e w6 ⟨ap,rfl,hN,E6⟩
   have HN:=hidp hN
   have E56:Ext w5 w6:=(Ext.refl _).drew.trans E6
   refine hK _ _ (fun _=>HSX.out _ E56) ?_
   clear hK K hHeld hN E6
   refine Last.LH.one (i:=9) (by kernel_rfl) rfl (fun K hK=>?_)
   go_simp
   refine hK _ _ (fun _=>HSX.out _ (E56.alloc _)) ?_
   clear hK K
   have EA:Ext w5 (w6.alloc (.cells #[.int .i64 p.v,.slice ap.fo p.fs.length ap.fc,.slice ap.qo p.ps.length ap.qc] 30)):=E56.alloc _
   refine Last.LH.one (i:=10) (by kernel_rfl) rfl (fun K hK=>?_)
   refine step_append_rw _ rfl (.tmp 35) (.tmp 39) 38 rfl 30 i0 _ 3 56 Try.underlying38 hi0 hz00 hz01 hz02 rfl (by decide) lv W.pn.length xs rfl ?rwb ⟨w6.heap.size,0,none⟩ 1 [.int .i64 p.v,.slice ap.fo p.fs.length ap.fc,.slice ap.qo p.ps.length ap.qc] rfl rfl ?newsb (one3p p.v ap.fo ap.qo p.fs.length ap.fc p.ps.length ap.qc) ?h63b ?hbb ?_
   case rwb=>with_reducible exact(HRW.out.keep (KeepP.ext (S:=fun _=>True) EA) trivial).rw
   case newsb=>with_reducible exact news3 rfl (Ext.refl _)
   case h63b=>unfold maxLen;omega
   case hbb=>omega
   intro g off cap2 w7 hr7 hg7 hat7
   have HPU:=hidp (WSt.pushL (p:=p) (ap:=ap) (HW5.out.toExt EA) (HRW.out.keep (KeepP.ext (S:=fun _=>True) EA) trivial) (fun i hi=>by
    obtain⟨b,b0,b1,b2,b3⟩:=HPL.out i hi
    exact⟨b,b0,b1,b2,b3.keep (KeepP.ext (S:=fun _=>True) EA) trivial⟩) ((HW5.out.fresh (HN.out)).ext ((Ext.refl w6).alloc _)) hr7 hg7 hat7)
   obtain⟨c13,d4,d5,d6⟩:=HSX.out _ EA
   have t1:=HW5.out.tP
   have tX:tg5 X=0:=by
    have h1:=(HK5.out.blk X hXl (Or.inl HX0.out)).1
    rw[h1];exact HX0.out
   have hX5:X<w5.heap.size:=Nat.lt_of_lt_of_le hXl HK5.out.size
   have gP:=grown_keep hg7 HRW.out.tg (b:=P) (by rw[t1];decide) (Nat.lt_of_lt_of_le hP5 EA.size)
   have gX:=(grown_keep hg7 HRW.out.tg (b:=X) (by rw[tX];decide) (Nat.lt_of_lt_of_le hX5 EA.size)).1
   have fP7:w7.frozen? ⟨P,13,none⟩=false:=(gP.2 13).trans ((EA.cells.2 _ _ hP5).trans (HW5.out.row.frozen 13))
   have hP7:P<w7.heap.size:=Nat.lt_of_lt_of_le (Nat.lt_of_lt_of_le hP5 EA.size) hg7.size
   have hS7:=And.intro ((gP.1 13).trans c13) (And.intro ((gX 4).trans d4) (And.intro ((gX 5).trans d5) ((gX 6).trans d6)))
   clear gP gX c13 d4 d5 d6 hr7 hg7 hat7 t1 tX
   have co7:=hS7.1
   refine hK _ _ (fun _=>hS7) ?_
   clear hK K
   refine Last.LH.one (i:=11) (by kernel_rfl) rfl (fun K hK=>?_)
   go_simp
   refine hK _ _ (fun _=>hS7) ?_
   clear hK K
   refine Last.LH.one (i:=12) (by kernel_rfl) rfl (fun K hK=>?_)
   go_simp
   refine hK _ _ (fun _=>hS7) ?_
   clear hK K
   refine Last.LH.one (i:=13) (by kernel_rfl) rfl (fun K hK=>?_)
   go_simp
   refine hK _ _ (fun _=>hS7) ?_
   clear hK K
   refine Last.LH.one (i:=14) (by kernel_rfl) rfl (fun K hK=>?_)
   go_simp
   refine hK _ _ (fun h=>absurd rfl h) ?_
   clear hK K
   refine Last.LH.done (by kernel_rfl) ?_
   clear hS7 co7 fP7
   go_wp2
   go_ret
   rw[HD.out]
   obtain⟨tg7,hW7,hK7⟩:=HPU.out
   rw[HP.out] at hW7
   exact⟨rfl,tg7,a5,kv,_,hW7,((Kpt.ext E4).trans HK5.out).trans ((Kpt.ext EA).trans hK7)⟩
  ·have HD:=hidp (hapA_no h0)
   have b0:((askS W.co n ls fs).2 != 0)=true:=by simpa using h0
   clear h0
   go_wp2
   go_ret
   rw[HD.out]
   exact⟨rfl,tg,a,kv,lv,HW.out.toExt E4,Kpt.ext E4⟩
end Go.Proofs.Ytolclgbpjiokfaa.Rm
