/- What happens, where the net lies in the world of the call. -/
import Derived.Test.YtolclgbpjiokfaaU35
namespace Go.Proofs.Ytolclgbpjiokfaa.Rm
open Go.RowKit Go.Deep Stw Stp Tb Rul Ct
set_option maxRecDepth 100000 in
set_option maxHeartbeats 4000000 in
theorem drop_anyN (n len cap:Nat) (ls:List Lk) (ao:Option Addr) (t:Nat) (w0:World) (P:Nat) (tg:Nat→Nat) (w:World) (W:Wd) (a:CA) (sb ob bb:Nat) (kv lv:Value) (h:WSt 95 [.int .i64 (n:Int),.slice ao len cap] w0 P n tg w W a sb ob bb kv lv) (hI:Inv n ls t W) (ht:t≤1000) (hlen:ls.length=len) (hnet:NetAt w ao ls) (hx:len≤9223372036854775807):
 Calls Try.prog 56 #[.pointer (some ⟨P,0,none⟩)] w fun e w'=>MOut [.int .i64 (n:Int),.slice ao len cap] w0 P n tg w sb ob bb (hapD n ls W) e w':=by
 have HW:=hidp h
 have HI:=hidp hI
 have hP:=h.row.lt
 have HS:Hid (∀V,Ext w V→V.cell? ⟨P,0,none⟩=some (.int .i64 W.co.st)∧V.cell? ⟨P,1,none⟩=some (.int .i64 W.co.now.v)∧V.cell? ⟨P,2,none⟩=some (.slice a.n.fo W.co.now.fs.length a.n.fc)∧V.cell? ⟨P,3,none⟩=some (.slice a.n.qo W.co.now.ps.length a.n.qc)∧V.cell? ⟨P,4,none⟩=some (.int .i64 W.co.nxt.v)∧V.cell? ⟨P,5,none⟩=some (.slice a.x.fo W.co.nxt.fs.length a.x.fc)∧V.cell? ⟨P,6,none⟩=some (.slice a.x.qo W.co.nxt.ps.length a.x.qc)∧V.cell? ⟨P,7,none⟩=some (.int .i64 W.co.num)∧V.cell? ⟨P,8,none⟩=some (.slice a.wo W.co.wts.length a.wc)∧V.cell? ⟨P,14,none⟩=some (.int .i64 (n:Int))∧V.cell? ⟨P,15,none⟩=some (.slice ao len cap)):=fun V hV=>by
  have hr:=HW.out.row.of_block (Below.block hV P hP)
  exact⟨hr.cell (i:=0) (by simp),hr.cell (i:=1) (by simp),hr.cell (i:=2) (by simp),hr.cell (i:=3) (by simp),hr.cell (i:=4) (by simp),hr.cell (i:=5) (by simp),hr.cell (i:=6) (by simp),hr.cell (i:=7) (by simp),hr.cell (i:=8) (by simp),hr.cell (i:=14) (by simp),hr.cell (i:=15) (by simp)⟩
 have HCA:Hid (∀V,Ext w V→Calls Try.prog 75 #[cvl W.co a,.agg #[.int .i64 (n:Int),.slice ao len cap]] V fun e w'=>GoOut V.heap.size V (dropS W.co n ls).1 (dropS W.co n ls).2 e w'):=fun V hV=>Drop_any W.co a n ao len cap ls V ((HW.out.toExt hV).co.at) (HI.out.small ht) hlen (hnet.ext hV) hx
 clear h hI hlen hnet hx
 unfold cvl at HCA
 go_enter Try.func56,Try.ntmps56
 go_wp2
 have hd:Ext w w.drew:=(Ext.refl w).drew
 have hda:Ext w (w.alloc (.cells #[.int .i64 0,.int .i64 0,.slice none 0 0,.slice none 0 0,.int .i64 0,.slice none 0 0,.slice none 0 0,.int .i64 0,.slice none 0 0] 33)).drew:=((Ext.refl w).alloc _).drew
 go_region_held3 (fun V=>V.cell? ⟨P,0,none⟩=some (.int .i64 W.co.st)∧V.cell? ⟨P,1,none⟩=some (.int .i64 W.co.now.v)∧V.cell? ⟨P,2,none⟩=some (.slice a.n.fo W.co.now.fs.length a.n.fc)∧V.cell? ⟨P,3,none⟩=some (.slice a.n.qo W.co.now.ps.length a.n.qc)∧V.cell? ⟨P,4,none⟩=some (.int .i64 W.co.nxt.v)∧V.cell? ⟨P,5,none⟩=some (.slice a.x.fo W.co.nxt.fs.length a.x.fc)∧V.cell? ⟨P,6,none⟩=some (.slice a.x.qo W.co.nxt.ps.length a.x.qc)∧V.cell? ⟨P,7,none⟩=some (.int .i64 W.co.num)∧V.cell? ⟨P,8,none⟩=some (.slice a.wo W.co.wts.length a.wc)∧V.cell? ⟨P,14,none⟩=some (.int .i64 (n:Int))∧V.cell? ⟨P,15,none⟩=some (.slice ao len cap))
  (first | (with_reducible exact HS.out _ hd) | (with_reducible exact HS.out _ hda) | (with_reducible exact HS.out _ mk1) | (with_reducible exact HS.out _ mk2) | (with_reducible exact HS.out _ (mk1.alloc _)) | (with_reducible exact HS.out _ mk3) | fail)
  (first
  | (go_at_call 75
     with_reducible refine(HCA.out _ hd).mono ?_
     intro e w3 hG
     obtain⟨k0,k1,o2,l2,q2,o3,l3,q3,k4,o5,l5,q5,o6,l6,q6,k7,o8,l8,q8,tO,l9,tc,rfl,E9,HF⟩:=hG.letters
     have mk1:=hd.trans E9)
  | (go_at_call 75
     with_reducible refine(HCA.out _ hda).mono ?_
     intro e w3 hG
     obtain⟨k0,k1,o2,l2,q2,o3,l3,q3,k4,o5,l5,q5,o6,l6,q6,k7,o8,l8,q8,tO,l9,tc,rfl,E9,HF⟩:=hG.letters
     have mk2:=hda.trans E9
     have mk3:=W9_ext0 mk2 (Nat.le_refl w.heap.size) (x0:=.int .i64 k0) (x1:=.int .i64 k1) (x2:=.slice o2 l2 q2) (x3:=.slice o3 l3 q3) (x4:=.int .i64 k4) (x5:=.slice o5 l5 q5) (x6:=.slice o6 l6 q6) (x7:=.int .i64 k7) (x8:=.slice o8 l8 q8)
     unfold W9 at mk3
     have HB:w3.rowIs w.heap.size 33 9 _:=(box_row (T:=33) (show w.heap.size=w.heap.size from rfl) _ _ _ _ _ _ _ _ _).of_block (Below.block E9 _ (by simp))
     have u0:=HB.cell (i:=0) (by omega)
     have u1:=HB.cell (i:=1) (by omega)
     have u2:=HB.cell (i:=2) (by omega)
     have u3:=HB.cell (i:=3) (by omega)
     have u4:=HB.cell (i:=4) (by omega)
     have u5:=HB.cell (i:=5) (by omega)
     have u6:=HB.cell (i:=6) (by omega)
     have u7:=HB.cell (i:=7) (by omega)
     have u8:=HB.cell (i:=8) (by omega)
     have uz:=HB.frozen
     have HHB:=hidp HB
     clear HB))
 all_goals
  first
  | (have _t:=mk1
     obtain⟨w4,hw4⟩:∃w4,w4=w3.alloc (.cells #[.int .i64 k0,.int .i64 k1,.slice o2 l2 q2,.slice o3 l3 q3,.int .i64 k4,.slice o5 l5 q5,.slice o6 l6 q6,.int .i64 k7,.slice o8 l8 q8] 33):=⟨_,rfl⟩
     have R4:w4.rowIs w3.heap.size 33 9 (fun j=>[.int .i64 k0,.int .i64 k1,.slice o2 l2 q2,.slice o3 l3 q3,.int .i64 k4,.slice o5 l5 q5,.slice o6 l6 q6,.int .i64 k7,.slice o8 l8 q8].getD j vd):=by rw[hw4];exact box_row rfl _ _ _ _ _ _ _ _ _
     have E4:Ext w w4:=by rw[hw4];exact mk1.alloc _
     have HST:Hid (∃a',Value.agg #[.int .i64 k0,.int .i64 k1,.slice o2 l2 q2,.slice o3 l3 q3,.int .i64 k4,.slice o5 l5 q5,.slice o6 l6 q6,.int .i64 k7,.slice o8 l8 q8]=cvl (dropS W.co n ls).1.c a'∧l9=(dropS W.co n ls).1.out.length∧Stb (fun b=>tg b=0) w4 (fun U=>CoAt U (dropS W.co n ls).1.c a'∧TosAt U tO (dropS W.co n ls).1.out)):=by
      obtain⟨a',ea,el,hU⟩:=HF.out
      exact⟨a',ea,el,(HW.out.fresh hU).ext (by rw[hw4];exact(Ext.refl w3).alloc _)⟩
     rw[←hw4]
     clear hw4 mk1 E9 hG HF _t)
  | (have _t:=mk2
     obtain⟨w4,hw4⟩:∃w4,w4=W9 w3 w.heap.size (.int .i64 k0) (.int .i64 k1) (.slice o2 l2 q2) (.slice o3 l3 q3) (.int .i64 k4) (.slice o5 l5 q5) (.slice o6 l6 q6) (.int .i64 k7) (.slice o8 l8 q8):=⟨_,rfl⟩
     have R4:w4.rowIs w.heap.size 33 9 (fun j=>[.int .i64 k0,.int .i64 k1,.slice o2 l2 q2,.slice o3 l3 q3,.int .i64 k4,.slice o5 l5 q5,.slice o6 l6 q6,.int .i64 k7,.slice o8 l8 q8].getD j vd):=by rw[hw4];exact w9_row HHB.out
     have E4:Ext w w4:=by rw[hw4];exact W9_ext0 mk2 (Nat.le_refl _)
     have HST:Hid (∃a',Value.agg #[.int .i64 k0,.int .i64 k1,.slice o2 l2 q2,.slice o3 l3 q3,.int .i64 k4,.slice o5 l5 q5,.slice o6 l6 q6,.int .i64 k7,.slice o8 l8 q8]=cvl (dropS W.co n ls).1.c a'∧l9=(dropS W.co n ls).1.out.length∧Stb (fun b=>tg b=0) w4 (fun U=>CoAt U (dropS W.co n ls).1.c a'∧TosAt U tO (dropS W.co n ls).1.out)):=by
      obtain⟨a',ea,el,hU⟩:=HF.out
      refine⟨a',ea,el,?_⟩
      rw[hw4]
      exact HW.out.fresh1 (fun U h1 h2=>hU U h1 (fun b hb h3=>h2 b (by simpa using hb) h3)) W9_size0 W9_block0
     unfold W9 at hw4
     rw[←hw4]
     clear hw4 mk2 mk3 E9 hG HF _t u0 u1 u2 u3 u4 u5 u6 u7 u8 uz HHB)
  have x0:=R4.cell (i:=0) (by omega)
  have x1:=R4.cell (i:=1) (by omega)
  have x2:=R4.cell (i:=2) (by omega)
  have x3:=R4.cell (i:=3) (by omega)
  have x4:=R4.cell (i:=4) (by omega)
  have x5:=R4.cell (i:=5) (by omega)
  have x6:=R4.cell (i:=6) (by omega)
  have x7:=R4.cell (i:=7) (by omega)
  have x8:=R4.cell (i:=8) (by omega)
  simp only[List.getD_cons_zero,List.getD_cons_succ] at x0 x1 x2 x3 x4 x5 x6 x7 x8
  clear R4
  by_cases h0:(dropS W.co n ls).2=0
  ·have HD:=hidp (hapD_yes h0)
   have HDW:=hidp (drop_words HI.out ht h0)
   rw[h0]
   clear h0
   go_wp2_with fail
   have HT:Hid (Calls Try.prog 66 #[.pointer (some ⟨P,0,none⟩),.agg #[.int .i64 k0,.int .i64 k1,.slice o2 l2 q2,.slice o3 l3 q3,.int .i64 k4,.slice o5 l5 q5,.slice o6 l6 q6,.int .i64 k7,.slice o8 l8 q8],.slice tO l9 tc] w4 fun e w'=>e=.returned (.tuple #[])∧∃tg' a',WSt 95 [.int .i64 (n:Int),.slice ao len cap] w0 P n tg' w' ⟨(dropS W.co n ls).1.c,W.sw,putO W.od (dropS W.co n ls).1.out,W.bk,W.pk,W.pn⟩ a' sb ob bb kv lv∧Kpt tg tg' w4 w'):=by
    obtain⟨a',ea,el,hS⟩:=HST.out
    show Calls _ _ _ _ _
    rw[ea,el]
    exact(take_any _ w0 P n tg w4 W a sb ob bb kv lv _ a' _ tO tc (HW.out.toExt E4) HI.out.lod hS HDW.out.1 HDW.out.2 (fun s=>by have:=(HI.out.rows s).1;omega)).mono (fun e w' ⟨h1,tg',h2,h3⟩=>⟨h1,tg',a',h2,h3⟩)
   refine Calls.mono HT.out ?_
   rintro e w5 ⟨rfl,tg5,a5,hW5,hK5⟩
   have HW5:=hidp hW5
   have HK5:=hidp hK5
   clear hW5 hK5 HT x0 x1 x2 x3 x4 x5 x6 x7 x8
   go_wp2
   go_ret
   rw[HD.out]
   exact⟨rfl,tg5,a5,kv,lv,HW5.out,(Kpt.ext E4).trans HK5.out⟩
  ·have HD:=hidp (hapD_no h0)
   have b0:((dropS W.co n ls).2 != 0)=true:=by simpa using h0
   clear h0
   go_wp2
   go_ret
   rw[HD.out]
   exact⟨rfl,tg,a,kv,lv,HW.out.toExt E4,Kpt.ext E4⟩
set_option maxRecDepth 100000 in
set_option maxHeartbeats 4000000 in
theorem ask_anyN (n len cap:Nat) (lo:Option Addr) (lc:Nat) (fs:List Stf.Fl) (ls:List Lk) (ao:Option Addr) (t:Nat) (w0:World) (P:Nat) (tg:Nat→Nat) (w:World) (W:Wd) (a:CA) (sb ob bb:Nat) (kv lv:Value) (h:WSt 95 [.int .i64 (n:Int),.slice ao len cap] w0 P n tg w W a sb ob bb kv lv) (hI:Inv n ls t W) (ht:t≤900) (hlen:ls.length=len) (hnet:NetAt w ao ls) (hx:len≤9223372036854775807) (hf:Fw.FlowsAt w0 lo fs) (hS:Fw.Sm fs) (hlx:fs.length≤9223372036854775807):
 Calls Try.prog 51 #[.pointer (some ⟨P,0,none⟩),.slice lo fs.length lc] w fun e w'=>MOut [.int .i64 (n:Int),.slice ao len cap] w0 P n tg w sb ob bb (hapA n ls W fs) e w':=by
 obtain⟨i0,hi0,hz00,hz01,hz02⟩:=info_parts infoPlan
 have HW:=hidp h
 have HI:=hidp hI
 have hP:=h.row.lt
 have HS:Hid (∀V,Ext w V→V.cell? ⟨P,0,none⟩=some (.int .i64 W.co.st)∧V.cell? ⟨P,1,none⟩=some (.int .i64 W.co.now.v)∧V.cell? ⟨P,2,none⟩=some (.slice a.n.fo W.co.now.fs.length a.n.fc)∧V.cell? ⟨P,3,none⟩=some (.slice a.n.qo W.co.now.ps.length a.n.qc)∧V.cell? ⟨P,4,none⟩=some (.int .i64 W.co.nxt.v)∧V.cell? ⟨P,5,none⟩=some (.slice a.x.fo W.co.nxt.fs.length a.x.fc)∧V.cell? ⟨P,6,none⟩=some (.slice a.x.qo W.co.nxt.ps.length a.x.qc)∧V.cell? ⟨P,7,none⟩=some (.int .i64 W.co.num)∧V.cell? ⟨P,8,none⟩=some (.slice a.wo W.co.wts.length a.wc)∧V.cell? ⟨P,14,none⟩=some (.int .i64 (n:Int))∧V.cell? ⟨P,15,none⟩=some (.slice ao len cap)):=fun V hV=>by
  have hr:=HW.out.row.of_block (Below.block hV P hP)
  exact⟨hr.cell (i:=0) (by simp),hr.cell (i:=1) (by simp),hr.cell (i:=2) (by simp),hr.cell (i:=3) (by simp),hr.cell (i:=4) (by simp),hr.cell (i:=5) (by simp),hr.cell (i:=6) (by simp),hr.cell (i:=7) (by simp),hr.cell (i:=8) (by simp),hr.cell (i:=14) (by simp),hr.cell (i:=15) (by simp)⟩
 have HCA:Hid (∀V,Ext w V→Calls Try.prog 65 #[cvl W.co a,.agg #[.int .i64 (n:Int),.slice ao len cap],.slice lo fs.length lc] V fun e w'=>GoOut V.heap.size V (askS W.co n ls fs).1 (askS W.co n ls fs).2 e w'):=fun V hV=>Ask_any W.co a n ao len cap ls lo fs.length lc fs V ((HW.out.toExt hV).co.at) (HI.out.small (by omega)) hlen (hnet.ext hV) hx (i64_small (by omega) (by have:=HI.out.n8;omega)) rfl (hf.ext (HW.out.ext.trans hV)) hS hlx
 clear h hI hlen hnet hx hf hS hlx
 unfold cvl at HCA
 go_enter Try.func51,Try.ntmps51
 go_wp2
 have hd:Ext w w.drew:=(Ext.refl w).drew
 have hda:Ext w (w.alloc (.cells #[.int .i64 0,.int .i64 0,.slice none 0 0,.slice none 0 0,.int .i64 0,.slice none 0 0,.slice none 0 0,.int .i64 0,.slice none 0 0] 33)).drew:=((Ext.refl w).alloc _).drew
 go_region_held3 (fun V=>V.cell? ⟨P,0,none⟩=some (.int .i64 W.co.st)∧V.cell? ⟨P,1,none⟩=some (.int .i64 W.co.now.v)∧V.cell? ⟨P,2,none⟩=some (.slice a.n.fo W.co.now.fs.length a.n.fc)∧V.cell? ⟨P,3,none⟩=some (.slice a.n.qo W.co.now.ps.length a.n.qc)∧V.cell? ⟨P,4,none⟩=some (.int .i64 W.co.nxt.v)∧V.cell? ⟨P,5,none⟩=some (.slice a.x.fo W.co.nxt.fs.length a.x.fc)∧V.cell? ⟨P,6,none⟩=some (.slice a.x.qo W.co.nxt.ps.length a.x.qc)∧V.cell? ⟨P,7,none⟩=some (.int .i64 W.co.num)∧V.cell? ⟨P,8,none⟩=some (.slice a.wo W.co.wts.length a.wc)∧V.cell? ⟨P,14,none⟩=some (.int .i64 (n:Int))∧V.cell? ⟨P,15,none⟩=some (.slice ao len cap))
  (first | (with_reducible exact HS.out _ hd) | (with_reducible exact HS.out _ hda) | (with_reducible exact HS.out _ mk1) | (with_reducible exact HS.out _ mk2) | (with_reducible exact HS.out _ (mk1.alloc _)) | (with_reducible exact HS.out _ mk3) | fail)
  (first
  | (go_at_call 65
     with_reducible refine(HCA.out _ hd).mono ?_
     intro e w3 hG
     obtain⟨k0,k1,o2,l2,q2,o3,l3,q3,k4,o5,l5,q5,o6,l6,q6,k7,o8,l8,q8,tO,l9,tc,rfl,E9,HF⟩:=hG.letters
     have mk1:=hd.trans E9)
  | (go_at_call 65
     with_reducible refine(HCA.out _ hda).mono ?_
     intro e w3 hG
     obtain⟨k0,k1,o2,l2,q2,o3,l3,q3,k4,o5,l5,q5,o6,l6,q6,k7,o8,l8,q8,tO,l9,tc,rfl,E9,HF⟩:=hG.letters
     have mk2:=hda.trans E9
     have mk3:=W9_ext0 mk2 (Nat.le_refl w.heap.size) (x0:=.int .i64 k0) (x1:=.int .i64 k1) (x2:=.slice o2 l2 q2) (x3:=.slice o3 l3 q3) (x4:=.int .i64 k4) (x5:=.slice o5 l5 q5) (x6:=.slice o6 l6 q6) (x7:=.int .i64 k7) (x8:=.slice o8 l8 q8)
     unfold W9 at mk3
     have HB:w3.rowIs w.heap.size 33 9 _:=(box_row (T:=33) (show w.heap.size=w.heap.size from rfl) _ _ _ _ _ _ _ _ _).of_block (Below.block E9 _ (by simp))
     have u0:=HB.cell (i:=0) (by omega)
     have u1:=HB.cell (i:=1) (by omega)
     have u2:=HB.cell (i:=2) (by omega)
     have u3:=HB.cell (i:=3) (by omega)
     have u4:=HB.cell (i:=4) (by omega)
     have u5:=HB.cell (i:=5) (by omega)
     have u6:=HB.cell (i:=6) (by omega)
     have u7:=HB.cell (i:=7) (by omega)
     have u8:=HB.cell (i:=8) (by omega)
     have uz:=HB.frozen
     have HHB:=hidp HB
     clear HB))
 ·have _t:=mk1
  obtain⟨w4,hw4⟩:∃w4,w4=w3.alloc (.cells #[.int .i64 k0,.int .i64 k1,.slice o2 l2 q2,.slice o3 l3 q3,.int .i64 k4,.slice o5 l5 q5,.slice o6 l6 q6,.int .i64 k7,.slice o8 l8 q8] 33):=⟨_,rfl⟩
  have R4:w4.rowIs w3.heap.size 33 9 (fun j=>[.int .i64 k0,.int .i64 k1,.slice o2 l2 q2,.slice o3 l3 q3,.int .i64 k4,.slice o5 l5 q5,.slice o6 l6 q6,.int .i64 k7,.slice o8 l8 q8].getD j vd):=by rw[hw4];exact box_row rfl _ _ _ _ _ _ _ _ _
  have E4:Ext w w4:=by rw[hw4];exact mk1.alloc _
  have HST:Hid (∃a',Value.agg #[.int .i64 k0,.int .i64 k1,.slice o2 l2 q2,.slice o3 l3 q3,.int .i64 k4,.slice o5 l5 q5,.slice o6 l6 q6,.int .i64 k7,.slice o8 l8 q8]=cvl (askS W.co n ls fs).1.c a'∧l9=(askS W.co n ls fs).1.out.length∧Stb (fun b=>tg b=0) w4 (fun U=>CoAt U (askS W.co n ls fs).1.c a'∧TosAt U tO (askS W.co n ls fs).1.out)):=by
   obtain⟨a',ea,el,hU⟩:=HF.out
   exact⟨a',ea,el,(HW.out.fresh hU).ext (by rw[hw4];exact(Ext.refl w3).alloc _)⟩
  have HX0:Hid (tg w3.heap.size=0):=HW.out.nw _ mk1.size
  rw[←hw4]
  clear hw4 E9 hG HF _t
  generalize w3.heap.size=X at R4 HX0 ⊢
  clear mk1
  have x0:=R4.cell (i:=0) (by omega)
  have x1:=R4.cell (i:=1) (by omega)
  have x2:=R4.cell (i:=2) (by omega)
  have x3:=R4.cell (i:=3) (by omega)
  have x4:=R4.cell (i:=4) (by omega)
  have x5:=R4.cell (i:=5) (by omega)
  have x6:=R4.cell (i:=6) (by omega)
  have x7:=R4.cell (i:=7) (by omega)
  have x8:=R4.cell (i:=8) (by omega)
  simp only[List.getD_cons_zero,List.getD_cons_succ] at x0 x1 x2 x3 x4 x5 x6 x7 x8
  have hXl:=R4.lt
  clear R4
  by_cases h0:(askS W.co n ls fs).2=0
  ·have HD:=hidp (hapA_yes h0)
   have HDW:=hidp (ask_words HI.out (by omega) h0)
   rw[h0]
   clear h0
   go_wp2_with fail
   have HT:Hid (Calls Try.prog 66 #[.pointer (some ⟨P,0,none⟩),.agg #[.int .i64 k0,.int .i64 k1,.slice o2 l2 q2,.slice o3 l3 q3,.int .i64 k4,.slice o5 l5 q5,.slice o6 l6 q6,.int .i64 k7,.slice o8 l8 q8],.slice tO l9 tc] w4 fun e w'=>e=.returned (.tuple #[])∧∃tg' a',Value.agg #[.int .i64 k4,.slice o5 l5 q5,.slice o6 l6 q6]=pvl (askS W.co n ls fs).1.c.nxt a'.x∧WSt 95 [.int .i64 (n:Int),.slice ao len cap] w0 P n tg' w' ⟨(askS W.co n ls fs).1.c,W.sw,putO W.od (askS W.co n ls fs).1.out,W.bk,W.pk,W.pn⟩ a' sb ob bb kv lv∧Kpt tg tg' w4 w'):=by
    obtain⟨a',ea,el,hS⟩:=HST.out
    show Calls _ _ _ _ _
    have en:=cvl_nxt ea
    rw[ea,el]
    exact(take_any _ w0 P n tg w4 W a sb ob bb kv lv _ a' _ tO tc (HW.out.toExt E4) HI.out.lod hS HDW.out.1 HDW.out.2 (fun s=>by have:=(HI.out.rows s).1;omega)).mono (fun e w' ⟨h1,tg',h2,h3⟩=>⟨h1,tg',a',en,h2,h3⟩)
   refine Calls.mono HT.out ?_
   rintro e w5 ⟨rfl,tg5,a5,en,hW5,hK5⟩
   have HW5:=hidp hW5
   have HK5:=hidp hK5
   obtain⟨p,hp⟩:∃p,p=(askS W.co n ls fs).1.c.nxt:=⟨_,rfl⟩
   have HP:=hidp hp
   have hP5:=hW5.row.lt
   have HCP:Hid (∀V,Ext w5 V→Calls Try.prog 67 #[.agg #[.int .i64 k4,.slice o5 l5 q5,.slice o6 l6 q6]] V fun e w'=>∃ap:PA,e=.returned (.agg #[.int .i64 p.v,.slice ap.fo p.fs.length ap.fc,.slice ap.qo p.ps.length ap.qc])∧PlNew V.heap.size w' p ap∧Ext V w'):=fun V hV=>by
    rw[en,hp]
    have hok:PlOk (askS W.co n ls fs).1.c.nxt:=by
     have h1:=(hapA_inv (fs:=fs) HI.out (by omega)).small (by omega)
     rw[HD.out] at h1
     exact h1.x
    exact Copy_any _ a5.x V ((HW5.out.toExt hV).co.at.hx) hok
   have HSX:Hid (∀V,Ext w5 V→V.cell? ⟨P,13,none⟩=some lv∧V.cell? ⟨X,4,none⟩=some (.int .i64 k4)∧V.cell? ⟨X,5,none⟩=some (.slice o5 l5 q5)∧V.cell? ⟨X,6,none⟩=some (.slice o6 l6 q6)):=fun V hV=>by
    have hbX:w5.heap[X]? =w4.heap[X]?:=(hK5.blk X hXl (Or.inl HX0.out)).2
    have hX5:X<w5.heap.size:=Nat.lt_of_lt_of_le hXl hK5.size
    exact⟨(hV.cells.1 _ _ hP5).trans (HW5.out.row.cell (i:=13) (by simp)),(hV.cells.1 _ _ hX5).trans ((World.cell?_of_block (a:=⟨X,4,none⟩) hbX).trans x4),(hV.cells.1 _ _ hX5).trans ((World.cell?_of_block (a:=⟨X,5,none⟩) hbX).trans x5),(hV.cells.1 _ _ hX5).trans ((World.cell?_of_block (a:=⟨X,6,none⟩) hbX).trans x6)⟩
   obtain⟨xs,hrw,hpl⟩:=hW5.pls
   have HRW:=hidp hrw
   have HPL:=hidp hpl
   have hpn:W.pn.length≤1000:=by have:=HI.out.pl;omega
   clear hW5 hK5 HT x0 x1 x2 x3 x4 x5 x6 x7 x8 en hrw hpl hp
   go_wp2
   refine Last.LH.start (m:=14) (S:=fun V=>V.cell? ⟨P,13,none⟩=some lv∧V.cell? ⟨X,4,none⟩=some (.int .i64 k4)∧V.cell? ⟨X,5,none⟩=some (.slice o5 l5 q5)∧V.cell? ⟨X,6,none⟩=some (.slice o6 l6 q6)) (by kernel_rfl) ?_
   have hHeld:(fun V:World=>V.cell? ⟨P,13,none⟩=some lv∧V.cell? ⟨X,4,none⟩=some (.int .i64 k4)∧V.cell? ⟨X,5,none⟩=some (.slice o5 l5 q5)∧V.cell? ⟨X,6,none⟩=some (.slice o6 l6 q6)) w5.drew:=HSX.out _ (Ext.refl _).drew
   refine Last.LH.take (i:=0) (v:=?v0a) rfl (by kernel_rfl) (by kernel_rfl) (by kernel_rfl) (by kernel_rfl) (fun _ _ _ h=>h) (by rfl) ?hy0a hHeld ?rest0a
   case hy0a=>intro W hSW;(try dsimp only at hSW);go_simp;with_reducible rfl
   refine Last.LH.take (i:=1) (v:=?v1a) rfl (by kernel_rfl) (by kernel_rfl) (by kernel_rfl) (by kernel_rfl) (fun _ _ _ h=>h) (by rfl) ?hy1a hHeld ?rest1a
   case hy1a=>intro W hSW;(try dsimp only at hSW);go_simp;with_reducible rfl
   refine Last.LH.take (i:=2) (v:=?v2a) rfl (by kernel_rfl) (by kernel_rfl) (by kernel_rfl) (by kernel_rfl) (fun _ _ _ h=>h) (by rfl) ?hy2a hHeld ?rest2a
   case hy2a=>intro W hSW;(try dsimp only at hSW);go_simp;with_reducible rfl
   refine Last.LH.take (i:=3) (v:=?v3a) rfl (by kernel_rfl) (by kernel_rfl) (by kernel_rfl) (by kernel_rfl) (fun _ _ _ h=>h) (by rfl) ?hy3a hHeld ?rest3a
   case hy3a=>intro W hSW;(try dsimp only at hSW);go_simp;with_reducible rfl
   refine Last.LH.take (i:=4) (v:=?v4a) rfl (by kernel_rfl) (by kernel_rfl) (by kernel_rfl) (by kernel_rfl) (fun _ _ _ h=>h) (by rfl) ?hy4a hHeld ?rest4a
   case hy4a=>intro W hSW;(try dsimp only at hSW);go_simp;with_reducible rfl
   refine Last.LH.take (i:=5) (v:=?v5a) rfl (by kernel_rfl) (by kernel_rfl) (by kernel_rfl) (by kernel_rfl) (fun _ _ _ h=>h) (by rfl) ?hy5a hHeld ?rest5a
   case hy5a=>intro W hSW;(try dsimp only at hSW);go_simp;with_reducible rfl
   refine Last.LH.take (i:=6) (v:=?v6a) rfl (by kernel_rfl) (by kernel_rfl) (by kernel_rfl) (by kernel_rfl) (fun _ _ _ h=>h) (by rfl) ?hy6a hHeld ?rest6a
   case hy6a=>intro W hSW;(try dsimp only at hSW);go_simp;with_reducible rfl
   refine Last.LH.take (i:=7) (v:=?v7a) rfl (by kernel_rfl) (by kernel_rfl) (by kernel_rfl) (by kernel_rfl) (fun _ _ _ h=>h) (by rfl) ?hy7a hHeld ?rest7a
   case hy7a=>intro W hSW;(try dsimp only at hSW);go_simp;with_reducible rfl
   refine Last.LH.one (i:=8) (by kernel_rfl) rfl (fun K hK=>?_)
   go_simp
   refine(HCP.out _ (Ext.refl _).drew).mono ?_
   rintro e w6 ⟨ap,rfl,hN,E6⟩
   have HN:=hidp hN
   have E56:Ext w5 w6:=(Ext.refl _).drew.trans E6
   refine hK _ _ (fun _=>HSX.out _ E56) ?_
   clear hK K hHeld hN E6
   refine Last.LH.one (i:=9) (by kernel_rfl) rfl (fun K hK=>?_)
   go_simp
   refine hK _ _ (fun _=>HSX.out _ (E56.alloc _)) ?_
   clear hK K
   have EA:Ext w5 (w6.alloc (.cells #[.int .i64 p.v,.slice ap.fo p.fs.length ap.fc,.slice ap.qo p.ps.length ap.qc] 30)):=E56.alloc _
   refine Last.LH.one (i:=10) (by kernel_rfl) rfl (fun K hK=>?_)
   refine step_append_rw _ rfl (.tmp 35) (.tmp 39) 38 rfl 30 i0 _ 3 56 Try.underlying38 hi0 hz00 hz01 hz02 rfl (by decide) lv W.pn.length xs rfl ?rwa ⟨w6.heap.size,0,none⟩ 1 [.int .i64 p.v,.slice ap.fo p.fs.length ap.fc,.slice ap.qo p.ps.length ap.qc] rfl rfl ?newsa (one3p p.v ap.fo ap.qo p.fs.length ap.fc p.ps.length ap.qc) ?h63a ?hba ?_
   case rwa=>with_reducible exact(HRW.out.keep (KeepP.ext (S:=fun _=>True) EA) trivial).rw
   case newsa=>with_reducible exact news3 rfl (Ext.refl _)
   case h63a=>unfold maxLen;omega
   case hba=>omega
   intro g off cap2 w7 hr7 hg7 hat7
   have HPU:=hidp (WSt.pushL (p:=p) (ap:=ap) (HW5.out.toExt EA) (HRW.out.keep (KeepP.ext (S:=fun _=>True) EA) trivial) (fun i hi=>by
    obtain⟨b,b0,b1,b2,b3⟩:=HPL.out i hi
    exact⟨b,b0,b1,b2,b3.keep (KeepP.ext (S:=fun _=>True) EA) trivial⟩) ((HW5.out.fresh (HN.out)).ext ((Ext.refl w6).alloc _)) hr7 hg7 hat7)
   obtain⟨c13,d4,d5,d6⟩:=HSX.out _ EA
   have t1:=HW5.out.tP
   have tX:tg5 X=0:=by
    have h1:=(HK5.out.blk X hXl (Or.inl HX0.out)).1
    rw[h1];exact HX0.out
   have hX5:X<w5.heap.size:=Nat.lt_of_lt_of_le hXl HK5.out.size
   have gP:=grown_keep hg7 HRW.out.tg (b:=P) (by rw[t1];decide) (Nat.lt_of_lt_of_le hP5 EA.size)
   have gX:=(grown_keep hg7 HRW.out.tg (b:=X) (by rw[tX];decide) (Nat.lt_of_lt_of_le hX5 EA.size)).1
   have fP7:w7.frozen? ⟨P,13,none⟩=false:=(gP.2 13).trans ((EA.cells.2 _ _ hP5).trans (HW5.out.row.frozen 13))
   have hP7:P<w7.heap.size:=Nat.lt_of_lt_of_le (Nat.lt_of_lt_of_le hP5 EA.size) hg7.size
   have hS7:=And.intro ((gP.1 13).trans c13) (And.intro ((gX 4).trans d4) (And.intro ((gX 5).trans d5) ((gX 6).trans d6)))
   clear gP gX c13 d4 d5 d6 hr7 hg7 hat7 t1 tX
   have co7:=hS7.1
   refine hK _ _ (fun _=>hS7) ?_
   clear hK K
   refine Last.LH.one (i:=11) (by kernel_rfl) rfl (fun K hK=>?_)
   go_simp
   refine hK _ _ (fun _=>hS7) ?_
   clear hK K
   refine Last.LH.one (i:=12) (by kernel_rfl) rfl (fun K hK=>?_)
   go_simp
   refine hK _ _ (fun _=>hS7) ?_
   clear hK K
   refine Last.LH.one (i:=13) (by kernel_rfl) rfl (fun K hK=>?_)
   go_simp
   refine hK _ _ (fun _=>hS7) ?_
   clear hK K
   refine Last.LH.one (i:=14) (by kernel_rfl) rfl (fun K hK=>?_)
   go_simp
   refine hK _ _ (fun h=>absurd rfl h) ?_
   clear hK K
   refine Last.LH.done (by kernel_rfl) ?_
   clear hS7 co7 fP7
   go_wp2
   go_ret
   rw[HD.out]
   obtain⟨tg7,hW7,hK7⟩:=HPU.out
   rw[HP.out] at hW7
   exact⟨rfl,tg7,a5,kv,_,hW7,((Kpt.ext E4).trans HK5.out).trans ((Kpt.ext EA).trans hK7)⟩
  ·have HD:=hidp (hapA_no h0)
   have b0:((askS W.co n ls fs).2 != 0)=true:=by simpa using h0
   clear h0
   go_wp2
   go_ret
   rw[HD.out]
   exact⟨rfl,tg,a,kv,lv,HW.out.toExt E4,Kpt.ext E4⟩
 ·have _t:=mk2
  obtain⟨w4,hw4⟩:∃w4,w4=W9 w3 w.heap.size (.int .i64 k0) (.int .i64 k1) (.slice o2 l2 q2) (.slice o3 l3 q3) (.int .i64 k4) (.slice o5 l5 q5) (.slice o6 l6 q6) (.int .i64 k7) (.slice o8 l8 q8):=⟨_,rfl⟩
  have R4:w4.rowIs w.heap.size 33 9 (fun j=>[.int .i64 k0,.int .i64 k1,.slice o2 l2 q2,.slice o3 l3 q3,.int .i64 k4,.slice o5 l5 q5,.slice o6 l6 q6,.int .i64 k7,.slice o8 l8 q8].getD j vd):=by rw[hw4];exact w9_row HHB.out
  have E4:Ext w w4:=by rw[hw4];exact W9_ext0 mk2 (Nat.le_refl _)
  have HST:Hid (∃a',Value.agg #[.int .i64 k0,.int .i64 k1,.slice o2 l2 q2,.slice o3 l3 q3,.int .i64 k4,.slice o5 l5 q5,.slice o6 l6 q6,.int .i64 k7,.slice o8 l8 q8]=cvl (askS W.co n ls fs).1.c a'∧l9=(askS W.co n ls fs).1.out.length∧Stb (fun b=>tg b=0) w4 (fun U=>CoAt U (askS W.co n ls fs).1.c a'∧TosAt U tO (askS W.co n ls fs).1.out)):=by
   obtain⟨a',ea,el,hU⟩:=HF.out
   refine⟨a',ea,el,?_⟩
   rw[hw4]
   exact HW.out.fresh1 (fun U h1 h2=>hU U h1 (fun b hb h3=>h2 b (by simpa using hb) h3)) W9_size0 W9_block0
  have HX0:Hid (tg w.heap.size=0):=HW.out.nw _ (Nat.le_refl _)
  unfold W9 at hw4
  rw[←hw4]
  clear hda
  generalize w.heap.size=X at R4 HX0 ⊢
  clear hw4 mk2 mk3 E9 hG HF _t u0 u1 u2 u3 u4 u5 u6 u7 u8 uz HHB
  have x0:=R4.cell (i:=0) (by omega)
  have x1:=R4.cell (i:=1) (by omega)
  have x2:=R4.cell (i:=2) (by omega)
  have x3:=R4.cell (i:=3) (by omega)
  have x4:=R4.cell (i:=4) (by omega)
  have x5:=R4.cell (i:=5) (by omega)
  have x6:=R4.cell (i:=6) (by omega)
  have x7:=R4.cell (i:=7) (by omega)
  have x8:=R4.cell (i:=8) (by omega)
  simp only[List.getD_cons_zero,List.getD_cons_succ] at x0 x1 x2 x3 x4 x5 x6 x7 x8
  have hXl:=R4.lt
  clear R4
  by_cases h0:(askS W.co n ls fs).2=0
  ·have HD:=hidp (hapA_yes h0)
   have HDW:=hidp (ask_words HI.out (by omega) h0)
   rw[h0]
   clear h0
   go_wp2_with fail
   have HT:Hid (Calls Try.prog 66 #[.pointer (some ⟨P,0,none⟩),.agg #[.int .i64 k0,.int .i64 k1,.slice o2 l2 q2,.slice o3 l3 q3,.int .i64 k4,.slice o5 l5 q5,.slice o6 l6 q6,.int .i64 k7,.slice o8 l8 q8],.slice tO l9 tc] w4 fun e w'=>e=.returned (.tuple #[])∧∃tg' a',Value.agg #[.int .i64 k4,.slice o5 l5 q5,.slice o6 l6 q6]=pvl (askS W.co n ls fs).1.c.nxt a'.x∧WSt 95 [.int .i64 (n:Int),.slice ao len cap] w0 P n tg' w' ⟨(askS W.co n ls fs).1.c,W.sw,putO W.od (askS W.co n ls fs).1.out,W.bk,W.pk,W.pn⟩ a' sb ob bb kv lv∧Kpt tg tg' w4 w'):=by
    obtain⟨a',ea,el,hS⟩:=HST.out
    show Calls _ _ _ _ _
    have en:=cvl_nxt ea
    rw[ea,el]
    exact(take_any _ w0 P n tg w4 W a sb ob bb kv lv _ a' _ tO tc (HW.out.toExt E4) HI.out.lod hS HDW.out.1 HDW.out.2 (fun s=>by have:=(HI.out.rows s).1;omega)).mono (fun e w' ⟨h1,tg',h2,h3⟩=>⟨h1,tg',a',en,h2,h3⟩)
   refine Calls.mono HT.out ?_
   rintro e w5 ⟨rfl,tg5,a5,en,hW5,hK5⟩
   have HW5:=hidp hW5
   have HK5:=hidp hK5
   obtain⟨p,hp⟩:∃p,p=(askS W.co n ls fs).1.c.nxt:=⟨_,rfl⟩
   have HP:=hidp hp
   have hP5:=hW5.row.lt
   have HCP:Hid (∀V,Ext w5 V→Calls Try.prog 67 #[.agg #[.int .i64 k4,.slice o5 l5 q5,.slice o6 l6 q6]] V fun e w'=>∃ap:PA,e=.returned (.agg #[.int .i64 p.v,.slice ap.fo p.fs.length ap.fc,.slice ap.qo p.ps.length ap.qc])∧PlNew V.heap.size w' p ap∧Ext V w'):=fun V hV=>by
    rw[en,hp]
    have hok:PlOk (askS W.co n ls fs).1.c.nxt:=by
     have h1:=(hapA_inv (fs:=fs) HI.out (by omega)).small (by omega)
     rw[HD.out] at h1
     exact h1.x
    exact Copy_any _ a5.x V ((HW5.out.toExt hV).co.at.hx) hok
   have HSX:Hid (∀V,Ext w5 V→V.cell? ⟨P,13,none⟩=some lv∧V.cell? ⟨X,4,none⟩=some (.int .i64 k4)∧V.cell? ⟨X,5,none⟩=some (.slice o5 l5 q5)∧V.cell? ⟨X,6,none⟩=some (.slice o6 l6 q6)):=fun V hV=>by
    have hbX:w5.heap[X]? =w4.heap[X]?:=(hK5.blk X hXl (Or.inl HX0.out)).2
    have hX5:X<w5.heap.size:=Nat.lt_of_lt_of_le hXl hK5.size
    exact⟨(hV.cells.1 _ _ hP5).trans (HW5.out.row.cell (i:=13) (by simp)),(hV.cells.1 _ _ hX5).trans ((World.cell?_of_block (a:=⟨X,4,none⟩) hbX).trans x4),(hV.cells.1 _ _ hX5).trans ((World.cell?_of_block (a:=⟨X,5,none⟩) hbX).trans x5),(hV.cells.1 _ _ hX5).trans ((World.cell?_of_block (a:=⟨X,6,none⟩) hbX).trans x6)⟩
   obtain⟨xs,hrw,hpl⟩:=hW5.pls
   have HRW:=hidp hrw
   have HPL:=hidp hpl
   have hpn:W.pn.length≤1000:=by have:=HI.out.pl;omega
   clear hW5 hK5 HT x0 x1 x2 x3 x4 x5 x6 x7 x8 en hrw hpl hp
   go_wp2
   refine Last.LH.start (m:=14) (S:=fun V=>V.cell? ⟨P,13,none⟩=some lv∧V.cell? ⟨X,4,none⟩=some (.int .i64 k4)∧V.cell? ⟨X,5,none⟩=some (.slice o5 l5 q5)∧V.cell? ⟨X,6,none⟩=some (.slice o6 l6 q6)) (by kernel_rfl) ?_
   have hHeld:(fun V:World=>V.cell? ⟨P,13,none⟩=some lv∧V.cell? ⟨X,4,none⟩=some (.int .i64 k4)∧V.cell? ⟨X,5,none⟩=some (.slice o5 l5 q5)∧V.cell? ⟨X,6,none⟩=some (.slice o6 l6 q6)) w5.drew:=HSX.out _ (Ext.refl _).drew
   refine Last.LH.take (i:=0) (v:=?v0b) rfl (by kernel_rfl) (by kernel_rfl) (by kernel_rfl) (by kernel_rfl) (fun _ _ _ h=>h) (by rfl) ?hy0b hHeld ?rest0b
   case hy0b=>intro W hSW;(try dsimp only at hSW);go_simp;with_reducible rfl
   refine Last.LH.take (i:=1) (v:=?v1b) rfl (by kernel_rfl) (by kernel_rfl) (by kernel_rfl) (by kernel_rfl) (fun _ _ _ h=>h) (by rfl) ?hy1b hHeld ?rest1b
   case hy1b=>intro W hSW;(try dsimp only at hSW);go_simp;with_reducible rfl
   refine Last.LH.take (i:=2) (v:=?v2b) rfl (by kernel_rfl) (by kernel_rfl) (by kernel_rfl) (by kernel_rfl) (fun _ _ _ h=>h) (by rfl) ?hy2b hHeld ?rest2b
   case hy2b=>intro W hSW;(try dsimp only at hSW);go_simp;with_reducible rfl
   refine Last.LH.take (i:=3) (v:=?v3b) rfl (by kernel_rfl) (by kernel_rfl) (by kernel_rfl) (by kernel_rfl) (fun _ _ _ h=>h) (by rfl) ?hy3b hHeld ?rest3b
   case hy3b=>intro W hSW;(try dsimp only at hSW);go_simp;with_reducible rfl
   refine Last.LH.take (i:=4) (v:=?v4b) rfl (by kernel_rfl) (by kernel_rfl) (by kernel_rfl) (by kernel_rfl) (fun _ _ _ h=>h) (by rfl) ?hy4b hHeld ?rest4b
   case hy4b=>intro W hSW;(try dsimp only at hSW);go_simp;with_reducible rfl
   refine Last.LH.take (i:=5) (v:=?v5b) rfl (by kernel_rfl) (by kernel_rfl) (by kernel_rfl) (by kernel_rfl) (fun _ _ _ h=>h) (by rfl) ?hy5b hHeld ?rest5b
   case hy5b=>intro W hSW;(try dsimp only at hSW);go_simp;with_reducible rfl
   refine Last.LH.take (i:=6) (v:=?v6b) rfl (by kernel_rfl) (by kernel_rfl) (by kernel_rfl) (by kernel_rfl) (fun _ _ _ h=>h) (by rfl) ?hy6b hHeld ?rest6b
   case hy6b=>intro W hSW;(try dsimp only at hSW);go_simp;with_reducible rfl
   refine Last.LH.take (i:=7) (v:=?v7b) rfl (by kernel_rfl) (by kernel_rfl) (by kernel_rfl) (by kernel_rfl) (fun _ _ _ h=>h) (by rfl) ?hy7b hHeld ?rest7b
   case hy7b=>intro W hSW;(try dsimp only at hSW);go_simp;with_reducible rfl
   refine Last.LH.one (i:=8) (by kernel_rfl) rfl (fun K hK=>?_)
   go_simp
   refine(HCP.out _ (Ext.refl _).drew).mono ?_
   rintro e w6 ⟨ap,rfl,hN,E6⟩
   have HN:=hidp hN
   have E56:Ext w5 w6:=(Ext.refl _).drew.trans E6
   refine hK _ _ (fun _=>HSX.out _ E56) ?_
   clear hK K hHeld hN E6
   refine Last.LH.one (i:=9) (by kernel_rfl) rfl (fun K hK=>?_)
   go_simp
   refine hK _ _ (fun _=>HSX.out _ (E56.alloc _)) ?_
   clear hK K
   have EA:Ext w5 (w6.alloc (.cells #[.int .i64 p.v,.slice ap.fo p.fs.length ap.fc,.slice ap.qo p.ps.length ap.qc] 30)):=E56.alloc _
   refine Last.LH.one (i:=10) (by kernel_rfl) rfl (fun K hK=>?_)
   refine step_append_rw _ rfl (.tmp 35) (.tmp 39) 38 rfl 30 i0 _ 3 56 Try.underlying38 hi0 hz00 hz01 hz02 rfl (by decide) lv W.pn.length xs rfl ?rwb ⟨w6.heap.size,0,none⟩ 1 [.int .i64 p.v,.slice ap.fo p.fs.length ap.fc,.slice ap.qo p.ps.length ap.qc] rfl rfl ?newsb (one3p p.v ap.fo ap.qo p.fs.length ap.fc p.ps.length ap.qc) ?h63b ?hbb ?_
   case rwb=>with_reducible exact(HRW.out.keep (KeepP.ext (S:=fun _=>True) EA) trivial).rw
   case newsb=>with_reducible exact news3 rfl (Ext.refl _)
   case h63b=>unfold maxLen;omega
   case hbb=>omega
   intro g off cap2 w7 hr7 hg7 hat7
   have HPU:=hidp (WSt.pushL (p:=p) (ap:=ap) (HW5.out.toExt EA) (HRW.out.keep (KeepP.ext (S:=fun _=>True) EA) trivial) (fun i hi=>by
    obtain⟨b,b0,b1,b2,b3⟩:=HPL.out i hi
    exact⟨b,b0,b1,b2,b3.keep (KeepP.ext (S:=fun _=>True) EA) trivial⟩) ((HW5.out.fresh (HN.out)).ext ((Ext.refl w6).alloc _)) hr7 hg7 hat7)
   obtain⟨c13,d4,d5,d6⟩:=HSX.out _ EA
   have t1:=HW5.out.tP
   have tX:tg5 X=0:=by
    have h1:=(HK5.out.blk X hXl (Or.inl HX0.out)).1
    rw[h1];exact HX0.out
   have hX5:X<w5.heap.size:=Nat.lt_of_lt_of_le hXl HK5.out.size
   have gP:=grown_keep hg7 HRW.out.tg (b:=P) (by rw[t1];decide) (Nat.lt_of_lt_of_le hP5 EA.size)
   have gX:=(grown_keep hg7 HRW.out.tg (b:=X) (by rw[tX];decide) (Nat.lt_of_lt_of_le hX5 EA.size)).1
   have fP7:w7.frozen? ⟨P,13,none⟩=false:=(gP.2 13).trans ((EA.cells.2 _ _ hP5).trans (HW5.out.row.frozen 13))
   have hP7:P<w7.heap.size:=Nat.lt_of_lt_of_le (Nat.lt_of_lt_of_le hP5 EA.size) hg7.size
   have hS7:=And.intro ((gP.1 13).trans c13) (And.intro ((gX 4).trans d4) (And.intro ((gX 5).trans d5) ((gX 6).trans d6)))
   clear gP gX c13 d4 d5 d6 hr7 hg7 hat7 t1 tX
   have co7:=hS7.1
   refine hK _ _ (fun _=>hS7) ?_
   clear hK K
   refine Last.LH.one (i:=11) (by kernel_rfl) rfl (fun K hK=>?_)
   go_simp
   refine hK _ _ (fun _=>hS7) ?_
   clear hK K
   refine Last.LH.one (i:=12) (by kernel_rfl) rfl (fun K hK=>?_)
   go_simp
   refine hK _ _ (fun _=>hS7) ?_
   clear hK K
   refine Last.LH.one (i:=13) (by kernel_rfl) rfl (fun K hK=>?_)
   go_simp
   refine hK _ _ (fun _=>hS7) ?_
   clear hK K
   refine Last.LH.one (i:=14) (by kernel_rfl) rfl (fun K hK=>?_)
   go_simp
   refine hK _ _ (fun h=>absurd rfl h) ?_
   clear hK K
   refine Last.LH.done (by kernel_rfl) ?_
   clear hS7 co7 fP7
   go_wp2
   go_ret
   rw[HD.out]
   obtain⟨tg7,hW7,hK7⟩:=HPU.out
   rw[HP.out] at hW7
   exact⟨rfl,tg7,a5,kv,_,hW7,((Kpt.ext E4).trans HK5.out).trans ((Kpt.ext EA).trans hK7)⟩
  ·have HD:=hidp (hapA_no h0)
   have b0:((askS W.co n ls fs).2 != 0)=true:=by simpa using h0
   clear h0
   go_wp2
   go_ret
   rw[HD.out]
   exact⟨rfl,tg,a,kv,lv,HW.out.toExt E4,Kpt.ext E4⟩
set_option maxRecDepth 100000 in
set_option maxHeartbeats 4000000 in
theorem back_someN (n len cap s:Nat) (k:Int) (r:List Int) (ls:List Lk) (ao:Option Addr) (t:Nat) (w0:World) (P:Nat) (tg:Nat→Nat) (w:World) (W:Wd) (a:CA) (sb ob bb:Nat) (kv lv:Value) (h:WSt 95 [.int .i64 (n:Int),.slice ao len cap] w0 P n tg w W a sb ob bb kv lv) (hI:Inv n ls t W) (ht:t≤900) (hlen:ls.length=len) (hnet:NetAt w ao ls) (hx:len≤9223372036854775807) (hs:s<n) (hb:W.bk.getD s []=k::r):
 Calls Try.prog 53 #[.pointer (some ⟨P,0,none⟩),.int .i64 (s:Int)] w fun e w'=>MOut [.int .i64 (n:Int),.slice ao len cap] w0 P n tg w sb ob bb (hapK n ls W s) e w':=by
 have HW:=hidp h
 have HI:=hidp hI
 have hP:=h.row.lt
 obtain⟨v,cv,fv,hbl,hv⟩:=h.bks.get hs
 rw[hb] at hv
 obtain⟨g,off,rc,rfl,hgl,hrc,hcells⟩:=hv.last (by simp)
 have cg:=hcells 0 (by simp)
 simp only[Nat.add_zero,List.getD_cons_zero,List.length_cons] at cg cv hrc
 have HV:=hidp hv
 have HFV:=hidp fv
 have hln:r.length=0:=by rw[(back_done HI.out hs hb).1];rfl
 have j1:(0:Int)≤(s:Int):=by omega
 have j2:(s:Int)<(n:Int):=by omega
 have c11:w.cell? ⟨P,11,none⟩=some (.slice (some ⟨bb,0,none⟩) n n):=h.row.cell (i:=11) (by simp)
 have HS:Hid (∀V,Ext w V→V.cell? ⟨P,0,none⟩=some (.int .i64 W.co.st)∧V.cell? ⟨P,1,none⟩=some (.int .i64 W.co.now.v)∧V.cell? ⟨P,2,none⟩=some (.slice a.n.fo W.co.now.fs.length a.n.fc)∧V.cell? ⟨P,3,none⟩=some (.slice a.n.qo W.co.now.ps.length a.n.qc)∧V.cell? ⟨P,4,none⟩=some (.int .i64 W.co.nxt.v)∧V.cell? ⟨P,5,none⟩=some (.slice a.x.fo W.co.nxt.fs.length a.x.fc)∧V.cell? ⟨P,6,none⟩=some (.slice a.x.qo W.co.nxt.ps.length a.x.qc)∧V.cell? ⟨P,7,none⟩=some (.int .i64 W.co.num)∧V.cell? ⟨P,8,none⟩=some (.slice a.wo W.co.wts.length a.wc)∧V.cell? ⟨P,14,none⟩=some (.int .i64 (n:Int))∧V.cell? ⟨P,15,none⟩=some (.slice ao len cap)∧V.cell? ⟨P,11,none⟩=some (.slice (some ⟨bb,0,none⟩) n n)∧V.cell? ⟨bb,s,none⟩=some (.slice (some ⟨g,off,none⟩) (r.length+1) rc)∧V.cell? ⟨g,off,none⟩=some (.int .i64 k)):=fun V hV=>by
  have hr:=HW.out.row.of_block (Below.block hV P hP)
  exact⟨hr.cell (i:=0) (by simp),hr.cell (i:=1) (by simp),hr.cell (i:=2) (by simp),hr.cell (i:=3) (by simp),hr.cell (i:=4) (by simp),hr.cell (i:=5) (by simp),hr.cell (i:=6) (by simp),hr.cell (i:=7) (by simp),hr.cell (i:=8) (by simp),hr.cell (i:=14) (by simp),hr.cell (i:=15) (by simp),hr.cell (i:=11) (by simp),(hV.cells.1 _ _ hbl).trans cv,(hV.cells.1 _ _ hgl).trans cg⟩
 have HCA:Hid (∀V,Ext w V→Calls Try.prog 71 #[cvl W.co a,.agg #[.int .i64 (n:Int),.slice ao len cap],.int .i64 k] V fun e w'=>GoOut V.heap.size V (backS W.co n ls k).1 (backS W.co n ls k).2 e w'):=fun V hV=>Back_any W.co a n k ao len cap ls V ((HW.out.toExt hV).co.at) (HI.out.small (by omega)) hlen (hnet.ext hV) hx
 clear h hI hlen hnet hx hv hcells fv
 unfold cvl at HCA
 go_enter Try.func53,Try.ntmps53
 go_wp2_with fail
 refine(isAnyB_in bb n s _ rc _ w hs cv).mono ?_
 rintro e w1 ⟨rfl,hw1⟩
 have hw1:=hw1.symm
 subst hw1
 have b1:decide (0<r.length+1)=true:=by simp
 go_wp2_with fail
 have hd:Ext w w.drew:=(Ext.refl w).drew
 have hda:Ext w (w.alloc (.cells #[.int .i64 0,.int .i64 0,.slice none 0 0,.slice none 0 0,.int .i64 0,.slice none 0 0,.slice none 0 0,.int .i64 0,.slice none 0 0] 33)).drew:=((Ext.refl w).alloc _).drew
 go_region_held3 (fun V=>V.cell? ⟨P,0,none⟩=some (.int .i64 W.co.st)∧V.cell? ⟨P,1,none⟩=some (.int .i64 W.co.now.v)∧V.cell? ⟨P,2,none⟩=some (.slice a.n.fo W.co.now.fs.length a.n.fc)∧V.cell? ⟨P,3,none⟩=some (.slice a.n.qo W.co.now.ps.length a.n.qc)∧V.cell? ⟨P,4,none⟩=some (.int .i64 W.co.nxt.v)∧V.cell? ⟨P,5,none⟩=some (.slice a.x.fo W.co.nxt.fs.length a.x.fc)∧V.cell? ⟨P,6,none⟩=some (.slice a.x.qo W.co.nxt.ps.length a.x.qc)∧V.cell? ⟨P,7,none⟩=some (.int .i64 W.co.num)∧V.cell? ⟨P,8,none⟩=some (.slice a.wo W.co.wts.length a.wc)∧V.cell? ⟨P,14,none⟩=some (.int .i64 (n:Int))∧V.cell? ⟨P,15,none⟩=some (.slice ao len cap)∧V.cell? ⟨P,11,none⟩=some (.slice (some ⟨bb,0,none⟩) n n)∧V.cell? ⟨bb,s,none⟩=some (.slice (some ⟨g,off,none⟩) (r.length+1) rc)∧V.cell? ⟨g,off,none⟩=some (.int .i64 k))
  (first | (with_reducible exact HS.out _ hd) | (with_reducible exact HS.out _ hda) | (with_reducible exact HS.out _ mk1) | (with_reducible exact HS.out _ mk2) | (with_reducible exact HS.out _ (mk1.alloc _)) | (with_reducible exact HS.out _ mk3) | fail)
  (first
  | (go_at_call 71
     with_reducible refine(HCA.out _ hd).mono ?_
     intro e w3 hG
     obtain⟨k0,k1,o2,l2,q2,o3,l3,q3,k4,o5,l5,q5,o6,l6,q6,k7,o8,l8,q8,tO,l9,tc,rfl,E9,HF⟩:=hG.letters
     have mk1:=hd.trans E9)
  | (go_at_call 71
     with_reducible refine(HCA.out _ hda).mono ?_
     intro e w3 hG
     obtain⟨k0,k1,o2,l2,q2,o3,l3,q3,k4,o5,l5,q5,o6,l6,q6,k7,o8,l8,q8,tO,l9,tc,rfl,E9,HF⟩:=hG.letters
     have mk2:=hda.trans E9
     have mk3:=W9_ext0 mk2 (Nat.le_refl w.heap.size) (x0:=.int .i64 k0) (x1:=.int .i64 k1) (x2:=.slice o2 l2 q2) (x3:=.slice o3 l3 q3) (x4:=.int .i64 k4) (x5:=.slice o5 l5 q5) (x6:=.slice o6 l6 q6) (x7:=.int .i64 k7) (x8:=.slice o8 l8 q8)
     unfold W9 at mk3
     have HB:w3.rowIs w.heap.size 33 9 _:=(box_row (T:=33) (show w.heap.size=w.heap.size from rfl) _ _ _ _ _ _ _ _ _).of_block (Below.block E9 _ (by simp))
     have u0:=HB.cell (i:=0) (by omega)
     have u1:=HB.cell (i:=1) (by omega)
     have u2:=HB.cell (i:=2) (by omega)
     have u3:=HB.cell (i:=3) (by omega)
     have u4:=HB.cell (i:=4) (by omega)
     have u5:=HB.cell (i:=5) (by omega)
     have u6:=HB.cell (i:=6) (by omega)
     have u7:=HB.cell (i:=7) (by omega)
     have u8:=HB.cell (i:=8) (by omega)
     have uz:=HB.frozen
     have HHB:=hidp HB
     clear HB))
 ·have _t:=mk1
  obtain⟨w4,hw4⟩:∃w4,w4=w3.alloc (.cells #[.int .i64 k0,.int .i64 k1,.slice o2 l2 q2,.slice o3 l3 q3,.int .i64 k4,.slice o5 l5 q5,.slice o6 l6 q6,.int .i64 k7,.slice o8 l8 q8] 33):=⟨_,rfl⟩
  have R4:w4.rowIs w3.heap.size 33 9 (fun j=>[.int .i64 k0,.int .i64 k1,.slice o2 l2 q2,.slice o3 l3 q3,.int .i64 k4,.slice o5 l5 q5,.slice o6 l6 q6,.int .i64 k7,.slice o8 l8 q8].getD j vd):=by rw[hw4];exact box_row rfl _ _ _ _ _ _ _ _ _
  have E4:Ext w w4:=by rw[hw4];exact mk1.alloc _
  have HST:Hid (∃a',Value.agg #[.int .i64 k0,.int .i64 k1,.slice o2 l2 q2,.slice o3 l3 q3,.int .i64 k4,.slice o5 l5 q5,.slice o6 l6 q6,.int .i64 k7,.slice o8 l8 q8]=cvl (backS W.co n ls k).1.c a'∧l9=(backS W.co n ls k).1.out.length∧Stb (fun b=>tg b=0) w4 (fun U=>CoAt U (backS W.co n ls k).1.c a'∧TosAt U tO (backS W.co n ls k).1.out)):=by
   obtain⟨a',ea,el,hU⟩:=HF.out
   exact⟨a',ea,el,(HW.out.fresh hU).ext (by rw[hw4];exact(Ext.refl w3).alloc _)⟩
  have hXw:=mk1.size
  rw[←hw4]
  clear hw4 E9 hG HF _t
  generalize w3.heap.size=X at R4 hXw ⊢
  clear mk1
  have x0:=R4.cell (i:=0) (by omega)
  have x1:=R4.cell (i:=1) (by omega)
  have x2:=R4.cell (i:=2) (by omega)
  have x3:=R4.cell (i:=3) (by omega)
  have x4:=R4.cell (i:=4) (by omega)
  have x5:=R4.cell (i:=5) (by omega)
  have x6:=R4.cell (i:=6) (by omega)
  have x7:=R4.cell (i:=7) (by omega)
  have x8:=R4.cell (i:=8) (by omega)
  simp only[List.getD_cons_zero,List.getD_cons_succ] at x0 x1 x2 x3 x4 x5 x6 x7 x8
  have hXl:=R4.lt
  clear R4
  by_cases h0:(backS W.co n ls k).2=0
  ·have HD:=hidp (hapK_yes hs hb h0)
   have HDW:=hidp (back_words HI.out (by omega) hs hb)
   rw[h0]
   clear h0
   go_wp2_with fail
   have m11:w4.cell? ⟨P,11,none⟩=some (.slice (some ⟨bb,0,none⟩) n n):=(E4.cells.1 _ _ hP).trans c11
   have mbb:w4.cell? ⟨bb,s,none⟩=some (.slice (some ⟨g,off,none⟩) (r.length+1) rc):=(E4.cells.1 _ _ hbl).trans cv
   have fbb:w4.frozen? ⟨bb,s,none⟩=false:=(E4.cells.2 _ _ hbl).trans HFV.out
   obtain⟨ao',hao⟩:∃x,x=(if rc=1 then some (⟨g,off,none⟩:Addr) else some ⟨g,off+1,none⟩):=⟨_,rfl⟩
   have HAO:=hidp hao
   clear hao
   have HCUT:=hidp ((HW.out.toExt E4).cutB hs HI.out.lbk (v':=.slice ao' 0 (rc - 1)) (ns':=r) (by rw[HAO.out];exact(HV.out.keep (KeepP.ext (S:=fun _=>True) E4) trivial).tail1 hln))
   refine Last.LH.start (m:=16) (S:=fun V=>V.cell? ⟨P,11,none⟩=some (.slice (some ⟨bb,0,none⟩) n n)∧V.cell? ⟨bb,s,none⟩=some (.slice (some ⟨g,off,none⟩) (r.length+1) rc)) (by kernel_rfl) ?_
   have hHeld:(fun V:World=>V.cell? ⟨P,11,none⟩=some (.slice (some ⟨bb,0,none⟩) n n)∧V.cell? ⟨bb,s,none⟩=some (.slice (some ⟨g,off,none⟩) (r.length+1) rc)) w4.drew:=⟨m11,mbb⟩
   refine Last.LH.take (i:=0) (v:=?v0a) rfl (by kernel_rfl) (by kernel_rfl) (by kernel_rfl) (by kernel_rfl) (fun _ _ _ h=>h) (by rfl) ?hy0a hHeld ?rest0a
   case hy0a=>intro W hSW;(try dsimp only at hSW);go_simp;with_reducible rfl
   refine Last.LH.take (i:=1) (v:=?v1a) rfl (by kernel_rfl) (by kernel_rfl) (by kernel_rfl) (by kernel_rfl) (fun _ _ _ h=>h) (by rfl) ?hy1a hHeld ?rest1a
   case hy1a=>intro W hSW;(try dsimp only at hSW);go_simp;with_reducible rfl
   refine Last.LH.take (i:=2) (v:=?v2a) rfl (by kernel_rfl) (by kernel_rfl) (by kernel_rfl) (by kernel_rfl) (fun _ _ _ h=>h) (by rfl) ?hy2a hHeld ?rest2a
   case hy2a=>intro W hSW;(try dsimp only at hSW);go_simp;with_reducible rfl
   refine Last.LH.take (i:=3) (v:=?v3a) rfl (by kernel_rfl) (by kernel_rfl) (by kernel_rfl) (by kernel_rfl) (fun _ _ _ h=>h) (by rfl) ?hy3a hHeld ?rest3a
   case hy3a=>intro W hSW;(try dsimp only at hSW);go_simp;with_reducible rfl
   refine Last.LH.take (i:=4) (v:=?v4a) rfl (by kernel_rfl) (by kernel_rfl) (by kernel_rfl) (by kernel_rfl) (fun _ _ _ h=>h) (by rfl) ?hy4a hHeld ?rest4a
   case hy4a=>intro W hSW;(try dsimp only at hSW);go_simp;with_reducible rfl
   refine Last.LH.take (i:=5) (v:=?v5a) rfl (by kernel_rfl) (by kernel_rfl) (by kernel_rfl) (by kernel_rfl) (fun _ _ _ h=>h) (by rfl) ?hy5a hHeld ?rest5a
   case hy5a=>intro W hSW;(try dsimp only at hSW);go_simp;with_reducible rfl
   refine Last.LH.take (i:=6) (v:=?v6a) rfl (by kernel_rfl) (by kernel_rfl) (by kernel_rfl) (by kernel_rfl) (fun _ _ _ h=>h) (by rfl) ?hy6a hHeld ?rest6a
   case hy6a=>intro W hSW;(try dsimp only at hSW);go_simp;with_reducible rfl
   refine Last.LH.take (i:=7) (v:=?v7a) rfl (by kernel_rfl) (by kernel_rfl) (by kernel_rfl) (by kernel_rfl) (fun _ _ _ h=>h) (by rfl) ?hy7a hHeld ?rest7a
   case hy7a=>intro W hSW;(try dsimp only at hSW);go_simp;with_reducible rfl
   refine Last.LH.take (i:=8) (v:=?v8a) rfl (by kernel_rfl) (by kernel_rfl) (by kernel_rfl) (by kernel_rfl) (fun _ _ _ h=>h) (by rfl) ?hy8a hHeld ?rest8a
   case hy8a=>intro W hSW;(try dsimp only at hSW);go_simp;with_reducible rfl
   refine Last.LH.take (i:=9) (v:=?v9a) rfl (by kernel_rfl) (by kernel_rfl) (by kernel_rfl) (by kernel_rfl) (fun _ _ _ h=>h) (by rfl) ?hy9a hHeld ?rest9a
   case hy9a=>intro W hSW;(try dsimp only at hSW);go_simp;with_reducible rfl
   refine Last.LH.take (i:=10) (v:=?v10a) rfl (by kernel_rfl) (by kernel_rfl) (by kernel_rfl) (by kernel_rfl) (fun _ _ _ h=>h) (by rfl) ?hy10a hHeld ?rest10a
   case hy10a=>intro W hSW;(try dsimp only at hSW);go_simp;with_reducible rfl
   refine Last.LH.take (i:=11) (v:=?v11a) rfl (by kernel_rfl) (by kernel_rfl) (by kernel_rfl) (by kernel_rfl) (fun _ _ _ h=>h) (by rfl) ?hy11a hHeld ?rest11a
   case hy11a=>intro W hSW;(try dsimp only at hSW);go_simp;with_reducible rfl
   refine Last.LH.take (i:=12) (v:=?v12a) rfl (by kernel_rfl) (by kernel_rfl) (by kernel_rfl) (by kernel_rfl) (fun _ _ _ h=>h) (by rfl) ?hy12a hHeld ?rest12a
   case hy12a=>intro W hSW;(try dsimp only at hSW);go_simp;with_reducible rfl
   refine Last.LH.take (i:=13) (v:=?v13a) rfl (by kernel_rfl) (by kernel_rfl) (by kernel_rfl) (by kernel_rfl) (fun _ _ _ h=>h) (by rfl) ?hy13a hHeld ?rest13a
   case hy13a=>intro W hSW;(try dsimp only at hSW);go_simp;with_reducible rfl
   refine Last.LH.take (i:=14) (v:=.slice ao' 0 (rc - 1)) rfl (by kernel_rfl) (by kernel_rfl) (by kernel_rfl) (by kernel_rfl) (fun _ _ _ h=>h) (by rfl) ?hy14a hHeld ?rest14a
   case hy14a=>intro W hSW;(try dsimp only at hSW);go_simp;rw[HAO.out]
   refine Last.LH.take (i:=15) (v:=?v15a) rfl (by kernel_rfl) (by kernel_rfl) (by kernel_rfl) (by kernel_rfl) (fun _ _ _ h=>h) (by rfl) ?hy15a hHeld ?rest15a
   case hy15a=>intro W hSW;(try dsimp only at hSW);go_simp;with_reducible rfl
   refine Last.LH.one (i:=16) (by kernel_rfl) rfl (fun K hK=>?_)
   go_simp
   refine hK _ _ (fun h=>absurd rfl h) ?_
   clear hK K hHeld
   refine Last.LH.done (by kernel_rfl) ?_
   have hbb1:bb<w4.heap.size:=Nat.lt_of_lt_of_le hbl E4.size
   obtain⟨w5,hw5⟩:∃w5,w5=(w4.setCell ⟨bb,s,none⟩ (.slice ao' 0 (rc - 1))).drew:=⟨_,rfl⟩
   have HW5:Hid (WSt 95 [.int .i64 (n:Int),.slice ao len cap] w0 P n tg w5 ⟨W.co,W.sw,W.od,W.bk.set s r,W.pk,W.pn⟩ a sb ob bb kv lv∧Kpt tg tg w4 w5):=by
    rw[hw5]
    exact⟨HCUT.out.1.toExt (Ext.refl _).drew,HCUT.out.2.trans (Kpt.ext (Ext.refl _).drew)⟩
   have hyc:∀j,w5.cell? ⟨X,j,none⟩=w4.cell? ⟨X,j,none⟩:=fun j=>by
    rw[hw5]
    exact World.cell?_of_block (w:=w4) (a:=⟨X,j,none⟩) (blk_setCell_other _ _ _ _ (by simp only;omega))
   have y0:=(hyc 0).trans x0
   have y1:=(hyc 1).trans x1
   have y2:=(hyc 2).trans x2
   have y3:=(hyc 3).trans x3
   have y4:=(hyc 4).trans x4
   have y5:=(hyc 5).trans x5
   have y6:=(hyc 6).trans x6
   have y7:=(hyc 7).trans x7
   have y8:=(hyc 8).trans x8
   have hX5:X<w5.heap.size:=Nat.lt_of_lt_of_le hXl HW5.out.2.size
   rw[←hw5]
   clear hw5 hyc x0 x1 x2 x3 x4 x5 x6 x7 x8 m11 mbb fbb HCUT
   go_wp2_with fail
   have HT:Hid (Calls Try.prog 66 #[.pointer (some ⟨P,0,none⟩),.agg #[.int .i64 k0,.int .i64 k1,.slice o2 l2 q2,.slice o3 l3 q3,.int .i64 k4,.slice o5 l5 q5,.slice o6 l6 q6,.int .i64 k7,.slice o8 l8 q8],.slice tO l9 tc] w5 fun e w'=>e=.returned (.tuple #[])∧∃tg' a',WSt 95 [.int .i64 (n:Int),.slice ao len cap] w0 P n tg' w' ⟨(backS W.co n ls k).1.c,W.sw,putO W.od (backS W.co n ls k).1.out,W.bk.set s r,W.pk,W.pn⟩ a' sb ob bb kv lv∧Kpt tg tg' w5 w'):=by
    obtain⟨a',ea,el,hS⟩:=HST.out
    show Calls _ _ _ _ _
    rw[ea,el]
    exact(take_any _ w0 P n tg w5 ⟨W.co,W.sw,W.od,W.bk.set s r,W.pk,W.pn⟩ a sb ob bb kv lv _ a' _ tO tc HW5.out.1 HI.out.lod (hS.keep HW5.out.2 (Or.inl rfl)) HDW.out.1 HDW.out.2 (fun j=>Nat.le_trans (HI.out.rows j).1 (by decide))).mono (fun e w' ⟨h1,tg',h2,h3⟩=>⟨h1,tg',a',h2,h3⟩)
   refine Calls.mono HT.out ?_
   rintro e w6 ⟨rfl,tg5,a5,hW5,hK5⟩
   have HW6:=hidp hW5
   have HK5:=hidp hK5
   clear hW5 hK5 HT y0 y1 y2 y3 y4 y5 y6 y7 y8
   go_wp2
   go_ret
   rw[HD.out]
   exact⟨rfl,tg5,a5,kv,lv,HW6.out,((Kpt.ext E4).trans HW5.out.2).trans HK5.out⟩
  ·have HD:=hidp (hapK_no hs hb h0)
   have b0:((backS W.co n ls k).2 != 0)=true:=by simpa using h0
   clear h0
   go_wp2
   go_ret
   rw[HD.out]
   exact⟨rfl,tg,a,kv,lv,HW.out.toExt E4,Kpt.ext E4⟩
 ·have _t:=mk2
  obtain⟨w4,hw4⟩:∃w4,w4=W9 w3 w.heap.size (.int .i64 k0) (.int .i64 k1) (.slice o2 l2 q2) (.slice o3 l3 q3) (.int .i64 k4) (.slice o5 l5 q5) (.slice o6 l6 q6) (.int .i64 k7) (.slice o8 l8 q8):=⟨_,rfl⟩
  have R4:w4.rowIs w.heap.size 33 9 (fun j=>[.int .i64 k0,.int .i64 k1,.slice o2 l2 q2,.slice o3 l3 q3,.int .i64 k4,.slice o5 l5 q5,.slice o6 l6 q6,.int .i64 k7,.slice o8 l8 q8].getD j vd):=by rw[hw4];exact w9_row HHB.out
  have E4:Ext w w4:=by rw[hw4];exact W9_ext0 mk2 (Nat.le_refl _)
  have HST:Hid (∃a',Value.agg #[.int .i64 k0,.int .i64 k1,.slice o2 l2 q2,.slice o3 l3 q3,.int .i64 k4,.slice o5 l5 q5,.slice o6 l6 q6,.int .i64 k7,.slice o8 l8 q8]=cvl (backS W.co n ls k).1.c a'∧l9=(backS W.co n ls k).1.out.length∧Stb (fun b=>tg b=0) w4 (fun U=>CoAt U (backS W.co n ls k).1.c a'∧TosAt U tO (backS W.co n ls k).1.out)):=by
   obtain⟨a',ea,el,hU⟩:=HF.out
   refine⟨a',ea,el,?_⟩
   rw[hw4]
   exact HW.out.fresh1 (fun U h1 h2=>hU U h1 (fun b hb h3=>h2 b (by simpa using hb) h3)) W9_size0 W9_block0
  unfold W9 at hw4
  rw[←hw4]
  obtain⟨X,hX⟩:∃X,X=w.heap.size:=⟨_,rfl⟩
  rw[←hX] at R4 ⊢
  have hXw:w.heap.size≤X:=by omega
  clear hX hda
  clear hw4 mk2 mk3 E9 hG HF _t u0 u1 u2 u3 u4 u5 u6 u7 u8 uz HHB
  have x0:=R4.cell (i:=0) (by omega)
  have x1:=R4.cell (i:=1) (by omega)
  have x2:=R4.cell (i:=2) (by omega)
  have x3:=R4.cell (i:=3) (by omega)
  have x4:=R4.cell (i:=4) (by omega)
  have x5:=R4.cell (i:=5) (by omega)
  have x6:=R4.cell (i:=6) (by omega)
  have x7:=R4.cell (i:=7) (by omega)
  have x8:=R4.cell (i:=8) (by omega)
  simp only[List.getD_cons_zero,List.getD_cons_succ] at x0 x1 x2 x3 x4 x5 x6 x7 x8
  have hXl:=R4.lt
  clear R4
  by_cases h0:(backS W.co n ls k).2=0
  ·have HD:=hidp (hapK_yes hs hb h0)
   have HDW:=hidp (back_words HI.out (by omega) hs hb)
   rw[h0]
   clear h0
   go_wp2_with fail
   have m11:w4.cell? ⟨P,11,none⟩=some (.slice (some ⟨bb,0,none⟩) n n):=(E4.cells.1 _ _ hP).trans c11
   have mbb:w4.cell? ⟨bb,s,none⟩=some (.slice (some ⟨g,off,none⟩) (r.length+1) rc):=(E4.cells.1 _ _ hbl).trans cv
   have fbb:w4.frozen? ⟨bb,s,none⟩=false:=(E4.cells.2 _ _ hbl).trans HFV.out
   obtain⟨ao',hao⟩:∃x,x=(if rc=1 then some (⟨g,off,none⟩:Addr) else some ⟨g,off+1,none⟩):=⟨_,rfl⟩
   have HAO:=hidp hao
   clear hao
   have HCUT:=hidp ((HW.out.toExt E4).cutB hs HI.out.lbk (v':=.slice ao' 0 (rc - 1)) (ns':=r) (by rw[HAO.out];exact(HV.out.keep (KeepP.ext (S:=fun _=>True) E4) trivial).tail1 hln))
   refine Last.LH.start (m:=16) (S:=fun V=>V.cell? ⟨P,11,none⟩=some (.slice (some ⟨bb,0,none⟩) n n)∧V.cell? ⟨bb,s,none⟩=some (.slice (some ⟨g,off,none⟩) (r.length+1) rc)) (by kernel_rfl) ?_
   have hHeld:(fun V:World=>V.cell? ⟨P,11,none⟩=some (.slice (some ⟨bb,0,none⟩) n n)∧V.cell? ⟨bb,s,none⟩=some (.slice (some ⟨g,off,none⟩) (r.length+1) rc)) w4.drew:=⟨m11,mbb⟩
   refine Last.LH.take (i:=0) (v:=?v0b) rfl (by kernel_rfl) (by kernel_rfl) (by kernel_rfl) (by kernel_rfl) (fun _ _ _ h=>h) (by rfl) ?hy0b hHeld ?rest0b
   case hy0b=>intro W hSW;(try dsimp only at hSW);go_simp;with_reducible rfl
   refine Last.LH.take (i:=1) (v:=?v1b) rfl (by kernel_rfl) (by kernel_rfl) (by kernel_rfl) (by kernel_rfl) (fun _ _ _ h=>h) (by rfl) ?hy1b hHeld ?rest1b
   case hy1b=>intro W hSW;(try dsimp only at hSW);go_simp;with_reducible rfl
   refine Last.LH.take (i:=2) (v:=?v2b) rfl (by kernel_rfl) (by kernel_rfl) (by kernel_rfl) (by kernel_rfl) (fun _ _ _ h=>h) (by rfl) ?hy2b hHeld ?rest2b
   case hy2b=>intro W hSW;(try dsimp only at hSW);go_simp;with_reducible rfl
   refine Last.LH.take (i:=3) (v:=?v3b) rfl (by kernel_rfl) (by kernel_rfl) (by kernel_rfl) (by kernel_rfl) (fun _ _ _ h=>h) (by rfl) ?hy3b hHeld ?rest3b
   case hy3b=>intro W hSW;(try dsimp only at hSW);go_simp;with_reducible rfl
   refine Last.LH.take (i:=4) (v:=?v4b) rfl (by kernel_rfl) (by kernel_rfl) (by kernel_rfl) (by kernel_rfl) (fun _ _ _ h=>h) (by rfl) ?hy4b hHeld ?rest4b
   case hy4b=>intro W hSW;(try dsimp only at hSW);go_simp;with_reducible rfl
   refine Last.LH.take (i:=5) (v:=?v5b) rfl (by kernel_rfl) (by kernel_rfl) (by kernel_rfl) (by kernel_rfl) (fun _ _ _ h=>h) (by rfl) ?hy5b hHeld ?rest5b
   case hy5b=>intro W hSW;(try dsimp only at hSW);go_simp;with_reducible rfl
   refine Last.LH.take (i:=6) (v:=?v6b) rfl (by kernel_rfl) (by kernel_rfl) (by kernel_rfl) (by kernel_rfl) (fun _ _ _ h=>h) (by rfl) ?hy6b hHeld ?rest6b
   case hy6b=>intro W hSW;(try dsimp only at hSW);go_simp;with_reducible rfl
   refine Last.LH.take (i:=7) (v:=?v7b) rfl (by kernel_rfl) (by kernel_rfl) (by kernel_rfl) (by kernel_rfl) (fun _ _ _ h=>h) (by rfl) ?hy7b hHeld ?rest7b
   case hy7b=>intro W hSW;(try dsimp only at hSW);go_simp;with_reducible rfl
   refine Last.LH.take (i:=8) (v:=?v8b) rfl (by kernel_rfl) (by kernel_rfl) (by kernel_rfl) (by kernel_rfl) (fun _ _ _ h=>h) (by rfl) ?hy8b hHeld ?rest8b
   case hy8b=>intro W hSW;(try dsimp only at hSW);go_simp;with_reducible rfl
   refine Last.LH.take (i:=9) (v:=?v9b) rfl (by kernel_rfl) (by kernel_rfl) (by kernel_rfl) (by kernel_rfl) (fun _ _ _ h=>h) (by rfl) ?hy9b hHeld ?rest9b
   case hy9b=>intro W hSW;(try dsimp only at hSW);go_simp;with_reducible rfl
   refine Last.LH.take (i:=10) (v:=?v10b) rfl (by kernel_rfl) (by kernel_rfl) (by kernel_rfl) (by kernel_rfl) (fun _ _ _ h=>h) (by rfl) ?hy10b hHeld ?rest10b
   case hy10b=>intro W hSW;(try dsimp only at hSW);go_simp;with_reducible rfl
   refine Last.LH.take (i:=11) (v:=?v11b) rfl (by kernel_rfl) (by kernel_rfl) (by kernel_rfl) (by kernel_rfl) (fun _ _ _ h=>h) (by rfl) ?hy11b hHeld ?rest11b
   case hy11b=>intro W hSW;(try dsimp only at hSW);go_simp;with_reducible rfl
   refine Last.LH.take (i:=12) (v:=?v12b) rfl (by kernel_rfl) (by kernel_rfl) (by kernel_rfl) (by kernel_rfl) (fun _ _ _ h=>h) (by rfl) ?hy12b hHeld ?rest12b
   case hy12b=>intro W hSW;(try dsimp only at hSW);go_simp;with_reducible rfl
   refine Last.LH.take (i:=13) (v:=?v13b) rfl (by kernel_rfl) (by kernel_rfl) (by kernel_rfl) (by kernel_rfl) (fun _ _ _ h=>h) (by rfl) ?hy13b hHeld ?rest13b
   case hy13b=>intro W hSW;(try dsimp only at hSW);go_simp;with_reducible rfl
   refine Last.LH.take (i:=14) (v:=.slice ao' 0 (rc - 1)) rfl (by kernel_rfl) (by kernel_rfl) (by kernel_rfl) (by kernel_rfl) (fun _ _ _ h=>h) (by rfl) ?hy14b hHeld ?rest14b
   case hy14b=>intro W hSW;(try dsimp only at hSW);go_simp;rw[HAO.out]
   refine Last.LH.take (i:=15) (v:=?v15b) rfl (by kernel_rfl) (by kernel_rfl) (by kernel_rfl) (by kernel_rfl) (fun _ _ _ h=>h) (by rfl) ?hy15b hHeld ?rest15b
   case hy15b=>intro W hSW;(try dsimp only at hSW);go_simp;with_reducible rfl
   refine Last.LH.one (i:=16) (by kernel_rfl) rfl (fun K hK=>?_)
   go_simp
   refine hK _ _ (fun h=>absurd rfl h) ?_
   clear hK K hHeld
   refine Last.LH.done (by kernel_rfl) ?_
   have hbb1:bb<w4.heap.size:=Nat.lt_of_lt_of_le hbl E4.size
   obtain⟨w5,hw5⟩:∃w5,w5=(w4.setCell ⟨bb,s,none⟩ (.slice ao' 0 (rc - 1))).drew:=⟨_,rfl⟩
   have HW5:Hid (WSt 95 [.int .i64 (n:Int),.slice ao len cap] w0 P n tg w5 ⟨W.co,W.sw,W.od,W.bk.set s r,W.pk,W.pn⟩ a sb ob bb kv lv∧Kpt tg tg w4 w5):=by
    rw[hw5]
    exact⟨HCUT.out.1.toExt (Ext.refl _).drew,HCUT.out.2.trans (Kpt.ext (Ext.refl _).drew)⟩
   have hyc:∀j,w5.cell? ⟨X,j,none⟩=w4.cell? ⟨X,j,none⟩:=fun j=>by
    rw[hw5]
    exact World.cell?_of_block (w:=w4) (a:=⟨X,j,none⟩) (blk_setCell_other _ _ _ _ (by simp only;omega))
   have y0:=(hyc 0).trans x0
   have y1:=(hyc 1).trans x1
   have y2:=(hyc 2).trans x2
   have y3:=(hyc 3).trans x3
   have y4:=(hyc 4).trans x4
   have y5:=(hyc 5).trans x5
   have y6:=(hyc 6).trans x6
   have y7:=(hyc 7).trans x7
   have y8:=(hyc 8).trans x8
   have hX5:X<w5.heap.size:=Nat.lt_of_lt_of_le hXl HW5.out.2.size
   rw[←hw5]
   clear hw5 hyc x0 x1 x2 x3 x4 x5 x6 x7 x8 m11 mbb fbb HCUT
   go_wp2_with fail
   have HT:Hid (Calls Try.prog 66 #[.pointer (some ⟨P,0,none⟩),.agg #[.int .i64 k0,.int .i64 k1,.slice o2 l2 q2,.slice o3 l3 q3,.int .i64 k4,.slice o5 l5 q5,.slice o6 l6 q6,.int .i64 k7,.slice o8 l8 q8],.slice tO l9 tc] w5 fun e w'=>e=.returned (.tuple #[])∧∃tg' a',WSt 95 [.int .i64 (n:Int),.slice ao len cap] w0 P n tg' w' ⟨(backS W.co n ls k).1.c,W.sw,putO W.od (backS W.co n ls k).1.out,W.bk.set s r,W.pk,W.pn⟩ a' sb ob bb kv lv∧Kpt tg tg' w5 w'):=by
    obtain⟨a',ea,el,hS⟩:=HST.out
    show Calls _ _ _ _ _
    rw[ea,el]
    exact(take_any _ w0 P n tg w5 ⟨W.co,W.sw,W.od,W.bk.set s r,W.pk,W.pn⟩ a sb ob bb kv lv _ a' _ tO tc HW5.out.1 HI.out.lod (hS.keep HW5.out.2 (Or.inl rfl)) HDW.out.1 HDW.out.2 (fun j=>Nat.le_trans (HI.out.rows j).1 (by decide))).mono (fun e w' ⟨h1,tg',h2,h3⟩=>⟨h1,tg',a',h2,h3⟩)
   refine Calls.mono HT.out ?_
   rintro e w6 ⟨rfl,tg5,a5,hW5,hK5⟩
   have HW6:=hidp hW5
   have HK5:=hidp hK5
   clear hW5 hK5 HT y0 y1 y2 y3 y4 y5 y6 y7 y8
   go_wp2
   go_ret
   rw[HD.out]
   exact⟨rfl,tg5,a5,kv,lv,HW6.out,((Kpt.ext E4).trans HW5.out.2).trans HK5.out⟩
  ·have HD:=hidp (hapK_no hs hb h0)
   have b0:((backS W.co n ls k).2 != 0)=true:=by simpa using h0
   clear h0
   go_wp2
   go_ret
   rw[HD.out]
   exact⟨rfl,tg,a,kv,lv,HW.out.toExt E4,Kpt.ext E4⟩
theorem back_anyN (n len cap:Nat) (ls:List Lk) (ao:Option Addr) (t:Nat) (w0:World) (P:Nat) (tg:Nat→Nat) (w:World) (W:Wd) (a:CA) (sb ob bb:Nat) (kv lv:Value) (i:Int) (h:WSt 95 [.int .i64 (n:Int),.slice ao len cap] w0 P n tg w W a sb ob bb kv lv) (hI:Inv n ls t W) (ht:t≤900) (hlen:ls.length=len) (hnet:NetAt w ao ls) (hx:len≤9223372036854775807):
 Calls Try.prog 53 #[.pointer (some ⟨P,0,none⟩),.int .i64 i] w fun e w'=>MOut [.int .i64 (n:Int),.slice ao len cap] w0 P n tg w sb ob bb (hapK n ls W i) e w':=by
 by_cases hi:0≤i∧i<(n:Int)
 ·obtain⟨s,rfl⟩:=Int.eq_ofNat_of_zero_le hi.1
  cases hb:W.bk.getD s [] with
  | nil=>exact back_nil _ n ls w0 P tg w W a sb ob bb kv lv s h (by omega) hb
  | cons k r=>exact back_someN n len cap s k r ls ao t w0 P tg w W a sb ob bb kv lv h hI ht hlen hnet hx (by omega) hb
 ·exact back_out _ n ls w0 P tg w W a sb ob bb kv lv i h hi
set_option maxRecDepth 100000 in
set_option maxHeartbeats 2000000 in
theorem happen_anyN (n len cap:Nat) (ls:List Lk) (ao:Option Addr) (t:Nat) (w0:World) (P:Nat) (tg:Nat→Nat) (w:World) (W:Wd) (a:CA) (sb ob bb:Nat) (kv lv:Value) (d:Dd) (fo:Option Addr) (fc:Nat) (h:WSt 95 [.int .i64 (n:Int),.slice ao len cap] w0 P n tg w W a sb ob bb kv lv) (hI:Inv n ls t W) (ht:t≤900) (hlen:ls.length=len) (hnet:NetAt w ao ls) (hx:len≤9223372036854775807) (hf:Fw.FlowsAt w0 fo d.fs) (hS:Fw.Sm d.fs) (hlx:d.fs.length≤9223372036854775807):
 Calls Try.prog 39 #[.pointer (some ⟨P,0,none⟩),.agg #[.int .i64 d.k,.int .i64 d.n,.slice fo d.fs.length fc]] w fun e w'=>MOut [.int .i64 (n:Int),.slice ao len cap] w0 P n tg w sb ob bb (hap n ls W d) e w':=by
 obtain⟨k,i,fs⟩:=d
 simp only at hf hS hlx ⊢
 obtain⟨w1,hw1⟩:∃w1,w1=w.alloc (.cells #[.int .i64 k,.int .i64 i,.slice fo fs.length fc] 66):=⟨_,rfl⟩
 have E1:Ext w w1:=by rw[hw1];exact(Ext.refl w).alloc _
 have h1:=h.toExt E1
 have HA:=hidp (ask_anyN n len cap fo fc fs ls ao t w0 P tg w1 W a sb ob bb kv lv h1 hI ht hlen (hnet.ext E1) hx hf hS hlx)
 have HO:=hidp (order_any _ n ls t w0 P tg w1 W a sb ob bb kv lv i h1 hI ht)
 have HB:=hidp (back_anyN n len cap ls ao t w0 P tg w1 W a sb ob bb kv lv i h1 hI ht hlen (hnet.ext E1) hx)
 have HG:=hidp (begin_any _ n ls t w0 P tg w1 W a sb ob bb kv lv i h1 hI)
 have HM:=hidp (move_any _ n ls t w0 P tg w1 W a sb ob bb kv lv i h1 hI)
 have HD:=hidp (drop_anyN n len cap ls ao t w0 P tg w1 W a sb ob bb kv lv h1 hI (by omega) hlen (hnet.ext E1) hx)
 have HW:=hidp h
 rw[hw1] at HA HO HB HG HM HD
 have HE:=hidp E1
 clear h h1 hI hlen hnet hx hf hS hlx E1
 by_cases k1:k=1
 ·have HH:Hid (hap n ls W ⟨k,i,fs⟩=hapA n ls W fs):=by show _=_;unfold hap;rw[if_pos k1]
  subst k1
  go_enter Try.func39,Try.ntmps39
  go_wp2_with fail
  refine Calls.mono HA.out ?_
  rintro e w2 hM
  obtain⟨rfl,hM2⟩:=hM
  have HM2:=hidp hM2
  clear hM2
  go_wp2
  go_ret
  rw[HH.out]
  exact MOut.from ⟨rfl,HM2.out⟩ (by rw[←hw1];exact HE.out)
 ·by_cases k2:k=2
  ·have HH:Hid (hap n ls W ⟨k,i,fs⟩=hapO n W i):=by show _=_;unfold hap;rw[if_neg k1,if_pos k2]
   subst k2
   go_enter Try.func39,Try.ntmps39
   go_wp2_with fail
   refine Calls.mono HO.out ?_
   rintro e w2 hM
   obtain⟨rfl,hM2⟩:=hM
   have HM2:=hidp hM2
   clear hM2
   go_wp2
   go_ret
   rw[HH.out]
   exact MOut.from ⟨rfl,HM2.out⟩ (by rw[←hw1];exact HE.out)
  ·by_cases k3:k=3
   ·have HH:Hid (hap n ls W ⟨k,i,fs⟩=hapK n ls W i):=by show _=_;unfold hap;rw[if_neg k1,if_neg k2,if_pos k3]
    subst k3
    go_enter Try.func39,Try.ntmps39
    go_wp2_with fail
    refine Calls.mono HB.out ?_
    rintro e w2 hM
    obtain⟨rfl,hM2⟩:=hM
    have HM2:=hidp hM2
    clear hM2
    go_wp2
    go_ret
    rw[HH.out]
    exact MOut.from ⟨rfl,HM2.out⟩ (by rw[←hw1];exact HE.out)
   ·by_cases k4:k=4
    ·have HH:Hid (hap n ls W ⟨k,i,fs⟩=hapB W i):=by show _=_;unfold hap;rw[if_neg k1,if_neg k2,if_neg k3,if_pos k4]
     subst k4
     go_enter Try.func39,Try.ntmps39
     go_wp2_with fail
     refine Calls.mono HG.out ?_
     rintro e w2 hM
     obtain⟨rfl,hM2⟩:=hM
     have HM2:=hidp hM2
     clear hM2
     go_wp2
     go_ret
     rw[HH.out]
     exact MOut.from ⟨rfl,HM2.out⟩ (by rw[←hw1];exact HE.out)
    ·by_cases k5:k=5
     ·have HH:Hid (hap n ls W ⟨k,i,fs⟩=hapM W i):=by show _=_;unfold hap;rw[if_neg k1,if_neg k2,if_neg k3,if_neg k4,if_pos k5]
      subst k5
      go_enter Try.func39,Try.ntmps39
      go_wp2_with fail
      refine Calls.mono HM.out ?_
      rintro e w2 hM
      obtain⟨rfl,hM2⟩:=hM
      have HM2:=hidp hM2
      clear hM2
      go_wp2
      go_ret
      rw[HH.out]
      exact MOut.from ⟨rfl,HM2.out⟩ (by rw[←hw1];exact HE.out)
     ·by_cases k6:k=6
      ·have HH:Hid (hap n ls W ⟨k,i,fs⟩=hapD n ls W):=by show _=_;unfold hap;rw[if_neg k1,if_neg k2,if_neg k3,if_neg k4,if_neg k5,if_pos k6]
       subst k6
       go_enter Try.func39,Try.ntmps39
       go_wp2_with fail
       refine Calls.mono HD.out ?_
       rintro e w2 hM
       obtain⟨rfl,hM2⟩:=hM
       have HM2:=hidp hM2
       clear hM2
       go_wp2
       go_ret
       rw[HH.out]
       exact MOut.from ⟨rfl,HM2.out⟩ (by rw[←hw1];exact HE.out)
      ·have HH:Hid (hap n ls W ⟨k,i,fs⟩=(W,1)):=by show _=_;unfold hap;rw[if_neg k1,if_neg k2,if_neg k3,if_neg k4,if_neg k5,if_neg k6]
       have b1:(k == 1)=false:=by simpa using k1
       have b2:(k == 2)=false:=by simpa using k2
       have b3:(k == 3)=false:=by simpa using k3
       have b4:(k == 4)=false:=by simpa using k4
       have b5:(k == 5)=false:=by simpa using k5
       have b6:(k == 6)=false:=by simpa using k6
       clear HA HO HB HG HM HD
       go_enter Try.func39,Try.ntmps39
       go_wp2
       go_ret
       rw[HH.out, ←hw1]
       exact⟨rfl,tg,a,kv,lv,HW.out.toExt HE.out,Kpt.ext HE.out⟩
end Go.Proofs.Ytolclgbpjiokfaa.Rm
