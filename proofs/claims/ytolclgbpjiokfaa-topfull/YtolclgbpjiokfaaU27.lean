/- Two parts of a row of rules, one behind the other, change places. -/
import Derived.Test.YtolclgbpjiokfaaU26
import Derived.Test.YtolclgbpjiokfaaU15
import Derived.Test.YtolclgbpjiokfaaU20
import Derived.Test.YtolclgbpjiokfaaU08
import Derived.Lib.QuietBelow
import Derived.Lib.SmallJoins
import Derived.Deep.OwnRows
import Derived.Test.YtolclgbpjiokfaaU17
import Derived.WalkSmall
import Derived.BigRegion
namespace Go.Proofs.Ytolclgbpjiokfaa.Rm
open Go.RowKit Go.Deep Stw Stp Tb Rul Ct
theorem back_words {n:Nat} {ls:List Lk} {t:Nat} {W:Wd} {s:Nat} {k:Int} {r:List Int} (h:Inv n ls t W) (ht:t≤1000) (hs:s<n) (hb:W.bk.getD s []=k::r):(∀x∈(backS W.co n ls k).1.out,x.1<n)∧(backS W.co n ls k).1.out.length≤1000:=by
 obtain⟨_,_,hk,_,_⟩:=back_done h hs hb
 have hnum:=h.num
 have h1:=back_told (c:=W.co) h.wr h.n8.2 hk (fun e=>(h.ok.nxt (by omega)).1) h.dyn.n0 (by omega)
 have h2:=back_few (c:=W.co) h.wr h.n8.2 hk
 exact⟨fun x hx=>(h1.ok x hx).1,by omega⟩
theorem hapK_out {n:Nat} {ls:List Lk} {W:Wd} {i:Int} (h:¬(0≤i∧i<(n:Int))):hapK n ls W i=(W,6):=by unfold hapK;rw[if_pos h]
theorem hapK_nil {n:Nat} {ls:List Lk} {W:Wd} {s:Nat} (h:W.bk.getD s []=[]):hapK n ls W s=(W,6):=by
 unfold hapK
 split
 ·rfl
 ·simp only[Int.toNat_natCast,h]
theorem hapK_no {n:Nat} {ls:List Lk} {W:Wd} {s:Nat} {k:Int} {r:List Int} (hs:s<n) (hb:W.bk.getD s []=k::r) (h:(backS W.co n ls k).2≠0):hapK n ls W s=(W,(backS W.co n ls k).2):=by
 unfold hapK
 rw[if_neg (by omega)]
 simp only[Int.toNat_natCast,hb]
 rw[if_pos h]
theorem hapK_yes {n:Nat} {ls:List Lk} {W:Wd} {s:Nat} {k:Int} {r:List Int} (hs:s<n) (hb:W.bk.getD s []=k::r) (h:(backS W.co n ls k).2=0):hapK n ls W s=(⟨(backS W.co n ls k).1.c,W.sw,putO W.od (backS W.co n ls k).1.out,W.bk.set s r,W.pk,W.pn⟩,0):=by
 unfold hapK
 rw[if_neg (by omega)]
 simp only[Int.toNat_natCast,hb]
 rw[if_neg (by simpa using h)]
set_option maxHeartbeats 800000 in
theorem back_out (tl:List Value) (n:Nat) (ls:List Lk) (w0:World) (P:Nat) (tg:Nat→Nat) (w:World) (W:Wd) (a:CA) (sb ob bb:Nat) (kv lv:Value) (i:Int) (h:WSt 95 tl w0 P n tg w W a sb ob bb kv lv) (hi:¬(0≤i∧i<(n:Int))):
 Calls Try.prog 53 #[.pointer (some ⟨P,0,none⟩),.int .i64 i] w fun e w'=>MOut tl w0 P n tg w sb ob bb (hapK n ls W i) e w':=by
 have HW:=hidp h
 have HD:=hidp (hapK_out (ls:=ls) (W:=W) hi)
 have c11:w.cell? ⟨P,11,none⟩=some (.slice (some ⟨bb,0,none⟩) n n):=h.row.cell (i:=11) (by omega)
 clear h
 go_enter Try.func53,Try.ntmps53
 go_wp2_with fail
 refine(isAnyB_out bb n i w hi).mono ?_
 rintro e w1 ⟨rfl,rfl⟩
 clear hi
 go_wp2
 go_ret
 rw[HD.out]
 exact⟨rfl,tg,a,kv,lv,HW.out,KeepP.refl _ _ _⟩
set_option maxHeartbeats 800000 in
theorem back_nil (tl:List Value) (n:Nat) (ls:List Lk) (w0:World) (P:Nat) (tg:Nat→Nat) (w:World) (W:Wd) (a:CA) (sb ob bb:Nat) (kv lv:Value) (s:Nat) (h:WSt 95 tl w0 P n tg w W a sb ob bb kv lv) (hs:s<n) (hb:W.bk.getD s []=[]):
 Calls Try.prog 53 #[.pointer (some ⟨P,0,none⟩),.int .i64 (s:Int)] w fun e w'=>MOut tl w0 P n tg w sb ob bb (hapK n ls W s) e w':=by
 have HW:=hidp h
 have HD:=hidp (hapK_nil (n:=n) (ls:=ls) hb)
 have c11:w.cell? ⟨P,11,none⟩=some (.slice (some ⟨bb,0,none⟩) n n):=h.row.cell (i:=11) (by omega)
 obtain⟨v,cv,_,_,hv⟩:=h.bks.get hs
 obtain⟨ao,cap,rfl,_⟩:=hv.list
 rw[hb] at cv
 clear h hv
 go_enter Try.func53,Try.ntmps53
 go_wp2_with fail
 refine(isAnyB_in bb n s _ cap ao w hs cv).mono ?_
 rintro e w1 ⟨rfl,rfl⟩
 clear cv
 go_wp2
 go_ret
 rw[HD.out]
 exact⟨rfl,tg,a,kv,lv,HW.out,KeepP.refl _ _ _⟩
set_option maxRecDepth 100000 in
set_option maxHeartbeats 4000000 in
theorem back_some (n len cap s:Nat) (k:Int) (r:List Int) (ls:List Lk) (ao:Option Addr) (t:Nat) (w0:World) (P:Nat) (tg:Nat→Nat) (w:World) (W:Wd) (a:CA) (sb ob bb:Nat) (kv lv:Value) (h:WSt 95 [.int .i64 (n:Int),.slice ao len cap] w0 P n tg w W a sb ob bb kv lv) (hI:Inv n ls t W) (ht:t≤900) (hlen:ls.length=len) (hnet:NetAt w0 ao ls) (hx:len≤9223372036854775807) (hs:s<n) (hb:W.bk.getD s []=k::r):
 Calls Try.prog 53 #[.pointer (some ⟨P,0,none⟩),.int .i64 (s:Int)] w fun e w'=>MOut [.int .i64 (n:Int),.slice ao len cap] w0 P n tg w sb ob bb (hapK n ls W s) e w':=by
 have HW:=hidp h
 have HI:=hidp hI
 have hP:=h.row.lt
 obtain⟨v,cv,fv,hbl,hv⟩:=h.bks.get hs
 rw[hb] at hv
 obtain⟨g,off,rc,rfl,hgl,hrc,hcells⟩:=hv.last (by simp)
 have cg:=hcells 0 (by simp)
 simp only[Nat.add_zero,List.getD_cons_zero,List.length_cons] at cg cv hrc
 have HV:=hidp hv
 have HFV:=hidp fv
 have hln:r.length=0:=by rw[(back_done HI.out hs hb).1];rfl
 have j1:(0:Int)≤(s:Int):=by omega
 have j2:(s:Int)<(n:Int):=by omega
 have c11:w.cell? ⟨P,11,none⟩=some (.slice (some ⟨bb,0,none⟩) n n):=h.row.cell (i:=11) (by simp)
 have HS:Hid (∀V,Ext w V→V.cell? ⟨P,0,none⟩=some (.int .i64 W.co.st)∧V.cell? ⟨P,1,none⟩=some (.int .i64 W.co.now.v)∧V.cell? ⟨P,2,none⟩=some (.slice a.n.fo W.co.now.fs.length a.n.fc)∧V.cell? ⟨P,3,none⟩=some (.slice a.n.qo W.co.now.ps.length a.n.qc)∧V.cell? ⟨P,4,none⟩=some (.int .i64 W.co.nxt.v)∧V.cell? ⟨P,5,none⟩=some (.slice a.x.fo W.co.nxt.fs.length a.x.fc)∧V.cell? ⟨P,6,none⟩=some (.slice a.x.qo W.co.nxt.ps.length a.x.qc)∧V.cell? ⟨P,7,none⟩=some (.int .i64 W.co.num)∧V.cell? ⟨P,8,none⟩=some (.slice a.wo W.co.wts.length a.wc)∧V.cell? ⟨P,14,none⟩=some (.int .i64 (n:Int))∧V.cell? ⟨P,15,none⟩=some (.slice ao len cap)∧V.cell? ⟨P,11,none⟩=some (.slice (some ⟨bb,0,none⟩) n n)∧V.cell? ⟨bb,s,none⟩=some (.slice (some ⟨g,off,none⟩) (r.length+1) rc)∧V.cell? ⟨g,off,none⟩=some (.int .i64 k)):=fun V hV=>by
  have hr:=HW.out.row.of_block (Below.block hV P hP)
  exact⟨hr.cell (i:=0) (by simp),hr.cell (i:=1) (by simp),hr.cell (i:=2) (by simp),hr.cell (i:=3) (by simp),hr.cell (i:=4) (by simp),hr.cell (i:=5) (by simp),hr.cell (i:=6) (by simp),hr.cell (i:=7) (by simp),hr.cell (i:=8) (by simp),hr.cell (i:=14) (by simp),hr.cell (i:=15) (by simp),hr.cell (i:=11) (by simp),(hV.cells.1 _ _ hbl).trans cv,(hV.cells.1 _ _ hgl).trans cg⟩
 have HCA:Hid (∀V,Ext w V→Calls Try.prog 71 #[cvl W.co a,.agg #[.int .i64 (n:Int),.slice ao len cap],.int .i64 k] V fun e w'=>GoOut V.heap.size V (backS W.co n ls k).1 (backS W.co n ls k).2 e w'):=fun V hV=>Back_any W.co a n k ao len cap ls V ((HW.out.toExt hV).co.at) (HI.out.small (by omega)) hlen (hnet.ext (HW.out.ext.trans hV)) hx
 clear h hI hlen hnet hx hv hcells fv
 unfold cvl at HCA
 go_enter Try.func53,Try.ntmps53
 go_wp2_with fail
 refine(isAnyB_in bb n s _ rc _ w hs cv).mono ?_
 rintro e w1 ⟨rfl,hw1⟩
 have hw1:=hw1.symm
 subst hw1
 have b1:decide (0<r.length+1)=true:=by simp
 go_wp2_with fail
 have hd:Ext w w.drew:=(Ext.refl w).drew
 have hda:Ext w (w.alloc (.cells #[.int .i64 0,.int .i64 0,.slice none 0 0,.slice none 0 0,.int .i64 0,.slice none 0 0,.slice none 0 0,.int .i64 0,.slice none 0 0] 33)).drew:=((Ext.refl w).alloc _).drew
 go_region_held3 (fun V=>V.cell? ⟨P,0,none⟩=some (.int .i64 W.co.st)∧V.cell? ⟨P,1,none⟩=some (.int .i64 W.co.now.v)∧V.cell? ⟨P,2,none⟩=some (.slice a.n.fo W.co.now.fs.length a.n.fc)∧V.cell? ⟨P,3,none⟩=some (.slice a.n.qo W.co.now.ps.length a.n.qc)∧V.cell? ⟨P,4,none⟩=some (.int .i64 W.co.nxt.v)∧V.cell? ⟨P,5,none⟩=some (.slice a.x.fo W.co.nxt.fs.length a.x.fc)∧V.cell? ⟨P,6,none⟩=some (.slice a.x.qo W.co.nxt.ps.length a.x.qc)∧V.cell? ⟨P,7,none⟩=some (.int .i64 W.co.num)∧V.cell? ⟨P,8,none⟩=some (.slice a.wo W.co.wts.length a.wc)∧V.cell? ⟨P,14,none⟩=some (.int .i64 (n:Int))∧V.cell? ⟨P,15,none⟩=some (.slice ao len cap)∧V.cell? ⟨P,11,none⟩=some (.slice (some ⟨bb,0,none⟩) n n)∧V.cell? ⟨bb,s,none⟩=some (.slice (some ⟨g,off,none⟩) (r.length+1) rc)∧V.cell? ⟨g,off,none⟩=some (.int .i64 k))
  (first | (with_reducible exact HS.out _ hd) | (with_reducible exact HS.out _ hda) | (with_reducible exact HS.out _ mk1) | (with_reducible exact HS.out _ mk2) | (with_reducible exact HS.out _ (mk1.alloc _)) | (with_reducible exact HS.out _ mk3) | fail)
  (first
  | (go_at_call 71
     with_reducible refine(HCA.out _ hd).mono ?_
     intro e w3 hG
     obtain⟨k0,k1,o2,l2,q2,o3,l3,q3,k4,o5,l5,q5,o6,l6,q6,k7,o8,l8,q8,tO,l9,tc,rfl,E9,HF⟩:=hG.letters
     have mk1:=hd.trans E9)
  | (go_at_call 71
     with_reducible refine(HCA.out _ hda).mono ?_
     intro e w3 hG
     obtain⟨k0,k1,o2,l2,q2,o3,l3,q3,k4,o5,l5,q5,o6,l6,q6,k7,o8,l8,q8,tO,l9,tc,rfl,E9,HF⟩:=hG.letters
     have mk2:=hda.trans E9
     have mk3:=W9_ext0 mk2 (Nat.le_refl w.heap.size) (x0:=.int .i64 k0) (x1:=.int .i64 k1) (x2:=.slice o2 l2 q2) (x3:=.slice o3 l3 q3) (x4:=.int .i64 k4) (x5:=.slice o5 l5 q5) (x6:=.slice o6 l6 q6) (x7:=.int .i64 k7) (x8:=.slice o8 l8 q8)
     unfold W9 at mk3
     have HB:w3.rowIs w.heap.size 33 9 _:=(box_row (T:=33) (show w.heap.size=w.heap.size from rfl) _ _ _ _ _ _ _ _ _).of_block (Below.block E9 _ (by simp))
     have u0:=HB.cell (i:=0) (by omega)
     have u1:=HB.cell (i:=1) (by omega)
     have u2:=HB.cell (i:=2) (by omega)
     have u3:=HB.cell (i:=3) (by omega)
     have u4:=HB.cell (i:=4) (by omega)
     have u5:=HB.cell (i:=5) (by omega)
     have u6:=HB.cell (i:=6) (by omega)
     have u7:=HB.cell (i:=7) (by omega)
     have u8:=HB.cell (i:=8) (by omega)
     have uz:=HB.frozen
     have HHB:=hidp HB
     clear HB))
 ·have _t:=mk1
  obtain⟨w4,hw4⟩:∃w4,w4=w3.alloc (.cells #[.int .i64 k0,.int .i64 k1,.slice o2 l2 q2,.slice o3 l3 q3,.int .i64 k4,.slice o5 l5 q5,.slice o6 l6 q6,.int .i64 k7,.slice o8 l8 q8] 33):=⟨_,rfl⟩
  have R4:w4.rowIs w3.heap.size 33 9 (fun j=>[.int .i64 k0,.int .i64 k1,.slice o2 l2 q2,.slice o3 l3 q3,.int .i64 k4,.slice o5 l5 q5,.slice o6 l6 q6,.int .i64 k7,.slice o8 l8 q8].getD j vd):=by rw[hw4];exact box_row rfl _ _ _ _ _ _ _ _ _
  have E4:Ext w w4:=by rw[hw4];exact mk1.alloc _
  have HST:Hid (∃a',Value.agg #[.int .i64 k0,.int .i64 k1,.slice o2 l2 q2,.slice o3 l3 q3,.int .i64 k4,.slice o5 l5 q5,.slice o6 l6 q6,.int .i64 k7,.slice o8 l8 q8]=cvl (backS W.co n ls k).1.c a'∧l9=(backS W.co n ls k).1.out.length∧Stb (fun b=>tg b=0) w4 (fun U=>CoAt U (backS W.co n ls k).1.c a'∧TosAt U tO (backS W.co n ls k).1.out)):=by
   obtain⟨a',ea,el,hU⟩:=HF.out
   exact⟨a',ea,el,(HW.out.fresh hU).ext (by rw[hw4];exact(Ext.refl w3).alloc _)⟩
  have hXw:=mk1.size
  rw[←hw4]
  clear hw4 E9 hG HF _t
  generalize w3.heap.size=X at R4 hXw ⊢
  clear mk1
  have x0:=R4.cell (i:=0) (by omega)
  have x1:=R4.cell (i:=1) (by omega)
  have x2:=R4.cell (i:=2) (by omega)
  have x3:=R4.cell (i:=3) (by omega)
  have x4:=R4.cell (i:=4) (by omega)
  have x5:=R4.cell (i:=5) (by omega)
  have x6:=R4.cell (i:=6) (by omega)
  have x7:=R4.cell (i:=7) (by omega)
  have x8:=R4.cell (i:=8) (by omega)
  simp only[List.getD_cons_zero,List.getD_cons_succ] at x0 x1 x2 x3 x4 x5 x6 x7 x8
  have hXl:=R4.lt
  clear R4
  by_cases h0:(backS W.co n ls k).2=0
  ·have HD:=hidp (hapK_yes hs hb h0)
   have HDW:=hidp (back_words HI.out (by omega) hs hb)
   rw[h0]
   clear h0
   go_wp2_with fail
   have m11:w4.cell? ⟨P,11,none⟩=some (.slice (some ⟨bb,0,none⟩) n n):=(E4.cells.1 _ _ hP).trans c11
   have mbb:w4.cell? ⟨bb,s,none⟩=some (.slice (some ⟨g,off,none⟩) (r.length+1) rc):=(E4.cells.1 _ _ hbl).trans cv
   have fbb:w4.frozen? ⟨bb,s,none⟩=false:=(E4.cells.2 _ _ hbl).trans HFV.out
   obtain⟨ao',hao⟩:∃x,x=(if rc=1 then some (⟨g,off,none⟩:Addr) else some ⟨g,off+1,none⟩):=⟨_,rfl⟩
   have HAO:=hidp hao
   clear hao
   have HCUT:=hidp ((HW.out.toExt E4).cutB hs HI.out.lbk (v':=.slice ao' 0 (rc - 1)) (ns':=r) (by rw[HAO.out];exact(HV.out.keep (KeepP.ext (S:=fun _=>True) E4) trivial).tail1 hln))
   refine Last.LH.start (m:=16) (S:=fun V=>V.cell? ⟨P,11,none⟩=some (.slice (some ⟨bb,0,none⟩) n n)∧V.cell? ⟨bb,s,none⟩=some (.slice (some ⟨g,off,none⟩) (r.length+1) rc)) (by kernel_rfl) ?_
   have hHeld:(fun V:World=>V.cell? ⟨P,11,none⟩=some (.slice (some ⟨bb,0,none⟩) n n)∧V.cell? ⟨bb,s,none⟩=some (.slice (some ⟨g,off,none⟩) (r.length+1) rc)) w4.drew:=⟨m11,mbb⟩
   refine Last.LH.take (i:=0) (v:=?v0a) rfl (by kernel_rfl) (by kernel_rfl) (by kernel_rfl) (by kernel_rfl) (fun _ _ _ h=>h) (by rfl) ?hy0a hHeld ?rest0a
   case hy0a=>intro W hSW;(try dsimp only at hSW);go_simp;with_reducible rfl
   refine Last.LH.take (i:=1) (v:=?v1a) rfl (by kernel_rfl) (by kernel_rfl) (by kernel_rfl) (by kernel_rfl) (fun _ _ _ h=>h) (by rfl) ?hy1a hHeld ?rest1a
   case hy1a=>intro W hSW;(try dsimp only at hSW);go_simp;with_reducible rfl
   refine Last.LH.take (i:=2) (v:=?v2a) rfl (by kernel_rfl) (by kernel_rfl) (by kernel_rfl) (by kernel_rfl) (fun _ _ _ h=>h) (by rfl) ?hy2a hHeld ?rest2a
   case hy2a=>intro W hSW;(try dsimp only at hSW);go_simp;with_reducible rfl
   refine Last.LH.take (i:=3) (v:=?v3a) rfl (by kernel_rfl) (by kernel_rfl) (by kernel_rfl) (by kernel_rfl) (fun _ _ _ h=>h) (by rfl) ?hy3a hHeld ?rest3a
   case hy3a=>intro W hSW;(try dsimp only at hSW);go_simp;with_reducible rfl
   refine Last.LH.take (i:=4) (v:=?v4a) rfl (by kernel_rfl) (by kernel_rfl) (by kernel_rfl) (by kernel_rfl) (fun _ _ _ h=>h) (by rfl) ?hy4a hHeld ?rest4a
   case hy4a=>intro W hSW;(try dsimp only at hSW);go_simp;with_reducible rfl
   refine Last.LH.take (i:=5) (v:=?v5a) rfl (by kernel_rfl) (by kernel_rfl) (by kernel_rfl) (by kernel_rfl) (fun _ _ _ h=>h) (by rfl) ?hy5a hHeld ?rest5a
   case hy5a=>intro W hSW;(try dsimp only at hSW);go_simp;with_reducible rfl
   refine Last.LH.take (i:=6) (v:=?v6a) rfl (by kernel_rfl) (by kernel_rfl) (by kernel_rfl) (by kernel_rfl) (fun _ _ _ h=>h) (by rfl) ?hy6a hHeld ?rest6a
   case hy6a=>intro W hSW;(try dsimp only at hSW);go_simp;with_reducible rfl
   refine Last.LH.take (i:=7) (v:=?v7a) rfl (by kernel_rfl) (by kernel_rfl) (by kernel_rfl) (by kernel_rfl) (fun _ _ _ h=>h) (by rfl) ?hy7a hHeld ?rest7a
   case hy7a=>intro W hSW;(try dsimp only at hSW);go_simp;with_reducible rfl
   refine Last.LH.take (i:=8) (v:=?v8a) rfl (by kernel_rfl) (by kernel_rfl) (by kernel_rfl) (by kernel_rfl) (fun _ _ _ h=>h) (by rfl) ?hy8a hHeld ?rest8a
   case hy8a=>intro W hSW;(try dsimp only at hSW);go_simp;with_reducible rfl
   refine Last.LH.take (i:=9) (v:=?v9a) rfl (by kernel_rfl) (by kernel_rfl) (by kernel_rfl) (by kernel_rfl) (fun _ _ _ h=>h) (by rfl) ?hy9a hHeld ?rest9a
   case hy9a=>intro W hSW;(try dsimp only at hSW);go_simp;with_reducible rfl
   refine Last.LH.take (i:=10) (v:=?v10a) rfl (by kernel_rfl) (by kernel_rfl) (by kernel_rfl) (by kernel_rfl) (fun _ _ _ h=>h) (by rfl) ?hy10a hHeld ?rest10a
   case hy10a=>intro W hSW;(try dsimp only at hSW);go_simp;with_reducible rfl
   refine Last.LH.take (i:=11) (v:=?v11a) rfl (by kernel_rfl) (by kernel_rfl) (by kernel_rfl) (by kernel_rfl) (fun _ _ _ h=>h) (by rfl) ?hy11a hHeld ?rest11a
   case hy11a=>intro W hSW;(try dsimp only at hSW);go_simp;with_reducible rfl
   refine Last.LH.take (i:=12) (v:=?v12a) rfl (by kernel_rfl) (by kernel_rfl) (by kernel_rfl) (by kernel_rfl) (fun _ _ _ h=>h) (by rfl) ?hy12a hHeld ?rest12a
   case hy12a=>intro W hSW;(try dsimp only at hSW);go_simp;with_reducible rfl
   refine Last.LH.take (i:=13) (v:=?v13a) rfl (by kernel_rfl) (by kernel_rfl) (by kernel_rfl) (by kernel_rfl) (fun _ _ _ h=>h) (by rfl) ?hy13a hHeld ?rest13a
   case hy13a=>intro W hSW;(try dsimp only at hSW);go_simp;with_reducible rfl
   refine Last.LH.take (i:=14) (v:=.slice ao' 0 (rc - 1)) rfl (by kernel_rfl) (by kernel_rfl) (by kernel_rfl) (by kernel_rfl) (fun _ _ _ h=>h) (by rfl) ?hy14a hHeld ?rest14a
   case hy14a=>intro W hSW;(try dsimp only at hSW);go_simp;rw[HAO.out]
   refine Last.LH.take (i:=15) (v:=?v15a) rfl (by kernel_rfl) (by kernel_rfl) (by kernel_rfl) (by kernel_rfl) (fun _ _ _ h=>h) (by rfl) ?hy15a hHeld ?rest15a
   case hy15a=>intro W hSW;(try dsimp only at hSW);go_simp;with_reducible rfl
   refine Last.LH.one (i:=16) (by kernel_rfl) rfl (fun K hK=>?_)
   go_simp
   refine hK _ _ (fun h=>absurd rfl h) ?_
   clear hK K hHeld
   refine Last.LH.done (by kernel_rfl) ?_
   have hbb1:bb<w4.heap.size:=Nat.lt_of_lt_of_le hbl E4.size
   obtain⟨w5,hw5⟩:∃w5,w5=(w4.setCell ⟨bb,s,none⟩ (.slice ao' 0 (rc - 1))).drew:=⟨_,rfl⟩
   have HW5:Hid (WSt 95 [.int .i64 (n:Int),.slice ao len cap] w0 P n tg w5 ⟨W.co,W.sw,W.od,W.bk.set s r,W.pk,W.pn⟩ a sb ob bb kv lv∧Kpt tg tg w4 w5):=by
    rw[hw5]
    exact⟨HCUT.out.1.toExt (Ext.refl _).drew,HCUT.out.2.trans (Kpt.ext (Ext.refl _).drew)⟩
   have hyc:∀j,w5.cell? ⟨X,j,none⟩=w4.cell? ⟨X,j,none⟩:=fun j=>by
    rw[hw5]
    exact World.cell?_of_block (w:=w4) (a:=⟨X,j,none⟩) (blk_setCell_other _ _ _ _ (by simp only;omega))
   have y0:=(hyc 0).trans x0
   have y1:=(hyc 1).trans x1
   have y2:=(hyc 2).trans x2
   have y3:=(hyc 3).trans x3
   have y4:=(hyc 4).trans x4
   have y5:=(hyc 5).trans x5
   have y6:=(hyc 6).trans x6
   have y7:=(hyc 7).trans x7
   have y8:=(hyc 8).trans x8
   have hX5:X<w5.heap.size:=Nat.lt_of_lt_of_le hXl HW5.out.2.size
   rw[←hw5]
   clear hw5 hyc x0 x1 x2 x3 x4 x5 x6 x7 x8 m11 mbb fbb HCUT
   go_wp2_with fail
   have HT:Hid (Calls Try.prog 66 #[.pointer (some ⟨P,0,none⟩),.agg #[.int .i64 k0,.int .i64 k1,.slice o2 l2 q2,.slice o3 l3 q3,.int .i64 k4,.slice o5 l5 q5,.slice o6 l6 q6,.int .i64 k7,.slice o8 l8 q8],.slice tO l9 tc] w5 fun e w'=>e=.returned (.tuple #[])∧∃tg' a',WSt 95 [.int .i64 (n:Int),.slice ao len cap] w0 P n tg' w' ⟨(backS W.co n ls k).1.c,W.sw,putO W.od (backS W.co n ls k).1.out,W.bk.set s r,W.pk,W.pn⟩ a' sb ob bb kv lv∧Kpt tg tg' w5 w'):=by
    obtain⟨a',ea,el,hS⟩:=HST.out
    show Calls _ _ _ _ _
    rw[ea,el]
    exact(take_any _ w0 P n tg w5 ⟨W.co,W.sw,W.od,W.bk.set s r,W.pk,W.pn⟩ a sb ob bb kv lv _ a' _ tO tc HW5.out.1 HI.out.lod (hS.keep HW5.out.2 (Or.inl rfl)) HDW.out.1 HDW.out.2 (fun j=>Nat.le_trans (HI.out.rows j).1 (by decide))).mono (fun e w' ⟨h1,tg',h2,h3⟩=>⟨h1,tg',a',h2,h3⟩)
   refine Calls.mono HT.out ?_
   rintro e w6 ⟨rfl,tg5,a5,hW5,hK5⟩
   have HW6:=hidp hW5
   have HK5:=hidp hK5
   clear hW5 hK5 HT y0 y1 y2 y3 y4 y5 y6 y7 y8
   go_wp2
   go_ret
   rw[HD.out]
   exact⟨rfl,tg5,a5,kv,lv,HW6.out,((Kpt.ext E4).trans HW5.out.2).trans HK5.out⟩
  ·have HD:=hidp (hapK_no hs hb h0)
   have b0:((backS W.co n ls k).2 != 0)=true:=by simpa using h0
   clear h0
   go_wp2
   go_ret
   rw[HD.out]
   exact⟨rfl,tg,a,kv,lv,HW.out.toExt E4,Kpt.ext E4⟩
 ·have _t:=mk2
  obtain⟨w4,hw4⟩:∃w4,w4=W9 w3 w.heap.size (.int .i64 k0) (.int .i64 k1) (.slice o2 l2 q2) (.slice o3 l3 q3) (.int .i64 k4) (.slice o5 l5 q5) (.slice o6 l6 q6) (.int .i64 k7) (.slice o8 l8 q8):=⟨_,rfl⟩
  have R4:w4.rowIs w.heap.size 33 9 (fun j=>[.int .i64 k0,.int .i64 k1,.slice o2 l2 q2,.slice o3 l3 q3,.int .i64 k4,.slice o5 l5 q5,.slice o6 l6 q6,.int .i64 k7,.slice o8 l8 q8].getD j vd):=by rw[hw4];exact w9_row HHB.out
  have E4:Ext w w4:=by rw[hw4];exact W9_ext0 mk2 (Nat.le_refl _)
  have HST:Hid (∃a',Value.agg #[.int .i64 k0,.int .i64 k1,.slice o2 l2 q2,.slice o3 l3 q3,.int .i64 k4,.slice o5 l5 q5,.slice o6 l6 q6,.int .i64 k7,.slice o8 l8 q8]=cvl (backS W.co n ls k).1.c a'∧l9=(backS W.co n ls k).1.out.length∧Stb (fun b=>tg b=0) w4 (fun U=>CoAt U (backS W.co n ls k).1.c a'∧TosAt U tO (backS W.co n ls k).1.out)):=by
   obtain⟨a',ea,el,hU⟩:=HF.out
   refine⟨a',ea,el,?_⟩
   rw[hw4]
   exact HW.out.fresh1 (fun U h1 h2=>hU U h1 (fun b hb h3=>h2 b (by simpa using hb) h3)) W9_size0 W9_block0
  unfold W9 at hw4
  rw[←hw4]
  obtain⟨X,hX⟩:∃X,X=w.heap.size:=⟨_,rfl⟩
  rw[←hX] at R4 ⊢
  have hXw:w.heap.size≤X:=by omega
  clear hX hda
  clear hw4 mk2 mk3 E9 hG HF _t u0 u1 u2 u3 u4 u5 u6 u7 u8 uz HHB
  have x0:=R4.cell (i:=0) (by omega)
  have x1:=R4.cell (i:=1) (by omega)
  have x2:=R4.cell (i:=2) (by omega)
  have x3:=R4.cell (i:=3) (by omega)
  have x4:=R4.cell (i:=4) (by omega)
  have x5:=R4.cell (i:=5) (by omega)
  have x6:=R4.cell (i:=6) (by omega)
  have x7:=R4.cell (i:=7) (by omega)
  have x8:=R4.cell (i:=8) (by omega)
  simp only[List.getD_cons_zero,List.getD_cons_succ] at x0 x1 x2 x3 x4 x5 x6 x7 x8
  have hXl:=R4.lt
  clear R4
  by_cases h0:(backS W.co n ls k).2=0
  ·have HD:=hidp (hapK_yes hs hb h0)
   have HDW:=hidp (back_words HI.out (by omega) hs hb)
   rw[h0]
   clear h0
   go_wp2_with fail
   have m11:w4.cell? ⟨P,11,none⟩=some (.slice (some ⟨bb,0,none⟩) n n):=(E4.cells.1 _ _ hP).trans c11
   have mbb:w4.cell? ⟨bb,s,none⟩=some (.slice (some ⟨g,off,none⟩) (r.length+1) rc):=(E4.cells.1 _ _ hbl).trans cv
   have fbb:w4.frozen? ⟨bb,s,none⟩=false:=(E4.cells.2 _ _ hbl).trans HFV.out
   obtain⟨ao',hao⟩:∃x,x=(if rc=1 then some (⟨g,off,none⟩:Addr) else some ⟨g,off+1,none⟩):=⟨_,rfl⟩
   have HAO:=hidp hao
   clear hao
   have HCUT:=hidp ((HW.out.toExt E4).cutB hs HI.out.lbk (v':=.slice ao' 0 (rc - 1)) (ns':=r) (by rw[HAO.out];exact(HV.out.keep (KeepP.ext (S:=fun _=>True) E4) trivial).tail1 hln))
   refine Last.LH.start (m:=16) (S:=fun V=>V.cell? ⟨P,11,none⟩=some (.slice (some ⟨bb,0,none⟩) n n)∧V.cell? ⟨bb,s,none⟩=some (.slice (some ⟨g,off,none⟩) (r.length+1) rc)) (by kernel_rfl) ?_
   have hHeld:(fun V:World=>V.cell? ⟨P,11,none⟩=some (.slice (some ⟨bb,0,none⟩) n n)∧V.cell? ⟨bb,s,none⟩=some (.slice (some ⟨g,off,none⟩) (r.length+1) rc)) w4.drew:=⟨m11,mbb⟩
   refine Last.LH.take (i:=0) (v:=?v0b) rfl (by kernel_rfl) (by kernel_rfl) (by kernel_rfl) (by kernel_rfl) (fun _ _ _ h=>h) (by rfl) ?hy0b hHeld ?rest0b
   case hy0b=>intro W hSW;(try dsimp only at hSW);go_simp;with_reducible rfl
   refine Last.LH.take (i:=1) (v:=?v1b) rfl (by kernel_rfl) (by kernel_rfl) (by kernel_rfl) (by kernel_rfl) (fun _ _ _ h=>h) (by rfl) ?hy1b hHeld ?rest1b
   case hy1b=>intro W hSW;(try dsimp only at hSW);go_simp;with_reducible rfl
   refine Last.LH.take (i:=2) (v:=?v2b) rfl (by kernel_rfl) (by kernel_rfl) (by kernel_rfl) (by kernel_rfl) (fun _ _ _ h=>h) (by rfl) ?hy2b hHeld ?rest2b
   case hy2b=>intro W hSW;(try dsimp only at hSW);go_simp;with_reducible rfl
   refine Last.LH.take (i:=3) (v:=?v3b) rfl (by kernel_rfl) (by kernel_rfl) (by kernel_rfl) (by kernel_rfl) (fun _ _ _ h=>h) (by rfl) ?hy3b hHeld ?rest3b
   case hy3b=>intro W hSW;(try dsimp only at hSW);go_simp;with_reducible rfl
   refine Last.LH.take (i:=4) (v:=?v4b) rfl (by kernel_rfl) (by kernel_rfl) (by kernel_rfl) (by kernel_rfl) (fun _ _ _ h=>h) (by rfl) ?hy4b hHeld ?rest4b
   case hy4b=>intro W hSW;(try dsimp only at hSW);go_simp;with_reducible rfl
   refine Last.LH.take (i:=5) (v:=?v5b) rfl (by kernel_rfl) (by kernel_rfl) (by kernel_rfl) (by kernel_rfl) (fun _ _ _ h=>h) (by rfl) ?hy5b hHeld ?rest5b
   case hy5b=>intro W hSW;(try dsimp only at hSW);go_simp;with_reducible rfl
   refine Last.LH.take (i:=6) (v:=?v6b) rfl (by kernel_rfl) (by kernel_rfl) (by kernel_rfl) (by kernel_rfl) (fun _ _ _ h=>h) (by rfl) ?hy6b hHeld ?rest6b
   case hy6b=>intro W hSW;(try dsimp only at hSW);go_simp;with_reducible rfl
   refine Last.LH.take (i:=7) (v:=?v7b) rfl (by kernel_rfl) (by kernel_rfl) (by kernel_rfl) (by kernel_rfl) (fun _ _ _ h=>h) (by rfl) ?hy7b hHeld ?rest7b
   case hy7b=>intro W hSW;(try dsimp only at hSW);go_simp;with_reducible rfl
   refine Last.LH.take (i:=8) (v:=?v8b) rfl (by kernel_rfl) (by kernel_rfl) (by kernel_rfl) (by kernel_rfl) (fun _ _ _ h=>h) (by rfl) ?hy8b hHeld ?rest8b
   case hy8b=>intro W hSW;(try dsimp only at hSW);go_simp;with_reducible rfl
   refine Last.LH.take (i:=9) (v:=?v9b) rfl (by kernel_rfl) (by kernel_rfl) (by kernel_rfl) (by kernel_rfl) (fun _ _ _ h=>h) (by rfl) ?hy9b hHeld ?rest9b
   case hy9b=>intro W hSW;(try dsimp only at hSW);go_simp;with_reducible rfl
   refine Last.LH.take (i:=10) (v:=?v10b) rfl (by kernel_rfl) (by kernel_rfl) (by kernel_rfl) (by kernel_rfl) (fun _ _ _ h=>h) (by rfl) ?hy10b hHeld ?rest10b
   case hy10b=>intro W hSW;(try dsimp only at hSW);go_simp;with_reducible rfl
   refine Last.LH.take (i:=11) (v:=?v11b) rfl (by kernel_rfl) (by kernel_rfl) (by kernel_rfl) (by kernel_rfl) (fun _ _ _ h=>h) (by rfl) ?hy11b hHeld ?rest11b
   case hy11b=>intro W hSW;(try dsimp only at hSW);go_simp;with_reducible rfl
   refine Last.LH.take (i:=12) (v:=?v12b) rfl (by kernel_rfl) (by kernel_rfl) (by kernel_rfl) (by kernel_rfl) (fun _ _ _ h=>h) (by rfl) ?hy12b hHeld ?rest12b
   case hy12b=>intro W hSW;(try dsimp only at hSW);go_simp;with_reducible rfl
   refine Last.LH.take (i:=13) (v:=?v13b) rfl (by kernel_rfl) (by kernel_rfl) (by kernel_rfl) (by kernel_rfl) (fun _ _ _ h=>h) (by rfl) ?hy13b hHeld ?rest13b
   case hy13b=>intro W hSW;(try dsimp only at hSW);go_simp;with_reducible rfl
   refine Last.LH.take (i:=14) (v:=.slice ao' 0 (rc - 1)) rfl (by kernel_rfl) (by kernel_rfl) (by kernel_rfl) (by kernel_rfl) (fun _ _ _ h=>h) (by rfl) ?hy14b hHeld ?rest14b
   case hy14b=>intro W hSW;(try dsimp only at hSW);go_simp;rw[HAO.out]
   refine Last.LH.take (i:=15) (v:=?v15b) rfl (by kernel_rfl) (by kernel_rfl) (by kernel_rfl) (by kernel_rfl) (fun _ _ _ h=>h) (by rfl) ?hy15b hHeld ?rest15b
   case hy15b=>intro W hSW;(try dsimp only at hSW);go_simp;with_reducible rfl
   refine Last.LH.one (i:=16) (by kernel_rfl) rfl (fun K hK=>?_)
   go_simp
   refine hK _ _ (fun h=>absurd rfl h) ?_
   clear hK K hHeld
   refine Last.LH.done (by kernel_rfl) ?_
   have hbb1:bb<w4.heap.size:=Nat.lt_of_lt_of_le hbl E4.size
   obtain⟨w5,hw5⟩:∃w5,w5=(w4.setCell ⟨bb,s,none⟩ (.slice ao' 0 (rc - 1))).drew:=⟨_,rfl⟩
   have HW5:Hid (WSt 95 [.int .i64 (n:Int),.slice ao len cap] w0 P n tg w5 ⟨W.co,W.sw,W.od,W.bk.set s r,W.pk,W.pn⟩ a sb ob bb kv lv∧Kpt tg tg w4 w5):=by
    rw[hw5]
    exact⟨HCUT.out.1.toExt (Ext.refl _).drew,HCUT.out.2.trans (Kpt.ext (Ext.refl _).drew)⟩
   have hyc:∀j,w5.cell? ⟨X,j,none⟩=w4.cell? ⟨X,j,none⟩:=fun j=>by
    rw[hw5]
    exact World.cell?_of_block (w:=w4) (a:=⟨X,j,none⟩) (blk_setCell_other _ _ _ _ (by simp only;omega))
   have y0:=(hyc 0).trans x0
   have y1:=(hyc 1).trans x1
   have y2:=(hyc 2).trans x2
   have y3:=(hyc 3).trans x3
   have y4:=(hyc 4).trans x4
   have y5:=(hyc 5).trans x5
   have y6:=(hyc 6).trans x6
   have y7:=(hyc 7).trans x7
   have y8:=(hyc 8).trans x8
   have hX5:X<w5.heap.size:=Nat.lt_of_lt_of_le hXl HW5.out.2.size
   rw[←hw5]
   clear hw5 hyc x0 x1 x2 x3 x4 x5 x6 x7 x8 m11 mbb fbb HCUT
   go_wp2_with fail
   have HT:Hid (Calls Try.prog 66 #[.pointer (some ⟨P,0,none⟩),.agg #[.int .i64 k0,.int .i64 k1,.slice o2 l2 q2,.slice o3 l3 q3,.int .i64 k4,.slice o5 l5 q5,.slice o6 l6 q6,.int .i64 k7,.slice o8 l8 q8],.slice tO l9 tc] w5 fun e w'=>e=.returned (.tuple #[])∧∃tg' a',WSt 95 [.int .i64 (n:Int),.slice ao len cap] w0 P n tg' w' ⟨(backS W.co n ls k).1.c,W.sw,putO W.od (backS W.co n ls k).1.out,W.bk.set s r,W.pk,W.pn⟩ a' sb ob bb kv lv∧Kpt tg tg' w5 w'):=by
    obtain⟨a',ea,el,hS⟩:=HST.out
    show Calls _ _ _ _ _
    rw[ea,el]
    exact(take_any _ w0 P n tg w5 ⟨W.co,W.sw,W.od,W.bk.set s r,W.pk,W.pn⟩ a sb ob bb kv lv _ a' _ tO tc HW5.out.1 HI.out.lod (hS.keep HW5.out.2 (Or.inl rfl)) HDW.out.1 HDW.out.2 (fun j=>Nat.le_trans (HI.out.rows j).1 (by decide))).mono (fun e w' ⟨h1,tg',h2,h3⟩=>⟨h1,tg',a',h2,h3⟩)
   refine Calls.mono HT.out ?_
   rintro e w6 ⟨rfl,tg5,a5,hW5,hK5⟩
   have HW6:=hidp hW5
   have HK5:=hidp hK5
   clear hW5 hK5 HT y0 y1 y2 y3 y4 y5 y6 y7 y8
   go_wp2
   go_ret
   rw[HD.out]
   exact⟨rfl,tg5,a5,kv,lv,HW6.out,((Kpt.ext E4).trans HW5.out.2).trans HK5.out⟩
  ·have HD:=hidp (hapK_no hs hb h0)
   have b0:((backS W.co n ls k).2 != 0)=true:=by simpa using h0
   clear h0
   go_wp2
   go_ret
   rw[HD.out]
   exact⟨rfl,tg,a,kv,lv,HW.out.toExt E4,Kpt.ext E4⟩
end Go.Proofs.Ytolclgbpjiokfaa.Rm
namespace Go.Proofs.Ytolclgbpjiokfaa.Ag
open Go.RowKit Go.Deep Tb Rul
def lsS (st:List (Int×Int)):Nat→Int
 | 0=> -1
 | k+1=>(st.getD k s0).1
def pvS (st:List (Int×Int)):Nat→Option Int
 | 0=>none
 | k+1=>some (st.getD k s0).1
theorem pvS_pos {st:List (Int×Int)} {k:Nat} (h:k≠0):pvS st k=some (lsS st k):=by
 cases k with
 | zero=>exact absurd rfl h
 | succ k=>rfl
theorem wst_step {st:List (Int×Int)} {p:Option Int} {k:Nat} (hk:k<st.length):Agt.wst p (st.drop k)=if Agt.badS (st.getD k s0)=true then 3 else if p.any (fun q=>decide ((st.getD k s0).1≤q))=true then 2 else Agt.wst (some (st.getD k s0).1) (st.drop (k+1)):=by
 have e:st.getD k s0=st[k]:=by simp[List.getD_eq_getElem?_getD,hk]
 rw[List.drop_eq_getElem_cons hk,Agt.wst,e]
theorem wst_end {st:List (Int×Int)} {p:Option Int} {k:Nat} (hk:st.length≤k):Agt.wst p (st.drop k)=0:=by
 rw[List.drop_eq_nil_of_le hk];cases p <;> rfl
end Go.Proofs.Ytolclgbpjiokfaa.Ag
namespace Go.Proofs.Ytolclgbpjiokfaa.Tb
open Go.RowKit Go.Deep Rul
def c3 (x y:Int):Int:=if x<y then -1 else if y<x then 1 else 0
def cf (x y:Ru):Int:=if c3 x.1 y.1=0 then c3 x.2.1 y.2.1 else c3 x.1 y.1
theorem c3_zero {x y:Int}:c3 x y=0↔x=y:=by
 unfold c3
 split
 ·omega
 ·split <;> omega
theorem c3_neg {x y:Int}:c3 x y<0↔x<y:=by
 unfold c3
 split
 ·omega
 ·split <;> omega
theorem cf_lt {x y:Ru}:cf x y<0↔lt x y=true:=by
 rw[lt_true];unfold cf
 have h1:=@c3_zero x.1 y.1
 have h2:=@c3_neg x.1 y.1
 have h3:=@c3_neg x.2.1 y.2.1
 split <;> omega
theorem cf_ge {x y:Ru}:cf x y≥0↔lt x y=false:=by
 have:=cf_lt (x:=x) (y:=y)
 cases h:lt x y with
 | true=>rw[h] at this;simp at this ⊢;exact this
 | false=>rw[h] at this;simp at this ⊢;exact this
set_option maxHeartbeats 400000 in
theorem isNaN_any (x:Int) (w:World):Calls Try.prog 76 #[.int .i64 x] w fun e w'=>e=.returned (.bool false)∧w'=w:=by
 go_enter Try.func76,Try.ntmps76
 go_wp2
 go_ret
 exact⟨by simp,rfl⟩
set_option maxHeartbeats 1000000 in
theorem Compare_any (x y:Int) (w:World):Calls Try.prog 59 #[.int .i64 x,.int .i64 y] w fun e w'=>e=.returned (.int .i64 (c3 x y))∧w'=w:=by
 go_enter Try.func59,Try.ntmps59
 go_wp2_with fail
 refine(isNaN_any x _).mono ?_
 rintro e w1 ⟨rfl,rfl⟩
 go_wp2_with fail
 refine(isNaN_any y _).mono ?_
 rintro e w2 ⟨rfl,rfl⟩
 rcases Int.lt_trichotomy x y with h | h | h
 ·go_wp2
  go_ret
  exact⟨by simp[c3,h],rfl⟩
 ·subst h
  go_wp2
  go_ret
  exact⟨by simp[c3],rfl⟩
 ·have h':¬x<y:=by omega
  go_wp2
  go_ret
  exact⟨by simp[c3,h,h'],rfl⟩
end Go.Proofs.Ytolclgbpjiokfaa.Tb
namespace Go.Proofs.Ytolclgbpjiokfaa.Tb
open Go.RowKit Go.Deep Rul Go.Sort
theorem Gb.trans {a b c:World} {r:Option Nat} (h:a.grownBy b r) (k:b.grownBy c r):a.grownBy c r:=
 ⟨k.os.trans h.os,k.tape.trans h.tape,k.output.trans h.output,Nat.le_trans h.size k.size,fun i hi hr=>(k.block i (Nat.lt_of_lt_of_le hi h.size) hr).trans (h.block i hi hr)⟩
theorem Gb.set {a b:World} {g:Nat} (h:a.grownBy b (some g)) (o:Nat) (v:Value):a.grownBy (b.setCell ⟨g,o,none⟩ v) (some g):=
 ⟨h.os,h.tape,h.output,by simpa using h.size,fun i hi hr=>by rw[blk_setCell_other _ _ _ _ (by intro e;exact hr (by rw[e]))];exact h.block i hi hr⟩
theorem Gb.drew {a b:World} {r:Option Nat} (h:a.grownBy b r):a.grownBy b.drew r:=⟨h.os,h.tape,h.output,h.size,h.block⟩
structure RW (w:World) (b N:Nat) (d:Array Ru):Prop where
 fit:d.size*3≤N
 row:∃F,w.rowIs b 63 N F∧∀j,j<d.size→F (j*3)=.int .i64 (d[j]!).1∧F (j*3+1)=.int .i64 (d[j]!).2.1∧F (j*3+2)=.int .i64 (d[j]!).2.2
section
variable {w:World} {b N:Nat} {d:Array Ru}
theorem RW.lt (h:RW w b N d):b<w.heap.size:=by obtain⟨F,h1,_⟩:=h.row;exact h1.lt
theorem RW.cells (h:RW w b N d) {j:Nat} (hj:j<d.size) {r:Ru} (e:d[j]! =r):w.cell? ⟨b,j*3,none⟩=some (.int .i64 r.1)∧w.cell? ⟨b,j*3+1,none⟩=some (.int .i64 r.2.1)∧w.cell? ⟨b,j*3+2,none⟩=some (.int .i64 r.2.2):=by
 obtain⟨F,h1,h2⟩:=h.row
 have hf:=h.fit
 obtain⟨e0,e1,e2⟩:=h2 j hj
 rw[h1.cell (by omega),h1.cell (by omega),h1.cell (by omega),e0,e1,e2,e]
 exact⟨rfl,rfl,rfl⟩
theorem RW.frozen (h:RW w b N d) (o:Nat):w.frozen? ⟨b,o,none⟩=false:=by obtain⟨F,h1,_⟩:=h.row;exact h1.frozen o
theorem RW.of_block {w':World} (h:RW w b N d) (e:w'.heap[b]? =w.heap[b]?):RW w' b N d:=by
 obtain⟨F,h1,h2⟩:=h.row
 exact⟨h.fit,F,h1.of_block e,h2⟩
theorem RW.ext {w':World} (h:RW w b N d) (e:Ext w w'):RW w' b N d:=h.of_block (Below.block e _ h.lt)
theorem RW.drew (h:RW w b N d):RW w.drew b N d:=h.of_block rfl
theorem RW.put (h:RW w b N d) {i:Nat} (hi:i<d.size) (r:Ru):RW (((w.setCell ⟨b,i*3,none⟩ (.int .i64 r.1)).setCell ⟨b,i*3+1,none⟩ (.int .i64 r.2.1)).setCell ⟨b,i*3+2,none⟩ (.int .i64 r.2.2)) b N (d.setIfInBounds i r):=by
 obtain⟨F,h1,h2⟩:=h.row
 refine⟨by simpa using h.fit,_,((h1.set _ _).set _ _).set _ _,fun j hj=>?_⟩
 have hj':j<d.size:=by simpa using hj
 by_cases e:j=i
 ·subst e
  have:(d.setIfInBounds j r)[j]! =r:=by simp[hj']
  rw[this]
  simp
 ·have:(d.setIfInBounds i r)[j]! =d[j]!:=by
   rw[getElem!_pos _ j hj,getElem!_pos d j hj',Array.getElem_setIfInBounds_ne (hj:=hj') (h:=fun h=>e h.symm)]
  obtain⟨e0,e1,e2⟩:=h2 j hj'
  rw[this, ←e0, ←e1, ←e2]
  refine⟨?_,?_,?_⟩
  ·rw[if_neg (by omega),if_neg (by omega),if_neg (by omega)]
  ·rw[if_neg (by omega),if_neg (by omega),if_neg (by omega)]
  ·rw[if_neg (by omega),if_neg (by omega),if_neg (by omega)]
theorem RW.swap (h:RW w b N d) {i j:Nat} (hi:i<d.size) (hj:j<d.size):RW ((((((w.setCell ⟨b,i*3,none⟩ (.int .i64 (d[j]!).1)).setCell ⟨b,i*3+1,none⟩ (.int .i64 (d[j]!).2.1)).setCell ⟨b,i*3+2,none⟩ (.int .i64 (d[j]!).2.2)).setCell ⟨b,j*3,none⟩ (.int .i64 (d[i]!).1)).setCell ⟨b,j*3+1,none⟩ (.int .i64 (d[i]!).2.1)).setCell ⟨b,j*3+2,none⟩ (.int .i64 (d[i]!).2.2)) b N (swp d i j):=
 (h.put hi d[j]!).put (by simpa using hj) d[i]!
theorem Gb.swap {a:World} (h:a.grownBy w (some b)) (i j:Nat) (v0 v1 v2 u0 u1 u2:Value):a.grownBy ((((((w.setCell ⟨b,i*3,none⟩ v0).setCell ⟨b,i*3+1,none⟩ v1).setCell ⟨b,i*3+2,none⟩ v2).setCell ⟨b,j*3,none⟩ u0).setCell ⟨b,j*3+1,none⟩ u1).setCell ⟨b,j*3+2,none⟩ u2) (some b):=
 Gb.set (Gb.set (Gb.set (Gb.set (Gb.set (Gb.set h _ _) _ _) _ _) _ _) _ _) _ _
end
set_option maxRecDepth 100000 in
set_option maxHeartbeats 800000 in
theorem swapRange_any (cb:Value) (b N cap a c n:Nat) (d:Array Ru) (w:World) (h:RW w b N d) (hac:a+n≤c) (hcn:c+n≤d.size) (hsz:d.size≤1152921504606846976):
 Calls Try.prog 126 #[.slice (some ⟨b,0,none⟩) d.size cap,.int .i64 a,.int .i64 c,.int .i64 n,cb] w fun e w'=>e=.returned (.tuple #[])∧∃d',Swr a c n d d'∧RW w' b N d'∧w.grownBy w' (some b):=by
 go_enter Try.func126,Try.ntmps126
 go_wp2
 go_loopw [10] (fun iv wr=>∃(i:Nat) (d1:Array Ru),i≤n∧iv=.int .i64 i∧Swr a c i d d1∧RW wr b N d1∧w.grownBy wr (some b)) (fun iv _=>n - (intOf iv).toNat)
 case atStart=>exact⟨0,d,Nat.zero_le _,rfl,Swr.zero _ _ _,h,Gb.refl _ _⟩
 case round=>
  obtain⟨i,d1,hi,rfl,hs,hr,hg⟩:=hrel
  by_cases hlt:i<n
  ·have i1:(i:Int)<(n:Int):=by omega
   have hsz1:d1.size=d.size:=hs.size
   obtain⟨x,hx⟩:∃x,d1[a+i]! =x:=⟨_,rfl⟩
   obtain⟨y,hy⟩:∃x,d1[c+i]! =x:=⟨_,rfl⟩
   obtain⟨x0,x1,x2⟩:=hr.cells (j:=a+i) (by omega) hx
   obtain⟨y0,y1,y2⟩:=hr.cells (j:=c+i) (by omega) hy
   have fz:=hr.frozen
   have wa:IntKind.i64.wrap ((a:Int)+i)=((a+i:Nat):Int):=by rw[IntKind.wrap_i64];omega
   have wc:IntKind.i64.wrap ((c:Int)+i)=((c+i:Nat):Int):=by rw[IntKind.wrap_i64];omega
   have ba:((a+i:Nat):Int)<(d.size:Int):=by omega
   have bc:((c+i:Nat):Int)<(d.size:Int):=by omega
   have HR:Hid (RW wr b N d1):=hr
   have HG:Hid (w.grownBy wr (some b)):=hg
   clear hr hg h
   go_wp2_with fail
   go_region
   go_wp2
   refine⟨⟨i+1,swp d1 (a+i) (c+i),by omega,by go_num,hs.succ (by omega) (by omega),?_,?_⟩,by simp[intOf];omega⟩
   ·have:=(HR.out.swap (i:=a+i) (j:=c+i) (by omega) (by omega)).drew
    rw[hx,hy] at this
    exact this
   ·exact Gb.drew (Gb.swap HG.out _ _ _ _ _ _ _ _)
  ·have i1:¬(i:Int)<(n:Int):=by omega
   go_wp2
   go_end0
   have:i=n:=by omega
   subst this
   exact⟨rfl,d1,hs,hr,hg⟩
end Go.Proofs.Ytolclgbpjiokfaa.Tb
namespace Go.Proofs.Ytolclgbpjiokfaa.Tb
open Go.RowKit Go.Deep Rul Go.Sort
set_option maxRecDepth 100000 in
set_option maxHeartbeats 800000 in
theorem rotate_any (cb:Value) (b N cap a m c:Nat) (d:Array Ru) (w:World) (h:RW w b N d) (ham:a<m) (hmc:m<c) (hcn:c≤d.size) (hsz:d.size≤1152921504606846976):
 Calls Try.prog 125 #[.slice (some ⟨b,0,none⟩) d.size cap,.int .i64 a,.int .i64 m,.int .i64 c,cb] w fun e w'=>e=.returned (.tuple #[])∧∃d',Rot a m c d d'∧RW w' b N d'∧w.grownBy w' (some b):=by
 have wi:IntKind.i64.wrap ((m:Int) - a)=((m - a:Nat):Int):=by rw[IntKind.wrap_i64];omega
 have wj:IntKind.i64.wrap ((c:Int) - m)=((c - m:Nat):Int):=by rw[IntKind.wrap_i64];omega
 go_enter Try.func125,Try.ntmps125
 go_wp2
 go_loopw [10,11] (fun iv jv wr=>∃(i j:Nat) (d1:Array Ru),0<i∧0<j∧iv=.int .i64 i∧jv=.int .i64 j∧Rtg a m c i j d d1∧RW wr b N d1∧w.grownBy wr (some b)) (fun iv jv _=>(intOf iv).toNat+(intOf jv).toNat)
 case atStart=>exact⟨m - a,c - m,d,by omega,by omega,by go_num,by go_num,Rtg.start (by omega) (by omega),h,Gb.refl _ _⟩
 case round=>
  obtain⟨i,j,d1,hi,hj,rfl,rfl,hs,hr,hg⟩:=hrel
  have hia:=hs.ia
  have hjb:=hs.jb
  have hd1:=hs.size
  have w1:IntKind.i64.wrap ((m:Int) - i)=((m - i:Nat):Int):=by rw[IntKind.wrap_i64];omega
  by_cases e:i=j
  ·subst e
   go_wp2_with fail
   rw[←hd1]
   refine(swapRange_any cb b N cap (m - i) m i d1 _ hr (by omega) (by omega) (by omega)).mono ?_
   rintro e w' ⟨rfl,d2,s2,r2,g2⟩
   go_wp2
   go_end0
   exact⟨rfl,d2,hs.last s2,r2,Gb.trans hg g2⟩
  ·have e1:¬(i:Int)=(j:Int):=by omega
   by_cases hlt:j<i
   ·have i1:(j:Int)<(i:Int):=by omega
    go_wp2_with fail
    rw[←hd1]
    refine(swapRange_any cb b N cap (m - i) m j d1 _ hr (by omega) (by omega) (by omega)).mono ?_
    rintro e w' ⟨rfl,d2,s2,r2,g2⟩
    have w2:IntKind.i64.wrap ((i:Int) - j)=((i - j:Nat):Int):=by rw[IntKind.wrap_i64];omega
    go_wp2
    exact⟨⟨i - j,j,d2,by omega,hj,by go_num,rfl,hs.more hlt s2,r2,Gb.trans hg g2⟩,by simp[intOf];omega⟩
   ·have i1:¬(j:Int)<(i:Int):=by omega
    have w3:IntKind.i64.wrap ((m:Int)+j)=((m+j:Nat):Int):=by rw[IntKind.wrap_i64];omega
    have w4:IntKind.i64.wrap (((m+j:Nat):Int) - i)=((m+j - i:Nat):Int):=by rw[IntKind.wrap_i64];omega
    go_wp2_with fail
    rw[←hd1]
    have E3:((m+j - i:Nat):Int)=m+j - i:=by omega
    refine(E3 ▸ swapRange_any cb b N cap (m - i) (m+j - i) i d1 _ hr (by omega) (by omega) (by omega)).mono ?_
    rintro e w' ⟨rfl,d2,s2,r2,g2⟩
    have w2:IntKind.i64.wrap ((j:Int) - i)=((j - i:Nat):Int):=by rw[IntKind.wrap_i64];omega
    go_wp2
    exact⟨⟨i,j - i,d2,hi,by omega,rfl,by go_num,hs.less (by omega) s2,r2,Gb.trans hg g2⟩,by simp[intOf];omega⟩
end Go.Proofs.Ytolclgbpjiokfaa.Tb
