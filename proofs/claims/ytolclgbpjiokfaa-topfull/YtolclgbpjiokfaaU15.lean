/- What Back answers, for every control, net and number. -/
import Derived.Test.YtolclgbpjiokfaaU14
import Derived.Test.YtolclgbpjiokfaaU08
import Derived.Test.YtolclgbpjiokfaaU09
import Derived.Deep.RegionLaw
import Derived.Laws.OwnMore
import Derived.Lib.SliceRun
namespace Go.Proofs.Ytolclgbpjiokfaa.Ct
open Go.RowKit Go.Deep Stw Stp Tb Rul
def LtOut (B:Nat) (w0:World) (G:Cg) (k:Int) (e:Ending) (w':World):Prop:=∃(k0 k1:Int) (o2:Option Addr) (l2 q2:Nat) (o3:Option Addr) (l3 q3:Nat) (k4:Int) (o5:Option Addr) (l5 q5:Nat) (o6:Option Addr) (l6 q6:Nat) (k7:Int) (o8:Option Addr) (l8 q8:Nat) (tO:Option Addr) (l9 tc:Nat),
 e=.returned (.tuple #[.agg #[.int .i64 k0,.int .i64 k1,.slice o2 l2 q2,.slice o3 l3 q3,.int .i64 k4,.slice o5 l5 q5,.slice o6 l6 q6,.int .i64 k7,.slice o8 l8 q8],.slice tO l9 tc,.int .i64 k])∧Ext w0 w'∧
 Hid (∃a',Value.agg #[.int .i64 k0,.int .i64 k1,.slice o2 l2 q2,.slice o3 l3 q3,.int .i64 k4,.slice o5 l5 q5,.slice o6 l6 q6,.int .i64 k7,.slice o8 l8 q8]=cvl G.c a'∧l9=G.out.length∧∀U:World,w'.heap.size≤U.heap.size→(∀b,B≤b→b<w'.heap.size→U.heap[b]? =w'.heap[b]?)→CoAt U G.c a'∧TosAt U tO G.out)
theorem GoOut.letters {B:Nat} {w0 w':World} {G:Cg} {k:Int} {e:Ending} (h:GoOut B w0 G k e w'):LtOut B w0 G k e w':=by
 obtain⟨a',tO,tc,h1,h2,h3⟩:=h
 exact⟨_,_,_,_,_,_,_,_,_,_,_,_,_,_,_,_,_,_,_,_,_,_,h1,h3,a',rfl,rfl,h2.out⟩
theorem go_fin {B R:Nat} {w V:World} {G:Cg} {k k0 k1 k4 k7:Int} {o2 o3 o5 o6 o8 tO:Option Addr} {l2 q2 l3 q3 l5 q5 l6 q6 l8 q8 l9 tc:Nat}
 (h:∃a',Value.agg #[.int .i64 k0,.int .i64 k1,.slice o2 l2 q2,.slice o3 l3 q3,.int .i64 k4,.slice o5 l5 q5,.slice o6 l6 q6,.int .i64 k7,.slice o8 l8 q8]=cvl G.c a'∧l9=G.out.length∧∀U:World,V.heap.size≤U.heap.size→(∀b,B≤b→b<V.heap.size→U.heap[b]? =V.heap[b]?)→CoAt U G.c a'∧TosAt U tO G.out)
 (hRB:R<B) (hwR:w.heap.size≤R) (E:Ext w V) (x0 x1 x2 x3 x4 x5 x6 x7 x8:Value):
 GoOut w.heap.size w G k (.returned (.tuple #[.agg #[.int .i64 k0,.int .i64 k1,.slice o2 l2 q2,.slice o3 l3 q3,.int .i64 k4,.slice o5 l5 q5,.slice o6 l6 q6,.int .i64 k7,.slice o8 l8 q8],.slice tO l9 tc,.int .i64 k])) (W9 V R x0 x1 x2 x3 x4 x5 x6 x7 x8):=by
 obtain⟨a',e1,e2,h3⟩:=h
 have hs:(W9 V R x0 x1 x2 x3 x4 x5 x6 x7 x8).heap.size=V.heap.size:=W9_size0
 refine⟨a',tO,tc,by rw[e1,e2],fun U hU hb=>h3 U (by omega) (fun b h1 h2=>(hb b (by omega) (by omega)).trans (W9_block0 b (by omega))),W9_ext0 E hwR⟩
structure AB (W:World) (b:Nat) (c:Co) (a:CA) (n:Int) (nv:Value):Prop where
 box:BX W b (coL c a)
 n0:W.cell? ⟨b+1,0,none⟩=some (.int .i64 n)
 n1:W.cell? ⟨b+1,1,none⟩=some nv
 ans:W.heap[b+1+1]? =some (.cells #[.int .i64 0,.int .i64 0,.slice none 0 0,.slice none 0 0,.int .i64 0,.slice none 0 0,.slice none 0 0,.int .i64 0,.slice none 0 0] 33 (0,0))
theorem AB.ext {W V:World} {b:Nat} {c:Co} {a:CA} {n:Int} {nv:Value} (h:AB W b c a n nv) (E:Ext W V):AB V b c a n nv:=by
 have hl:b+1+1<W.heap.size:=(Array.getElem?_eq_some_iff.1 h.ans).1
 exact⟨World.rowIs.of_block h.box (Below.block E _ (by omega)),(E.cells.1 _ _ (by omega)).trans h.n0,(E.cells.1 _ _ (by omega)).trans h.n1,(Below.block E _ hl).trans h.ans⟩
theorem AB.lt {W:World} {b:Nat} {c:Co} {a:CA} {n:Int} {nv:Value} (h:AB W b c a n nv):b+1+1<W.heap.size:=(Array.getElem?_eq_some_iff.1 h.ans).1
theorem AB.zeros {W:World} {b:Nat} {c:Co} {a:CA} {n:Int} {nv:Value} (h:AB W b c a n nv):W.cell? ⟨b+1+1,0,none⟩=some (.int .i64 0)∧W.cell? ⟨b+1+1,1,none⟩=some (.int .i64 0)∧W.cell? ⟨b+1+1,2,none⟩=some (.slice none 0 0)∧W.cell? ⟨b+1+1,3,none⟩=some (.slice none 0 0)∧W.cell? ⟨b+1+1,4,none⟩=some (.int .i64 0)∧W.cell? ⟨b+1+1,5,none⟩=some (.slice none 0 0)∧W.cell? ⟨b+1+1,6,none⟩=some (.slice none 0 0)∧W.cell? ⟨b+1+1,7,none⟩=some (.int .i64 0)∧W.cell? ⟨b+1+1,8,none⟩=some (.slice none 0 0):=
 ⟨box_cell h.ans 0,box_cell h.ans 1,box_cell h.ans 2,box_cell h.ans 3,box_cell h.ans 4,box_cell h.ans 5,box_cell h.ans 6,box_cell h.ans 7,box_cell h.ans 8⟩
def Aw (w:World) (c:Co) (a:CA) (n:Int) (nv:Value):World:=((w.alloc (.cells #[.int .i64 c.st,.int .i64 c.now.v,.slice a.n.fo c.now.fs.length a.n.fc,.slice a.n.qo c.now.ps.length a.n.qc,.int .i64 c.nxt.v,.slice a.x.fo c.nxt.fs.length a.x.fc,.slice a.x.qo c.nxt.ps.length a.x.qc,.int .i64 c.num,.slice a.wo c.wts.length a.wc] 33)).alloc (.cells #[.int .i64 n,nv] 24)).alloc (.cells #[.int .i64 0,.int .i64 0,.slice none 0 0,.slice none 0 0,.int .i64 0,.slice none 0 0,.slice none 0 0,.int .i64 0,.slice none 0 0] 33)
theorem Aw_ext (w:World) (c:Co) (a:CA) (n:Int) (nv:Value):Ext w (Aw w c a n nv):=(((Ext.refl w).alloc _).alloc _).alloc _
theorem Aw_ab (w:World) (c:Co) (a:CA) (n:Int) (nv:Value):AB (Aw w c a n nv) w.heap.size c a n nv:=by
 refine⟨((box_row rfl _ _ _ _ _ _ _ _ _).alloc _).alloc _,?_,?_,?_⟩
 ·unfold Aw;first | (simp;done) | (simp[go_sem];done)
 ·unfold Aw;first | (simp;done) | (simp[go_sem];done)
 ·unfold Aw
  have:=blk_alloc_new ((w.alloc (.cells #[.int .i64 c.st,.int .i64 c.now.v,.slice a.n.fo c.now.fs.length a.n.fc,.slice a.n.qo c.now.ps.length a.n.qc,.int .i64 c.nxt.v,.slice a.x.fo c.nxt.fs.length a.x.fc,.slice a.x.qo c.nxt.ps.length a.x.qc,.int .i64 c.num,.slice a.wo c.wts.length a.wc] 33)).alloc (.cells #[.int .i64 n,nv] 24)) (.cells #[.int .i64 0,.int .i64 0,.slice none 0 0,.slice none 0 0,.int .i64 0,.slice none 0 0,.slice none 0 0,.int .i64 0,.slice none 0 0] 33)
  rw[World.size_alloc,World.size_alloc] at this
  exact this
theorem go_none {w V:World} {R:Nat} {k:Int} (hwR:w.heap.size≤R) (E:Ext w V) (x0 x1 x2 x3 x4 x5 x6 x7 x8:Value):GoOut w.heap.size w ⟨co0,[]⟩ k (.returned (.tuple #[.agg #[.int .i64 0,.int .i64 0,.slice none 0 0,.slice none 0 0,.int .i64 0,.slice none 0 0,.slice none 0 0,.int .i64 0,.slice none 0 0],.slice none 0 0,.int .i64 k])) (W9 V R x0 x1 x2 x3 x4 x5 x6 x7 x8):=
 ⟨ca0,none,0,rfl,fun U _ _=>⟨CoAt.zero U,Or.inl rfl⟩,W9_ext0 E hwR⟩
set_option maxRecDepth 100000 in
set_option maxHeartbeats 4000000 in
theorem Drop_any (c:Co) (a:CA) (n:Int) (ao:Option Addr) (len cap:Nat) (ls:List Lk) (w:World) (h:CoAt w c a) (hok:CoOk c) (hlen:ls.length=len) (hl:NetAt w ao ls) (hx:len≤9223372036854775807):
 Calls Try.prog 75 #[cvl c a,.agg #[.int .i64 n,.slice ao len cap]] w fun e w'=>GoOut w.heap.size w (dropS c n ls).1 (dropS c n ls).2 e w':=by
 have HA:=hidp (Aw_ab w c a n (.slice ao len cap))
 have hE0:=Aw_ext w c a n (.slice ao len cap)
 unfold cvl
 go_enter Try.func75,Try.ntmps75
 go_wp2_with fail
 unfold Aw at HA hE0
 obtain⟨W1,hW1⟩:∃W1,W1=((w.alloc (.cells #[.int .i64 c.st,.int .i64 c.now.v,.slice a.n.fo c.now.fs.length a.n.fc,.slice a.n.qo c.now.ps.length a.n.qc,.int .i64 c.nxt.v,.slice a.x.fo c.nxt.fs.length a.x.fc,.slice a.x.qo c.nxt.ps.length a.x.qc,.int .i64 c.num,.slice a.wo c.wts.length a.wc] 33)).alloc (.cells #[.int .i64 n,.slice ao len cap] 24)).alloc (.cells #[.int .i64 0,.int .i64 0,.slice none 0 0,.slice none 0 0,.int .i64 0,.slice none 0 0,.slice none 0 0,.int .i64 0,.slice none 0 0] 33):=⟨_,rfl⟩
 rw[←hW1] at HA hE0 ⊢
 clear hW1
 refine(Wrong_any n ao len cap ls W1 hlen (hl.ext hE0) hx).mono ?_
 rintro e w2 ⟨rfl,E2⟩
 have HA2:=hidp (HA.out.ext E2)
 have hl2:=HA2.out.lt
 have hE2:=hE0.trans E2
 have hl20:w.heap.size<w2.heap.size:=by omega
 have hl21:w.heap.size+1<w2.heap.size:=by omega
 by_cases hr:(wrong n ls).1=0
 ·have hright:=right_of hr
  have hbd:=hright.bounds
  obtain⟨nn,rfl⟩:=Int.eq_ofNat_of_zero_le (show 0≤n by omega)
  have hn8:nn≤8:=by omega
  have HW:=hidp hr
  rw[hright.wrong]
  clear hr hright hbd
  have c0:w2.cell? ⟨w.heap.size,0,none⟩=some (.int .i64 c.st):=World.rowIs.cell HA2.out.box (i:=0) (by omega)
  by_cases h3:c.st=3
  ·have HD:Hid (dropS c nn ls=(goS nn (told nn (drpO c.now) ⟨⟨4,c.now,c.nxt,c.num,c.wts⟩,[]⟩),0)):=by
    show _=_
    unfold dropS
    rw[if_neg (by simpa using HW.out),if_neg (by simpa using h3)]
    rfl
   rw[h3] at c0
   obtain⟨V2,hV2⟩:∃V2,V2=w2.alloc (.cells #[.int .i64 0,.int .i64 0] 44):=⟨_,rfl⟩
   have E2':Ext w2 V2:=by rw[hV2];exact(Ext.refl w2).alloc _
   have HCH:=hidp (changeOf_any c a nn ao len cap V2 (h.ext (hE2.trans E2')) hok)
   have HAV:=hidp (HA2.out.ext E2')
   have hVR:w.heap.size+1+1<V2.heap.size:=HAV.out.lt
   have c1:w2.cell? ⟨w.heap.size,1,none⟩=some (.int .i64 c.now.v):=World.rowIs.cell HA2.out.box (i:=1) (by omega)
   have c2:w2.cell? ⟨w.heap.size,2,none⟩=some (.slice a.n.fo c.now.fs.length a.n.fc):=World.rowIs.cell HA2.out.box (i:=2) (by omega)
   have c3:w2.cell? ⟨w.heap.size,3,none⟩=some (.slice a.n.qo c.now.ps.length a.n.qc):=World.rowIs.cell HA2.out.box (i:=3) (by omega)
   have c4:w2.cell? ⟨w.heap.size,4,none⟩=some (.int .i64 c.nxt.v):=World.rowIs.cell HA2.out.box (i:=4) (by omega)
   have c5:w2.cell? ⟨w.heap.size,5,none⟩=some (.slice a.x.fo c.nxt.fs.length a.x.fc):=World.rowIs.cell HA2.out.box (i:=5) (by omega)
   have c6:w2.cell? ⟨w.heap.size,6,none⟩=some (.slice a.x.qo c.nxt.ps.length a.x.qc):=World.rowIs.cell HA2.out.box (i:=6) (by omega)
   have c7:w2.cell? ⟨w.heap.size,7,none⟩=some (.int .i64 c.num):=World.rowIs.cell HA2.out.box (i:=7) (by omega)
   have c8:w2.cell? ⟨w.heap.size,8,none⟩=some (.slice a.wo c.wts.length a.wc):=World.rowIs.cell HA2.out.box (i:=8) (by omega)
   have n0:=HA2.out.n0
   have n1:=HA2.out.n1
   unfold cvl at HCH
   rw[h3] at HCH
   have HH3:=hidp h3
   clear h3
   go_wp2_with fail
   rw[←hV2]
   clear hV2 c0 c1 c2 c3 c4 c5 c6 c7 c8 n0 n1
   refine Calls.mono HCH.out ?_
   rintro e w3 ⟨P,w0,a3,wv,rfl,hC3,E0⟩
   have HC3:=hidp hC3
   have hPl:=hC3.row.lt
   have s0:w3.cell? ⟨P,0,none⟩=some (.int .i64 c.st):=hC3.row.cell (i:=0) (by omega)
   have z0:=hC3.row.frozen 0
   have HE0:=hidp (E2'.trans E0)
   clear hC3 HCH
   go_upto_region 8 with fail
   obtain⟨w4,hw4⟩:∃w4,w4=w3.setCell ⟨P,0,none⟩ (.int .i64 4):=⟨_,rfl⟩
   have HC4:Hid (CSt V2.heap.size (fun _=>True) P w0 w4 ⟨⟨4,c.now,c.nxt,c.num,c.wts⟩,[]⟩ a3 nn wv (.slice none 0 0) []):=by rw[hw4];exact HC3.out.put (g':=⟨⟨4,c.now,c.nxt,c.num,c.wts⟩,[]⟩) 0 (by omega) _ rfl rfl rfl HC3.out.hn HC3.out.hx
   rw[←hw4]
   clear hw4 HC3 s0 z0 hPl
   have E4:Ext w2 w4:=HE0.out.trans HC4.out.bel
   have HA4:=hidp (HA2.out.ext E4)
   have c1:w4.cell? ⟨w.heap.size,1,none⟩=some (.int .i64 c.now.v):=World.rowIs.cell HA4.out.box (i:=1) (by omega)
   have c2:w4.cell? ⟨w.heap.size,2,none⟩=some (.slice a.n.fo c.now.fs.length a.n.fc):=World.rowIs.cell HA4.out.box (i:=2) (by omega)
   have c3:w4.cell? ⟨w.heap.size,3,none⟩=some (.slice a.n.qo c.now.ps.length a.n.qc):=World.rowIs.cell HA4.out.box (i:=3) (by omega)
   have n0:=HA4.out.n0
   go_wp2_with fail
   refine Calls.mono (dropping_any c.now a.n nn w0 w4 (h.hn.ext (hE2.trans E4)) hok.n hn8) ?_
   rintro e w5 ⟨p1,p2,rfl,E5,HST⟩
   clear c1 c2 c3 n0
   go_wp2_with fail
   refine Calls.mono (tell_any V2.heap.size (fun _=>True) 110 p1 p2 P nn (drpO c.now) w0 w5 _ a3 wv (.slice none 0 0) [] (HC4.out.ext E5) (Or.inr (Or.inl rfl)) (fun _ _=>trivial) hn8 (Nat.le_trans hok.w (by decide)) (by simp) (step_tell HC4.out (fun _ _=>trivial) HST)) ?_
   rintro e w6 ⟨rfl,wv6,tv6,TV6,hC6,hK6⟩
   have HC6:=hidp hC6
   clear hC6 hK6 HST
   have HL6:=hidp (told_len (ord:=drpO c.now) (g:=⟨⟨4,c.now,c.nxt,c.num,c.wts⟩,[]⟩) nn)
   go_wp2_with fail
   refine Calls.mono (goOn_any V2.heap.size P nn w0 w6 _ a3 wv6 tv6 TV6 HC6.out hn8 hok.n hok.x (by have h1:=HL6.out.1;have h2:=hok.w;exact Nat.le_trans h1 (by show c.wts.length+nn≤_;omega)) (by have:=HL6.out.2;simp only[List.length_nil] at this;omega)) ?_
   intro e w9 hG
   obtain⟨k0,k1,o2,l2,q2,o3,l3,q3,k4,o5,l5,q5,o6,l6,q6,k7,o8,l8,q8,tO,l9,tc,rfl,E9,HF⟩:=hG.letters
   clear hG
   have HA9:=hidp (HA2.out.ext (HE0.out.trans E9))
   obtain⟨r0,r1,r2,r3,r4,r5,r6,r7,r8⟩:=HA9.out.zeros
   have z:=box_frozen HA9.out.ans
   have z0:=z 0
   have z1:=z 1
   have z2:=z 2
   have z3:=z 3
   have z4:=z 4
   have z5:=z 5
   have z6:=z 6
   have z7:=z 7
   have z8:=z 8
   have hl9:=HA9.out.lt
   clear z
   go_wp2
   refine bodyPost_ret (v:=.tuple #[.agg #[.int .i64 k0,.int .i64 k1,.slice o2 l2 q2,.slice o3 l3 q3,.int .i64 k4,.slice o5 l5 q5,.slice o6 l6 q6,.int .i64 k7,.slice o8 l8 q8],.slice tO l9 tc,.int .i64 0]) (by simp[results,Try.results75,go_sem,r0,r1,r2,r3,r4,r5,r6,r7,r8]) rfl ?_
   rw[HD.out]
   exact go_fin HF.out hVR (by omega) (hE2.trans (HE0.out.trans E9)) _ _ _ _ _ _ _ _ _
  ·have HD:Hid (dropS c nn ls=(⟨co0,[]⟩,11)):=by
    show _=_
    unfold dropS
    rw[if_neg (by simpa using HW.out),if_pos h3]
   have b3:(c.st != 3)=true:=by simpa using h3
   clear h3
   go_wp2_with fail
   refine(refused_any 11 _).mono ?_
   rintro e w9 ⟨he,E9⟩
   have he':e=.returned (.tuple #[.agg #[.int .i64 0,.int .i64 0,.slice none 0 0,.slice none 0 0,.int .i64 0,.slice none 0 0,.slice none 0 0,.int .i64 0,.slice none 0 0],.slice none 0 0,.int .i64 11]):=he
   subst he'
   clear he
   have E9':Ext w2 w9:=((Ext.refl w2).alloc _).trans E9
   have HA9:=hidp (HA2.out.ext E9')
   obtain⟨r0,r1,r2,r3,r4,r5,r6,r7,r8⟩:=HA9.out.zeros
   have z:=box_frozen HA9.out.ans
   have z0:=z 0
   have z1:=z 1
   have z2:=z 2
   have z3:=z 3
   have z4:=z 4
   have z5:=z 5
   have z6:=z 6
   have z7:=z 7
   have z8:=z 8
   have hl9:=HA9.out.lt
   clear z
   go_wp2
   refine bodyPost_ret (v:=.tuple #[.agg #[.int .i64 0,.int .i64 0,.slice none 0 0,.slice none 0 0,.int .i64 0,.slice none 0 0,.slice none 0 0,.int .i64 0,.slice none 0 0],.slice none 0 0,.int .i64 11]) (by simp[results,Try.results75,go_sem,r0,r1,r2,r3,r4,r5,r6,r7,r8]) rfl ?_
   rw[HD.out]
   exact go_none (by omega) (hE2.trans E9') _ _ _ _ _ _ _ _ _
 ·have HD:Hid (dropS c n ls=(⟨co0,[]⟩,(wrong n ls).1)):=by show _=_;unfold dropS;rw[if_pos hr]
  have b0:((wrong n ls).1 != 0)=true:=by simpa using hr
  clear hr
  go_wp2_with fail
  refine(refused_any (wrong n ls).1 _).mono ?_
  rintro e w9 ⟨he,E9⟩
  have he':e=.returned (.tuple #[.agg #[.int .i64 0,.int .i64 0,.slice none 0 0,.slice none 0 0,.int .i64 0,.slice none 0 0,.slice none 0 0,.int .i64 0,.slice none 0 0],.slice none 0 0,.int .i64 (wrong n ls).1]):=he
  subst he'
  clear he
  have E9':Ext w2 w9:=((Ext.refl w2).alloc _).trans E9
  have HA9:=hidp (HA2.out.ext E9')
  obtain⟨r0,r1,r2,r3,r4,r5,r6,r7,r8⟩:=HA9.out.zeros
  have z:=box_frozen HA9.out.ans
  have z0:=z 0
  have z1:=z 1
  have z2:=z 2
  have z3:=z 3
  have z4:=z 4
  have z5:=z 5
  have z6:=z 6
  have z7:=z 7
  have z8:=z 8
  have hl9:=HA9.out.lt
  clear z
  go_wp2
  refine bodyPost_ret (v:=.tuple #[.agg #[.int .i64 0,.int .i64 0,.slice none 0 0,.slice none 0 0,.int .i64 0,.slice none 0 0,.slice none 0 0,.int .i64 0,.slice none 0 0],.slice none 0 0,.int .i64 (wrong n ls).1]) (by simp[results,Try.results75,go_sem,r0,r1,r2,r3,r4,r5,r6,r7,r8]) rfl ?_
  rw[HD.out]
  exact go_none (by omega) (hE2.trans E9') _ _ _ _ _ _ _ _ _
end Go.Proofs.Ytolclgbpjiokfaa.Ct
namespace Go.Proofs.Ytolclgbpjiokfaa.Ct
open Go.RowKit Go.Deep Stw Stp Tb Rul
def IxI (ps:List Int) (x r:Int):Prop:=(r= -1∧x∉ps)∨∃k:Nat,k<ps.length∧r=k∧ps.erase x=ps.eraseIdx k∧x∈ps
theorem ix_none {ps:List Int} {x:Int} (h:∀j,j<ps.length→ps.getD j 0≠x):x∉ps:=fun hm=>by
 obtain⟨j,hj,e⟩:=List.mem_iff_getElem.1 hm
 exact h j hj (by simp[List.getD_eq_getElem?_getD,hj,e])
theorem ix_some {ps:List Int} {x:Int} {k:Nat} (hk:k<ps.length) (h:∀j,j<k→ps.getD j 0≠x) (e:ps.getD k 0=x):ps.erase x=ps.eraseIdx k∧x∈ps:=by
 induction ps generalizing k with
 | nil=>simp at hk
 | cons y r ih=>
  cases k with
  | zero=>
   have e':y=x:=by simpa using e
   subst e'
   simp
  | succ k=>
   have h0:y≠x:=by simpa using h 0 (by omega)
   obtain⟨i1,i2⟩:=ih (k:=k) (by simpa using hk) (fun j hj=>by simpa using h (j+1) (by omega)) (by simpa using e)
   refine⟨?_,List.mem_cons_of_mem _ i2⟩
   rw[List.erase_cons_tail (by simpa using h0),i1,List.eraseIdx_cons_succ]
set_option maxRecDepth 100000 in
set_option maxHeartbeats 800000 in
theorem Index_any (o:Option Addr) (c:Nat) (ps:List Int) (x:Int) (w:World) (hp:ListAt w o ps) (hl:ps.length≤16777216):
 Calls Try.prog 90 #[.slice o ps.length c,.int .i64 x] w fun e w'=>∃r,e=.returned (.int .i64 r)∧Hid (IxI ps x r)∧Ext w w':=by
 go_enter Try.func90,Try.ntmps90
 go_wp2
 go_loopw [8] (fun iv wd=>∃k:Nat,k≤ps.length∧iv=.int .i64 k∧Hid (∀j,j<k→ps.getD j 0≠x)∧Ext w wd) (fun iv _=>ps.length - (intOf iv).toNat)
 case atStart=>exact⟨0,Nat.zero_le _,rfl,hidp (fun j hj=>by omega),Ext.refl w⟩
 case round=>
  obtain⟨k,hk,rfl,HW,hE⟩:=hrel
  by_cases hlt:k<ps.length
  ·obtain⟨g,off,rfl,hg,hcs⟩:=(hp.ext hE).get hlt
   have i1:(k:Int)<(ps.length:Int):=by omega
   have c0:=hcs k hlt
   obtain⟨y,hy⟩:∃y,ps.getD k 0=y:=⟨_,rfl⟩
   rw[hy] at c0
   have HY:=hidp hy
   clear hcs hy
   by_cases h1:x=y
   ·have HF:Hid (IxI ps x k):=Or.inr ⟨k,hlt,rfl,ix_some hlt HW.out (by rw[HY.out,h1])⟩
    have b1:(x == y)=true:=by simpa using h1
    clear h1
    go_wp2
    go_ret
    exact⟨_,rfl,HF,hE⟩
   ·have HW2:Hid (∀j,j<k+1→ps.getD j 0≠x):=hidp (fun j hj=>by
     by_cases e:j=k
     ·subst e;rw[HY.out];exact fun e=>h1 e.symm
     ·exact HW.out j (by omega))
    have b1:(x == y)=false:=by simpa using h1
    clear h1
    go_wp2
    exact⟨⟨k+1,by omega,by go_num,HW2,hE⟩,by simp[intOf];omega⟩
  ·have HF:Hid (IxI ps x (-1)):=Or.inl ⟨rfl,ix_none (fun j hj=>HW.out j (by omega))⟩
   have i1:¬(k:Int)<(ps.length:Int):=by omega
   clear HW
   go_wp2
   go_ret
   exact⟨_,rfl,HF,hE⟩
theorem step_append_by {ops:Array Oper} {o:Oper} {a:Act} {W W':World} {K:Act→World→Prop} {Q:Exit→Act→World→Prop} {E:Prop} {v v2 v':Value} {t:TypeId} (hgd:o.guard=none) (s x:Operand)
 (ho:o.op=.call {callee:=.builtin .append,args:=#[s,x],argTypes:=#[t,t]}) (hs:a.eval s=v) (hx:a.eval x=v2) (hrun:(Builtin.append_ #[t,t] o.type #[v,v2]).run Try.prog W=.ok v' W') (h:K (a.put o.dst v') W'):
 if Region.wanted o (yielded ops a.tmps)=true then Oper.wp Try.prog o a W K Q else E:=by
 have hw:Region.wanted o (yielded ops a.tmps)=true:=by simp[Region.wanted,hgd]
 rw[if_pos hw]
 unfold Oper.wp execOp
 simp only[ho,resolve,invoke,builtin,Sem.run_bind,Sem.run_pure,Result.andThen_ok,List.map_toArray,List.map_cons,List.map_nil,hs,hx,hrun]
 exact h
theorem own_take {w:World} {base g n c i:Nat} {ps:List Int} (ho:w.ownsRow base 3 1 (.slice (some ⟨g,0,none⟩) n c) n (ps.map (Value.int .i64))) (hi:i≤n):w.ownsRow base 3 1 (.slice (some ⟨g,0,none⟩) i c) i ((ps.take i).map (Value.int .i64)):=by
 have hl:=ho.1
 rw[List.length_map] at hl
 refine⟨by simp;omega,Or.inr ?_⟩
 rcases ho.2 with⟨h,_⟩ | ⟨g',c',cur,h,h2,h3,h4,h5,h6,h7⟩
 ·cases h
 ·cases h
  refine⟨g,c,cur,rfl,h2,h3,by omega,h5,h6,?_⟩
  rw[List.map_take, ←h7,List.take_take]
  congr 1
  omega
theorem own_cell {w:World} {base g n c:Nat} {ps:List Int} (hn:ps.length=n) (ho:w.ownsRow base 3 1 (.slice (some ⟨g,0,none⟩) n c) n (ps.map (Value.int .i64))) {j:Nat} (hj:j<n):w.cell? ⟨g,j,none⟩=some (.int .i64 (ps.getD j 0)):=by
 rw[ho.cellAt j (by omega),List.getElem?_map,List.getElem?_eq_getElem (by omega)]
 simp[List.getD_eq_getElem?_getD,show j<ps.length by omega]
theorem own_clear {w:World} {base g m c:Nat} {z:Value} {ps:List Int} (ho:w.ownsRow base 3 1 (.slice (some ⟨g,0,none⟩) m c) m (ps.map (Value.int .i64))):(w.setCells g m (List.replicate 1 z)).ownsRow base 3 1 (.slice (some ⟨g,0,none⟩) m c) m (ps.map (Value.int .i64))∧w.grownBy (w.setCells g m (List.replicate 1 z)) (some g):=by
 have e:w.setCells g m (List.replicate 1 z)=w.setCell ⟨g,m,none⟩ z:=rfl
 rw[e]
 refine⟨⟨ho.1,?_⟩,⟨rfl,rfl,rfl,by simp,fun k hk hne=>blk_setCell_other _ _ _ _ (fun e=>hne (by rw[e]))⟩⟩
 rcases ho.2 with⟨h,_⟩ | ⟨g',c',cur,h,h2,h3,h4,h5,h6,h7⟩
 ·cases h
 ·cases h
  refine Or.inr ⟨g,c,cur.setIfInBounds m z,rfl,h2,?_,h4,h5,by simpa using h6,?_⟩
  ·unfold World.setCell
   simp[Array.getElem?_modify,h3]
  ·rw[←h7]
   simp only[Nat.mul_one,Array.toList_setIfInBounds]
   rw[List.take_set,List.set_eq_of_length_le (by simp;omega)]
theorem grown_trans {a b c:World} {g:Nat} (h:a.grownBy b (some g)) (k:b.grownBy c (some g)):a.grownBy c (some g):=
 ⟨k.os.trans h.os,k.tape.trans h.tape,k.output.trans h.output,Nat.le_trans h.size k.size,fun j hj hne=>(k.block j (Nat.lt_of_lt_of_le hj h.size) hne).trans (h.block j hj hne)⟩
theorem zero_int (w:World):(zeroValue 3).run Try.prog w=.ok (.int .i64 0) w:=by kernel_rfl
set_option maxRecDepth 100000 in
set_option maxHeartbeats 1600000 in
theorem Delete_any (g m c i:Nat) (base:Nat) (ps:List Int) (w:World) (hn:ps.length=m+1) (ho:w.ownsRow base 3 1 (.slice (some ⟨g,0,none⟩) (m+1) c) (m+1) (ps.map (Value.int .i64))) (hi:i<m+1) (hl:m≤16777216):
 Calls Try.prog 91 #[.slice (some ⟨g,0,none⟩) (m+1) c,.int .i64 i,.int .i64 ((i:Int)+1)] w fun e w'=>e=.returned (.slice (some ⟨g,0,none⟩) m c)∧Hid (w'.ownsRow base 3 1 (.slice (some ⟨g,0,none⟩) m c) m ((ps.eraseIdx i).map (Value.int .i64))∧w.grownBy w' (some g)):=by
 obtain⟨i0,hi0,hz00,hz01,hz02⟩:=info_parts infoI
 have hnc:m+1≤c∧c≤maxLen:=by
  rcases ho.2 with⟨h,_⟩ | ⟨g',c',cur,h,_,_,h4,h5,_⟩
  ·cases h
  ·cases h;exact⟨h4,h5⟩
 obtain⟨hnc,hcm⟩:=hnc
 unfold maxLen at hcm
 have hd:w.drew.ownsRow base 3 1 (.slice (some ⟨g,0,none⟩) (m+1) c) (m+1) (ps.map (Value.int .i64)):=ho
 have he:ps.eraseIdx i=ps.take i++ps.drop (i+1):=List.eraseIdx_eq_take_drop_succ _ _
 have HE:=hidp he
 have HF:Hid (∀w1:World,w1.ownsRow base 3 1 (.slice (some ⟨g,0,none⟩) m c) m ((ps.take i).map (Value.int .i64)++(ps.drop (i+1)).map (Value.int .i64))→w.drew.grownBy w1 (some g)→(∀ty,(Builtin.clear_ #[31] ty #[.slice (some ⟨g,m,none⟩) 1 (c - m)]).run Try.prog w1=.ok (.tuple #[]) (w1.setCells g m (List.replicate 1 (.int .i64 0))))∧Hid ((w1.setCells g m (List.replicate 1 (.int .i64 0))).ownsRow base 3 1 (.slice (some ⟨g,0,none⟩) m c) m ((ps.eraseIdx i).map (Value.int .i64))∧w.grownBy (w1.setCells g m (List.replicate 1 (.int .i64 0))) (some g))):=fun w1 h1 h2=>by
  have h1':w1.ownsRow base 3 1 (.slice (some ⟨g,0,none⟩) m c) m ((ps.eraseIdx i).map (Value.int .i64)):=by rw[HE.out,List.map_append];exact h1
  obtain⟨k1,k2⟩:=own_clear (z:=.int .i64 0) h1'
  refine⟨fun ty=>?_,k1,grown_trans ⟨h2.os,h2.tape,h2.output,h2.size,h2.block⟩ k2⟩
  obtain⟨cur,hb,hcs⟩:∃cur,w1.heap[g]? =some (.cells cur 3 (0,0))∧cur.size=c*1:=by
   rcases h1.2 with⟨h,_⟩ | ⟨g',c',cur,h,_,h3,_,_,h6,_⟩
   ·cases h
   ·cases h;exact⟨cur,h3,h6⟩
  refine Lib.run_clear_slice w1 31 3 ty (.int .i64 0) Try.underlying31 zero_int rfl rfl g m 1 (c - m) (by omega) (fun j hj=>?_) (fun j _=>box_frozen hb _)
  rw[box_cell hb]
  simp
  omega
 clear he
 by_cases hc:i+1<c
 ·obtain⟨w1,hrun,hown1,hg1⟩:=run_append_fits (P:=Try.prog) w.drew base 31 31 3 i0 1 Try.underlying31 hi0 hz01 g i c ((ps.take i).map (Value.int .i64)) (own_take hd (by omega)) ⟨g,i+1,none⟩ (m - i) (c - (i+1)) ((ps.drop (i+1)).map (Value.int .i64)) (by simp;omega) (fun j u hj=>by
   have hjl:j<ps.length - (i+1):=by have:=(List.getElem?_eq_some_iff.1 hj).1;simpa using this
   rw[Addr.add_mid,own_cell hn hd (by omega), ←hj,List.getElem?_map,List.getElem?_drop,List.getElem?_eq_getElem (by omega)]
   simp[List.getD_eq_getElem?_getD,show i+1+j<ps.length by omega]) (by intro u hu;obtain⟨x,_,rfl⟩:=List.mem_map.1 hu;rfl) (by omega)
  rw[show i+(m - i)=m by omega] at hrun hown1
  obtain⟨hcl,HR⟩:=HF.out w1 hown1 hg1
  have hcl':=hcl 0
  clear hown1 hg1 HF ho hd HE hcl hz00 hz01 hz02 hi0
  have i1:(i:Int)<(m:Int)+1:=by omega
  go_enter Try.func91,Try.ntmps91
  go_wp2
  have i2:i≤c:=by omega
  have i3:i≤m:=by omega
  have i4:(0:Int)≤(i:Int)+1:=by omega
  have i5:¬c=i+1:=by omega
  have i6:¬c=m:=by omega
  go_region_law
   (first | (refine step_append_by ?_ (.tmp 22) (.tmp 25) ?_ ?_ ?_ hrun ?_
             ·rfl
             ·rfl
             ·rfl
             ·rfl) | fail)
  all_goals
   go_wp2
   go_ret
   exact⟨rfl,HR⟩
 ·have hic:c=i+1:=by omega
  have him:m=i:=by omega
  obtain⟨w1,hrun,hown1,hg1⟩:=run_append_fits (P:=Try.prog) w.drew base 31 31 3 i0 1 Try.underlying31 hi0 hz01 g i c ((ps.take i).map (Value.int .i64)) (own_take hd (by omega)) ⟨g,0,none⟩ 0 0 [] (by simp) (fun j u hj=>by simp at hj) (by intro u hu;simp at hu) (by omega)
  have hown1':w1.ownsRow base 3 1 (.slice (some ⟨g,0,none⟩) m c) m ((ps.take i).map (Value.int .i64)++(ps.drop (i+1)).map (Value.int .i64)):=by
   rw[List.drop_eq_nil_of_le (by omega),List.map_nil,him]
   simpa using hown1
  obtain⟨hcl,HR⟩:=HF.out w1 hown1' hg1
  subst him
  subst hic
  have hrun':(Builtin.append_ #[31,31] 31 #[.slice (some ⟨g,0,none⟩) m (m+1),.slice (some ⟨g,0,none⟩) 0 0]).run Try.prog w.drew=.ok (.slice (some ⟨g,0,none⟩) m (m+1)) w1:=hrun
  have hcl':=hcl 0
  rw[show m+1 - m=1 by omega] at hcl'
  clear hown1 hown1' hg1 HF ho hd HE hcl hz00 hz01 hz02 hi0 hrun hc
  have i2:m≤m+1:=by omega
  have i4:(0:Int)≤(m:Int)+1:=by omega
  have i7:(m:Int)≤(m:Int)+1:=by omega
  go_enter Try.func91,Try.ntmps91
  go_wp2
  go_region_law
   (first | (refine step_append_by ?_ (.tmp 22) (.tmp 25) ?_ ?_ ?_ hrun' ?_
             ·rfl
             ·rfl
             ·rfl
             ·rfl) | fail)
  all_goals
   go_wp2
   go_ret
   exact⟨rfl,HR⟩
end Go.Proofs.Ytolclgbpjiokfaa.Ct
namespace Go.Proofs.Ytolclgbpjiokfaa.Ct
open Go.RowKit Go.Deep Stw Stp Tb Rul
theorem CSt.delW {B:Nat} {X:Nat→Prop} {P n g1 m cc:Nat} {w0 w w':World} {g:Cg} {a:CA} {tv:Value} {TV:List Value} {L:List Int} {k:Nat} (h:CSt B X P w0 w g a n (.slice (some ⟨g1,0,none⟩) k cc) tv TV) (hL:L.length=m)
 (hown:w'.ownsRow w0.heap.size 3 1 (.slice (some ⟨g1,0,none⟩) m cc) m (L.map (Value.int .i64))) (hg:w.grownBy w' (some g1)):
 w'.cell? ⟨P,8,none⟩=some (.slice (some ⟨g1,0,none⟩) k cc)∧w'.frozen? ⟨P,8,none⟩=false∧CSt B X P w0 (w'.setCell ⟨P,8,none⟩ (.slice (some ⟨g1,0,none⟩) m cc)) ⟨⟨g.c.st,g.c.now,g.c.nxt,g.c.num,L⟩,g.out⟩ a n (.slice (some ⟨g1,0,none⟩) m cc) tv TV:=by
 have hP:=h.row.lt
 have hs:=hg.size
 have gP:g1≠P:=fun e=>h.wP (by rw[e];rfl)
 have hr:=h.row.of_block (hg.block P hP (fun e=>gP (by injection e with e;exact e.symm)))
 have hK:∀b,b<w.heap.size→b≠P→b≠g1→(w'.setCell ⟨P,8,none⟩ (.slice (some ⟨g1,0,none⟩) m cc)).heap[b]? =w.heap[b]?:=fun b hlt hb hne=>
  (blk_setCell_other _ _ _ _ (by simpa using hb)).trans (hg.block b hlt (fun e=>hne (by injection e)))
 have hne:∀b,Qn P tv (.slice (some ⟨g1,0,none⟩) k cc) b→b≠g1:=fun b hb e=>hb.2.1 (by rw[e];rfl)
 refine⟨hr.cell (i:=8) (by omega),hr.frozen 8,⟨((hr.set 8 _).congr (fun j _=>(getD_put (by simp[chL]) j).trans rfl)),?_,?_,fun e=>gP (by simpa[Value.ownBlock] using e),fun b e=>h.apart b e,h.lt.mono (fun b hb hlt=>⟨⟨⟨hb.1.1,hb.1.2.1,hb.1.2.2⟩,hb.2⟩,by simp;omega,hK b hlt (by have:=hb.1.1;omega) (hne b hb.1)⟩),?_,h.hP,h.hB,h.hn,h.hx⟩⟩
 ·have hb1:(w'.setCell ⟨P,8,none⟩ (.slice (some ⟨g1,0,none⟩) m cc)).heap[g1]? =w'.heap[g1]?:=blk_setCell_other _ _ _ _ (by simpa using gP)
  rw[show(⟨⟨g.c.st,g.c.now,g.c.nxt,g.c.num,L⟩,g.out⟩:Cg).c.wts.length=m from hL]
  refine⟨hown.1,?_⟩
  rcases hown.2 with⟨h1,h2⟩ | ⟨b,cap,cur,e1,e2,e3,e4⟩
  ·cases h1
  ·cases e1
   exact Or.inr ⟨g1,cc,cur,rfl,e2,hb1.trans e3,e4⟩
 ·refine⟨h.ownT.1,?_⟩
  rcases h.ownT.2 with h2 | ⟨b,cap,cur,e1,e2,e3,e4⟩
  ·exact Or.inl h2
  ·exact Or.inr ⟨b,cap,cur,e1,e2,(hK b (h.ownT.lt b (by rw[e1];rfl)).2 (by omega) (fun e=>h.apart g1 rfl (by rw[e1,e];rfl))).trans e3,e4⟩
 ·exact(Below.grown h.bel hg h.bel.size (fun j hj=>(h.ownW.lt j hj).1)).setCell (by simpa using h.hP) _
set_option maxRecDepth 100000 in
set_option maxHeartbeats 4000000 in
theorem Back_any (c:Co) (a:CA) (n num:Int) (ao:Option Addr) (len cap:Nat) (ls:List Lk) (w:World) (h:CoAt w c a) (hok:CoOk c) (hlen:ls.length=len) (hl:NetAt w ao ls) (hx:len≤9223372036854775807):
 Calls Try.prog 71 #[cvl c a,.agg #[.int .i64 n,.slice ao len cap],.int .i64 num] w fun e w'=>GoOut w.heap.size w (backS c n ls num).1 (backS c n ls num).2 e w':=by
 have HA:=hidp (Aw_ab w c a n (.slice ao len cap))
 have hE0:=Aw_ext w c a n (.slice ao len cap)
 unfold cvl
 go_enter Try.func71,Try.ntmps71
 go_wp2_with fail
 unfold Aw at HA hE0
 obtain⟨W1,hW1⟩:∃W1,W1=((w.alloc (.cells #[.int .i64 c.st,.int .i64 c.now.v,.slice a.n.fo c.now.fs.length a.n.fc,.slice a.n.qo c.now.ps.length a.n.qc,.int .i64 c.nxt.v,.slice a.x.fo c.nxt.fs.length a.x.fc,.slice a.x.qo c.nxt.ps.length a.x.qc,.int .i64 c.num,.slice a.wo c.wts.length a.wc] 33)).alloc (.cells #[.int .i64 n,.slice ao len cap] 24)).alloc (.cells #[.int .i64 0,.int .i64 0,.slice none 0 0,.slice none 0 0,.int .i64 0,.slice none 0 0,.slice none 0 0,.int .i64 0,.slice none 0 0] 33):=⟨_,rfl⟩
 rw[←hW1] at HA hE0 ⊢
 clear hW1
 refine(Wrong_any n ao len cap ls W1 hlen (hl.ext hE0) hx).mono ?_
 rintro e w2 ⟨rfl,E2⟩
 have HA2:=hidp (HA.out.ext E2)
 have hl2:=HA2.out.lt
 have hE2:=hE0.trans E2
 have hl20:w.heap.size<w2.heap.size:=by omega
 have hl21:w.heap.size+1<w2.heap.size:=by omega
 by_cases hr:(wrong n ls).1=0
 ·have hright:=right_of hr
  have hbd:=hright.bounds
  obtain⟨nn,rfl⟩:=Int.eq_ofNat_of_zero_le (show 0≤n by omega)
  have hn8:nn≤8:=by omega
  have HW:=hidp hr
  rw[hright.wrong]
  clear hr hright hbd
  have c8:w2.cell? ⟨w.heap.size,8,none⟩=some (.slice a.wo c.wts.length a.wc):=World.rowIs.cell HA2.out.box (i:=8) (by omega)
  go_wp2_with fail
  refine Calls.mono (Index_any a.wo a.wc c.wts num _ (h.hw.ext (hE2.alloc _)) (Nat.le_trans hok.w (by decide))) ?_
  rintro e w3 ⟨r,rfl,HI,E3⟩
  have E3':Ext w2 w3:=((Ext.refl w2).alloc _).trans E3
  have HA3:=hidp (HA2.out.ext E3')
  have hl3:=HA3.out.lt
  have hl30:w.heap.size<w3.heap.size:=by omega
  have hl31:w.heap.size+1<w3.heap.size:=by omega
  clear c8
  rcases HI.out with⟨rfl,hno⟩ | ⟨k,hk,rfl,her,hmem⟩
  ·have HD:Hid (backS c nn ls num=(⟨co0,[]⟩,6)):=by
    show _=_
    unfold backS
    rw[if_neg (by simpa using HW.out),if_pos hno]
   clear hno HI
   go_wp2_with fail
   refine(refused_any 6 _).mono ?_
   rintro e w9 ⟨he,E9⟩
   have he':e=.returned (.tuple #[.agg #[.int .i64 0,.int .i64 0,.slice none 0 0,.slice none 0 0,.int .i64 0,.slice none 0 0,.slice none 0 0,.int .i64 0,.slice none 0 0],.slice none 0 0,.int .i64 6]):=he
   subst he'
   clear he
   have E9':Ext w2 w9:=E3'.trans E9
   have HA9:=hidp (HA2.out.ext E9')
   obtain⟨r0,r1,r2,r3,r4,r5,r6,r7,r8⟩:=HA9.out.zeros
   have z:=box_frozen HA9.out.ans
   have z0:=z 0
   have z1:=z 1
   have z2:=z 2
   have z3:=z 3
   have z4:=z 4
   have z5:=z 5
   have z6:=z 6
   have z7:=z 7
   have z8:=z 8
   have hl9:=HA9.out.lt
   clear z
   go_wp2
   refine bodyPost_ret (v:=.tuple #[.agg #[.int .i64 0,.int .i64 0,.slice none 0 0,.slice none 0 0,.int .i64 0,.slice none 0 0,.slice none 0 0,.int .i64 0,.slice none 0 0],.slice none 0 0,.int .i64 6]) (by simp[results,Try.results71,go_sem,r0,r1,r2,r3,r4,r5,r6,r7,r8]) rfl ?_
   rw[HD.out]
   exact go_none (by omega) (hE2.trans E9') _ _ _ _ _ _ _ _ _
  ·have HD:Hid (backS c nn ls num=(goS nn ⟨⟨c.st,c.now,c.nxt,c.num,c.wts.eraseIdx k⟩,[]⟩,0)):=by
    show _=_
    unfold backS
    rw[if_neg (by simpa using HW.out),if_neg (by simpa using hmem),her]
    rfl
   clear her hmem HI
   have HCH:=hidp (changeOf_any c a nn ao len cap w3 (h.ext (hE2.trans E3')) hok)
   have c0:w3.cell? ⟨w.heap.size,0,none⟩=some (.int .i64 c.st):=World.rowIs.cell HA3.out.box (i:=0) (by omega)
   have c1:w3.cell? ⟨w.heap.size,1,none⟩=some (.int .i64 c.now.v):=World.rowIs.cell HA3.out.box (i:=1) (by omega)
   have c2:w3.cell? ⟨w.heap.size,2,none⟩=some (.slice a.n.fo c.now.fs.length a.n.fc):=World.rowIs.cell HA3.out.box (i:=2) (by omega)
   have c3:w3.cell? ⟨w.heap.size,3,none⟩=some (.slice a.n.qo c.now.ps.length a.n.qc):=World.rowIs.cell HA3.out.box (i:=3) (by omega)
   have c4:w3.cell? ⟨w.heap.size,4,none⟩=some (.int .i64 c.nxt.v):=World.rowIs.cell HA3.out.box (i:=4) (by omega)
   have c5:w3.cell? ⟨w.heap.size,5,none⟩=some (.slice a.x.fo c.nxt.fs.length a.x.fc):=World.rowIs.cell HA3.out.box (i:=5) (by omega)
   have c6:w3.cell? ⟨w.heap.size,6,none⟩=some (.slice a.x.qo c.nxt.ps.length a.x.qc):=World.rowIs.cell HA3.out.box (i:=6) (by omega)
   have c7:w3.cell? ⟨w.heap.size,7,none⟩=some (.int .i64 c.num):=World.rowIs.cell HA3.out.box (i:=7) (by omega)
   have c8:w3.cell? ⟨w.heap.size,8,none⟩=some (.slice a.wo c.wts.length a.wc):=World.rowIs.cell HA3.out.box (i:=8) (by omega)
   have n0:=HA3.out.n0
   have n1:=HA3.out.n1
   unfold cvl at HCH
   have i0:¬(k:Int)<0:=by omega
   go_wp2_with fail
   clear c0 c1 c2 c3 c4 c5 c6 c7 c8 n0 n1
   refine Calls.mono HCH.out ?_
   rintro e w4 ⟨P,w0,a3,wv,rfl,hC3,E0⟩
   obtain⟨m,hm⟩:∃m,c.wts.length=m+1:=⟨c.wts.length - 1,by omega⟩
   obtain⟨g,cc,hwv,hg1,hg2⟩:=hC3.ownW.form (by show 0<c.wts.length;omega)
   have hwv':wv=.slice (some ⟨g,0,none⟩) (m+1) cc:=by rw[hwv,hm]
   subst hwv'
   have HOW:Hid (w4.ownsRow w0.heap.size 3 1 (.slice (some ⟨g,0,none⟩) (m+1) cc) (m+1) (c.wts.map (Value.int .i64))):=by have:=hC3.ownW;simp only[hm] at this;exact this
   have HC3:=hidp hC3
   have hPl:=hC3.row.lt
   have s8:w4.cell? ⟨P,8,none⟩=some (.slice (some ⟨g,0,none⟩) (m+1) cc):=hC3.row.cell (i:=8) (by omega)
   have HE0:=hidp (E3'.trans E0)
   have hkm:k<m+1:=by omega
   have hml:m≤16777216:=by have:=hok.w;omega
   have HM:=hidp hm
   have i1:(k:Int)+1≤9223372036854775807:=by omega
   clear hC3 HCH hwv hm
   go_wp2_with fail
   refine Calls.mono (Delete_any g m cc k w0.heap.size c.wts w4 HM.out HOW.out hkm hml) ?_
   rintro e w5 ⟨rfl,HDL⟩
   have H5:=hidp (HC3.out.delW (L:=c.wts.eraseIdx k) (m:=m) (g1:=g) (cc:=cc) (by rw[List.length_eraseIdx_of_lt (by omega),HM.out];rfl) HDL.out.1 HDL.out.2)
   have q8:=H5.out.1
   have z8:=H5.out.2.1
   have hP5:P<w5.heap.size:=by have:=HDL.out.2.size;omega
   clear HDL HOW s8
   go_wp2_with fail
   obtain⟨w6,hw6⟩:∃w6,w6=w5.setCell ⟨P,8,none⟩ (.slice (some ⟨g,0,none⟩) m cc):=⟨_,rfl⟩
   have HC6:Hid (CSt w3.heap.size (fun _=>True) P w0 w6 ⟨⟨c.st,c.now,c.nxt,c.num,c.wts.eraseIdx k⟩,[]⟩ a3 nn (.slice (some ⟨g,0,none⟩) m cc) (.slice none 0 0) []):=by rw[hw6];exact H5.out.2.2
   rw[←hw6]
   clear hw6 H5 q8 z8
   refine Calls.mono (goOn_any w3.heap.size P nn w0 w6 _ a3 _ _ [] HC6.out hn8 hok.n hok.x (by have h2:=hok.w;exact Nat.le_trans (List.length_eraseIdx_le _ _) (Nat.le_trans h2 (by decide))) (by simp)) ?_
   intro e w9 hG
   obtain⟨k0,k1,o2,l2,q2,o3,l3,q3,k4,o5,l5,q5,o6,l6,q6,k7,o8,l8,q8,tO,l9,tc,rfl,E9,HF⟩:=hG.letters
   clear hG
   have HA9:=hidp (HA2.out.ext (HE0.out.trans E9))
   obtain⟨r0,r1,r2,r3,r4,r5,r6,r7,r8⟩:=HA9.out.zeros
   have z:=box_frozen HA9.out.ans
   have z0:=z 0
   have z1:=z 1
   have z2:=z 2
   have z3:=z 3
   have z4:=z 4
   have z5:=z 5
   have z6:=z 6
   have z7:=z 7
   have z8:=z 8
   have hl9:=HA9.out.lt
   clear z
   go_wp2
   refine bodyPost_ret (v:=.tuple #[.agg #[.int .i64 k0,.int .i64 k1,.slice o2 l2 q2,.slice o3 l3 q3,.int .i64 k4,.slice o5 l5 q5,.slice o6 l6 q6,.int .i64 k7,.slice o8 l8 q8],.slice tO l9 tc,.int .i64 0]) (by simp[results,Try.results71,go_sem,r0,r1,r2,r3,r4,r5,r6,r7,r8]) rfl ?_
   rw[HD.out]
   exact go_fin HF.out (by omega) (by omega) (hE2.trans (HE0.out.trans E9)) _ _ _ _ _ _ _ _ _
 ·have HD:Hid (backS c n ls num=(⟨co0,[]⟩,(wrong n ls).1)):=by show _=_;unfold backS;rw[if_pos hr]
  have b0:((wrong n ls).1 != 0)=true:=by simpa using hr
  clear hr
  go_wp2_with fail
  refine(refused_any (wrong n ls).1 _).mono ?_
  rintro e w9 ⟨he,E9⟩
  have he':e=.returned (.tuple #[.agg #[.int .i64 0,.int .i64 0,.slice none 0 0,.slice none 0 0,.int .i64 0,.slice none 0 0,.slice none 0 0,.int .i64 0,.slice none 0 0],.slice none 0 0,.int .i64 (wrong n ls).1]):=he
  subst he'
  clear he
  have E9':Ext w2 w9:=((Ext.refl w2).alloc _).trans E9
  have HA9:=hidp (HA2.out.ext E9')
  obtain⟨r0,r1,r2,r3,r4,r5,r6,r7,r8⟩:=HA9.out.zeros
  have z:=box_frozen HA9.out.ans
  have z0:=z 0
  have z1:=z 1
  have z2:=z 2
  have z3:=z 3
  have z4:=z 4
  have z5:=z 5
  have z6:=z 6
  have z7:=z 7
  have z8:=z 8
  have hl9:=HA9.out.lt
  clear z
  go_wp2
  refine bodyPost_ret (v:=.tuple #[.agg #[.int .i64 0,.int .i64 0,.slice none 0 0,.slice none 0 0,.int .i64 0,.slice none 0 0,.slice none 0 0,.int .i64 0,.slice none 0 0],.slice none 0 0,.int .i64 (wrong n ls).1]) (by simp[results,Try.results71,go_sem,r0,r1,r2,r3,r4,r5,r6,r7,r8]) rfl ?_
  rw[HD.out]
  exact go_none (by omega) (hE2.trans E9') _ _ _ _ _ _ _ _ _
end Go.Proofs.Ytolclgbpjiokfaa.Ct
