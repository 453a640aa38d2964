import Derived.Test.YthkpbefnkmmaiaaGreate47
set_option maxRecDepth 100000
set_option maxHeartbeats 4000000
namespace Go.Proofs.YthkpbefnkmmaiaaGreat
open Go.Proofs.Tryz
namespace Rm
open Go.RowKit Go.Deep Go.Maps Go.Sort Stw Stp Tb Rul Ct
theorem z0x(n len cap:Nat)(ls:List Lk)(ao:Option Addr)(t:Nat)(w0:World)(P:Nat)(tg:Nat->Nat)(w:World)(W:Wd)(a:CA)(sb ob bb:Nat)(kv lv:Value)(i:Nat)(fo:Option Addr)(fl fc:Nat)(h:Q0 39 [] w0 P n tg w W a sb ob bb kv lv)(hwn:a.wo=none->a.wc=0)(hI:Inv n ls t W)(hm:¬40<=W.pk.length)(hc:i<W.co.now.fs.length\/i<W.co.Qd.fs.length):
 Calls prog 13 #[.pointer (some ⟨P,0,none⟩),.agg #[.int .i64 n,.slice ao len cap],.agg #[.int .i64 4,.int .i64 i,.slice fo fl fc]] w fun e w'=>ROut w0 P n tg w sb ob bb (hapB W i) e w':=by
 obtain⟨i0,hi0,hz00,hz01,hz02⟩:=info_parts infoPk
 obtain⟨xF,hfr,hw⟩:∃x,frm W.co (i:Int)=some x/\((i<W.co.now.fs.length/\¬i<W.co.Qd.fs.length/\x=(W.co.now.fs.getD i Fw.f0).fr)\/(¬i<W.co.now.fs.length/\i<W.co.Qd.fs.length/\x=(W.co.Qd.fs.getD i Fw.f0).fr)\/(i<W.co.now.fs.length/\i<W.co.Qd.fs.length/\x=(W.co.Qd.fs.getD i Fw.f0).fr)):=by
  by_cases hX:i<W.co.Qd.fs.length
  ·have e:frm W.co (i:Int)=some (W.co.Qd.fs.getD i Fw.f0).fr:=by rw[frm_nxt (c:=W.co) (f:=(i:Int)) ⟨by omega,by omega⟩,Int.toNat_natCast]
   by_cases hN:i<W.co.now.fs.length
   ·exact⟨_,e,Or.inr (Or.inr ⟨hN,hX,rfl⟩)⟩
   ·exact⟨_,e,Or.inr (Or.inl ⟨hN,hX,rfl⟩)⟩
  ·have hN:=hc.resolve_right hX
   have e:frm W.co (i:Int)=some (W.co.now.fs.getD i Fw.f0).fr:=by rw[frm_now (c:=W.co) (f:=(i:Int)) (fun e=>hX (by omega)) ⟨by omega,by omega⟩,Int.toNat_natCast]
   exact⟨_,e,Or.inl ⟨hN,hX,rfl⟩⟩
 have HDx:=Qa (z4v hm hfr)
 obtain⟨hx0,hx1,_,_⟩:=frm_some hI hfr
 clear hc hfr
 have HX:=Qa (And.intro hx0 hx1)
 have ix:¬xF<0:=by omega
 have b9:decide (xF<0)=false:=by simpa using hx0
 have hn8:=hI.n8.2
 have HW:=Qa h
 have HI:=Qa hI
 have hP:=h.row.lt
 have HWN:=Qa hwn
 obtain⟨xs,hrw,hpk⟩:=h.pks
 obtain⟨ko,kc,rfl⟩:=hrw.rw.form
 have HRW:=Qa hrw
 have HPK:=Qa hpk
 obtain⟨B,hB,EB,HBS,hb0,hb1,hb2⟩:=box3 w P n ao len cap 4 (i:Int) fo fl fc
 have HS:Hid (∀V,Ext B V->cl V w.heap.size 0 (.pointer (some ⟨P,0,none⟩))/\cl V (w.heap.size+1+1) 1 (.int .i64 i)/\cl V P 2 (.slice a.n.fo W.co.now.fs.length a.n.fc)/\cl V P 5 (.slice a.x.fo W.co.Qd.fs.length a.x.fc)/\cl V P 9 (.slice (some ⟨sb,0,none⟩) n n)/\cl V P 12 (.slice ko W.pk.length kc)):=fun V hV=>by
  have hr:=HW.out.row.of_block (Below.block (EB.trans hV) P hP)
  have:=HBS.out
  exact⟨(hV.cells.1 _ _ (by omega)).trans (Qb hb0 0),(hV.cells.1 _ _ (by omega)).trans (Qb hb2 1),hr.cell (i:=2) (by simp),hr.cell (i:=5) (by simp),hr.cell (i:=9) (by simp),hr.cell (i:=12) (by simp)⟩
 have HTP:Hid (∀V,Ext B V->cl V (w.heap.size+1) 0 (.int .i64 n)/\cl V w.heap.size 0 (.pointer (some ⟨P,0,none⟩))/\cl V P 12 (.slice ko W.pk.length kc)):=fun V hV=>by
  have:=HBS.out
  exact⟨(hV.cells.1 _ _ (by omega)).trans (Qb hb1 0),(HS.out V hV).1,(HS.out V hV).2.2.2.2.2⟩
 have HPB:=hpb5 hP HBS HW.out
 clear hb0 hb1 h hI hwn hrw hpk
 obtain⟨p0,_,p12⟩:=HTP.out B (Ext.refl B)
 obtain⟨e0,_,_,_,_,_⟩:=HS.out B (Ext.refl B)
 obtain⟨lP,lw,lt1,lt2,lsb⟩:=HPB.out B (Ext.refl B)
 have i1:¬(40:Int)<=(W.pk.length:Int):=by omega
 have b0:decide ((0:Int)<=(i:Int))=true:=dtt (by omega)
 have j0:(0:Int)<=(i:Int):=by omega
 rcases hw with⟨hN,hX,hxF⟩ | ⟨hN,hX,hxF⟩ | ⟨hN,hX,hxF⟩
 focus
  have jN:(i:Int)<(W.co.now.fs.length:Int):=by omega
  have bN:decide (i<W.co.now.fs.length)=true:=dtt hN
  have jX:¬(i:Int)<(W.co.Qd.fs.length:Int):=by omega
  have bX:decide (i<W.co.Qd.fs.length)=false:=dff hX
  obtain⟨gN,oN,hNo,gNl,cN⟩:=q2o HW.out.co.at.hn.hf hN
  rw[<-hxF] at cN
  have HXF:=Qa hxF
  clear hxF
  have HQ:Hid (∀V,Ext B V->cl V w.heap.size 0 (.pointer (some ⟨P,0,none⟩))/\cl V (w.heap.size+1+1) 1 (.int .i64 i)/\cl V P 2 (.slice (some ⟨gN,oN,none⟩) W.co.now.fs.length a.n.fc)/\cl V P 5 (.slice a.x.fo W.co.Qd.fs.length a.x.fc)/\cl V P 9 (.slice (some ⟨sb,0,none⟩) n n)/\cl V P 12 (.slice ko W.pk.length kc)/\cl V gN (oN+i*4) (.int .i64 xF)):=fun V hV=>by
   obtain⟨z0,z1,z2,z3,z4,z5⟩:=HS.out V hV
   exact⟨z0,z1,by rw[<-hNo];exact z2,z3,z4,z5,((EB.trans hV).cells.1 _ _ gNl).trans cN⟩
  have HLG:Hid (∀V,Ext B V->True/\gN<V.heap.size):=fun V hV=>by
   have:=(EB.trans hV).size
   exact⟨trivial,by omega⟩
  go_enter func13,ntmps13
  go_upto_region 36 with fail
  rw[<-hB]
  clear hB hb2
  go_upto_region 39 with fail
  obtain⟨_,lgN⟩:=HLG.out B (Ext.refl B)
  have hdq:Ext B B.drew:=(Ext.refl B).drew
  go_region_held3 (fun V=>cl V w.heap.size 0 (.pointer (some ⟨P,0,none⟩))/\cl V (w.heap.size+1+1) 1 (.int .i64 i)/\cl V P 2 (.slice (some ⟨gN,oN,none⟩) W.co.now.fs.length a.n.fc)/\cl V P 5 (.slice a.x.fo W.co.Qd.fs.length a.x.fc)/\cl V P 9 (.slice (some ⟨sb,0,none⟩) n n)/\cl V P 12 (.slice ko W.pk.length kc)/\cl V gN (oN+i*4) (.int .i64 xF))
   (first | (with_reducible exact HQ.out _ hdq) | fail)
   (fail)
  have EB2:Ext B B.drew:=hdq
  clear hdq lP lw lt1 lt2 lsb lgN
  generalize B.drew=B2 at EB2
  obtain⟨lP,lw,lt1,lt2,lsb⟩:=HPB.out B2 EB2
  go_upto_region 40 with fail
  obtain⟨_,lgN⟩:=HLG.out B2 EB2
  have hdq:Ext B B2.drew:=EB2.drew
  go_region_held3 (fun V=>cl V w.heap.size 0 (.pointer (some ⟨P,0,none⟩))/\cl V (w.heap.size+1+1) 1 (.int .i64 i)/\cl V P 2 (.slice (some ⟨gN,oN,none⟩) W.co.now.fs.length a.n.fc)/\cl V P 5 (.slice a.x.fo W.co.Qd.fs.length a.x.fc)/\cl V P 9 (.slice (some ⟨sb,0,none⟩) n n)/\cl V P 12 (.slice ko W.pk.length kc)/\cl V gN (oN+i*4) (.int .i64 xF))
   (first | (with_reducible exact HQ.out _ hdq) | fail)
   (fail)
  have EB3:Ext B B2.drew:=hdq
  clear hdq lP lw lt1 lt2 lsb lgN
  generalize B2.drew=B3 at EB3
  obtain⟨lP,lw,lt1,lt2,lsb⟩:=HPB.out B3 EB3
  go_upto_region 41 with fail
  obtain⟨_,lgN⟩:=HLG.out B3 EB3
  have hdq:Ext B B3.drew:=EB3.drew
  go_region_held3 (fun V=>cl V w.heap.size 0 (.pointer (some ⟨P,0,none⟩))/\cl V (w.heap.size+1+1) 1 (.int .i64 i)/\cl V P 2 (.slice (some ⟨gN,oN,none⟩) W.co.now.fs.length a.n.fc)/\cl V P 5 (.slice a.x.fo W.co.Qd.fs.length a.x.fc)/\cl V P 9 (.slice (some ⟨sb,0,none⟩) n n)/\cl V P 12 (.slice ko W.pk.length kc)/\cl V gN (oN+i*4) (.int .i64 xF))
   (first | (with_reducible exact HQ.out _ hdq) | fail)
   (fail)
  have EBZ:Ext B B3.drew:=hdq
  clear hdq lP lw lt1 lt2 lsb lgN
  generalize B3.drew=B4 at EBZ
  obtain⟨lP,lw,lt1,lt2,lsb⟩:=HPB.out B4 EBZ
  clear p0 p12 e0
  obtain⟨p0,e0,p12⟩:=HTP.out B4 EBZ
  go_upto_region 46 with fail
 rotate_left
 focus
  have jN:¬(i:Int)<(W.co.now.fs.length:Int):=by omega
  have bN:decide (i<W.co.now.fs.length)=false:=dff hN
  have jX:(i:Int)<(W.co.Qd.fs.length:Int):=by omega
  have bX:decide (i<W.co.Qd.fs.length)=true:=dtt hX
  obtain⟨gX,oX,hXo,gXl,cX⟩:=q2o HW.out.co.at.hx.hf hX
  rw[<-hxF] at cX
  have HXF:=Qa hxF
  clear hxF
  have HQ:Hid (∀V,Ext B V->cl V w.heap.size 0 (.pointer (some ⟨P,0,none⟩))/\cl V (w.heap.size+1+1) 1 (.int .i64 i)/\cl V P 2 (.slice a.n.fo W.co.now.fs.length a.n.fc)/\cl V P 5 (.slice (some ⟨gX,oX,none⟩) W.co.Qd.fs.length a.x.fc)/\cl V P 9 (.slice (some ⟨sb,0,none⟩) n n)/\cl V P 12 (.slice ko W.pk.length kc)/\cl V gX (oX+i*4) (.int .i64 xF)):=fun V hV=>by
   obtain⟨z0,z1,z2,z3,z4,z5⟩:=HS.out V hV
   exact⟨z0,z1,z2,by rw[<-hXo];exact z3,z4,z5,((EB.trans hV).cells.1 _ _ gXl).trans cX⟩
  have HLG:Hid (∀V,Ext B V->True/\gX<V.heap.size):=fun V hV=>by
   have:=(EB.trans hV).size
   exact⟨trivial,by omega⟩
  go_enter func13,ntmps13
  go_upto_region 36 with fail
  rw[<-hB]
  clear hB hb2
  go_upto_region 39 with fail
  obtain⟨_,lgX⟩:=HLG.out B (Ext.refl B)
  have hdq:Ext B B.drew:=(Ext.refl B).drew
  go_region_held3 (fun V=>cl V w.heap.size 0 (.pointer (some ⟨P,0,none⟩))/\cl V (w.heap.size+1+1) 1 (.int .i64 i)/\cl V P 2 (.slice a.n.fo W.co.now.fs.length a.n.fc)/\cl V P 5 (.slice (some ⟨gX,oX,none⟩) W.co.Qd.fs.length a.x.fc)/\cl V P 9 (.slice (some ⟨sb,0,none⟩) n n)/\cl V P 12 (.slice ko W.pk.length kc)/\cl V gX (oX+i*4) (.int .i64 xF))
   (first | (with_reducible exact HQ.out _ hdq) | fail)
   (fail)
  have EB2:Ext B B.drew:=hdq
  clear hdq lP lw lt1 lt2 lsb lgX
  generalize B.drew=B2 at EB2
  obtain⟨lP,lw,lt1,lt2,lsb⟩:=HPB.out B2 EB2
  go_upto_region 41 with fail
  obtain⟨_,lgX⟩:=HLG.out B2 EB2
  have hdq:Ext B B2.drew:=EB2.drew
  go_region_held3 (fun V=>cl V w.heap.size 0 (.pointer (some ⟨P,0,none⟩))/\cl V (w.heap.size+1+1) 1 (.int .i64 i)/\cl V P 2 (.slice a.n.fo W.co.now.fs.length a.n.fc)/\cl V P 5 (.slice (some ⟨gX,oX,none⟩) W.co.Qd.fs.length a.x.fc)/\cl V P 9 (.slice (some ⟨sb,0,none⟩) n n)/\cl V P 12 (.slice ko W.pk.length kc)/\cl V gX (oX+i*4) (.int .i64 xF))
   (first | (with_reducible exact HQ.out _ hdq) | fail)
   (fail)
  have EB3:Ext B B2.drew:=hdq
  clear hdq lP lw lt1 lt2 lsb lgX
  generalize B2.drew=B3 at EB3
  obtain⟨lP,lw,lt1,lt2,lsb⟩:=HPB.out B3 EB3
  go_upto_region 42 with fail
  obtain⟨_,lgX⟩:=HLG.out B3 EB3
  have hdq:Ext B B3.drew:=EB3.drew
  go_region_held3 (fun V=>cl V w.heap.size 0 (.pointer (some ⟨P,0,none⟩))/\cl V (w.heap.size+1+1) 1 (.int .i64 i)/\cl V P 2 (.slice a.n.fo W.co.now.fs.length a.n.fc)/\cl V P 5 (.slice (some ⟨gX,oX,none⟩) W.co.Qd.fs.length a.x.fc)/\cl V P 9 (.slice (some ⟨sb,0,none⟩) n n)/\cl V P 12 (.slice ko W.pk.length kc)/\cl V gX (oX+i*4) (.int .i64 xF))
   (first | (with_reducible exact HQ.out _ hdq) | fail)
   (fail)
  have EBZ:Ext B B3.drew:=hdq
  clear hdq lP lw lt1 lt2 lsb lgX
  generalize B3.drew=B4 at EBZ
  obtain⟨lP,lw,lt1,lt2,lsb⟩:=HPB.out B4 EBZ
  clear p0 p12 e0
  obtain⟨p0,e0,p12⟩:=HTP.out B4 EBZ
  go_upto_region 46 with fail
 rotate_left
 focus
  have jN:(i:Int)<(W.co.now.fs.length:Int):=by omega
  have bN:decide (i<W.co.now.fs.length)=true:=dtt hN
  have jX:(i:Int)<(W.co.Qd.fs.length:Int):=by omega
  have bX:decide (i<W.co.Qd.fs.length)=true:=dtt hX
  obtain⟨gN,oN,hNo,gNl,cN⟩:=q2o HW.out.co.at.hn.hf hN
  obtain⟨xN,hxN⟩:=Qy ((W.co.now.fs.getD i Fw.f0).fr)
  rw[<-hxN] at cN
  have HXN:=Qa hxN
  clear hxN
  obtain⟨gX,oX,hXo,gXl,cX⟩:=q2o HW.out.co.at.hx.hf hX
  rw[<-hxF] at cX
  have HXF:=Qa hxF
  clear hxF
  have HQ:Hid (∀V,Ext B V->cl V w.heap.size 0 (.pointer (some ⟨P,0,none⟩))/\cl V (w.heap.size+1+1) 1 (.int .i64 i)/\cl V P 2 (.slice (some ⟨gN,oN,none⟩) W.co.now.fs.length a.n.fc)/\cl V P 5 (.slice (some ⟨gX,oX,none⟩) W.co.Qd.fs.length a.x.fc)/\cl V P 9 (.slice (some ⟨sb,0,none⟩) n n)/\cl V P 12 (.slice ko W.pk.length kc)/\cl V gN (oN+i*4) (.int .i64 xN)/\cl V gX (oX+i*4) (.int .i64 xF)):=fun V hV=>by
   obtain⟨z0,z1,z2,z3,z4,z5⟩:=HS.out V hV
   exact⟨z0,z1,by rw[<-hNo];exact z2,by rw[<-hXo];exact z3,z4,z5,((EB.trans hV).cells.1 _ _ gNl).trans cN,((EB.trans hV).cells.1 _ _ gXl).trans cX⟩
  have HLG:Hid (∀V,Ext B V->True/\gN<V.heap.size/\gX<V.heap.size):=fun V hV=>by
   have:=(EB.trans hV).size
   exact⟨trivial,by omega,by omega⟩
  go_enter func13,ntmps13
  go_upto_region 36 with fail
  rw[<-hB]
  clear hB hb2
  go_upto_region 39 with fail
  obtain⟨_,lgN,lgX⟩:=HLG.out B (Ext.refl B)
  have hdq:Ext B B.drew:=(Ext.refl B).drew
  go_region_held3 (fun V=>cl V w.heap.size 0 (.pointer (some ⟨P,0,none⟩))/\cl V (w.heap.size+1+1) 1 (.int .i64 i)/\cl V P 2 (.slice (some ⟨gN,oN,none⟩) W.co.now.fs.length a.n.fc)/\cl V P 5 (.slice (some ⟨gX,oX,none⟩) W.co.Qd.fs.length a.x.fc)/\cl V P 9 (.slice (some ⟨sb,0,none⟩) n n)/\cl V P 12 (.slice ko W.pk.length kc)/\cl V gN (oN+i*4) (.int .i64 xN)/\cl V gX (oX+i*4) (.int .i64 xF))
   (first | (with_reducible exact HQ.out _ hdq) | fail)
   (fail)
  have EB2:Ext B B.drew:=hdq
  clear hdq lP lw lt1 lt2 lsb lgN lgX
  generalize B.drew=B2 at EB2
  obtain⟨lP,lw,lt1,lt2,lsb⟩:=HPB.out B2 EB2
  go_upto_region 40 with fail
  obtain⟨_,lgN,lgX⟩:=HLG.out B2 EB2
  have hdq:Ext B B2.drew:=EB2.drew
  go_region_held3 (fun V=>cl V w.heap.size 0 (.pointer (some ⟨P,0,none⟩))/\cl V (w.heap.size+1+1) 1 (.int .i64 i)/\cl V P 2 (.slice (some ⟨gN,oN,none⟩) W.co.now.fs.length a.n.fc)/\cl V P 5 (.slice (some ⟨gX,oX,none⟩) W.co.Qd.fs.length a.x.fc)/\cl V P 9 (.slice (some ⟨sb,0,none⟩) n n)/\cl V P 12 (.slice ko W.pk.length kc)/\cl V gN (oN+i*4) (.int .i64 xN)/\cl V gX (oX+i*4) (.int .i64 xF))
   (first | (with_reducible exact HQ.out _ hdq) | fail)
   (fail)
  have EB3:Ext B B2.drew:=hdq
  clear hdq lP lw lt1 lt2 lsb lgN lgX
  generalize B2.drew=B3 at EB3
  obtain⟨lP,lw,lt1,lt2,lsb⟩:=HPB.out B3 EB3
  go_upto_region 41 with fail
  obtain⟨_,lgN,lgX⟩:=HLG.out B3 EB3
  have hdq:Ext B B3.drew:=EB3.drew
  go_region_held3 (fun V=>cl V w.heap.size 0 (.pointer (some ⟨P,0,none⟩))/\cl V (w.heap.size+1+1) 1 (.int .i64 i)/\cl V P 2 (.slice (some ⟨gN,oN,none⟩) W.co.now.fs.length a.n.fc)/\cl V P 5 (.slice (some ⟨gX,oX,none⟩) W.co.Qd.fs.length a.x.fc)/\cl V P 9 (.slice (some ⟨sb,0,none⟩) n n)/\cl V P 12 (.slice ko W.pk.length kc)/\cl V gN (oN+i*4) (.int .i64 xN)/\cl V gX (oX+i*4) (.int .i64 xF))
   (first | (with_reducible exact HQ.out _ hdq) | fail)
   (fail)
  have EB4:Ext B B3.drew:=hdq
  clear hdq lP lw lt1 lt2 lsb lgN lgX
  generalize B3.drew=B4 at EB4
  obtain⟨lP,lw,lt1,lt2,lsb⟩:=HPB.out B4 EB4
  go_upto_region 42 with fail
  obtain⟨_,lgN,lgX⟩:=HLG.out B4 EB4
  have hdq:Ext B B4.drew:=EB4.drew
  go_region_held3 (fun V=>cl V w.heap.size 0 (.pointer (some ⟨P,0,none⟩))/\cl V (w.heap.size+1+1) 1 (.int .i64 i)/\cl V P 2 (.slice (some ⟨gN,oN,none⟩) W.co.now.fs.length a.n.fc)/\cl V P 5 (.slice (some ⟨gX,oX,none⟩) W.co.Qd.fs.length a.x.fc)/\cl V P 9 (.slice (some ⟨sb,0,none⟩) n n)/\cl V P 12 (.slice ko W.pk.length kc)/\cl V gN (oN+i*4) (.int .i64 xN)/\cl V gX (oX+i*4) (.int .i64 xF))
   (first | (with_reducible exact HQ.out _ hdq) | fail)
   (fail)
  have EBZ:Ext B B4.drew:=hdq
  clear hdq lP lw lt1 lt2 lsb lgN lgX
  generalize B4.drew=B5 at EBZ
  obtain⟨lP,lw,lt1,lt2,lsb⟩:=HPB.out B5 EBZ
  clear p0 p12 e0
  obtain⟨p0,e0,p12⟩:=HTP.out B5 EBZ
  go_upto_region 46 with fail
 rotate_left
 all_goals(
  clear p0 p12 e0 lP lw lt1 lt2 lsb
  go_loopw [21,22] (fun av iv wd=>∃k:Nat,k<=n/\iv=.int .i64 ((k:Int) - 1)/\av=.int .i64 (bat i W.sw xF k)/\Ext B wd) (fun _ iv _=>(intOf iv+1).toNat)
  case atStart=>exact⟨n,Ql _,rfl,by rw[<-HI.out.lsw,bat_end],EBZ⟩
  case round=>
   obtain⟨k,hk,rfl,rfl,hE⟩:=hrel
   cases k with
   | zero=>
    have j1:¬(0:Int)<=((0:Nat):Int) - 1:=by omega
    obtain⟨bt,hbt⟩:=Qy (bat i W.sw xF 0)
    have hbi:=bat_in (f:=(i:Int)) (k:=0) HI.out.lsw HX.out.1 HX.out.2
    rw[<-hbt] at hbi ⊢
    obtain⟨bn,rfl⟩:=Int.eq_ofNat_of_zero_le hbi.1
    have hbn:bn<n:=by omega
    have hb2':(bn:Int)<(n:Int):=by omega
    have HBT:=Qa hbt
    clear hbi hbt
    obtain⟨ro,rc,so,sc,s0,s1,_,hsl,hsw⟩:=(HW.out.Qm (EB.trans hE)).sws.get (s:=bn) hbn
    have HSW:=Qa hsw
    obtain⟨y,hy⟩:=Qy (W.sw.getD bn Agt.Zq)
    have HY:=Qa hy
    rw[<-hy] at s0 s1 HSW
    have HV:Hid (∀V,Ext wr V->Calls prog 34 #[.agg #[.slice ro y.rs.length rc,.slice so y.st.length sc],.int .i64 i] V fun e w'=>e=.returned (.int .i64 (Agt.ver y.st i))/\Ext V w'):=fun V hV=>Ag.q4k y ro so rc sc i V ((HSW.out.Qh (Qf.ext (S:=fun _=>True) hV) trivial).at)
    have HSL:Hid (∀V,Ext wr V->cl V w.heap.size 0 (.pointer (some ⟨P,0,none⟩))/\cl V (w.heap.size+1+1) 1 (.int .i64 i)/\cl V P 9 (.slice (some ⟨sb,0,none⟩) n n)/\cl V sb (bn*2) (.slice ro y.rs.length rc)/\cl V sb (bn*2+1) (.slice so y.st.length sc)):=fun V hV=>by
     obtain⟨z0,z1,_,_,z4,_⟩:=HS.out V (hE.trans hV)
     exact⟨z0,z1,z4,(hV.cells.1 _ _ hsl).trans s0,(hV.cells.1 _ _ hsl).trans s1⟩
    obtain⟨lP,lw,lt1,lt2,lsb⟩:=HPB.out wr hE
    clear hsw hy s0 s1
    go_upto_region 50 with fail
    have hdq:Ext wr wr.drew:=(Ext.refl wr).drew
    go_region_held3 (fun V=>cl V w.heap.size 0 (.pointer (some ⟨P,0,none⟩))/\cl V (w.heap.size+1+1) 1 (.int .i64 i)/\cl V P 9 (.slice (some ⟨sb,0,none⟩) n n)/\cl V sb (bn*2) (.slice ro y.rs.length rc)/\cl V sb (bn*2+1) (.slice so y.st.length sc))
     (first | (with_reducible exact HSL.out _ hdq) | (with_reducible exact HSL.out _ mk1) | fail)
     (first | (go_at_call 34;with_reducible refine(HV.out _ hdq).mono ?_;rintro e w5 ⟨rfl,E5⟩;have mk1:Ext wr w5:=hdq.trans E5;clear E5))
    have hE5:=hE.trans mk1
    have hpl:W.pk.length<=40:=by omega
    have HNP0:Hid (newP W.sw i xF=⟨i,Agt.ver y.st i,[(bn:Int)],decide (Agt.ver y.st i=0)⟩):=by
     show _=_
     rw[bat_new, <-HBT.out,Int.toNat_natCast,HY.out]
    clear mk1 hdq HSL HV HSW
    generalize Agt.ver y.st i=vv at HNP0 ⊢
    obtain⟨db,bv,HNP⟩:∃db,(vv == 0)=db/\Hid (newP W.sw i xF=⟨i,vv,[(bn:Int)],db⟩):=⟨_,rfl,by show _=_;rw[HNP0.out];rfl⟩
    clear HNP0
    have HSP:Hid (∀V,Ext w5 V->cl V w.heap.size 0 (.pointer (some ⟨P,0,none⟩))/\cl V (w.heap.size+1+1) 1 (.int .i64 i)/\cl V P 12 (.slice ko W.pk.length kc)):=fun V hV=>by
     obtain⟨z0,z1,_,_,_,z5⟩:=HS.out V (hE5.trans hV)
     exact⟨z0,z1,z5⟩
    go_upto_region 51 with fail
    refine Last.LH.start (m:=17) (S:=fun V=>cl V w.heap.size 0 (.pointer (some ⟨P,0,none⟩))/\cl V (w.heap.size+1+1) 1 (.int .i64 i)/\cl V P 12 (.slice ko W.pk.length kc)) (by kernel_rfl) ?_
    have Qe:=HSP.out w5.drew (Ext.refl _).drew
    refine ltk 0 Qe ?_
    refine ltk 1 Qe ?_
    refine ltk 2 Qe ?_
    refine ltk 3 Qe ?_
    refine ltk 4 Qe ?_
    refine ltk 5 Qe ?_
    refine ltk 6 Qe ?_
    refine ltk 7 Qe ?_
    refine ltk 8 Qe ?_
    refine ltk 10 Qe ?_
    refine ltk 11 Qe ?_
    refine lon 9 (fun K hK=>?_)
    go_simp
    refine hK _ _ (fun _=>HSP.out _ ((Ext.refl w5).alloc _).drew) ?_
    clear hK K Qe
    have E6:Ext w5 (w5.alloc (.cells #[.int .i64 bn] 3)).drew:=((Ext.refl w5).alloc _).drew
    have t6:(w5.alloc (.cells #[.int .i64 bn] 3)).drew.heap[w5.heap.size]? =some (.cells #[.int .i64 bn] 3):=Q7 rfl
    generalize (w5.alloc (.cells #[.int .i64 bn] 3)).drew=V6 at E6 t6
    have hS6:=HSP.out _ E6
    refine ltk 12 hS6 ?_
    clear hS6
    refine lon 13 (fun K hK=>?_)
    go_simp
    refine hK _ _ (fun _=>HSP.out _ (E6.alloc _)) ?_
    clear hK K
    have E7:Ext w5 (V6.alloc (.cells #[.int .i64 i,.int .i64 vv,.slice (some ⟨w5.heap.size,0,none⟩) 1 1,.bool db] 71)):=E6.alloc _
    have k7:(V6.alloc (.cells #[.int .i64 i,.int .i64 vv,.slice (some ⟨w5.heap.size,0,none⟩) 1 1,.bool db] 71)).heap[V6.heap.size]? =some (.cells #[.int .i64 i,.int .i64 vv,.slice (some ⟨w5.heap.size,0,none⟩) 1 1,.bool db] 71):=Q7 rfl
    have t7:(V6.alloc (.cells #[.int .i64 i,.int .i64 vv,.slice (some ⟨w5.heap.size,0,none⟩) 1 1,.bool db] 71)).heap[w5.heap.size]? =some (.cells #[.int .i64 bn] 3):=(bal _ _ _ (asi.1 t6).1).trans t6
    generalize V6.alloc (.cells #[.int .i64 i,.int .i64 vv,.slice (some ⟨w5.heap.size,0,none⟩) 1 1,.bool db] 71)=V7 at E7 k7 t7
    have RT5:=HRW.out.Qh (Qf.ext (S:=fun _=>True) (EB.trans hE5)) trivial
    have RT7:=HRW.out.Qh (Qf.ext (S:=fun _=>True) (EB.trans (hE5.trans E7))) trivial
    refine lon 14 (fun K hK=>?_)
    refine Q4 V7 rfl (.tmp 332) (.tmp 341) 36 rfl 71 i0 _ 4 48 underlying36 hi0 hz00 hz01 hz02 rfl (by decide) (.slice ko W.pk.length kc) W.pk.length xs rfl RT7.rw ⟨V6.heap.size,0,none⟩ 1 [.int .i64 i,.int .i64 vv,.slice (some ⟨w5.heap.size,0,none⟩) 1 1,.bool db] rfl rfl (q1g k7) (one4k (i:Int) vv _ 1 1 db) (by unfold maxLen;omega) (by omega) ?_
    intro g off cap2 w7 hr7 hg7 hat7
    have HPU:=Qa (Q0.pushK (f:=(i:Int)) (v:=vv) (x:=(bn:Int)) (d:=db) (HW.out.Qm (EB.trans hE5)) E7 RT5 (fun m hm=>by
     obtain⟨tv,b0,b1,b2,b3,b4⟩:=HPK.out m hm
     exact⟨tv,b0,b1,b2,b3,b4.Qh (Qf.ext (S:=fun _=>True) (EB.trans hE5)) trivial⟩) t7 hr7 hg7 hat7)
    obtain⟨cb,c1,c12⟩:=HSP.out _ E7
    obtain⟨lP7,lw7,_,lt27,_⟩:=HPB.out V7 (hE5.trans E7)
    have t1:=HW.out.tP
    have tB:=HW.out.nw w.heap.size (Ql _)
    have tD:=HW.out.nw (w.heap.size+1+1) (by omega)
    have gP:=Qz hg7 RT7.tg (b:=P) (by rw[t1];decide) lP7
    have gB:=(Qz hg7 RT7.tg (b:=w.heap.size) (by rw[tB];decide) lw7).1
    have gD:=(Qz hg7 RT7.tg (b:=w.heap.size+1+1) (by rw[tD];decide) lt27).1
    have fP7:w7.frozen? ⟨P,12,none⟩=false:=(gP.2 12).trans ((HW.out.Qm (EB.trans (hE5.trans E7))).row.frozen 12)
    have hP7:P<w7.heap.size:=Q5 lP7 hg7.size
    have hS7:=And.intro ((gB 0).trans cb) (And.intro ((gD 1).trans c1) ((gP.1 12).trans c12))
    clear gP gB gD cb c1 c12 hr7 hg7 hat7 t1 tB tD RT5 RT7 k7 t6 t7
    have co7:=hS7.2.2
    refine hK _ _ (fun _=>hS7) ?_
    clear hK K
    refine lon 15 (fun K hK=>?_)
    go_simp
    refine hK _ _ (fun _=>hS7) ?_
    clear hK K
    refine lon 16 (fun K hK=>?_)
    go_simp
    refine hK _ _ (fun _=>hS7) ?_
    clear hK K
    refine lon 17 (fun K hK=>?_)
    go_simp
    refine hK _ _ (fun h=>absurd rfl h) ?_
    clear hK K
    refine ldn ?_
    clear hS7 co7 fP7
    go_wp2
    go_ret
    obtain⟨tg8,hW8,hK8⟩:=HPU.out
    rw[HDx.out]
    have hN:=HNP.out
    rw[hN]
    exact⟨rfl,tg8,a,_,lv,hW8,(Zv.ext (EB.trans hE5)).trans hK8,HWN.out⟩
   | succ j=>
    have j1:(0:Int)<=(((j+1:Nat):Int) - 1):=by omega
    have ej:(((j+1:Nat):Int) - 1)=(j:Int):=by omega
    rw[ej] at j1 ⊢
    have hjn:j<n:=by omega
    have hjn':(j:Int)<(n:Int):=by omega
    obtain⟨ro,rc,so,sc,s0,s1,_,hsl,hsw⟩:=(HW.out.Qm (EB.trans hE)).sws.get (s:=j) hjn
    have HSW:=Qa hsw
    obtain⟨y,hy⟩:=Qy (W.sw.getD j Agt.Zq)
    have HY:=Qa hy
    rw[<-hy] at s0 s1 HSW
    have HV:Hid (∀V,Ext wr V->Calls prog 34 #[.agg #[.slice ro y.rs.length rc,.slice so y.st.length sc],.int .i64 i] V fun e w'=>e=.returned (.int .i64 (Agt.ver y.st i))/\Ext V w'):=fun V hV=>Ag.q4k y ro so rc sc i V ((HSW.out.Qh (Qf.ext (S:=fun _=>True) hV) trivial).at)
    have HSL:Hid (∀V,Ext wr V->cl V w.heap.size 0 (.pointer (some ⟨P,0,none⟩))/\cl V (w.heap.size+1+1) 1 (.int .i64 i)/\cl V P 9 (.slice (some ⟨sb,0,none⟩) n n)/\cl V sb (j*2) (.slice ro y.rs.length rc)/\cl V sb (j*2+1) (.slice so y.st.length sc)):=fun V hV=>by
     obtain⟨z0,z1,_,_,z4,_⟩:=HS.out V (hE.trans hV)
     exact⟨z0,z1,z4,(hV.cells.1 _ _ hsl).trans s0,(hV.cells.1 _ _ hsl).trans s1⟩
    obtain⟨lP,lw,lt1,lt2,lsb⟩:=HPB.out wr hE
    clear hsw hy s0 s1
    go_upto_region 48 with fail
    have hdq:Ext wr wr.drew:=(Ext.refl wr).drew
    go_region_held3 (fun V=>cl V w.heap.size 0 (.pointer (some ⟨P,0,none⟩))/\cl V (w.heap.size+1+1) 1 (.int .i64 i)/\cl V P 9 (.slice (some ⟨sb,0,none⟩) n n)/\cl V sb (j*2) (.slice ro y.rs.length rc)/\cl V sb (j*2+1) (.slice so y.st.length sc))
     (first | (with_reducible exact HSL.out _ hdq) | (with_reducible exact HSL.out _ mk1) | fail)
     (first | (go_at_call 34;with_reducible refine(HV.out _ hdq).mono ?_;rintro e w5 ⟨rfl,E5⟩;have mk1:Ext wr w5:=hdq.trans E5;clear E5))
    have hE5:=hE.trans mk1
    have hst:=bat_step (f:=(i:Int)) (sw:=W.sw) (x:=xF) (k:=j) (by rw[HI.out.lsw];exact hjn)
    rw[<-HY.out] at hst
    have hvp:0<=Agt.ver y.st i:=by rw[HY.out];exact HI.out.ver_pos hjn
    have HST:=Qa hst
    clear hst mk1 hdq HSL HV HSW
    generalize Agt.ver y.st i=vv at hvp HST ⊢
    by_cases hv0:vv=0
    ·subst hv0
     go_wp2
     refine⟨⟨j,by omega,by go_num,?_,hE5⟩,by simp[intOf]⟩
     rw[HST.out,if_neg (by simp)]
    ·have hv1:0<vv:=by omega
     go_wp2
     refine⟨⟨j,by omega,by go_num,?_,hE5⟩,by simp[intOf]⟩
     rw[HST.out,if_pos hv0])
end Rm
end Go.Proofs.YthkpbefnkmmaiaaGreat
