import Derived.Test.YthkpbefnkmmaiaaGreate40
set_option maxRecDepth 100000
set_option maxHeartbeats 4000000
namespace Go.Proofs.YthkpbefnkmmaiaaGreat
open Go.Proofs.Tryz
namespace Rm
open Go.RowKit Go.Deep Stw Stp Tb Rul Ct
def LtW (Y:Nat->Prop) (w0:World) (G:Cg) (k:Int) (e:Ending) (w':World):Prop:=∃(k0 k1:Int) (o2:Option Addr) (l2 q2:Nat) (o3:Option Addr) (l3 q3:Nat) (k4:Int) (o5:Option Addr) (l5 q5:Nat) (o6:Option Addr) (l6 q6:Nat) (k7:Int) (o8:Option Addr) (l8 q8:Nat) (tO:Option Addr) (l9 tc:Nat),
 e=.returned (.tuple #[.agg #[.int .i64 k0,.int .i64 k1,.slice o2 l2 q2,.slice o3 l3 q3,.int .i64 k4,.slice o5 l5 q5,.slice o6 l6 q6,.int .i64 k7,.slice o8 l8 q8],.slice tO l9 tc,.int .i64 k])/\Ext w0 w'/\
 Hid (∃a',Value.agg #[.int .i64 k0,.int .i64 k1,.slice o2 l2 q2,.slice o3 l3 q3,.int .i64 k4,.slice o5 l5 q5,.slice o6 l6 q6,.int .i64 k7,.slice o8 l8 q8]=cvl G.c a'/\l9=G.out.length/\(a'.wo=none->a'.wc=0)/\∀U:World,w'.heap.size<=U.heap.size->(∀b,(Y b\/w0.heap.size<=b)->b<w'.heap.size->U.heap[b]? =w'.heap[b]?)->Zr U G.c a'/\Zw U tO G.out)
theorem ltW{Y:Nat->Prop}{w0 w':World}{G:Cg}{k:Int}{e:Ending}(h:RfOut Y w0 G k e w'):LtW Y w0 G k e w':=by
 obtain⟨a',tO,tc,h1,h2,h4,h3⟩:=h
 exact⟨_,_,_,_,_,_,_,_,_,_,_,_,_,_,_,_,_,_,_,_,_,_,h1,h3,a',rfl,rfl,h4,h2.out⟩
theorem stepDrop(n len cap:Nat)(ls:List Lk)(ao:Option Addr)(t:Nat)(w0:World)(P:Nat)(tg:Nat->Nat)(w:World)(W:Wd)(a:CA)(sb ob bb:Nat)(kv lv:Value)(dn:Int)(fo:Option Addr)(fl fc:Nat)(h:Q0 39 [] w0 P n tg w W a sb ob bb kv lv)(hwn:a.wo=none->a.wc=0)(hI:Inv n ls t W)(ht:t<=1000)(hlen:ls.length=len)(hnet:Zg w0 ao ls)(hx:len<=9223372036854775807)(hcap:len<=cap):
 Calls prog 13 #[.pointer (some ⟨P,0,none⟩),.agg #[.int .i64 n,.slice ao len cap],.agg #[.int .i64 6,.int .i64 dn,.slice fo fl fc]] w fun e w'=>ROut w0 P n tg w sb ob bb (hapD n ls W) e w':=by
 have HW:=Qa h
 have HI:=Qa hI
 have hP:=h.row.lt
 have HWN:=Qa hwn
 obtain⟨B,hB,EB,HBS,hb0,hb1,hb2⟩:=box3 w P n ao len cap 6 dn fo fl fc
 have HS:Hid (∀V,Ext B V->cl V w.heap.size 0 (.pointer (some ⟨P,0,none⟩))/\cl V P 0 (.int .i64 W.co.st)/\cl V P 1 (.int .i64 W.co.now.v)/\cl V P 2 (.slice a.n.fo W.co.now.fs.length a.n.fc)/\cl V P 3 (.slice a.n.qo W.co.now.ps.length a.n.qc)/\cl V P 4 (.int .i64 W.co.Qd.v)/\cl V P 5 (.slice a.x.fo W.co.Qd.fs.length a.x.fc)/\cl V P 6 (.slice a.x.qo W.co.Qd.ps.length a.x.qc)/\cl V P 7 (.int .i64 W.co.num)/\cl V P 8 (.slice a.wo W.co.Qg.length a.wc)/\cl V (w.heap.size+1) 0 (.int .i64 n)/\cl V (w.heap.size+1) 1 (.slice ao len cap)):=fun V hV=>by
  have hr:=HW.out.row.of_block (Below.block (EB.trans hV) P hP)
  have:=HBS.out
  exact⟨(hV.cells.1 _ _ (by omega)).trans (Qb hb0 0),hr.cell (i:=0) (by simp),hr.cell (i:=1) (by simp),hr.cell (i:=2) (by simp),hr.cell (i:=3) (by simp),hr.cell (i:=4) (by simp),hr.cell (i:=5) (by simp),hr.cell (i:=6) (by simp),hr.cell (i:=7) (by simp),hr.cell (i:=8) (by simp),(hV.cells.1 _ _ (by omega)).trans (Qb hb1 0),(hV.cells.1 _ _ (by omega)).trans (Qb hb1 1)⟩
 clear hb0 hb1
 have HPB:=hpb4 hP HBS
 have HCA:Hid (∀V,Ext B V->Calls prog 31 #[cvl W.co a,.agg #[.int .i64 n,.slice ao len cap]] V fun e w'=>LtW (fun b=>tg b=0/\b<w.heap.size) V (Qq W.co n ls).1 (Qq W.co n ls).2 e w'):=fun V hV=>(q4w (fun b=>tg b=0/\b<w.heap.size) W.co a n ao len cap ls V (z6n HW.out.co (EB.trans hV)) (HI.out.small ht) HWN.out hlen (hnet.ext (HW.out.ext.trans (EB.trans hV))) hx hcap).mono (fun _ _ hh=>ltW hh)
 clear h hI hlen hnet hx hcap hwn
 unfold cvl at HCA
 go_enter func13,ntmps13
 obtain⟨bd,hbd⟩:∃b,decide (0<=dn)=b:=⟨_,rfl⟩
 cases bd
 all_goals
  go_upto_region 12 with fail
  rw[<-hB]
  obtain⟨lP,lw,lt1,lt2⟩:=HPB.out B (Ext.refl B)
  clear hB hbd hb2
  have hd:Ext B B.drew:=(Ext.refl B).drew
  have hda:Ext B (B.alloc (.cells #[.int .i64 0,.int .i64 0,.slice none 0 0,.slice none 0 0,.int .i64 0,.slice none 0 0,.slice none 0 0,.int .i64 0,.slice none 0 0] 32)).drew:=((Ext.refl B).alloc _).drew
  go_region_held3 (fun V=>cl V w.heap.size 0 (.pointer (some ⟨P,0,none⟩))/\cl V P 0 (.int .i64 W.co.st)/\cl V P 1 (.int .i64 W.co.now.v)/\cl V P 2 (.slice a.n.fo W.co.now.fs.length a.n.fc)/\cl V P 3 (.slice a.n.qo W.co.now.ps.length a.n.qc)/\cl V P 4 (.int .i64 W.co.Qd.v)/\cl V P 5 (.slice a.x.fo W.co.Qd.fs.length a.x.fc)/\cl V P 6 (.slice a.x.qo W.co.Qd.ps.length a.x.qc)/\cl V P 7 (.int .i64 W.co.num)/\cl V P 8 (.slice a.wo W.co.Qg.length a.wc)/\cl V (w.heap.size+1) 0 (.int .i64 n)/\cl V (w.heap.size+1) 1 (.slice ao len cap))
   (first | (with_reducible exact HS.out _ hd) | (with_reducible exact HS.out _ hda) | (with_reducible exact HS.out _ mk1) | (with_reducible exact HS.out _ mk2) | (with_reducible exact HS.out _ (mk1.alloc _)) | (with_reducible exact HS.out _ mk3) | fail)
   (first
   | (go_at_call 31
      with_reducible refine(HCA.out _ hd).mono ?_
      intro e w3 hG
      obtain⟨k0,k1,o2,l2,q2,o3,l3,q3,k4,o5,l5,q5,o6,l6,q6,k7,o8,l8,q8,tO,l9,tc,rfl,E9,HF⟩:=hG
      have mk1:=hd.trans E9)
   | (go_at_call 31
      with_reducible refine(HCA.out _ hda).mono ?_
      intro e w3 hG
      obtain⟨k0,k1,o2,l2,q2,o3,l3,q3,k4,o5,l5,q5,o6,l6,q6,k7,o8,l8,q8,tO,l9,tc,rfl,E9,HF⟩:=hG
      have mk2:=hda.trans E9
      have mk3:=q0g mk2 (Ql B.heap.size) (x0:=.int .i64 k0) (x1:=.int .i64 k1) (x2:=.slice o2 l2 q2) (x3:=.slice o3 l3 q3) (x4:=.int .i64 k4) (x5:=.slice o5 l5 q5) (x6:=.slice o6 l6 q6) (x7:=.int .i64 k7) (x8:=.slice o8 l8 q8)
      unfold W9 at mk3
      have HB:w3.rowIs B.heap.size 32 9 _:=(q0k (T:=32) (show B.heap.size=B.heap.size from rfl) _ _ _ _ _ _ _ _ _).of_block (Below.block E9 _ (by simp))
      obtain⟨u0,u1,u2,u3,u4,u5,u6,u7,u8⟩:=q2p HB
      have uz:=HB.frozen
      have HHB:=Qa HB
      clear HB))
  all_goals
   first
   | (have _t:=mk1
      obtain⟨w4,hw4⟩:=Qy (w3.alloc (.cells #[.int .i64 k0,.int .i64 k1,.slice o2 l2 q2,.slice o3 l3 q3,.int .i64 k4,.slice o5 l5 q5,.slice o6 l6 q6,.int .i64 k7,.slice o8 l8 q8] 32))
      have R4:w4.rowIs w3.heap.size 32 9 (fun j=>[.int .i64 k0,.int .i64 k1,.slice o2 l2 q2,.slice o3 l3 q3,.int .i64 k4,.slice o5 l5 q5,.slice o6 l6 q6,.int .i64 k7,.slice o8 l8 q8].getD j vd):=by rw[hw4];exact q0k rfl _ _ _ _ _ _ _ _ _
      have E4:Ext B w4:=by rw[hw4];exact mk1.alloc _
      have HST:Hid (∃a',Value.agg #[.int .i64 k0,.int .i64 k1,.slice o2 l2 q2,.slice o3 l3 q3,.int .i64 k4,.slice o5 l5 q5,.slice o6 l6 q6,.int .i64 k7,.slice o8 l8 q8]=cvl (Qq W.co n ls).1.c a'/\l9=(Qq W.co n ls).1.out.length/\(a'.wo=none->a'.wc=0)/\Stb (fun b=>tg b=0) w4 (fun U=>Zr U (Qq W.co n ls).1.c a'/\Zw U tO (Qq W.co n ls).1.out)):=by
       obtain⟨a',ea,el,hwn',hU⟩:=HF.out
       exact⟨a',ea,el,hwn',q9u HW.out.nw EB.size hU (by rw[hw4];simp) (fun b hb _=>by rw[hw4];exact bal _ _ _ hb)⟩
      rw[<-hw4]
      clear hw4 mk1 E9 HF _t)
   | (have _t:=mk2
      obtain⟨w4,hw4⟩:=Qy (W9 w3 B.heap.size (.int .i64 k0) (.int .i64 k1) (.slice o2 l2 q2) (.slice o3 l3 q3) (.int .i64 k4) (.slice o5 l5 q5) (.slice o6 l6 q6) (.int .i64 k7) (.slice o8 l8 q8))
      have R4:w4.rowIs B.heap.size 32 9 (fun j=>[.int .i64 k0,.int .i64 k1,.slice o2 l2 q2,.slice o3 l3 q3,.int .i64 k4,.slice o5 l5 q5,.slice o6 l6 q6,.int .i64 k7,.slice o8 l8 q8].getD j vd):=by rw[hw4];exact q9p HHB.out
      have E4:Ext B w4:=by rw[hw4];exact q0g mk2 (Ql _)
      have HST:Hid (∃a',Value.agg #[.int .i64 k0,.int .i64 k1,.slice o2 l2 q2,.slice o3 l3 q3,.int .i64 k4,.slice o5 l5 q5,.slice o6 l6 q6,.int .i64 k7,.slice o8 l8 q8]=cvl (Qq W.co n ls).1.c a'/\l9=(Qq W.co n ls).1.out.length/\(a'.wo=none->a'.wc=0)/\Stb (fun b=>tg b=0) w4 (fun U=>Zr U (Qq W.co n ls).1.c a'/\Zw U tO (Qq W.co n ls).1.out)):=by
       obtain⟨a',ea,el,hwn',hU⟩:=HF.out
       refine⟨a',ea,el,hwn',?_⟩
       rw[hw4]
       exact q9u HW.out.nw (ltr EB.size (by simp)) hU (Nat.le_of_eq q1n.symm) (fun b hb hb2=>q0z b (by have:=EB.size;simp at hb2;omega))
      unfold W9 at hw4
      rw[<-hw4]
      clear hw4 mk2 mk3 E9 HF _t u0 u1 u2 u3 u4 u5 u6 u7 u8 uz HHB)
   obtain⟨x0,x1,x2,x3,x4,x5,x6,x7,x8⟩:=q2p R4
   simp only[List.getD_cons_zero,List.getD_cons_succ] at x0 x1 x2 x3 x4 x5 x6 x7 x8
   clear R4
   obtain⟨lP4,lw4,_,_⟩:=HPB.out w4 E4
   by_cases h0:(Qq W.co n ls).2=0
   ·have HD:=Qa (hapD_yes h0)
    have HDW:=Qa (z0f HI.out ht h0)
    have HBX:Hid (w4.cell? ⟨w.heap.size,0,none⟩=some (.pointer (some ⟨P,0,none⟩))/\tg w.heap.size=0/\w.heap.size<w4.heap.size):=⟨(HS.out w4 E4).1,HW.out.nw _ (Ql _),lw4⟩
    have HV:Hid (Q0 39 [] w0 P n tg w4 W a sb ob bb kv lv):=HW.out.Qm (EB.trans E4)
    have HT:Hid (Calls prog 29 #[.agg #[.int .i64 k0,.int .i64 k1,.slice o2 l2 q2,.slice o3 l3 q3,.int .i64 k4,.slice o5 l5 q5,.slice o6 l6 q6,.int .i64 k7,.slice o8 l8 q8],.slice tO l9 tc,.pointer (some ⟨w.heap.size,0,none⟩)] w4 fun e w'=>e=.returned (.tuple #[])/\∃tg' a',Q0 39 [] w0 P n tg' w' ⟨(Qq W.co n ls).1.c,W.sw,Zh W.od (Qq W.co n ls).1.out,W.bk,W.pk,W.pn⟩ a' sb ob bb kv lv/\Zv tg tg' w4 w'/\(a'.wo=none->a'.wc=0)):=by
     obtain⟨a',ea,el,hwn',hS⟩:=HST.out
     show Calls _ _ _ _ _
     rw[ea,el]
     exact(q6g w0 P n tg w4 W a sb ob bb w.heap.size kv lv _ a' _ tO tc HV.out HI.out.lod hS HDW.out.1 HDW.out.2 (fun s=>by have:=(HI.out.rows s).1;omega) HBX.out.1 HBX.out.2.1 HBX.out.2.2).mono (fun e w' ⟨h1,tg',h2,h3⟩=>⟨h1,tg',a',h2,h3,hwn'⟩)
    rw[h0]
    clear h0
    go_wp2_with fail
    refine Calls.mono HT.out ?_
    rintro e w5 ⟨rfl,tg5,a5,hW5,hK5,hn5⟩
    have HW5:=Qa (And.intro hW5 (And.intro hK5 hn5))
    clear hW5 hK5 hn5 HT x0 x1 x2 x3 x4 x5 x6 x7 x8
    go_wp2
    go_ret
    rw[HD.out]
    exact⟨rfl,tg5,a5,kv,lv,HW5.out.1,(Zv.ext (EB.trans E4)).trans HW5.out.2.1,HW5.out.2.2⟩
   ·have HD:=Qa (hapD_no h0)
    have b0:((Qq W.co n ls).2 == 0)=false:=by simpa using h0
    clear h0
    go_wp2
    go_ret
    rw[HD.out]
    exact⟨rfl,tg,a,kv,lv,HW.out.Qm (EB.trans E4),Zv.ext (EB.trans E4),HWN.out⟩
theorem cvl_all{k0 k1 k4 k7:Int}{o2 o3 o5 o6 o8:Option Addr}{l2 q2 l3 q3 l5 q5 l6 q6 l8 q8:Nat}{c:Co}{a:CA}(h:Value.agg #[.int .i64 k0,.int .i64 k1,.slice o2 l2 q2,.slice o3 l3 q3,.int .i64 k4,.slice o5 l5 q5,.slice o6 l6 q6,.int .i64 k7,.slice o8 l8 q8]=cvl c a):k4=c.Qd.v/\o5=a.x.fo/\l5=c.Qd.fs.length/\q5=a.x.fc/\o6=a.x.qo/\l6=c.Qd.ps.length/\q6=a.x.qc:=by
 unfold cvl at h
 simp only[Value.agg.injEq,Array.mk.injEq,List.cons.injEq,Value.int.injEq,Value.slice.injEq,true_and,and_true] at h
 exact⟨h.2.2.2.2.1,h.2.2.2.2.2.1.1,h.2.2.2.2.2.1.2.1,h.2.2.2.2.2.1.2.2,h.2.2.2.2.2.2.1.1,h.2.2.2.2.2.2.1.2.1,h.2.2.2.2.2.2.1.2.2⟩
theorem stepAsk(n len cap:Nat)(ls:List Lk)(ao:Option Addr)(t:Nat)(w0:World)(P:Nat)(tg:Nat->Nat)(w:World)(W:Wd)(a:CA)(sb ob bb:Nat)(kv lv:Value)(dn:Int)(fo:Option Addr)(fs:List Stf.Fl)(fc:Nat)(h:Q0 39 [] w0 P n tg w W a sb ob bb kv lv)(hwn:a.wo=none->a.wc=0)(hI:Inv n ls t W)(ht:t<=1000)(hlen:ls.length=len)(hnet:Zg w0 ao ls)(hx:len<=9223372036854775807)(hcap:len<=cap)(hfl:Fw.Qk w0 fo fs)(hSm:Fw.Sm fs)(hlx:fs.length<=9223372036854775807)(ht9:t<=900):
 Calls prog 13 #[.pointer (some ⟨P,0,none⟩),.agg #[.int .i64 n,.slice ao len cap],.agg #[.int .i64 1,.int .i64 dn,.slice fo fs.length fc]] w fun e w'=>ROut w0 P n tg w sb ob bb (hapA n ls W fs) e w':=by
 obtain⟨i0,hi0,hz00,hz01,hz02⟩:=info_parts infoPlan
 have HW:=Qa h
 have HI:=Qa hI
 have hP:=h.row.lt
 have HWN:=Qa hwn
 obtain⟨B,hB,EB,HBS,hb0,hb1,hb2⟩:=box3 w P n ao len cap 1 dn fo fs.length fc
 have HS:Hid (∀V,Ext B V->cl V w.heap.size 0 (.pointer (some ⟨P,0,none⟩))/\cl V P 0 (.int .i64 W.co.st)/\cl V P 1 (.int .i64 W.co.now.v)/\cl V P 2 (.slice a.n.fo W.co.now.fs.length a.n.fc)/\cl V P 3 (.slice a.n.qo W.co.now.ps.length a.n.qc)/\cl V P 4 (.int .i64 W.co.Qd.v)/\cl V P 5 (.slice a.x.fo W.co.Qd.fs.length a.x.fc)/\cl V P 6 (.slice a.x.qo W.co.Qd.ps.length a.x.qc)/\cl V P 7 (.int .i64 W.co.num)/\cl V P 8 (.slice a.wo W.co.Qg.length a.wc)/\cl V (w.heap.size+1) 0 (.int .i64 n)/\cl V (w.heap.size+1) 1 (.slice ao len cap)/\cl V (w.heap.size+1+1) 2 (.slice fo fs.length fc)):=fun V hV=>by
  have hr:=HW.out.row.of_block (Below.block (EB.trans hV) P hP)
  have:=HBS.out
  exact⟨(hV.cells.1 _ _ (by omega)).trans (Qb hb0 0),hr.cell (i:=0) (by simp),hr.cell (i:=1) (by simp),hr.cell (i:=2) (by simp),hr.cell (i:=3) (by simp),hr.cell (i:=4) (by simp),hr.cell (i:=5) (by simp),hr.cell (i:=6) (by simp),hr.cell (i:=7) (by simp),hr.cell (i:=8) (by simp),(hV.cells.1 _ _ (by omega)).trans (Qb hb1 0),(hV.cells.1 _ _ (by omega)).trans (Qb hb1 1),(hV.cells.1 _ _ (by omega)).trans (Qb hb2 2)⟩
 clear hb0 hb1
 have HPB:=hpb4 hP HBS
 have HCA:Hid (∀V,Ext B V->Calls prog 30 #[cvl W.co a,.agg #[.int .i64 n,.slice ao len cap],.slice fo fs.length fc] V fun e w'=>LtW (fun b=>tg b=0/\b<w.heap.size) V (Q1 W.co n ls fs).1 (Q1 W.co n ls fs).2 e w'):=fun V hV=>(refAsk_any (fun b=>tg b=0/\b<w.heap.size) W.co a n ao len cap ls fo fs.length fc fs V (z6n HW.out.co (EB.trans hV)) (HI.out.small ht) HWN.out hlen (hnet.ext (HW.out.ext.trans (EB.trans hV))) hx hcap rfl (((Qk.stb hfl).ext (HW.out.ext.trans (EB.trans hV))).more (fun b hb hlt=>⟨⟨Classical.byContradiction (fun h0=>by have:=HW.out.base b h0;omega),Q5 hb HW.out.ext.size⟩,hlt⟩)) hSm hlx).mono (fun _ _ hh=>ltW hh)
 clear h hI hlen hnet hx hcap hwn hfl hSm hlx
 unfold cvl at HCA
 go_enter func13,ntmps13
 obtain⟨bd,hbd⟩:∃b,decide (0<=dn)=b:=⟨_,rfl⟩
 cases bd
 rotate_left
 rotate_left
 all_goals(
  go_upto_region 5 with fail
  rw[<-hB]
  obtain⟨lP,lw,lt1,lt2⟩:=HPB.out B (Ext.refl B)
  clear hB hbd hb2
  have hd:Ext B B.drew:=(Ext.refl B).drew
  have hda:Ext B (B.alloc (.cells #[.int .i64 0,.int .i64 0,.slice none 0 0,.slice none 0 0,.int .i64 0,.slice none 0 0,.slice none 0 0,.int .i64 0,.slice none 0 0] 32)).drew:=((Ext.refl B).alloc _).drew
  go_region_held3 (fun V=>cl V w.heap.size 0 (.pointer (some ⟨P,0,none⟩))/\cl V P 0 (.int .i64 W.co.st)/\cl V P 1 (.int .i64 W.co.now.v)/\cl V P 2 (.slice a.n.fo W.co.now.fs.length a.n.fc)/\cl V P 3 (.slice a.n.qo W.co.now.ps.length a.n.qc)/\cl V P 4 (.int .i64 W.co.Qd.v)/\cl V P 5 (.slice a.x.fo W.co.Qd.fs.length a.x.fc)/\cl V P 6 (.slice a.x.qo W.co.Qd.ps.length a.x.qc)/\cl V P 7 (.int .i64 W.co.num)/\cl V P 8 (.slice a.wo W.co.Qg.length a.wc)/\cl V (w.heap.size+1) 0 (.int .i64 n)/\cl V (w.heap.size+1) 1 (.slice ao len cap)/\cl V (w.heap.size+1+1) 2 (.slice fo fs.length fc))
   (first | (with_reducible exact HS.out _ hd) | (with_reducible exact HS.out _ hda) | (with_reducible exact HS.out _ mk1) | (with_reducible exact HS.out _ mk2) | (with_reducible exact HS.out _ (mk1.alloc _)) | (with_reducible exact HS.out _ mk3) | fail)
   (first
   | (go_at_call 30
      with_reducible refine(HCA.out _ hd).mono ?_
      intro e w3 hG
      obtain⟨k0,k1,o2,l2,q2,o3,l3,q3,k4,o5,l5,q5,o6,l6,q6,k7,o8,l8,q8,tO,l9,tc,rfl,E9,HF⟩:=hG
      have mk1:=hd.trans E9)
   | (go_at_call 30
      with_reducible refine(HCA.out _ hda).mono ?_
      intro e w3 hG
      obtain⟨k0,k1,o2,l2,q2,o3,l3,q3,k4,o5,l5,q5,o6,l6,q6,k7,o8,l8,q8,tO,l9,tc,rfl,E9,HF⟩:=hG
      have mk2:=hda.trans E9
      have mk3:=q0g mk2 (Ql B.heap.size) (x0:=.int .i64 k0) (x1:=.int .i64 k1) (x2:=.slice o2 l2 q2) (x3:=.slice o3 l3 q3) (x4:=.int .i64 k4) (x5:=.slice o5 l5 q5) (x6:=.slice o6 l6 q6) (x7:=.int .i64 k7) (x8:=.slice o8 l8 q8)
      unfold W9 at mk3
      have HB:w3.rowIs B.heap.size 32 9 _:=(q0k (T:=32) (show B.heap.size=B.heap.size from rfl) _ _ _ _ _ _ _ _ _).of_block (Below.block E9 _ (by simp))
      obtain⟨u0,u1,u2,u3,u4,u5,u6,u7,u8⟩:=q2p HB
      have uz:=HB.frozen
      have HHB:=Qa HB
      clear HB))
  focus
   have _t:=mk1
   obtain⟨w4,hw4⟩:=Qy (w3.alloc (.cells #[.int .i64 k0,.int .i64 k1,.slice o2 l2 q2,.slice o3 l3 q3,.int .i64 k4,.slice o5 l5 q5,.slice o6 l6 q6,.int .i64 k7,.slice o8 l8 q8] 32))
   have R4:w4.rowIs w3.heap.size 32 9 (fun j=>[.int .i64 k0,.int .i64 k1,.slice o2 l2 q2,.slice o3 l3 q3,.int .i64 k4,.slice o5 l5 q5,.slice o6 l6 q6,.int .i64 k7,.slice o8 l8 q8].getD j vd):=by rw[hw4];exact q0k rfl _ _ _ _ _ _ _ _ _
   have E4:Ext B w4:=by rw[hw4];exact mk1.alloc _
   have HST:Hid (∃a',Value.agg #[.int .i64 k0,.int .i64 k1,.slice o2 l2 q2,.slice o3 l3 q3,.int .i64 k4,.slice o5 l5 q5,.slice o6 l6 q6,.int .i64 k7,.slice o8 l8 q8]=cvl (Q1 W.co n ls fs).1.c a'/\l9=(Q1 W.co n ls fs).1.out.length/\(a'.wo=none->a'.wc=0)/\Stb (fun b=>tg b=0) w4 (fun U=>Zr U (Q1 W.co n ls fs).1.c a'/\Zw U tO (Q1 W.co n ls fs).1.out)):=by
    obtain⟨a',ea,el,hwn',hU⟩:=HF.out
    exact⟨a',ea,el,hwn',q9u HW.out.nw EB.size hU (by rw[hw4];simp) (fun b hb _=>by rw[hw4];exact bal _ _ _ hb)⟩
   have HX0:Hid (tg w3.heap.size=0):=HW.out.nw _ (EB.trans mk1).size
   rw[<-hw4]
   clear hw4 mk1 E9 HF _t
   generalize w3.heap.size=X at R4 HX0 ⊢
  rotate_left
  focus
   have _t:=mk2
   obtain⟨w4,hw4⟩:=Qy (W9 w3 B.heap.size (.int .i64 k0) (.int .i64 k1) (.slice o2 l2 q2) (.slice o3 l3 q3) (.int .i64 k4) (.slice o5 l5 q5) (.slice o6 l6 q6) (.int .i64 k7) (.slice o8 l8 q8))
   have R4:w4.rowIs B.heap.size 32 9 (fun j=>[.int .i64 k0,.int .i64 k1,.slice o2 l2 q2,.slice o3 l3 q3,.int .i64 k4,.slice o5 l5 q5,.slice o6 l6 q6,.int .i64 k7,.slice o8 l8 q8].getD j vd):=by rw[hw4];exact q9p HHB.out
   have E4:Ext B w4:=by rw[hw4];exact q0g mk2 (Ql _)
   have HST:Hid (∃a',Value.agg #[.int .i64 k0,.int .i64 k1,.slice o2 l2 q2,.slice o3 l3 q3,.int .i64 k4,.slice o5 l5 q5,.slice o6 l6 q6,.int .i64 k7,.slice o8 l8 q8]=cvl (Q1 W.co n ls fs).1.c a'/\l9=(Q1 W.co n ls fs).1.out.length/\(a'.wo=none->a'.wc=0)/\Stb (fun b=>tg b=0) w4 (fun U=>Zr U (Q1 W.co n ls fs).1.c a'/\Zw U tO (Q1 W.co n ls fs).1.out)):=by
    obtain⟨a',ea,el,hwn',hU⟩:=HF.out
    refine⟨a',ea,el,hwn',?_⟩
    rw[hw4]
    exact q9u HW.out.nw (ltr EB.size (by simp)) hU (Nat.le_of_eq q1n.symm) (fun b hb hb2=>q0z b (by have:=EB.size;simp at hb2;omega))
   have HX0:Hid (tg B.heap.size=0):=HW.out.nw _ EB.size
   have HXB:Hid (∀V,Ext B V->Ext w V):=fun V hV=>EB.trans hV
   unfold W9 at hw4
   rw[<-hw4]
   clear hw4 mk2 mk3 E9 HF _t u0 u1 u2 u3 u4 u5 u6 u7 u8 uz HHB
   generalize B.heap.size=X at R4 HX0 ⊢
  rotate_left
  all_goals(
   obtain⟨x0,x1,x2,x3,x4,x5,x6,x7,x8⟩:=q2p R4
   simp only[List.getD_cons_zero,List.getD_cons_succ] at x0 x1 x2 x3 x4 x5 x6 x7 x8
   have hXl:=R4.lt
   clear R4
   obtain⟨lP4,lw4,_,_⟩:=HPB.out w4 E4
   by_cases h0:(Q1 W.co n ls fs).2=0
   ·have HD:=Qa (hapA_yes h0)
    have HDW:=Qa (z5u HI.out ht h0)
    rw[h0]
    clear h0
    obtain⟨a',ea,el,hwn',hSt⟩:=HST.out
    obtain⟨rfl,rfl,rfl,rfl,rfl,rfl,rfl⟩:=cvl_all ea
    have HEA:=Qa (And.intro ea (And.intro el hwn'))
    have HSt:=Qa hSt
    obtain⟨p,hp⟩:=Qy ((Q1 W.co n ls fs).1.c.Qd)
    rw[<-hp] at x4 x5 x6 HEA
    rw[<-hp]
    have HPE:=Qa hp
    clear ea el hwn' hSt HST
    have hP5:=(HW.out.Qm (EB.trans E4)).row.lt
    obtain⟨xs,hrw,hpl⟩:=HW.out.pls
    have HRW:=Qa hrw
    have HPL:=Qa hpl
    have hpn:W.pn.length<=1000:=by have:=HI.out.pl;omega
    have HSX:Hid (∀V,Ext w4 V->cl V w.heap.size 0 (.pointer (some ⟨P,0,none⟩))/\cl V P 13 lv/\cl V X 4 (.int .i64 p.v)/\cl V X 5 (.slice a'.x.fo p.fs.length a'.x.fc)/\cl V X 6 (.slice a'.x.qo p.ps.length a'.x.qc)):=fun V hV=>⟨(HS.out V (E4.trans hV)).1,(hV.cells.1 _ _ hP5).trans ((HW.out.Qm (EB.trans E4)).row.cell (i:=13) (by simp)),(hV.cells.1 _ _ hXl).trans x4,(hV.cells.1 _ _ hXl).trans x5,(hV.cells.1 _ _ hXl).trans x6⟩
    have HX8:Hid (∀V:World,V.heap[X]? =w4.heap[X]?->cl V X 0 (.int .i64 k0)/\cl V X 1 (.int .i64 k1)/\cl V X 2 (.slice o2 l2 q2)/\cl V X 3 (.slice o3 l3 q3)/\cl V X 4 (.int .i64 p.v)/\cl V X 5 (.slice a'.x.fo p.fs.length a'.x.fc)/\cl V X 6 (.slice a'.x.qo p.ps.length a'.x.qc)/\cl V X 7 (.int .i64 k7)/\cl V X 8 (.slice o8 l8 q8)):=fun V hV=>⟨(cob (a:=⟨X,0,none⟩) hV).trans x0,(cob (a:=⟨X,1,none⟩) hV).trans x1,(cob (a:=⟨X,2,none⟩) hV).trans x2,(cob (a:=⟨X,3,none⟩) hV).trans x3,(cob (a:=⟨X,4,none⟩) hV).trans x4,(cob (a:=⟨X,5,none⟩) hV).trans x5,(cob (a:=⟨X,6,none⟩) hV).trans x6,(cob (a:=⟨X,7,none⟩) hV).trans x7,(cob (a:=⟨X,8,none⟩) hV).trans x8⟩
    clear hrw hpl x0 x1 x2 x3 x4 x5 x6 x7 x8 hp
    go_upto_region 8 with fail
    refine Last.LH.start (m:=11) (S:=fun V=>cl V w.heap.size 0 (.pointer (some ⟨P,0,none⟩))/\cl V P 13 lv/\cl V X 4 (.int .i64 p.v)/\cl V X 5 (.slice a'.x.fo p.fs.length a'.x.fc)/\cl V X 6 (.slice a'.x.qo p.ps.length a'.x.qc)) (by kernel_rfl) ?_
    have Qe:=HSX.out w4.drew (Ext.refl _).drew
    refine ltk 0 Qe ?_
    refine ltk 1 Qe ?_
    refine ltk 2 Qe ?_
    refine ltk 3 Qe ?_
    refine ltk 4 Qe ?_
    refine ltk 5 Qe ?_
    refine ltk 6 Qe ?_
    refine lon 7 (fun K hK=>?_)
    go_simp
    refine hK _ _ (fun _=>HSX.out _ ((Ext.refl w4).alloc _).drew) ?_
    clear hK K Qe
    have EA:Ext w4 (w4.alloc (.cells #[.int .i64 p.v,.slice a'.x.fo p.fs.length a'.x.fc,.slice a'.x.qo p.ps.length a'.x.qc] 29)).drew:=((Ext.refl w4).alloc _).drew
    have ca:(w4.alloc (.cells #[.int .i64 p.v,.slice a'.x.fo p.fs.length a'.x.fc,.slice a'.x.qo p.ps.length a'.x.qc] 29)).drew.heap[w4.heap.size]? =some (.cells #[.int .i64 p.v,.slice a'.x.fo p.fs.length a'.x.fc,.slice a'.x.qo p.ps.length a'.x.qc] 29):=Q7 rfl
    generalize (w4.alloc (.cells #[.int .i64 p.v,.slice a'.x.fo p.fs.length a'.x.fc,.slice a'.x.qo p.ps.length a'.x.qc] 29)).drew=V5 at EA ca
    refine lon 8 (fun K hK=>?_)
    refine Q4 V5 rfl (.tmp 61) (.tmp 64) 37 rfl 29 i0 _ 3 56 underlying37 hi0 hz00 hz01 hz02 rfl (by decide) lv W.pn.length xs rfl (HRW.out.Qh (Qf.ext (S:=fun _=>True) (EB.trans (E4.trans EA))) trivial).rw ⟨w4.heap.size,0,none⟩ 1 [.int .i64 p.v,.slice a'.x.fo p.fs.length a'.x.fc,.slice a'.x.qo p.ps.length a'.x.qc] rfl rfl (q1g ca) (one3p p.v a'.x.fo a'.x.qo p.fs.length a'.x.fc p.ps.length a'.x.qc) (by unfold maxLen;omega) (by omega) ?_
    intro g off cap2 w7 hr7 hg7 hat7
    have HPU:=Qa (Q0.pushL (p:=p) (ap:=a'.x) (HW.out.Qm (EB.trans (E4.trans EA))) (HRW.out.Qh (Qf.ext (S:=fun _=>True) (EB.trans (E4.trans EA))) trivial) (fun i hi=>by
     obtain⟨b,b0,b1,b2,b3⟩:=HPL.out i hi
     exact⟨b,b0,b1,b2,b3.Qh (Qf.ext (S:=fun _=>True) (EB.trans (E4.trans EA))) trivial⟩) (by rw[HPE.out];exact(HSt.out.imp (fun U hU=>hU.1.hx)).ext EA) hr7 hg7 hat7)
    obtain⟨cb,c13,d4,d5,d6⟩:=HSX.out _ EA
    have t1:=HW.out.tP
    have tX:=HX0.out
    have tB:=HW.out.nw w.heap.size (Ql _)
    have RT5:RwT tg 6 V5 29 3 lv W.pn.length xs:=HRW.out.Qh (Qf.ext (S:=fun _=>True) (EB.trans (E4.trans EA))) trivial
    have gP:=Qz hg7 RT5.tg (b:=P) (by rw[t1];decide) (Q5 hP5 EA.size)
    have gX:=(Qz hg7 RT5.tg (b:=X) (by rw[tX];decide) (Q5 hXl EA.size)).1
    have gB:=(Qz hg7 RT5.tg (b:=w.heap.size) (by rw[tB];decide) (Q5 lw4 EA.size)).1
    have fP7:w7.frozen? ⟨P,13,none⟩=false:=(gP.2 13).trans ((EA.cells.2 _ _ hP5).trans ((HW.out.Qm (EB.trans E4)).row.frozen 13))
    have hP7:P<w7.heap.size:=Q5 (Q5 hP5 EA.size) hg7.size
    have hS7:=And.intro ((gB 0).trans cb) (And.intro ((gP.1 13).trans c13) (And.intro ((gX 4).trans d4) (And.intro ((gX 5).trans d5) ((gX 6).trans d6))))
    clear gP gX gB cb c13 d4 d5 d6 hr7 hg7 hat7 t1 tX tB RT5 ca
    have co7:=hS7.2.1
    refine hK _ _ (fun _=>hS7) ?_
    clear hK K
    refine lon 9 (fun K hK=>?_)
    go_simp
    refine hK _ _ (fun _=>hS7) ?_
    clear hK K
    refine lon 10 (fun K hK=>?_)
    go_simp
    refine hK _ _ (fun _=>hS7) ?_
    clear hK K
    refine lon 11 (fun K hK=>?_)
    go_simp
    refine hK _ _ (fun h=>absurd rfl h) ?_
    clear hK K
    refine ldn ?_
    obtain⟨tg8,hW8,hK8⟩:=HPU.out
    clear hS7 co7 fP7 HPU
    have hK48:Zv tg tg8 w4 (w7.setCell ⟨P,13,none⟩ (.slice (some ⟨g,off,none⟩) (W.pn.length+1) cap2)):=(Zv.ext EA).trans hK8
    generalize (w7.setCell ⟨P,13,none⟩ (.slice (some ⟨g,off,none⟩) (W.pn.length+1) cap2))=w8 at hW8 hK8 hK48
    have HV:=Qa hW8
    have HK8:=Qa hK48
    obtain⟨x0,x1,x2,x3,x4,x5,x6,x7,x8⟩:=HX8.out w8 (hK48.blk _ hXl (Or.inl HX0.out)).2
    have hXl8:X<w8.heap.size:=Q5 hXl hK48.size
    have HBX:Hid (w8.cell? ⟨w.heap.size,0,none⟩=some (.pointer (some ⟨P,0,none⟩))/\tg8 w.heap.size=0/\w.heap.size<w8.heap.size):=by
     obtain⟨e1,e2⟩:=hK48.blk w.heap.size lw4 (Or.inl (HW.out.nw _ (Ql _)))
     exact⟨(cob (a:=⟨w.heap.size,0,none⟩) e2).trans (HS.out w4 E4).1,e1.trans (HW.out.nw _ (Ql _)),Q5 lw4 hK48.size⟩
    have HT:Hid (Calls prog 29 #[.agg #[.int .i64 k0,.int .i64 k1,.slice o2 l2 q2,.slice o3 l3 q3,.int .i64 p.v,.slice a'.x.fo p.fs.length a'.x.fc,.slice a'.x.qo p.ps.length a'.x.qc,.int .i64 k7,.slice o8 l8 q8],.slice tO l9 tc,.pointer (some ⟨w.heap.size,0,none⟩)] w8 fun e w'=>e=.returned (.tuple #[])/\∃tg',Q0 39 [] w0 P n tg' w' ⟨(Q1 W.co n ls fs).1.c,W.sw,Zh W.od (Q1 W.co n ls fs).1.out,W.bk,W.pk,W.pn++[p]⟩ a' sb ob bb kv (.slice (some ⟨g,off,none⟩) (W.pn.length+1) cap2)/\Zv tg8 tg' w8 w'):=by
     obtain⟨ea,el,_⟩:=HEA.out
     show Calls _ _ _ _ _
     rw[ea,el]
     exact q6g w0 P n tg8 w8 _ a sb ob bb w.heap.size kv _ _ a' _ tO tc HV.out HI.out.lod (HSt.out.Qh HK8.out (Or.inl rfl)) HDW.out.1 HDW.out.2 (fun s=>by have:=(HI.out.rows s).1;show(W.od.getD s []).length<=_;omega) HBX.out.1 HBX.out.2.1 HBX.out.2.2
    clear hW8 hK8 hK48
    go_wp2_with fail
    refine Calls.mono HT.out ?_
    rintro e w9 ⟨rfl,tg9,hW9,hK9⟩
    have HW9:=Qa (And.intro hW9 hK9)
    clear hW9 hK9 HT x0 x1 x2 x3 x4 x5 x6 x7 x8
    go_wp2
    go_ret
    rw[HD.out, <-HPE.out]
    exact⟨rfl,tg9,a',kv,_,HW9.out.1,((Zv.ext (EB.trans E4)).trans HK8.out).trans HW9.out.2,HEA.out.2.2⟩
   ·have HD:=Qa (hapA_no h0)
    have b0:((Q1 W.co n ls fs).2 != 0)=true:=by simpa using h0
    clear h0
    go_wp2
    go_ret
    rw[HD.out]
    exact⟨rfl,tg,a,kv,lv,HW.out.Qm (EB.trans E4),Zv.ext (EB.trans E4),HWN.out⟩))
end Rm
end Go.Proofs.YthkpbefnkmmaiaaGreat
