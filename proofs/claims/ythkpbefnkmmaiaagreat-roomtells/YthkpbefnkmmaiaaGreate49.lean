import Derived.Test.YthkpbefnkmmaiaaGreate45
set_option maxRecDepth 100000
set_option maxHeartbeats 4000000
namespace Go.Proofs.YthkpbefnkmmaiaaGreat
open Go.Proofs.Tryz
namespace Rm
open Go.RowKit Go.Deep Go.Maps Go.Sort Stw Stp Tb Rul Ct
theorem z3m(n len cap:Nat)(ao:Option Addr)(w0:World)(P:Nat)(tg:Nat->Nat)(w:World)(W:Wd)(a:CA)(sb ob bb:Nat)(kv lv:Value)(i:Nat)(fo:Option Addr)(fl' fc':Nat)(h:Q0 39 [] w0 P n tg w W a sb ob bb kv lv)(hwn:a.wo=none->a.wc=0)(hi:i<W.pk.length)(hd:(W.pk.getD i Q8).dn=true):
 Calls prog 13 #[.pointer (some ⟨P,0,none⟩),.agg #[.int .i64 n,.slice ao len cap],.agg #[.int .i64 5,.int .i64 i,.slice fo fl' fc']] w fun e w'=>ROut w0 P n tg w sb ob bb (hapM W i) e w':=by
 have HD:=Qa (z4u hd)
 have HW:=Qa h
 have hP:=h.row.lt
 have HWN:=Qa hwn
 obtain⟨g,off,kc,tv,rfl,hg,tG,gz,k0,k1,k2,k3,hbr⟩:=h.pks.get hi
 rw[hd] at k3
 obtain⟨B,hB,EB,HBS,hb0, -,hb2⟩:=box3 w P n ao len cap 5 (i:Int) fo fl' fc'
 have HS:Hid (∀V,Ext B V->cl V w.heap.size 0 (.pointer (some ⟨P,0,none⟩))/\cl V (w.heap.size+1+1) 1 (.int .i64 i)/\cl V P 9 (.slice (some ⟨sb,0,none⟩) n n)/\cl V P 12 (.slice (some ⟨g,off,none⟩) W.pk.length kc)/\cl V g (off+i*4+3) (.bool true)):=fun V hV=>by
  have hr:=HW.out.row.of_block (Below.block (EB.trans hV) P hP)
  have:=HBS.out
  exact⟨(hV.cells.1 _ _ (by omega)).trans (Qb hb0 0),(hV.cells.1 _ _ (by omega)).trans (Qb hb2 1),hr.cell (i:=9) (by simp),hr.cell (i:=12) (by simp),((EB.trans hV).cells.1 _ _ hg).trans k3⟩
 have HPB:=hpb5 hP HBS HW.out
 clear hb0 h hwn
 obtain⟨lP,lw,lt1,lt2,lsb⟩:=HPB.out B (Ext.refl B)
 have j0:(0:Int)<=(i:Int):=by omega
 have j1:(i:Int)<(W.pk.length:Int):=by omega
 have j2:¬(i:Int)<0:=by omega
 have j3:¬(W.pk.length:Int)<=(i:Int):=by omega
 have b0:decide ((0:Int)<=(i:Int))=true:=dtt j0
 have b1:decide ((i:Int)<0)=false:=dff j2
 have b2:decide (W.pk.length<=i)=false:=dff (by omega)
 have HLG:Hid (∀V,Ext B V->g<V.heap.size):=fun V hV=>Q5 hg (EB.trans hV).size
 have lg:=HLG.out B (Ext.refl B)
 go_enter func13,ntmps13
 go_upto_region 54 with fail
 rw[<-hB]
 clear hB hb2
 have hdq:Ext B B.drew:=(Ext.refl B).drew
 go_region_held3 (fun V=>cl V w.heap.size 0 (.pointer (some ⟨P,0,none⟩))/\cl V (w.heap.size+1+1) 1 (.int .i64 i)/\cl V P 9 (.slice (some ⟨sb,0,none⟩) n n)/\cl V P 12 (.slice (some ⟨g,off,none⟩) W.pk.length kc)/\cl V g (off+i*4+3) (.bool true))
  (first | (with_reducible exact HS.out _ hdq) | fail)
  (fail)
 have EB2:Ext B B.drew:=hdq
 clear hdq lP lw lt1 lt2 lsb lg
 generalize B.drew=B2 at EB2
 obtain⟨lP,lw,lt1,lt2,lsb⟩:=HPB.out B2 EB2
 have lg:=HLG.out B2 EB2
 go_wp2
 go_ret
 rw[HD.out]
 exact⟨rfl,tg,a,_,lv,HW.out.Qm (EB.trans EB2),Zv.ext (EB.trans EB2),HWN.out⟩
theorem z3l(n len cap:Nat)(ls:List Lk)(ao:Option Addr)(t:Nat)(w0:World)(P:Nat)(tg:Nat->Nat)(w:World)(W:Wd)(a:CA)(sb ob bb:Nat)(kv lv:Value)(i:Nat)(fo:Option Addr)(fl' fc':Nat)(h:Q0 39 [] w0 P n tg w W a sb ob bb kv lv)(hwn:a.wo=none->a.wc=0)(hI:Inv n ls t W)(hi:i<W.pk.length)(hd:(W.pk.getD i Q8).dn=false):
 Calls prog 13 #[.pointer (some ⟨P,0,none⟩),.agg #[.int .i64 n,.slice ao len cap],.agg #[.int .i64 5,.int .i64 i,.slice fo fl' fc']] w fun e w'=>ROut w0 P n tg w sb ob bb (hapM W i) e w':=by
 have HW:=Qa h
 have hP:=h.row.lt
 have HWN:=Qa hwn
 obtain⟨i0,hi0,hz00,hz01,hz02⟩:=info_parts z2d
 have HD:=Qa (hapM_yes hi hd)
 obtain⟨p1,p2,p3,p4⟩:=pk_at hI hi
 obtain⟨g,off,kc,tv,rfl,hg,tG,gz,k0,k1,k2,k3,hbr⟩:=h.pks.get hi
 obtain⟨gt,ot,ct,rfl,hgt,hct,hcs⟩:=hbr.last p1
 have HBR:=Qa hbr
 have HTG:=Qa tG
 have HGZ:=Qa gz
 obtain⟨q,hq⟩:=Int.eq_ofNat_of_zero_le p2
 have hqn:q<n:=by omega
 have hqn':(q:Int)<(n:Int):=by omega
 have hlast:=hcs ((W.pk.getD i Q8).tr.length - 1) (by have:=List.length_pos_iff.2 p1;omega)
 have HQA:Hid (atP (W.pk.getD i Q8)=(q:Int)):=hq
 rw[show(W.pk.getD i Q8).tr.getD ((W.pk.getD i Q8).tr.length - 1) 0=(q:Int) from hq] at hlast
 obtain⟨ro,rc,so,sc,s0,_,_,hsl,hsw⟩:=h.sws.get hqn
 have HSW:=Qa hsw
 obtain⟨m,hm⟩:∃m,(W.pk.getD i Q8).tr.length=m+1:=⟨(W.pk.getD i Q8).tr.length - 1,by have:=List.length_pos_iff.2 p1;omega⟩
 rw[hm,Nat.add_sub_cancel] at hlast
 rw[hm] at k2
 have HM:=Qa hm
 rw[hd] at k3
 obtain⟨TR,hTR⟩:=Qy ((W.pk.getD i Q8).tr)
 have HTR:=Qa hTR
 clear hTR
 have hm8:m<=8:=by omega
 obtain⟨fl,hfl⟩:=Qy ((W.pk.getD i Q8).fl)
 obtain⟨ve,hve⟩:=Qy ((W.pk.getD i Q8).v)
 obtain⟨R,hR⟩:=Qy ((W.sw.getD q Agt.Zq).rs)
 have hR16:R.length<=4611686018427387904:=by
  have:=(q0j.1 (Agt.q7j (hI.sw_right hqn)).1).1
  rw[hR];omega
 have HMV:Hid (movP W.sw (W.pk.getD i Q8)=if(Rul.Qd ve fl R).2=true then⟨fl,ve,(W.pk.getD i Q8).tr++[(Rul.Qd ve fl R).1],(W.pk.getD i Q8).dn⟩ else⟨fl,ve,(W.pk.getD i Q8).tr,true⟩):=by
  show _=_
  unfold movP
  rw[HQA.out,Int.toNat_natCast, <-hR, <-hfl, <-hve]
 rw[<-hfl] at k0
 rw[<-hve] at k1
 rw[<-hR] at s0
 have HFL:=Qa hfl
 have HVE:=Qa hve
 have HNX:Hid (∀V,Ext w V->Calls prog 35 #[.slice ro R.length rc,.int .i64 ve,.int .i64 fl] V fun e w'=>e=.returned (.tuple #[.int .i64 (Rul.Qd ve fl R).1,.bool (Rul.Qd ve fl R).2])/\Ext V w'):=fun V hV=>by
  have h1:=(HSW.out.Qh (Qf.ext (S:=fun _=>True) hV) trivial).at.hr.Q2
  rw[<-hR] at h1
  exact z7b ro R.length rc R ve fl V rfl h1 hR16
 clear hfl hve hR hq hm hsw hbr tG gz hcs hI p1 p2 p3 p4
 have q5:(0:Int)<=(m:Int):=by omega
 have q6:(m:Int)<((m+1:Nat):Int):=by omega
 have q7:(m:Int)<(m:Int)+1:=by omega
 have q8:(0:Int)<=(q:Int):=by omega
 have q9:IntKind.i64.wrap (m:Int)=(m:Int):=by rw[IntKind.wrap_i64];omega
 have q10:IntKind.i64.wrap ((m:Int)+1 - 1)=(m:Int):=by rw[IntKind.wrap_i64];omega
 have q11:IntKind.i64.wrap (((m+1:Nat):Int) - 1)=(m:Int):=by rw[IntKind.wrap_i64];omega
 obtain⟨B,hB,EB,HBS,hb0, -,hb2⟩:=box3 w P n ao len cap 5 (i:Int) fo fl' fc'
 have HS:Hid (∀V,Ext B V->cl V w.heap.size 0 (.pointer (some ⟨P,0,none⟩))/\cl V (w.heap.size+1+1) 1 (.int .i64 i)/\cl V P 9 (.slice (some ⟨sb,0,none⟩) n n)/\cl V P 12 (.slice (some ⟨g,off,none⟩) W.pk.length kc)/\cl V g (off+i*4) (.int .i64 fl)/\cl V g (off+i*4+1) (.int .i64 ve)/\cl V g (off+i*4+2) (.slice (some ⟨gt,ot,none⟩) (m+1) ct)/\cl V g (off+i*4+3) (.bool false)/\cl V gt (ot+m) (.int .i64 q)/\cl V sb (q*2) (.slice ro R.length rc)):=fun V hV=>by
  have hr:=HW.out.row.of_block (Below.block (EB.trans hV) P hP)
  have:=HBS.out
  exact⟨(hV.cells.1 _ _ (by omega)).trans (Qb hb0 0),(hV.cells.1 _ _ (by omega)).trans (Qb hb2 1),hr.cell (i:=9) (by simp),hr.cell (i:=12) (by simp),((EB.trans hV).cells.1 _ _ hg).trans k0,((EB.trans hV).cells.1 _ _ hg).trans k1,((EB.trans hV).cells.1 _ _ hg).trans k2,((EB.trans hV).cells.1 _ _ hg).trans k3,((EB.trans hV).cells.1 _ _ hgt).trans hlast,((EB.trans hV).cells.1 _ _ hsl).trans s0⟩
 have HPB:=hpb5 hP HBS HW.out
 clear hb0 h hwn
 obtain⟨lP,lw,lt1,lt2,lsb⟩:=HPB.out B (Ext.refl B)
 have j0:(0:Int)<=(i:Int):=by omega
 have j1:(i:Int)<(W.pk.length:Int):=by omega
 have j2:¬(i:Int)<0:=by omega
 have j3:¬(W.pk.length:Int)<=(i:Int):=by omega
 have b0:decide ((0:Int)<=(i:Int))=true:=dtt j0
 have b1:decide ((i:Int)<0)=false:=dff j2
 have b2:decide (W.pk.length<=i)=false:=dff (by omega)
 have HLG:Hid (∀V,Ext B V->g<V.heap.size/\gt<V.heap.size):=fun V hV=>⟨Q5 hg (EB.trans hV).size,Q5 hgt (EB.trans hV).size⟩
 have lg:=HLG.out B (Ext.refl B)
 go_enter func13,ntmps13
 go_upto_region 54 with fail
 rw[<-hB]
 clear hB hb2
 have hdq:Ext B B.drew:=(Ext.refl B).drew
 go_region_held3 (fun V=>cl V w.heap.size 0 (.pointer (some ⟨P,0,none⟩))/\cl V (w.heap.size+1+1) 1 (.int .i64 i)/\cl V P 9 (.slice (some ⟨sb,0,none⟩) n n)/\cl V P 12 (.slice (some ⟨g,off,none⟩) W.pk.length kc)/\cl V g (off+i*4) (.int .i64 fl)/\cl V g (off+i*4+1) (.int .i64 ve)/\cl V g (off+i*4+2) (.slice (some ⟨gt,ot,none⟩) (m+1) ct)/\cl V g (off+i*4+3) (.bool false)/\cl V gt (ot+m) (.int .i64 q)/\cl V sb (q*2) (.slice ro R.length rc))
  (first | (with_reducible exact HS.out _ hdq) | fail)
  (fail)
 have EB2:Ext B B.drew:=hdq
 clear hdq lP lw lt1 lt2 lsb lg
 generalize B.drew=B2 at EB2
 obtain⟨lP,lw,lt1,lt2,lsb⟩:=HPB.out B2 EB2
 have lg:=HLG.out B2 EB2
 go_upto_region 56 with fail
 have hdq:Ext B B2.drew:=EB2.drew
 go_region_held3 (fun V=>cl V w.heap.size 0 (.pointer (some ⟨P,0,none⟩))/\cl V (w.heap.size+1+1) 1 (.int .i64 i)/\cl V P 9 (.slice (some ⟨sb,0,none⟩) n n)/\cl V P 12 (.slice (some ⟨g,off,none⟩) W.pk.length kc)/\cl V g (off+i*4) (.int .i64 fl)/\cl V g (off+i*4+1) (.int .i64 ve)/\cl V g (off+i*4+2) (.slice (some ⟨gt,ot,none⟩) (m+1) ct)/\cl V g (off+i*4+3) (.bool false)/\cl V gt (ot+m) (.int .i64 q)/\cl V sb (q*2) (.slice ro R.length rc))
  (first | (with_reducible exact HS.out _ hdq) | fail)
  (fail)
 have EB3:Ext B B2.drew:=hdq
 clear hdq lP lw lt1 lt2 lsb lg
 generalize B2.drew=B3 at EB3
 obtain⟨lP,lw,lt1,lt2,lsb⟩:=HPB.out B3 EB3
 have lg:=HLG.out B3 EB3
 obtain⟨lg1,lg2⟩:=lg
 go_upto_region 57 with fail
 have hdq:Ext B B3.drew:=EB3.drew
 go_region_held3 (fun V=>cl V w.heap.size 0 (.pointer (some ⟨P,0,none⟩))/\cl V (w.heap.size+1+1) 1 (.int .i64 i)/\cl V P 9 (.slice (some ⟨sb,0,none⟩) n n)/\cl V P 12 (.slice (some ⟨g,off,none⟩) W.pk.length kc)/\cl V g (off+i*4) (.int .i64 fl)/\cl V g (off+i*4+1) (.int .i64 ve)/\cl V g (off+i*4+2) (.slice (some ⟨gt,ot,none⟩) (m+1) ct)/\cl V g (off+i*4+3) (.bool false)/\cl V gt (ot+m) (.int .i64 q)/\cl V sb (q*2) (.slice ro R.length rc))
  (first | (with_reducible exact HS.out _ hdq) | (with_reducible exact HS.out _ mk1) | fail)
  (first | (go_at_call 35;with_reducible refine(HNX.out _ (EB.trans hdq)).mono ?_;rintro e w5 ⟨rfl,E5⟩;have mk1:Ext B w5:=hdq.trans E5;clear E5))
 have hE5:=mk1
 clear mk1 hdq lP lw lt1 lt2 lsb lg1 lg2
 obtain⟨lP,lw,lt1,lt2,lsb⟩:=HPB.out w5 hE5
 obtain⟨lg1,lg2⟩:=HLG.out w5 hE5
 have HW5:=Qa (HW.out.Qm (EB.trans hE5))
 have HBR5:=Qa (HBR.out.Qh (Qf.ext (S:=fun _=>True) (EB.trans hE5)) trivial)
 have fz3:w5.frozen? ⟨g,off+i*4+3,none⟩=false:=((EB.trans hE5).cells.2 _ _ hg).trans (HGZ.out _)
 have fz2:w5.frozen? ⟨g,off+i*4+2,none⟩=false:=((EB.trans hE5).cells.2 _ _ hg).trans (HGZ.out _)
 obtain⟨_,_,_,_,c0,c1,c2,c3,_,_⟩:=HS.out w5 hE5
 generalize hnx:Rul.Qd ve fl R=nx at HMV ⊢
 obtain⟨n1,n2⟩:=nx
 clear hnx
 simp only at HMV ⊢
 cases n2
 ·have HF:=Qa (Q0.flagK true HW5.out hi HTG.out)
  go_wp2
  go_ret
  rw[HD.out]
  have hmv:=HMV.out
  rw[if_neg (by simp)] at hmv
  rw[hmv,HFL.out,HVE.out]
  exact⟨rfl,tg,a,_,lv,HF.out.1,(Zv.ext (EB.trans hE5)).trans HF.out.2,HWN.out⟩
 ·have hRv:Rw (w5.alloc (.cells #[] 3)) 3 1 (.slice (some ⟨gt,ot,none⟩) (m+1) ct) (m+1) (TR.map (Value.int .i64)):=by
   have h1:=(HBR5.out.Qh (Qf.ext (S:=fun _=>True) ((Ext.refl w5).alloc (.cells #[] 3))) trivial).row
   rw[HM.out, <-HTR.out] at h1
   exact h1
  have bE:(w5.alloc (.cells #[] 3)).heap[w5.heap.size]? =some (.cells #[] 3):=Q7 rfl
  have EW1:Ext w5 (w5.alloc (.cells #[] 3)):=(Ext.refl w5).alloc _
  go_wp2_with (first | (at_builtin;refine q9b (v:=.slice (some ⟨gt,ot,none⟩) (m+1) ct) (n:=m+1) (xs:=TR.map (Value.int .i64)) _ rfl (.tmp 411) (.tmp 415) 30 rfl 3 i0 _ 1 8 underlying30 hi0 hz00 hz01 hz02 rfl (by decide) bE rfl rfl hRv (q4a _) (by unfold maxLen;omega) (by omega) ?_) | fail)
  intro ao2 cap2 W2 hr2 hg2 ho2
  have E2:Ext w5 W2:=Below.grown EW1 hg2 EW1.size (fun k hk=>by cases hk;exact Ql _)
  have hr3:Rw (W2.alloc (.cells #[.int .i64 n1] 3)) 3 1 (.slice ao2 (m+1) cap2) (m+1) (TR.map (Value.int .i64)):=hr2.Qh (fun k hk=>bal _ _ _ (hr2.lt k hk))
  have k3b:(W2.alloc (.cells #[.int .i64 n1] 3)).heap[W2.heap.size]? =some (.cells #[.int .i64 n1] 3):=Q7 rfl
  have E3:Ext w5 (W2.alloc (.cells #[.int .i64 n1] 3)):=E2.alloc _
  clear hRv bE EW1 hg2 hr2
  go_wp2_with (first | (at_builtin;refine Zy _ rfl (.tmp 416) (.tmp 418) 30 rfl 3 i0 _ 1 8 underlying30 hi0 hz00 hz01 hz02 rfl (by decide) (.slice ao2 (m+1) cap2) (m+1) (TR.map (Value.int .i64)) rfl hr3 ⟨W2.heap.size,0,none⟩ 1 [.int .i64 n1] rfl rfl (q1g k3b) (by intro u hu;rw[List.mem_singleton] at hu;rw[hu];rfl) (by unfold maxLen;omega) (by omega) ?_) | fail)
  intro gn on cn w7 hr7 hg7 hat7
  have E7:Ext w5 w7:=Below.grown E3 hg7 E3.size (fun k hk=>ho2 k hk)
  have hgn:w5.heap.size<=gn:=by
   rcases hat7 with e | e
   ·exact ho2 gn e
   ·have h3:=E3.size
    simp at h3 e
    omega
  have ea:off+(i*4+2)=off+i*4+2:=by omega
  have HNT:Hid (∃tg',Q0 39 [] w0 P n tg' (w7.setCell ⟨g,off+i*4+2,none⟩ (.slice (some ⟨gn,on,none⟩) (m+1+1) cn)) ⟨W.co,W.sw,W.od,W.bk,W.pk.set i ⟨(W.pk.getD i Q8).fl,(W.pk.getD i Q8).v,(W.pk.getD i Q8).tr++[n1],(W.pk.getD i Q8).dn⟩,W.pn⟩ a sb ob bb (.slice (some ⟨g,off,none⟩) W.pk.length kc) lv/\Zv tg tg' w5 (w7.setCell ⟨g,off+i*4+2,none⟩ (.slice (some ⟨gn,on,none⟩) (m+1+1) cn))):=by
   have h1:=Q0.newT (y:=n1) (gt:=gn) (ot:=on) (ct:=cn) HW5.out hi E7 hgn HBR5.out (by rw[HM.out, <-HTR.out];exact hr7)
   rw[HM.out,ea] at h1
   exact h1
  have d2:=(E7.cells.1 _ _ lg1).trans c2
  have d3:=(E7.cells.1 _ _ lg1).trans c3
  have y2:=(E7.cells.2 _ _ lg1).trans fz2
  have y3:=(E7.cells.2 _ _ lg1).trans fz3
  have lg7:g<w7.heap.size:=Q5 lg1 E7.size
  clear hr7 hg7 hat7 hr3 k3b E3 E2 ho2 c0 c1 c2 c3 fz2 fz3 lP lw lt1 lt2 lsb lg1 lg2 ea
  go_wp2
  go_ret
  obtain⟨tg8,hW8,hK8⟩:=HNT.out
  have hl8:i<(W.pk.set i ⟨(W.pk.getD i Q8).fl,(W.pk.getD i Q8).v,(W.pk.getD i Q8).tr++[n1],(W.pk.getD i Q8).dn⟩).length:=by rw[List.length_set];exact hi
  have hln:(W.pk.set i ⟨(W.pk.getD i Q8).fl,(W.pk.getD i Q8).v,(W.pk.getD i Q8).tr++[n1],(W.pk.getD i Q8).dn⟩).length=W.pk.length:=by rw[List.length_set]
  obtain⟨g',off',kc',_,ek,_,tG8,_⟩:=hW8.pks.get hl8
  simp only[Value.slice.injEq,Option.some.injEq,Addr.mk.injEq] at ek
  obtain⟨⟨rfl,_,_⟩,_,_⟩:=ek
  have hW8':Q0 39 [] w0 P n tg8 (w7.setCell ⟨g,off+i*4+2,none⟩ (.slice (some ⟨gn,on,none⟩) (m+1+1) cn)) ⟨W.co,W.sw,W.od,W.bk,W.pk.set i ⟨(W.pk.getD i Q8).fl,(W.pk.getD i Q8).v,(W.pk.getD i Q8).tr++[n1],(W.pk.getD i Q8).dn⟩,W.pn⟩ a sb ob bb (.slice (some ⟨g,off,none⟩) (W.pk.set i ⟨(W.pk.getD i Q8).fl,(W.pk.getD i Q8).v,(W.pk.getD i Q8).tr++[n1],(W.pk.getD i Q8).dn⟩).length kc) lv:=by rw[hln];exact hW8
  obtain⟨f1,f2⟩:=Q0.flagK false hW8' hl8 tG8
  simp only[List.length_set] at f1 f2
  rw[q0p hi,if_pos rfl,List.set_set,show off+(i*4+3)=off+i*4+3 by omega] at f1
  rw[show off+(i*4+3)=off+i*4+3 by omega] at f2
  rw[HD.out]
  have hmv:=HMV.out
  simp only[if_true] at hmv
  rw[hmv,HFL.out,HVE.out,hd]
  exact⟨rfl,tg8,a,_,lv,f1,(Zv.ext (EB.trans hE5)).trans (hK8.trans f2),HWN.out⟩
end Rm
end Go.Proofs.YthkpbefnkmmaiaaGreat
