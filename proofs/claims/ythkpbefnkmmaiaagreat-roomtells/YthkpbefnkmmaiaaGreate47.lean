import Derived.Test.YthkpbefnkmmaiaaGreate42
set_option maxRecDepth 100000
set_option maxHeartbeats 4000000
namespace Go.Proofs.YthkpbefnkmmaiaaGreat
open Go.Proofs.Tryz
namespace Ag
open Go.RowKit Go.Deep Tb Rul
theorem q4k(s:Agt.Sw)(ro so:Option Addr)(rc sc:Nat)(f:Int)(w:World)(h:Zn w s ro so rc):
 Calls prog 34 #[svl s ro so rc sc,.int .i64 f] w fun e w'=>e=.returned (.int .i64 (Agt.ver s.st f))/\Ext w w':=by
 obtain⟨rs,st⟩:=s
 unfold svl
 have hsl:st.length*16<=140737488351232:=h.sl
 have HS:Hid (StAt w so st):=h.hs
 have hw0:Agt.ver st f=Agt.ver (st.drop 0) f:=by rw[List.drop_zero]
 show Calls _ _ _ _ fun e w'=>e=.returned (.int .i64 (Agt.ver st f))/\Ext w w'
 rw[hw0]
 clear h hw0
 go_enter func34,ntmps34
 go_wp2
 go_loopw [10] (fun iv wd=>∃k:Nat,k<=st.length/\iv=.int .i64 k/\Hid (Agt.ver (st.drop 0) f=Agt.ver (st.drop k) f)/\Ext w wd) (fun iv _=>st.length - (intOf iv).toNat)
 case atStart=>exact⟨0,Zu _,rfl,rfl,(Ext.refl w).alloc _⟩
 case round=>
  obtain⟨k,hk,rfl,HW,hE⟩:=hrel
  by_cases hlt:k<st.length
  ·obtain⟨g,off,rfl,hg,hcs⟩:=(StAt.ext HS.out hE).get hlt
   have i1:(k:Int)<(st.length:Int):=by omega
   have HST:Hid _:=ver_step (st:=st) (f:=f) (k:=k) hlt
   obtain⟨c0,c1⟩:=hcs k hlt
   obtain⟨x,hx⟩:∃x,st.getD k s0=x:=⟨_,rfl⟩
   rw[hx] at c0 c1 HST
   clear hx hcs
   by_cases h1:x.1=f
   ·have HF:Hid (Agt.ver (st.drop 0) f=x.2):=by show _=_;rw[HW.out,HST.out,if_pos h1]
    have b1:(x.1 == f)=true:=by simpa using h1
    clear h1
    go_wp2
    go_ret
    exact⟨by rw[HF.out];first | done | rfl,hE.alloc _⟩
   ·have HW2:Hid (Agt.ver (st.drop 0) f=Agt.ver (st.drop (k+1)) f):=by show _=_;rw[HW.out,HST.out,if_neg h1]
    have b1:(x.1 == f)=false:=by simpa using h1
    clear h1
    go_wp2
    exact⟨⟨k+1,by omega,by go_num,HW2,hE.alloc _⟩,by simp[intOf];omega⟩
  ·have HF:Hid (Agt.ver (st.drop 0) f=0):=by show _=_;rw[HW.out,List.drop_eq_nil_of_le (by omega)];rfl
   go_wp2
   go_ret
   exact⟨by rw[HF.out];first | done | rfl,hE⟩
end Ag
namespace Rm
open Go.RowKit Go.Deep Go.Maps Go.Sort Stw Stp Tb Rul Ct
def bat (f:Int) (sw:List Agt.Sw) (x:Int) (k:Nat):Int:=match sat f k (sw.drop k) with
 | some y=>(y.1:Int)
 | none=>x
variable {f x:Int} {sw:List Agt.Sw}
theorem bat_end:bat f sw x sw.length=x:=by unfold bat;rw[List.drop_length];rfl
variable {k:Nat}
theorem bat_step(hk:k<sw.length):bat f sw x k=if Agt.ver (sw.getD k Agt.Zq).st f≠0 then(k:Int) else bat f sw x (k+1):=by
 have e:sw.drop k=sw[k]::sw.drop (k+1):=List.drop_eq_getElem_cons hk
 have e2:sw.getD k Agt.Zq=sw[k]:=by rw[Zt,List.getElem?_eq_getElem hk];rfl
 unfold bat
 rw[e,e2,sat]
 by_cases h:Agt.ver sw[k].st f≠0
 ·rw[if_pos h,if_pos h]
 ·rw[if_neg h,if_neg h]
theorem bat_new:newP sw f x=⟨f,Agt.ver (sw.getD (bat f sw x 0).toNat Agt.Zq).st f,[bat f sw x 0],decide (Agt.ver (sw.getD (bat f sw x 0).toNat Agt.Zq).st f=0)⟩:=by
 unfold newP bat
 rw[List.drop_zero]
 cases hy:sat f 0 sw with
 | some y=>
  obtain⟨_,_,h3,h4,_⟩:=q7a hy
  rw[Nat.sub_zero] at h3
  show(⟨f,y.2,[(y.1:Int)],false⟩:Pk)=⟨f,Agt.ver (sw.getD ((y.1:Int).toNat) Agt.Zq).st f,[(y.1:Int)],decide (Agt.ver (sw.getD ((y.1:Int).toNat) Agt.Zq).st f=0)⟩
  rw[Int.toNat_natCast, <-h3,dff h4]
 | none=>
  have:=sat_none hy x.toNat
  show(⟨f,0,[x],true⟩:Pk)=⟨f,Agt.ver (sw.getD x.toNat Agt.Zq).st f,[x],decide (Agt.ver (sw.getD x.toNat Agt.Zq).st f=0)⟩
  rw[this]
  rfl
theorem bat_in{n:Nat}(hl:sw.length=n)(h0:0<=x)(h1:x<(n:Int)):0<=bat f sw x k/\bat f sw x k<(n:Int):=by
 unfold bat
 cases hy:sat f k (sw.drop k) with
 | some y=>
  obtain⟨h1,h2,_⟩:=q7a hy
  have:(sw.drop k).length<=n - k:=by rw[List.length_drop];omega
  show 0<=(y.1:Int)/\(y.1:Int)<(n:Int)
  omega
 | none=>exact⟨h0,h1⟩
theorem Inv.ver_pos{n:Nat}{ls:List Lk}{t:Nat}{W:Wd}{s:Nat}(h:Inv n ls t W)(hs:s<n):0<=Agt.ver (W.sw.getD s Agt.Zq).st f:=by
 by_cases h0:Agt.ver (W.sw.getD s Agt.Zq).st f=0
 ·omega
 ·obtain⟨m,i,_,h2,_⟩:=h.stamp hs rfl h0
  omega
theorem z0z(n len cap:Nat)(ls:List Lk)(ao:Option Addr)(t:Nat)(w0:World)(P:Nat)(tg:Nat->Nat)(w:World)(W:Wd)(a:CA)(sb ob bb:Nat)(kv lv:Value)(dn:Int)(fo:Option Addr)(fl fc:Nat)(h:Q0 39 [] w0 P n tg w W a sb ob bb kv lv)(hwn:a.wo=none->a.wc=0)(hI:Inv n ls t W)(hm:40<=W.pk.length):
 Calls prog 13 #[.pointer (some ⟨P,0,none⟩),.agg #[.int .i64 n,.slice ao len cap],.agg #[.int .i64 4,.int .i64 dn,.slice fo fl fc]] w fun e w'=>ROut w0 P n tg w sb ob bb (hapB W dn) e w':=by
 have HD:=Qa (z4w (f:=dn) hm)
 have HW:=Qa h
 have HI:=Qa hI
 have hP:=h.row.lt
 have HWN:=Qa hwn
 obtain⟨xs,hrw,hpk⟩:=h.pks
 obtain⟨ko,kc,rfl⟩:=hrw.rw.form
 have HRW:=Qa hrw
 have HPK:=Qa hpk
 obtain⟨B,hB,EB,HBS,hb0,hb1,hb2⟩:=box3 w P n ao len cap 4 dn fo fl fc
 have HS:Hid (∀V,Ext B V->cl V w.heap.size 0 (.pointer (some ⟨P,0,none⟩))/\cl V (w.heap.size+1+1) 1 (.int .i64 dn)/\cl V P 2 (.slice a.n.fo W.co.now.fs.length a.n.fc)/\cl V P 5 (.slice a.x.fo W.co.Qd.fs.length a.x.fc)/\cl V P 9 (.slice (some ⟨sb,0,none⟩) n n)/\cl V P 12 (.slice ko W.pk.length kc)):=fun V hV=>by
  have hr:=HW.out.row.of_block (Below.block (EB.trans hV) P hP)
  have:=HBS.out
  exact⟨(hV.cells.1 _ _ (by omega)).trans (Qb hb0 0),(hV.cells.1 _ _ (by omega)).trans (Qb hb2 1),hr.cell (i:=2) (by simp),hr.cell (i:=5) (by simp),hr.cell (i:=9) (by simp),hr.cell (i:=12) (by simp)⟩
 have HTP:Hid (∀V,Ext B V->cl V (w.heap.size+1) 0 (.int .i64 n)/\cl V w.heap.size 0 (.pointer (some ⟨P,0,none⟩))/\cl V P 12 (.slice ko W.pk.length kc)):=fun V hV=>by
  have:=HBS.out
  exact⟨(hV.cells.1 _ _ (by omega)).trans (Qb hb1 0),(HS.out V hV).1,(HS.out V hV).2.2.2.2.2⟩
 have HPB:=hpb5 hP HBS HW.out
 clear hb0 hb1 h hI hwn hrw hpk
 obtain⟨p0,_,p12⟩:=HTP.out B (Ext.refl B)
 obtain⟨e0,_,_,_,_,_⟩:=HS.out B (Ext.refl B)
 obtain⟨lP,lw,lt1,lt2,lsb⟩:=HPB.out B (Ext.refl B)
 have i1:(40:Int)<=(W.pk.length:Int):=by omega
 go_enter func13,ntmps13
 obtain⟨bd,hbd⟩:∃b,decide (0<=dn)=b:=⟨_,rfl⟩
 cases bd
 all_goals
  go_upto_region 36 with fail
  rw[<-hB]
  clear hB hb2
  go_wp2
  go_ret
  rw[HD.out]
  exact⟨rfl,tg,a,_,lv,HW.out.Qm EB,Zv.ext EB,HWN.out⟩
theorem z3n(n len cap:Nat)(ls:List Lk)(ao:Option Addr)(t:Nat)(w0:World)(P:Nat)(tg:Nat->Nat)(w:World)(W:Wd)(a:CA)(sb ob bb:Nat)(kv lv:Value)(dn:Int)(fo:Option Addr)(fl fc:Nat)(h:Q0 39 [] w0 P n tg w W a sb ob bb kv lv)(hwn:a.wo=none->a.wc=0)(hI:Inv n ls t W)(hm:¬40<=W.pk.length)(h0:¬0<=dn):
 Calls prog 13 #[.pointer (some ⟨P,0,none⟩),.agg #[.int .i64 n,.slice ao len cap],.agg #[.int .i64 4,.int .i64 dn,.slice fo fl fc]] w fun e w'=>ROut w0 P n tg w sb ob bb (hapB W dn) e w':=by
 have HD:=Qa (q8l hm (z2h (c:=W.co) (f:=dn) (fun e=>h0 e.1) (fun e=>h0 e.1)))
 have HW:=Qa h
 have HI:=Qa hI
 have hP:=h.row.lt
 have HWN:=Qa hwn
 obtain⟨xs,hrw,hpk⟩:=h.pks
 obtain⟨ko,kc,rfl⟩:=hrw.rw.form
 have HRW:=Qa hrw
 have HPK:=Qa hpk
 obtain⟨B,hB,EB,HBS,hb0,hb1,hb2⟩:=box3 w P n ao len cap 4 dn fo fl fc
 have HS:Hid (∀V,Ext B V->cl V w.heap.size 0 (.pointer (some ⟨P,0,none⟩))/\cl V (w.heap.size+1+1) 1 (.int .i64 dn)/\cl V P 2 (.slice a.n.fo W.co.now.fs.length a.n.fc)/\cl V P 5 (.slice a.x.fo W.co.Qd.fs.length a.x.fc)/\cl V P 9 (.slice (some ⟨sb,0,none⟩) n n)/\cl V P 12 (.slice ko W.pk.length kc)):=fun V hV=>by
  have hr:=HW.out.row.of_block (Below.block (EB.trans hV) P hP)
  have:=HBS.out
  exact⟨(hV.cells.1 _ _ (by omega)).trans (Qb hb0 0),(hV.cells.1 _ _ (by omega)).trans (Qb hb2 1),hr.cell (i:=2) (by simp),hr.cell (i:=5) (by simp),hr.cell (i:=9) (by simp),hr.cell (i:=12) (by simp)⟩
 have HTP:Hid (∀V,Ext B V->cl V (w.heap.size+1) 0 (.int .i64 n)/\cl V w.heap.size 0 (.pointer (some ⟨P,0,none⟩))/\cl V P 12 (.slice ko W.pk.length kc)):=fun V hV=>by
  have:=HBS.out
  exact⟨(hV.cells.1 _ _ (by omega)).trans (Qb hb1 0),(HS.out V hV).1,(HS.out V hV).2.2.2.2.2⟩
 have HPB:=hpb5 hP HBS HW.out
 clear hb0 hb1 h hI hwn hrw hpk
 obtain⟨p0,_,p12⟩:=HTP.out B (Ext.refl B)
 obtain⟨e0,_,_,_,_,_⟩:=HS.out B (Ext.refl B)
 obtain⟨lP,lw,lt1,lt2,lsb⟩:=HPB.out B (Ext.refl B)
 have i1:¬(40:Int)<=(W.pk.length:Int):=by omega
 have b0:decide (0<=dn)=false:=by simpa using h0
 go_enter func13,ntmps13
 go_upto_region 36 with fail
 rw[<-hB]
 clear hB hb2
 obtain⟨_,d0,_,_,_,_⟩:=HS.out B (Ext.refl B)
 go_upto_region 39 with fail
 have r0:=Fw.clr d0
 refine qb ?_
 repeat(go_big_quiet_step (fail))
 refine qn fun dq oq=>?_
 have EQ:Ext B (grow (redrawn B dq) oq):=brg B dq oq
 generalize grow (redrawn B dq) oq=B2 at EQ
 clear r0
 obtain⟨_,d2,_,_,_,_⟩:=HS.out B2 EQ
 go_upto_region 41 with fail
 have r0:=Fw.clr d2
 refine qb ?_
 repeat(go_big_quiet_step (fail))
 refine qn fun dq oq=>?_
 have EQ2:Ext B (grow (redrawn B2 dq) oq):=EQ.trans (brg B2 dq oq)
 generalize grow (redrawn B2 dq) oq=B3 at EQ2
 clear r0
 go_wp2
 go_ret
 rw[HD.out]
 exact⟨rfl,tg,a,_,lv,HW.out.Qm (EB.trans EQ2),Zv.ext (EB.trans EQ2),HWN.out⟩
theorem z0y(n len cap:Nat)(ls:List Lk)(ao:Option Addr)(t:Nat)(w0:World)(P:Nat)(tg:Nat->Nat)(w:World)(W:Wd)(a:CA)(sb ob bb:Nat)(kv lv:Value)(i:Nat)(fo:Option Addr)(fl fc:Nat)(h:Q0 39 [] w0 P n tg w W a sb ob bb kv lv)(hwn:a.wo=none->a.wc=0)(hI:Inv n ls t W)(hm:¬40<=W.pk.length)(hN:¬i<W.co.now.fs.length)(hX:¬i<W.co.Qd.fs.length):
 Calls prog 13 #[.pointer (some ⟨P,0,none⟩),.agg #[.int .i64 n,.slice ao len cap],.agg #[.int .i64 4,.int .i64 i,.slice fo fl fc]] w fun e w'=>ROut w0 P n tg w sb ob bb (hapB W i) e w':=by
 have HD:=Qa (q8l hm (z2h (c:=W.co) (f:=(i:Int)) (fun e=>hX (by omega)) (fun e=>hN (by omega))))
 have HW:=Qa h
 have HI:=Qa hI
 have hP:=h.row.lt
 have HWN:=Qa hwn
 obtain⟨xs,hrw,hpk⟩:=h.pks
 obtain⟨ko,kc,rfl⟩:=hrw.rw.form
 have HRW:=Qa hrw
 have HPK:=Qa hpk
 obtain⟨B,hB,EB,HBS,hb0,hb1,hb2⟩:=box3 w P n ao len cap 4 (i:Int) fo fl fc
 have HS:Hid (∀V,Ext B V->cl V w.heap.size 0 (.pointer (some ⟨P,0,none⟩))/\cl V (w.heap.size+1+1) 1 (.int .i64 i)/\cl V P 2 (.slice a.n.fo W.co.now.fs.length a.n.fc)/\cl V P 5 (.slice a.x.fo W.co.Qd.fs.length a.x.fc)/\cl V P 9 (.slice (some ⟨sb,0,none⟩) n n)/\cl V P 12 (.slice ko W.pk.length kc)):=fun V hV=>by
  have hr:=HW.out.row.of_block (Below.block (EB.trans hV) P hP)
  have:=HBS.out
  exact⟨(hV.cells.1 _ _ (by omega)).trans (Qb hb0 0),(hV.cells.1 _ _ (by omega)).trans (Qb hb2 1),hr.cell (i:=2) (by simp),hr.cell (i:=5) (by simp),hr.cell (i:=9) (by simp),hr.cell (i:=12) (by simp)⟩
 have HTP:Hid (∀V,Ext B V->cl V (w.heap.size+1) 0 (.int .i64 n)/\cl V w.heap.size 0 (.pointer (some ⟨P,0,none⟩))/\cl V P 12 (.slice ko W.pk.length kc)):=fun V hV=>by
  have:=HBS.out
  exact⟨(hV.cells.1 _ _ (by omega)).trans (Qb hb1 0),(HS.out V hV).1,(HS.out V hV).2.2.2.2.2⟩
 have HPB:=hpb5 hP HBS HW.out
 clear hb0 hb1 h hI hwn hrw hpk
 obtain⟨p0,_,p12⟩:=HTP.out B (Ext.refl B)
 obtain⟨e0,_,_,_,_,_⟩:=HS.out B (Ext.refl B)
 obtain⟨lP,lw,lt1,lt2,lsb⟩:=HPB.out B (Ext.refl B)
 have i1:¬(40:Int)<=(W.pk.length:Int):=by omega
 have b0:decide ((0:Int)<=(i:Int))=true:=dtt (by omega)
 have j0:(0:Int)<=(i:Int):=by omega
 have jN:¬(i:Int)<(W.co.now.fs.length:Int):=by omega
 have bN:decide (i<W.co.now.fs.length)=false:=dff hN
 have jX:¬(i:Int)<(W.co.Qd.fs.length:Int):=by omega
 have bX:decide (i<W.co.Qd.fs.length)=false:=dff hX
 have HQ:Hid (∀V,Ext B V->cl V w.heap.size 0 (.pointer (some ⟨P,0,none⟩))/\cl V (w.heap.size+1+1) 1 (.int .i64 i)/\cl V P 2 (.slice a.n.fo W.co.now.fs.length a.n.fc)/\cl V P 5 (.slice a.x.fo W.co.Qd.fs.length a.x.fc)/\cl V P 9 (.slice (some ⟨sb,0,none⟩) n n)/\cl V P 12 (.slice ko W.pk.length kc)):=fun V hV=>by
  obtain⟨z0,z1,z2,z3,z4,z5⟩:=HS.out V hV
  exact⟨z0,z1,z2,z3,z4,z5⟩
 go_enter func13,ntmps13
 go_upto_region 36 with fail
 rw[<-hB]
 clear hB hb2
 go_upto_region 39 with fail
 have hdq:Ext B B.drew:=(Ext.refl B).drew
 go_region_held3 (fun V=>cl V w.heap.size 0 (.pointer (some ⟨P,0,none⟩))/\cl V (w.heap.size+1+1) 1 (.int .i64 i)/\cl V P 2 (.slice a.n.fo W.co.now.fs.length a.n.fc)/\cl V P 5 (.slice a.x.fo W.co.Qd.fs.length a.x.fc)/\cl V P 9 (.slice (some ⟨sb,0,none⟩) n n)/\cl V P 12 (.slice ko W.pk.length kc))
  (first | (with_reducible exact HQ.out _ hdq) | fail)
  (fail)
 have EB2:Ext B B.drew:=hdq
 clear hdq lP lw lt1 lt2 lsb
 generalize B.drew=B2 at EB2
 obtain⟨lP,lw,lt1,lt2,lsb⟩:=HPB.out B2 EB2
 go_upto_region 41 with fail
 have hdq:Ext B B2.drew:=EB2.drew
 go_region_held3 (fun V=>cl V w.heap.size 0 (.pointer (some ⟨P,0,none⟩))/\cl V (w.heap.size+1+1) 1 (.int .i64 i)/\cl V P 2 (.slice a.n.fo W.co.now.fs.length a.n.fc)/\cl V P 5 (.slice a.x.fo W.co.Qd.fs.length a.x.fc)/\cl V P 9 (.slice (some ⟨sb,0,none⟩) n n)/\cl V P 12 (.slice ko W.pk.length kc))
  (first | (with_reducible exact HQ.out _ hdq) | fail)
  (fail)
 have EB3:Ext B B2.drew:=hdq
 clear hdq lP lw lt1 lt2 lsb
 generalize B2.drew=B3 at EB3
 obtain⟨lP,lw,lt1,lt2,lsb⟩:=HPB.out B3 EB3
 go_wp2
 go_ret
 rw[HD.out]
 exact⟨rfl,tg,a,_,lv,HW.out.Qm (EB.trans EB3),Zv.ext (EB.trans EB3),HWN.out⟩
end Rm
end Go.Proofs.YthkpbefnkmmaiaaGreat
