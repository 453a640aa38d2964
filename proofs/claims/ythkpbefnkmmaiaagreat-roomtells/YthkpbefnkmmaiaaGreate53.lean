/- Proved: for every net and whatever happens in it, the program's Play tells the same world, and the same of each thing, as the document's own. Conditions: none. -/
import Derived.Test.YthkpbefnkmmaiaaGreate51
import Derived.Test.YthkpbefnkmmaiaaGreate52
set_option maxRecDepth 100000
set_option maxHeartbeats 4000000
namespace Go.Proofs.YthkpbefnkmmaiaaGreat
open Go.Proofs.Tryz
namespace Rm
open Go.RowKit Go.Deep Stw Stp Tb Rul Ct
theorem plyNt{N:Int}{ls:List Lk}{ds:List Dd}(h:(plyF N ls ds).1=0):∃n:Nat,N=(n:Int)/\n<=8/\(Qc n ls).1=0/\ds.length<=200/\plyF N ls ds=(0,0)/\plyW N ls ds=run n ls ds:=by
 obtain⟨h1,h2,h3,h4⟩:=plyF_right h
 have hb:=(Zo h1).bounds
 obtain⟨n,rfl⟩:=Int.eq_ofNat_of_zero_le (show 0<=N by omega)
 exact⟨n,rfl,by omega,h1,h2,h3,h4⟩
theorem ply_sm(N:Int)(ls:List Lk)(ds:List Dd):∃m,WdSm m (plyW N ls ds).1/\(plyW N ls ds).2.length<=200:=by
 by_cases h:(plyF N ls ds).1=0
 ·obtain⟨n,_,_,hw,hl,_,hq⟩:=plyNt h
  rw[hq]
  exact⟨n,(q7s (n:=n) (ls:=ls) (ds:=ds) hw (by omega)).sm (by omega),by rw[z6u];exact hl⟩
 ·refine⟨0,?_⟩
  unfold plyW
  rw[if_pos h]
  exact⟨⟨by omega,⟨PlOk.zero,PlOk.zero,by simp[wd0,co0]⟩,rfl,rfl,rfl,fun s hs=>by omega,fun s hs=>by omega,by simp[wd0],fun i hi=>by simp[wd0] at hi,by simp[wd0],fun i hi=>by simp[wd0] at hi⟩,by simp⟩
theorem z1d(N:Int)(ao:Option Addr)(len cap:Nat)(ls:List Lk)(lo:Option Addr)(lc:Nat)(ds:List Dd)(w:World)(hlen:ls.length=len)(hl:Zg w ao ls)(hx:len<=9223372036854775807)(hcap:len<=cap)(hd:z2z w lo ds)(hS:DsSm ds)(hdl:ds.length<=9223372036854775807):
 Calls prog 3 #[.agg #[.int .i64 N,.slice ao len cap],.slice lo ds.length lc] w fun e w'=>e=.returned (.bool true)/\Ext w w':=by
 have hE0:=(Ext.refl w).alloc (.cells #[.int .i64 N,.slice ao len cap] 24)
 have HPL1:Hid (∀V,Ext w V->Calls prog 5 #[.agg #[.int .i64 N,.slice ao len cap],.slice lo ds.length lc] V fun e w'=>q6s V (plyW N ls ds).1 (plyW N ls ds).2 (plyF N ls ds) e w'):=fun V hV=>Play_any N ao len cap ls lo lc ds V hlen (hl.ext hV) hx (hd.ext hV) hS hdl
 have HPL2:Hid (∀V,Ext w V->Calls prog 6 #[.agg #[.int .i64 N,.slice ao len cap],.slice lo ds.length lc] V fun e w'=>q6s V (plyW N ls ds).1 (plyW N ls ds).2 (plyF N ls ds) e w'):=fun V hV=>z6z N ao len cap ls lo lc ds V hlen (hl.ext hV) hx hcap (hd.ext hV) hS hdl
 have HSM:=Qa (ply_sm N ls ds)
 generalize plyF N ls ds=f at HPL1 HPL2
 generalize plyW N ls ds=q at HPL1 HPL2 HSM
 obtain⟨X,came⟩:=q
 obtain⟨f0,f1⟩:=f
 simp only at HPL1 HPL2 HSM
 obtain⟨m,hsm,hcl⟩:=HSM.out
 have HWS:=Qa hsm
 clear hsm HSM hl hd hS
 go_enter func3,ntmps3
 go_wp2_with fail
 refine Calls.mono (HPL1.out _ hE0) ?_
 rintro e w4 ⟨A,co,cc,rfl,E4,HP⟩
 have m0:w4.cell? ⟨w.heap.size,0,none⟩=some (.int .i64 N):=(E4.cells.1 _ _ (by simp)).trans (by simp)
 have m1:w4.cell? ⟨w.heap.size,1,none⟩=some (.slice ao len cap):=(E4.cells.1 _ _ (by simp)).trans (by simp)
 have hs4:w.heap.size<w4.heap.size:=by have:=E4.size;simp at this;omega
 have E04:=hE0.trans E4
 clear HPL1 hE0 E4
 unfold wvl
 go_upto_region 2 with fail
 obtain⟨w5,hw5⟩:=Qy ((w4.alloc (.cells #[.int .i64 X.co.st,.int .i64 X.co.now.v,.slice A.ca.n.fo X.co.now.fs.length A.ca.n.fc,.slice A.ca.n.qo X.co.now.ps.length A.ca.n.qc,.int .i64 X.co.Qd.v,.slice A.ca.x.fo X.co.Qd.fs.length A.ca.x.fc,.slice A.ca.x.qo X.co.Qd.ps.length A.ca.x.qc,.int .i64 X.co.num,.slice A.ca.wo X.co.Qg.length A.ca.wc,.slice A.so X.sw.length A.sc,.slice A.oo X.od.length A.oc,.slice A.bo X.bk.length A.bc,.slice A.ko X.pk.length A.kc,.slice A.lo X.pn.length A.lc] 39)).alloc (.cells #[.int .i64 f0,.int .i64 f1] 43))
 rw[<-hw5]
 have E45:Ext w4 w5:=by rw[hw5];exact((Ext.refl w4).alloc _).alloc _
 have hz5:w5.heap.size=w4.heap.size+1+1:=by rw[hw5];simp
 have HE5:=Qa (E04.trans E45)
 have HBK:Hid (∀V,Ext w5 V->V.heap[w4.heap.size]? =some (.cells #[.int .i64 X.co.st,.int .i64 X.co.now.v,.slice A.ca.n.fo X.co.now.fs.length A.ca.n.fc,.slice A.ca.n.qo X.co.now.ps.length A.ca.n.qc,.int .i64 X.co.Qd.v,.slice A.ca.x.fo X.co.Qd.fs.length A.ca.x.fc,.slice A.ca.x.qo X.co.Qd.ps.length A.ca.x.qc,.int .i64 X.co.num,.slice A.ca.wo X.co.Qg.length A.ca.wc,.slice A.so X.sw.length A.sc,.slice A.oo X.od.length A.oc,.slice A.bo X.bk.length A.bc,.slice A.ko X.pk.length A.kc,.slice A.lo X.pn.length A.lc] 39)/\w4.heap.size<V.heap.size/\(cl V (w4.heap.size+1) 0 (.int .i64 f0)/\cl V (w4.heap.size+1) 1 (.int .i64 f1)/\w4.heap.size+1<V.heap.size)):=fun V hV=>
  ⟨(Below.block hV _ (by omega)).trans (by rw[hw5,bal _ _ _ (by simp)];exact Q7 rfl),by have:=hV.size;omega,(hV.cells.1 _ _ (by omega)).trans (by rw[hw5];simp),(hV.cells.1 _ _ (by omega)).trans (by rw[hw5];simp),by have:=hV.size;omega⟩
 have t0:=(E45.cells.1 _ _ hs4).trans m0
 have t1:=(E45.cells.1 _ _ hs4).trans m1
 have hs5:w.heap.size<w5.heap.size:=by omega
 have HWO:=Qa (HP.out.1.ext E45)
 have HCA:=Qa (HP.out.2.ext E45)
 clear m0 m1 E45 hw5 HP E04 hz5 hs4
 go_wp2_with fail
 refine Calls.mono (HPL2.out _ HE5.out) ?_
 rintro e w6 ⟨B,bo,bc,rfl,E6,HB⟩
 unfold wvl
 clear HPL2 t0 t1
 go_upto_region 3 with fail
 obtain⟨w7,hw7⟩:=Qy ((w6.alloc (.cells #[.int .i64 X.co.st,.int .i64 X.co.now.v,.slice B.ca.n.fo X.co.now.fs.length B.ca.n.fc,.slice B.ca.n.qo X.co.now.ps.length B.ca.n.qc,.int .i64 X.co.Qd.v,.slice B.ca.x.fo X.co.Qd.fs.length B.ca.x.fc,.slice B.ca.x.qo X.co.Qd.ps.length B.ca.x.qc,.int .i64 X.co.num,.slice B.ca.wo X.co.Qg.length B.ca.wc,.slice B.so X.sw.length B.sc,.slice B.oo X.od.length B.oc,.slice B.bo X.bk.length B.bc,.slice B.ko X.pk.length B.kc,.slice B.lo X.pn.length B.lc] 39)).alloc (.cells #[.int .i64 f0,.int .i64 f1] 43))
 rw[<-hw7]
 have E67:Ext w6 w7:=by rw[hw7];exact((Ext.refl w6).alloc _).alloc _
 have hz7:w7.heap.size=w6.heap.size+1+1:=by rw[hw7];simp
 have HE57:Hid (Ext w5 w7):=E6.trans E67
 have HE7:Hid (Ext w w7):=HE5.out.trans HE57.out
 have HB7:Hid (WoAt w7 X B/\Qj w7 bo came):=⟨HB.out.1.ext E67,HB.out.2.ext E67⟩
 have bB:w7.heap[w6.heap.size]? =some (.cells #[.int .i64 X.co.st,.int .i64 X.co.now.v,.slice B.ca.n.fo X.co.now.fs.length B.ca.n.fc,.slice B.ca.n.qo X.co.now.ps.length B.ca.n.qc,.int .i64 X.co.Qd.v,.slice B.ca.x.fo X.co.Qd.fs.length B.ca.x.fc,.slice B.ca.x.qo X.co.Qd.ps.length B.ca.x.qc,.int .i64 X.co.num,.slice B.ca.wo X.co.Qg.length B.ca.wc,.slice B.so X.sw.length B.sc,.slice B.oo X.od.length B.oc,.slice B.bo X.bk.length B.bc,.slice B.ko X.pk.length B.kc,.slice B.lo X.pn.length B.lc] 39):=by rw[hw7,bal _ _ _ (by simp)];exact Q7 rfl
 have lB:w6.heap.size<w7.heap.size:=by omega
 have lB1:w6.heap.size+1<w7.heap.size:=by omega
 have u0:w7.cell? ⟨w6.heap.size+1,0,none⟩=some (.int .i64 f0):=by rw[hw7];simp
 have u1:w7.cell? ⟨w6.heap.size+1,1,none⟩=some (.int .i64 f1):=by rw[hw7];simp
 obtain⟨bA,lA,v0,v1,lA1⟩:=HBK.out _ HE57.out
 have p0:=Qb bA 0
 have q0:=Qb bB 0
 have p1:=Qb bA 1
 have q1:=Qb bB 1
 have p2:=Qb bA 2
 have q2:=Qb bB 2
 have p3:=Qb bA 3
 have q3:=Qb bB 3
 have p4:=Qb bA 4
 have q4:=Qb bB 4
 have p5:=Qb bA 5
 have q5:=Qb bB 5
 have p6:=Qb bA 6
 have q6:=Qb bB 6
 have p7:=Qb bA 7
 have q7:=Qb bB 7
 have p8:=Qb bA 8
 have q8:=Qb bB 8
 have p9:=Qb bA 9
 have q9:=Qb bB 9
 have p10:=Qb bA 10
 have q10:=Qb bB 10
 have p11:=Qb bA 11
 have q11:=Qb bB 11
 have p12:=Qb bA 12
 have q12:=Qb bB 12
 have p13:=Qb bA 13
 have q13:=Qb bB 13
 simp only[List.getElem?_toArray,List.getElem?_cons_zero,List.getElem?_cons_succ] at p0 q0 p1 q1 p2 q2 p3 q3 p4 q4 p5 q5 p6 q6 p7 q7 p8 q8 p9 q9 p10 q10 p11 q11 p12 q12 p13 q13
 have HSW:=Qa (q9g m X A B w7 (HWO.out.ext HE57.out) HB7.out.1 HWS.out)
 unfold wvl at HSW
 clear bA bB hw7 E67 E6 HB hz7
 go_wp2_with fail
 with_reducible refine Calls.mono HSW.out ?_
 rintro e w8 ⟨rfl,E8⟩
 have HE8:=Qa (HE7.out.trans E8)
 have HL1:=Qa (HCA.out.ext (HE57.out.trans E8))
 have HL2:=Qa (HB7.out.2.ext E8)
 clear p0 q0 p1 q1 p2 q2 p3 q3 p4 q4 p5 q5 p6 q6 p7 q7 p8 q8 p9 q9 p10 q10 p11 q11 p12 q12 p13 q13 v0 v1 u0 u1 HSW lA lA1 lB lB1 E8
 go_wp2
 go_loopw [44] (fun iv wd=>∃k:Nat,k<=came.length/\iv=.int .i64 k/\Ext w8 wd) (fun iv _=>came.length - (intOf iv).toNat)
 case atStart=>exact⟨0,Zu _,rfl,Ext.refl _⟩
 case round=>
  obtain⟨j,hj,rfl,hEr⟩:=hrel
  by_cases hjl:j<came.length
  ·have j1:(j:Int)<(came.length:Int):=by omega
   obtain⟨eb,eoff,hco,heb,hec⟩:=HL1.out.get hjl
   obtain⟨gb,goff,hbo,hgb,hgc⟩:=HL2.out.get hjl
   have d0:=(hEr.cells.1 _ _ heb).trans (hec j hjl)
   have d1:=(hEr.cells.1 _ _ hgb).trans (hgc j hjl)
   have heb':eb<wr.heap.size:=by have:=hEr.size;omega
   have hgb':gb<wr.heap.size:=by have:=hEr.size;omega
   clear hec hgc
   subst hco hbo
   go_wp2
   go_region
   go_wp2
   exact⟨⟨j+1,by omega,by go_num,hEr.drew⟩,by simp[intOf];omega⟩
  ·have j1:¬(j:Int)<(came.length:Int):=by omega
   go_wp2
   go_ret
   exact⟨rfl,HE8.out.trans hEr⟩
end Rm
section
open Go.ChangeShapes Go.WideShapes Go.ChangeAt Go.RowKit Go.Deep Go.Joins Stw
theorem q6u(os:Os)(started:os.Started)(H:Type)(enc:TypeId×Value->H):
 ReturnsInHanded {} Tryz.checked os 3 .any (Rows.roomTellsSpec.pre6 enc prog Tryz.f3 Rows.roomTellsRow.domain false) (Rows.roomTellsSpec.post enc prog Tryz.f3 false true false false):=by
 refine returnsInHanded_of_change_sized (C:=Tryz.checked) Tryz.own started (by kernel_rfl) func3
  (ChangeSpec.witness6 (enc:=enc) (C:=Tryz.checked) false ⟨#[],#[.agg #[.int .i64 0,.slice none 0 0],.slice none 0 0],[]⟩ 8 (by kernel_rfl) (by kernel_rfl) (by kernel_rfl) (by kernel_rfl)) ?_
 intro W base args ds gs before hval0 hW hcnd hsz0 _
 have hval:∀(j:Nat) t v,Tryz.f3.params[j]? =some t->args[j]? =some v->Value.okWide prog W .any base t v:=hval0
 have hsz:(DataW.weightsEach prog (Tryz.f3.params.toList++Rows.roomTellsSpec.plain.varTypes prog) (ds++gs)).all (· <=reachBytes)=true:=hsz0
 have hW':=hW
 obtain⟨p,q,hA0,hV,rfl,hfz,hnd⟩:=hW
 have hA:DataW.TrodAll enc prog W 0 (fun _=>true) true Tryz.f3.params.toList args.toList ds p:=hA0
 rw[Tryz.params3] at hA hval hsz
 obtain⟨v0,vs0,d0,dt0,p0,q0,hargs,rfl,rfl,h0,r0⟩:=trodAll_cons hA
 obtain⟨v1,vs1,d1,dt1,p1,q1,rfl,rfl,rfl,h1,r1⟩:=trodAll_cons r0
 obtain⟨rfl,rfl,rfl⟩:=trodAll_nil r1
 obtain rfl:args=#[v0,v1]:=by cases args;simp_all
 obtain⟨rfl,rfl⟩:=trodVars_none hV
 have k0:=h0
 have lt0:∀x∈p0,x.block<W.heap.size:=by obtain⟨m,hm⟩:=k0;exact DataW.trod_lt m _ _ _ hm
 have k1:=h1
 have lt1:∀x∈p1,x.block<W.heap.size:=by obtain⟨m,hm⟩:=k1;exact DataW.trod_lt m _ _ _ hm
 obtain⟨n0,ao0,len0,cap0,ls0,rfl,hn0,hlen0,hnet0,hlw0,hreach0,hcap0,hcm0⟩:=open_topo (hval 0 24 v0 rfl rfl) h0 (q7k hsz (j:=0) rfl rfl)
 obtain⟨po1,pl1,pc1,rfl⟩:=okWide_slice underlying25 (hval 1 25 v1 rfl rfl)
 obtain⟨fuel1,hf1⟩:=h1
 obtain⟨po1',pl1',pc1',ds1,ecs1,hdl1,hda1,hdx1,hds1,hdc1,hdm1⟩:=open_dos hf1 (q7k hsz (j:=1) rfl rfl)
 simp[Value.cells] at ecs1
 obtain⟨rfl,rfl,rfl⟩:=ecs1
 subst hdl1
 clear hA0 hval0 hsz0
 refine(Rm.z1d n0 ao0 len0 cap0 ls0 po1 pc1 ds1 W hlen0 hnet0 (by omega) hcap0 hda1 hds1 hdx1).mono fun e W' ⟨he,bel0⟩=>?_
 subst he
 have bel:Below W.heap.size W W':=bel0
 exact⟨_,rfl,_,_,_,[],_,[],hW',trodAll_mk1 (shut_bool underlying4 _),(trodAll_cons_mk (Below.trod Tryz.laidOut (by kernel_rfl) (of_decide_eq_true (by kernel_rfl)) k0 bel lt0) (trodAll_cons_mk (Below.trod Tryz.laidOut (by kernel_rfl) (of_decide_eq_true (by kernel_rfl)) k1 bel lt1) trodAll_mk0)),rfl,bel.frame _,fun h=>by cases h⟩
theorem roomTells_holds:Rows.RoomTellsSaid:=
 OpenClaim.holds_of_wide 3 Tryz.f3 rfl rfl rfl rfl rfl rfl rfl ⟨rfl,rfl,rfl,rfl,rfl⟩ rfl rfl rfl rfl rfl (by kernel_rfl) func3 (by kernel_rfl)
  (of_decide_eq_true (by kernel_rfl)) (by unfold Func.isWrapper;first | (rw[if_pos (by decide+kernel)];kernel_rfl) | (rw[if_neg (by decide+kernel)];exact⟨rfl,rfl⟩))
  (fun os started H enc _=>q6u os started H enc)
#print axioms roomTells_holds
end
end Go.Proofs.YthkpbefnkmmaiaaGreat
