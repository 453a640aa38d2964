/- Proved: the law RoomRefused answers true for every net and whatever happens in it, and leaves them as they were: without what is refused all comes to the same. Conditions: none but that the arguments can be read. -/
import Derived.Test.YthkpbefnkmmaiaaGreatRRb
import Derived.Test.YthkpbefnkmmaiaaGreatU46
import Derived.Test.YthkpbefnkmmaiaaGreatU35
import Derived.Test.YthkpbefnkmmaiaaGreatU24
namespace Go.Proofs.YthkpbefnkmmaiaaGreat.Rm
open Go.RowKit Go.Deep Stw Stp Tb Rul Ct
theorem plyNr {N:Int} {ls:List Lk} {ds:List Dd} (h:(plyF N ls ds).1=0):∃n:Nat,N=(n:Int)∧n≤8∧(wrong n ls).1=0∧ds.length≤200∧plyF N ls ds=(0,0)∧plyW N ls ds=run n ls ds:=by
 obtain⟨h1,h2,h3,h4⟩:=plyF_right h
 have hb:=(right_of h1).bounds
 obtain⟨n,rfl⟩:=Int.eq_ofNat_of_zero_le (show 0≤N by omega)
 exact⟨n,rfl,by omega,h1,h2,h3,h4⟩
theorem goodD_mem:∀{ds:List Dd} {c:List Int} {d:Dd},d∈goodD ds c→d∈ds
 | [],c,d,h=>by simp[goodD] at h
 | x::r,[],d,h=>by simp[goodD] at h
 | x::r,e::c,d,h=>by
  unfold goodD at h
  split at h
  ·rcases List.mem_cons.1 h with rfl | h
   ·exact List.mem_cons_self
   ·exact List.mem_cons_of_mem _ (goodD_mem h)
  ·exact List.mem_cons_of_mem _ (goodD_mem h)
theorem good_run {n:Nat} {ls:List Lk} {ds:List Dd} {W:Wd} {came:List Int} (h:(W,came)=run n ls ds):(run n ls (goodD ds came)).1=W∧∀e∈(run n ls (goodD ds came)).2,e=0:=by
 have h1:=goodD_run (n:=n) (ls:=ls) (ds:=ds) (W:=wdN n)
 have e:runR n ls (wdN n,[]) ds=(W,came):=h.symm
 rw[e] at h1
 exact h1
set_option maxRecDepth 100000 in
set_option maxHeartbeats 4000000 in
theorem roomRefused_any (N:Int) (ao:Option Addr) (len cap:Nat) (ls:List Lk) (lo:Option Addr) (lc:Nat) (ds:List Dd) (w:World) (hlen:ls.length=len) (hl:NetAt w ao ls) (hx:len≤9223372036854775807) (hd:DosAt w lo ds) (hS:DsSm ds) (hdl:ds.length≤9223372036854775807):
 Calls Tryz.prog 4 #[.agg #[.int .i64 N,.slice ao len cap],.slice lo ds.length lc] w fun e w'=>e=.returned (.bool true)∧Ext w w':=by
 have hE0:=(Ext.refl w).alloc (.cells #[.int .i64 N,.slice ao len cap] 24)
 go_enter Tryz.func4,Tryz.ntmps4
 go_wp2_with fail
 refine(alive_any _).mono ?_
 rintro e w1 ⟨rfl,E1⟩
 have n0:w1.cell? ⟨w.heap.size,0,none⟩=some (.int .i64 N):=(E1.cells.1 _ _ (by simp)).trans (by simp)
 have n1:w1.cell? ⟨w.heap.size,1,none⟩=some (.slice ao len cap):=(E1.cells.1 _ _ (by simp)).trans (by simp)
 have hs1:w.heap.size<w1.heap.size:=by have:=E1.size;simp at this;omega
 have E01:=hE0.trans E1
 clear hE0 E1
 go_wp2_with fail
 refine(Play_any N ao len cap ls lo lc ds w1 hlen (hl.ext E01) hx (hd.ext E01) hS hdl).mono ?_
 intro e w4 hP
 have HW:Hid ((plyF N ls ds).1=0→∃n:Nat,N=(n:Int)∧(wrong n ls).1=0∧ds.length≤200∧plyW N ls ds=run n ls ds):=fun h=>by
  obtain⟨n,h1,_,h3,h4,_,h6⟩:=plyNr h
  exact⟨n,h1,h3,h4,h6⟩
 generalize plyF N ls ds=f at hP HW
 generalize plyW N ls ds=q at hP HW
 obtain⟨W,came⟩:=q
 obtain⟨A,co,cc,rfl,E4,HP⟩:=hP
 obtain⟨f0,f1⟩:=f
 unfold wvl
 simp only at HW HP ⊢
 have E04:=E01.trans E4
 have m0:=(E4.cells.1 _ _ hs1).trans n0
 have m1:=(E4.cells.1 _ _ hs1).trans n1
 have hs4:w.heap.size<w4.heap.size:=by have:=E4.size;omega
 have HNT:=hidp (hl.ext E04)
 have HDS:=hidp (hd.ext E04)
 have HSM:=hidp hS
 clear n0 n1 hl hd hS
 go_upto_region 4 with fail
 obtain⟨w5,hw5⟩:∃w5,w5=(w4.alloc (.cells #[.int .i64 W.co.st,.int .i64 W.co.now.v,.slice A.ca.n.fo W.co.now.fs.length A.ca.n.fc,.slice A.ca.n.qo W.co.now.ps.length A.ca.n.qc,.int .i64 W.co.nxt.v,.slice A.ca.x.fo W.co.nxt.fs.length A.ca.x.fc,.slice A.ca.x.qo W.co.nxt.ps.length A.ca.x.qc,.int .i64 W.co.num,.slice A.ca.wo W.co.wts.length A.ca.wc,.slice A.so W.sw.length A.sc,.slice A.oo W.od.length A.oc,.slice A.bo W.bk.length A.bc,.slice A.ko W.pk.length A.kc,.slice A.lo W.pn.length A.lc] 39)).alloc (.cells #[.int .i64 f0,.int .i64 f1] 43):=⟨_,rfl⟩
 rw[←hw5]
 have E45:Ext w4 w5:=by rw[hw5];exact((Ext.refl w4).alloc _).alloc _
 have hz5:w5.heap.size=w4.heap.size+1+1:=by rw[hw5];simp
 have HE5:=hidp (E04.trans E45)
 have HBX:Hid (∀V,Ext w5 V→(V.cell? ⟨w.heap.size,0,none⟩=some (.int .i64 N)∧V.cell? ⟨w.heap.size,1,none⟩=some (.slice ao len cap)∧w.heap.size<V.heap.size)∧V.cell? ⟨w4.heap.size+1,0,none⟩=some (.int .i64 f0)∧w4.heap.size+1<V.heap.size):=fun V hV=>
  ⟨⟨((E45.trans hV).cells.1 _ _ hs4).trans m0,((E45.trans hV).cells.1 _ _ hs4).trans m1,by have:=hV.size;omega⟩,(hV.cells.1 _ _ (by omega)).trans (by rw[hw5];simp),by have:=hV.size;omega⟩
 have HBK:Hid (∀V,Ext w5 V→V.heap[w4.heap.size]? =some (.cells #[.int .i64 W.co.st,.int .i64 W.co.now.v,.slice A.ca.n.fo W.co.now.fs.length A.ca.n.fc,.slice A.ca.n.qo W.co.now.ps.length A.ca.n.qc,.int .i64 W.co.nxt.v,.slice A.ca.x.fo W.co.nxt.fs.length A.ca.x.fc,.slice A.ca.x.qo W.co.nxt.ps.length A.ca.x.qc,.int .i64 W.co.num,.slice A.ca.wo W.co.wts.length A.ca.wc,.slice A.so W.sw.length A.sc,.slice A.oo W.od.length A.oc,.slice A.bo W.bk.length A.bc,.slice A.ko W.pk.length A.kc,.slice A.lo W.pn.length A.lc] 39 (0,0))∧w4.heap.size<V.heap.size):=fun V hV=>
  ⟨(Below.block hV _ (by omega)).trans (by rw[hw5,blk_alloc_lt _ _ _ (by simp)];exact new_at rfl),by have:=hV.size;omega⟩
 obtain⟨_,p1,pl1⟩:=HBX.out w5 (Ext.refl w5)
 have HDA:=hidp (HDS.out.ext E45)
 have HN5:=hidp (HNT.out.ext E45)
 have HWO:=hidp (HP.out.1.ext E45)
 have HCA:=hidp (HP.out.2.ext E45)
 clear m0 m1 E45 hw5 HP E04 E4 E01 HNT HDS hz5
 by_cases hf:f0=0
 ·obtain⟨n,rfl,hw,hl2,hq⟩:=HW.out hf
  subst hf
  have hIV:Inv n ls ds.length W:=by
   have:=run_inv (n:=n) (ls:=ls) (ds:=ds) hw (by omega)
   rwa [←hq] at this
  have hcl:came.length=ds.length:=by
   have:=run_len (n:=n) (ls:=ls) (ds:=ds)
   rwa [←hq] at this
  have HCL:=hidp hcl
  clear hcl
  have HGR:=hidp (good_run hq)
  have HWS:=hidp (hIV.sm (by omega))
  have HWR:=hidp hw
  clear hw hq HW hIV
  go_wp2
  go_loopw [8,29] (fun gv iv wd=>∃(k:Nat) (v:Value),k≤ds.length∧iv=.int .i64 k∧gv=v∧Hid (RS w5 w5 none wd v (goodD (ds.take k) (came.take k)))) (fun _ iv _=>ds.length - (intOf iv).toNat)
  case atStart=>exact⟨0,_,by omega,rfl,rfl,by rw[List.take_zero,List.take_zero];exact RS.start (DO.nil w5 w5) (Ext.refl w5)⟩
  case round=>
   obtain⟨k,v,hk,rfl,hlv,HX⟩:=hrel
   obtain rfl:=hlv.symm
   clear p1 pl1
   by_cases hlt:k<ds.length
   ·have i1:(k:Int)<(ds.length:Int):=by omega
    have i2:(k:Int)<(came.length:Int):=by have:=HCL.out;omega
    have HTK:=hidp (goodD_take (ds:=ds) (c:=came) hlt HCL.out)
    have hEr:=HX.out.ext
    obtain⟨eb,eoff,hco,heb,hec⟩:=HCA.out.get (k:=k) (by have:=HCL.out;omega)
    have d0:=(hEr.cells.1 _ _ heb).trans (hec k (by have:=HCL.out;omega))
    obtain⟨db,doff,fo,fc,hlo,hdb,c0,c1,c2,hfl⟩:=HDA.out.get hlt
    have q0:=(hEr.cells.1 _ _ hdb).trans c0
    have q1:=(hEr.cells.1 _ _ hdb).trans c1
    have q2:=(hEr.cells.1 _ _ hdb).trans c2
    have heb':eb<wr.heap.size:=by have:=hEr.size;omega
    have hdb':db<wr.heap.size:=by have:=hEr.size;omega
    have HGL:=hidp (goodD_le (ds:=ds.take k) (c:=came.take k))
    have HKL:Hid ((ds.take k).length=k):=by show _=_;rw[List.length_take];omega
    generalize goodD (ds.take k) (came.take k)=g0 at HX HTK HGL
    generalize ds.getD k dd0=d at q0 q1 q2 hfl HTK
    generalize came.getD k 0=er at d0 HTK
    clear hec c0 c1 c2
    subst hco
    subst hlo
    by_cases her:er=0
    ·subst her
     obtain⟨lo2,lc2,hv2,_⟩:=HX.out.row.form
     have hgl:g0.length+1≤1000000:=by have:=HGL.out;have:=HKL.out;omega
     have HTE:Hid (goodD (ds.take (k+1)) (came.take (k+1))=g0++[d]):=by
      show _=_
      rw[HTK.out,if_pos rfl]
     have HR2:Hid (RS w5 w5 none (wr.alloc (.cells #[.int .i64 d.k,.int .i64 d.n,.slice fo d.fs.length fc] 50)) v g0):=HX.out.toExt ((Ext.refl wr).alloc _)
     have HD2:Hid (DosIn w5 (wr.alloc (.cells #[.int .i64 d.k,.int .i64 d.n,.slice fo d.fs.length fc] 50)) (some ⟨wr.heap.size,0,none⟩) [d]):=one_in (d:=d) rfl hfl
     subst hv2
     clear HTK hfl
     go_wp2_with (first | (at_builtin;refine wpList_append_rs rfl _ _ rfl rfl rfl HR2.out rfl (by decide) HD2.out hgl ?_) | go_in)
     intro bb off cp W7 h7
     have H7:=hidp h7
     clear h7 HR2 HD2 q0 q1 q2 d0
     go_wp2
     refine⟨⟨k+1,_,by omega,by go_num,rfl,?_⟩,by simp[intOf];omega⟩
     rw[HTE.out]
     exact H7.out
    ·have b1:(er == 0)=false:=by simpa using her
     have HTE:Hid (goodD (ds.take (k+1)) (came.take (k+1))=g0):=by
      show _=_
      rw[HTK.out,if_neg her,List.append_nil]
     clear HTK
     go_wp2
     refine⟨⟨k+1,_,by omega,by go_num,rfl,?_⟩,by simp[intOf];omega⟩
     rw[HTE.out]
     exact HX.out
   ·have i1:¬(k:Int)<(ds.length:Int):=by omega
    have hkd:k=ds.length:=by omega
    have HX9:Hid (RS w5 w5 none wr v (goodD ds came)):=by
     have:=HX.out
     rw[hkd,List.take_length, ←HCL.out,List.take_length] at this
     exact this
    obtain⟨lo2,lc2,hv2,hDI,_⟩:=HX9.out.row.form
    have hEr:=HX9.out.ext
    have hDA:=hDI.dos hEr
    have hsm2:DsSm (goodD ds came):=fun d hd=>HSM.out d (goodD_mem hd)
    have hgl:(goodD ds came).length≤200:=Nat.le_trans goodD_le hl2
    have HPL:=hidp (Play_any n ao len cap ls lo2 lc2 (goodD ds came) wr hlen (HN5.out.ext hEr) hx hDA hsm2 (by omega))
    have hpl:=plyF_of (n:=(n:Int)) (ds:=goodD ds came) HWR.out (by omega)
    have HRN:Hid (plyW n ls (goodD ds came)=run n ls (goodD ds came)):=hpl.2
    rw[HRN.out,hpl.1] at HPL
    obtain⟨⟨t0,t1,tl⟩,_⟩:=HBX.out wr hEr
    have HDL0:Hid ((run n ls (goodD ds came)).2.length≤200):=by
     show _≤_
     rw[run_len];exact hgl
    generalize run n ls (goodD ds came)=q at HPL HGR HDL0
    obtain⟨X,dame⟩:=q
    obtain⟨hXW,hdz⟩:=HGR.out
    simp only at HPL hXW hdz HDL0
    have HDL:Hid (dame.length≤200):=HDL0.out
    subst hXW
    have HDZ:=hidp hdz
    have HER:=hidp hEr
    clear hDI hDA hsm2 hpl hdz hkd HX HX9 HRN HGR
    subst hv2
    go_wp2_with fail
    refine Calls.mono HPL.out ?_
    rintro e w6 ⟨B,bo,bc,rfl,E6,HB⟩
    unfold wvl
    clear HPL t0 t1
    go_upto_region 14 with fail
    obtain⟨w7,hw7⟩:∃w7,w7=(w6.alloc (.cells #[.int .i64 X.co.st,.int .i64 X.co.now.v,.slice B.ca.n.fo X.co.now.fs.length B.ca.n.fc,.slice B.ca.n.qo X.co.now.ps.length B.ca.n.qc,.int .i64 X.co.nxt.v,.slice B.ca.x.fo X.co.nxt.fs.length B.ca.x.fc,.slice B.ca.x.qo X.co.nxt.ps.length B.ca.x.qc,.int .i64 X.co.num,.slice B.ca.wo X.co.wts.length B.ca.wc,.slice B.so X.sw.length B.sc,.slice B.oo X.od.length B.oc,.slice B.bo X.bk.length B.bc,.slice B.ko X.pk.length B.kc,.slice B.lo X.pn.length B.lc] 39)).alloc (.cells #[.int .i64 0,.int .i64 0] 43):=⟨_,rfl⟩
    rw[←hw7]
    have E67:Ext w6 w7:=by rw[hw7];exact((Ext.refl w6).alloc _).alloc _
    have hz7:w7.heap.size=w6.heap.size+1+1:=by rw[hw7];simp
    have HE57:Hid (Ext w5 w7):=HER.out.trans (E6.trans E67)
    have HE7:Hid (Ext w w7):=HE5.out.trans HE57.out
    have HB7:Hid (∀V,Ext w7 V→WoAt V X B∧ListAt V bo dame):=fun V hV=>⟨HB.out.1.ext (E67.trans hV),HB.out.2.ext (E67.trans hV)⟩
    have HBL:Hid (∀V,Ext w7 V→V.heap[w6.heap.size]? =some (.cells #[.int .i64 X.co.st,.int .i64 X.co.now.v,.slice B.ca.n.fo X.co.now.fs.length B.ca.n.fc,.slice B.ca.n.qo X.co.now.ps.length B.ca.n.qc,.int .i64 X.co.nxt.v,.slice B.ca.x.fo X.co.nxt.fs.length B.ca.x.fc,.slice B.ca.x.qo X.co.nxt.ps.length B.ca.x.qc,.int .i64 X.co.num,.slice B.ca.wo X.co.wts.length B.ca.wc,.slice B.so X.sw.length B.sc,.slice B.oo X.od.length B.oc,.slice B.bo X.bk.length B.bc,.slice B.ko X.pk.length B.kc,.slice B.lo X.pn.length B.lc] 39 (0,0))∧w6.heap.size<V.heap.size):=fun V hV=>
     ⟨(Below.block hV _ (by omega)).trans (by rw[hw7,blk_alloc_lt _ _ _ (by simp)];exact new_at rfl),by have:=hV.size;omega⟩
    clear hw7 E67 E6 HB hz7
    have hdl2:dame.length≤200:=HDL.out
    go_wp2
    go_loopw [54] (fun iv wd=>∃k:Nat,k≤dame.length∧iv=.int .i64 k∧wd=w7) (fun iv _=>dame.length - (intOf iv).toNat)
    case atStart=>exact⟨0,Nat.zero_le _,rfl,rfl⟩
    case round=>
     obtain⟨j,hj,rfl,rfl⟩:=hrel
     by_cases hjl:j<dame.length
     ·have j1:(j:Int)<(dame.length:Int):=by omega
      obtain⟨eb,eoff,hbo,heb,hec⟩:=(HB7.out _ (Ext.refl _)).2.get hjl
      have d0:=hec j hjl
      rw[HDZ.out (dame.getD j 0) (by rw[List.getD_eq_getElem?_getD,List.getElem?_eq_getElem hjl];exact List.getElem_mem hjl)] at d0
      clear hec
      subst hbo
      go_wp2
      exact⟨⟨j+1,by omega,by go_num,trivial⟩,by simp[intOf];omega⟩
     ·have j1:¬(j:Int)<(dame.length:Int):=by omega
      obtain⟨bA,lA⟩:=HBK.out _ HE57.out
      obtain⟨bB,lB⟩:=HBL.out _ (Ext.refl _)
      have p0:=box_cell bA 0
      have q0:=box_cell bB 0
      have p1:=box_cell bA 1
      have q1:=box_cell bB 1
      have p2:=box_cell bA 2
      have q2:=box_cell bB 2
      have p3:=box_cell bA 3
      have q3:=box_cell bB 3
      have p4:=box_cell bA 4
      have q4:=box_cell bB 4
      have p5:=box_cell bA 5
      have q5:=box_cell bB 5
      have p6:=box_cell bA 6
      have q6:=box_cell bB 6
      have p7:=box_cell bA 7
      have q7:=box_cell bB 7
      have p8:=box_cell bA 8
      have q8:=box_cell bB 8
      have p9:=box_cell bA 9
      have q9:=box_cell bB 9
      have p10:=box_cell bA 10
      have q10:=box_cell bB 10
      have p11:=box_cell bA 11
      have q11:=box_cell bB 11
      have p12:=box_cell bA 12
      have q12:=box_cell bB 12
      have p13:=box_cell bA 13
      have q13:=box_cell bB 13
      simp only[List.getElem?_toArray,List.getElem?_cons_zero,List.getElem?_cons_succ] at p0 q0 p1 q1 p2 q2 p3 q3 p4 q4 p5 q5 p6 q6 p7 q7 p8 q8 p9 q9 p10 q10 p11 q11 p12 q12 p13 q13
      clear bA bB
      have HSW:=hidp (SameWorld_same n X A B _ (HWO.out.ext HE57.out) (HB7.out _ (Ext.refl _)).1 HWS.out)
      unfold wvl at HSW
      go_wp2_with fail
      with_reducible refine Calls.mono HSW.out ?_
      rintro e w8 ⟨rfl,E8⟩
      clear p0 q0 p1 q1 p2 q2 p3 q3 p4 q4 p5 q5 p6 q6 p7 q7 p8 q8 p9 q9 p10 q10 p11 q11 p12 q12 p13 q13 HSW
      go_wp2
      go_ret
      exact⟨rfl,HE7.out.trans E8⟩
 ·have b1:(f0 != 0)=true:=by simpa using hf
  go_wp2
  go_ret
  exact⟨rfl,HE5.out⟩
end Go.Proofs.YthkpbefnkmmaiaaGreat.Rm
namespace Go.Proofs.YthkpbefnkmmaiaaGreat
open Go.ChangeShapes Go.WideShapes Go.ChangeAt Go.RowKit Go.Deep Go.Joins Stw
set_option maxRecDepth 100000 in
theorem roomRefused_lifted (os:Os) (started:os.Started) (H:Type) (enc:TypeId×Value→H):
 ReturnsInHanded {} Tryz.checked os 4 .any (Rows.roomRefusedSpec.pre6 enc Tryz.prog Tryz.f4 Rows.roomRefusedRow.domain false) (Rows.roomRefusedSpec.post enc Tryz.prog Tryz.f4 false true false false):=by
 refine returnsInHanded_of_change_sized (C:=Tryz.checked) Tryz.own started (by kernel_rfl) Tryz.func4
  (ChangeSpec.witness6 (enc:=enc) (C:=Tryz.checked) false ⟨#[],#[.agg #[.int .i64 0,.slice none 0 0],.slice none 0 0],[]⟩ 8 (by kernel_rfl) (by kernel_rfl) (by kernel_rfl) (by kernel_rfl)) ?_
 intro W base args ds gs before hval0 hW hcnd hsz0 _
 have hval:∀(j:Nat) t v,Tryz.f4.params[j]? =some t→args[j]? =some v→Value.okWide Tryz.prog W .any base t v:=hval0
 have hsz:(DataW.weightsEach Tryz.prog (Tryz.f4.params.toList++Rows.roomRefusedSpec.plain.varTypes Tryz.prog) (ds++gs)).all (· ≤reachBytes)=true:=hsz0
 have hW':=hW
 obtain⟨p,q,hA0,hV,rfl,hfz,hnd⟩:=hW
 have hA:DataW.TrodAll enc Tryz.prog W 0 (fun _=>true) true Tryz.f4.params.toList args.toList ds p:=hA0
 rw[Tryz.params4] at hA hval hsz
 obtain⟨v0,vs0,d0,dt0,p0,q0,hargs,rfl,rfl,h0,r0⟩:=trodAll_cons hA
 obtain⟨v1,vs1,d1,dt1,p1,q1,rfl,rfl,rfl,h1,r1⟩:=trodAll_cons r0
 obtain⟨rfl,rfl,rfl⟩:=trodAll_nil r1
 obtain rfl:args=#[v0,v1]:=by cases args;simp_all
 obtain⟨rfl,rfl⟩:=trodVars_none hV
 have k0:=h0
 have lt0:∀x∈p0,x.block<W.heap.size:=by obtain⟨m,hm⟩:=k0;exact DataW.trod_lt m _ _ _ hm
 have k1:=h1
 have lt1:∀x∈p1,x.block<W.heap.size:=by obtain⟨m,hm⟩:=k1;exact DataW.trod_lt m _ _ _ hm
 obtain⟨n0,ao0,len0,cap0,ls0,rfl,hn0,hlen0,hnet0,hlw0,hreach0,hcap0,hcm0⟩:=open_topo (hval 0 24 v0 rfl rfl) h0 (weights_arg hsz (j:=0) rfl rfl)
 obtain⟨po1,pl1,pc1,rfl⟩:=okWide_slice Tryz.underlying25 (hval 1 25 v1 rfl rfl)
 obtain⟨fuel1,hf1⟩:=h1
 obtain⟨po1',pl1',pc1',ds1,ecs1,hdl1,hda1,hdx1,hds1,hdc1,hdm1⟩:=open_dos hf1 (weights_arg hsz (j:=1) rfl rfl)
 simp[Value.cells] at ecs1
 obtain⟨rfl,rfl,rfl⟩:=ecs1
 subst hdl1
 clear hA0 hval0 hsz0
 refine(Rm.roomRefused_any n0 ao0 len0 cap0 ls0 po1 pc1 ds1 W hlen0 hnet0 (by omega) hda1 hds1 hdx1).mono fun e W' ⟨he,bel0⟩=>?_
 subst he
 have bel:Below W.heap.size W W':=bel0
 exact⟨_,rfl,_,_,_,[],_,[],hW',trodAll_mk1 (shut_bool Tryz.underlying4 _),(trodAll_cons_mk (Below.trod Tryz.laidOut (by kernel_rfl) (of_decide_eq_true (by kernel_rfl)) k0 bel lt0) (trodAll_cons_mk (Below.trod Tryz.laidOut (by kernel_rfl) (of_decide_eq_true (by kernel_rfl)) k1 bel lt1) trodAll_mk0)),rfl,bel.frame _,fun h=>by cases h⟩
theorem roomRefused_holds:Rows.RoomRefusedSaid:=
 OpenClaim.holds_of_wide 4 Tryz.f4 rfl rfl rfl rfl rfl rfl rfl ⟨rfl,rfl,rfl,rfl,rfl⟩ rfl rfl rfl rfl rfl (by kernel_rfl) Tryz.func4 (by kernel_rfl)
  (of_decide_eq_true (by kernel_rfl)) (by unfold Func.isWrapper;first | (rw[if_pos (by decide+kernel)];kernel_rfl) | (rw[if_neg (by decide+kernel)];exact⟨rfl,rfl⟩))
  (fun os started H enc _=>roomRefused_lifted os started H enc)
#print axioms roomRefused_holds
end Go.Proofs.YthkpbefnkmmaiaaGreat
