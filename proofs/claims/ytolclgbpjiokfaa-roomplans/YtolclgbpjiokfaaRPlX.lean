/- Proved: the law RoomPlans answers true for every net and whatever happens in it, and leaves them as they were: versions rise one by one, and each plan serves all its flows. Conditions: none but that the arguments can be read. -/
import Derived.Test.YtolclgbpjiokfaaU36
import Derived.Test.YtolclgbpjiokfaaU37
import Derived.Test.YtolclgbpjiokfaaU24
namespace Go.Proofs.Ytolclgbpjiokfaa.Rm
open Go.RowKit Go.Deep Stw Stp Tb Rul Ct
theorem fnd_all {n version:Int} {ls:List Lk} {fs:List Stf.Fl} (h:(plnF n version ls fs).1=0):∀k,k<fs.length→(fnd n ls (fs.getD k Fw.f0)).1=0:=by
 have hw:(Stw.wrong n ls).1=0:=by
  by_cases e:(Stw.wrong n ls).1=0
  ·exact e
  ·rw[plnF_wrong e] at h;exact absurd h e
 have hv:¬(version<1∨1000<version):=fun e=>by rw[plnF_range hw e] at h;cases h
 have hfl:(Stf.wflows fs n).1=0:=by
  by_cases e:(Stf.wflows fs n).1=0
  ·exact e
  ·rw[plnF_flows hw hv e] at h;exact absurd h e
 intro k
 induction k using Nat.strongRecOn with
 | ind k ih=>
  intro hk
  by_cases e:(fnd n ls (fs.getD k Fw.f0)).1=0
  ·exact e
  ·rw[plnF_bad hw hv hfl hk (fun j hj=>ih j hj (by omega)) e] at h
   exact absurd h e
theorem fnd_sv {n:Int} {ls:List Lk} {f:Stf.Fl} (h:(fnd n ls f).1=0):svB n ls f.fr f.to f.via f.nt (fnd n ls f).2=true:=by
 unfold fnd at h ⊢
 by_cases hw:(wrong n ls).1=0
 ·have hr:=right_of hw
  rw[if_neg (by simp[hw])] at h ⊢
  by_cases hf:Stf.wflow f n=0
  ·rw[if_neg (by simp[hf])] at h ⊢
   have hF:=rightF_of hf
   have hb:=hr.bounds
   have hC:∀x y,0≤cost ls x y:=fun x y=>(hr.cost x y).1
   cases hfi:find (cost ls) f.fr f.to f.via f.nt with
   | none=>rw[hfi] at h;simp at h
   | some y=>
    obtain⟨p,c⟩:=y
    have hbest:=find_some hC (by have:=hF.fr;omega) (fun h=>(hF.nt _ h).2.2.1 rfl) hfi
    exact(svB_iff hr hF.fr).2 hbest.1
  ·rw[if_pos hf] at h;exact absurd h hf
 ·rw[if_pos hw] at h;exact absurd h hw
theorem Pln.serves {n:Nat} {ls:List Lk} {v:Int} {p:Pl} (h:Pln n ls v p) {i:Nat} (hi:i<p.fs.length):svB n ls (p.fs.getD i Fw.f0).fr (p.fs.getD i Fw.f0).to (p.fs.getD i Fw.f0).via (p.fs.getD i Fw.f0).nt (p.ps.getD i [])=true∧(p.fs.getD i Fw.f0).via.length≤16777216∧(p.fs.getD i Fw.f0).nt.length≤16777216:=by
 obtain⟨fs,rfl,h2⟩:=h
 simp only at hi ⊢
 refine⟨?_,(plan_ok h2).sm _ (getD_mem hi)⟩
 have e:(plnP n ls fs).getD i []=(fnd n ls (fs.getD i Fw.f0)).2:=by
  unfold plnP
  rw[List.getD_eq_getElem?_getD,List.getElem?_map,List.getElem?_eq_getElem hi,List.getD_eq_getElem?_getD,List.getElem?_eq_getElem hi]
  rfl
 rw[e]
 exact fnd_sv (fnd_all h2 i hi)
set_option maxRecDepth 100000 in
set_option maxHeartbeats 2000000 in
theorem roomPlans_any (N:Int) (ao:Option Addr) (len cap:Nat) (ls:List Lk) (lo:Option Addr) (lc:Nat) (ds:List Dd) (w:World) (hlen:ls.length=len) (hl:NetAt w ao ls) (hx:len≤9223372036854775807) (hd:DosAt w lo ds) (hS:DsSm ds) (hdl:ds.length≤9223372036854775807):
 Calls Try.prog 4 #[.agg #[.int .i64 N,.slice ao len cap],.slice lo ds.length lc] w fun e w'=>e=.returned (.bool true)∧Ext w w':=by
 go_enter Try.func4,Try.ntmps4
 go_wp2_with fail
 have E0:=(Ext.refl w).alloc (.cells #[.int .i64 N,.slice ao len cap] 24)
 refine(alive_any _).mono ?_
 rintro e w1 ⟨rfl,E1⟩
 have n0:w1.cell? ⟨w.heap.size,0,none⟩=some (.int .i64 N):=(E1.cells.1 _ _ (by simp)).trans (by simp)
 have n1:w1.cell? ⟨w.heap.size,1,none⟩=some (.slice ao len cap):=(E1.cells.1 _ _ (by simp)).trans (by simp)
 have hs1:w.heap.size<w1.heap.size:=by have:=E1.size;simp at this;omega
 have E01:=E0.trans E1
 clear E0 E1
 go_wp2_with fail
 refine(Play_any N ao len cap ls lo lc ds w1 hlen (hl.ext E01) hx (hd.ext E01) hS hdl).mono ?_
 intro e w4 hP
 have HDS:=hidp hd
 have HNT:=hidp hl
 have HW:Hid ((plyF N ls ds).1=0→∃n:Nat,N=(n:Int)∧(wrong n ls).1=0∧ds.length≤200∧plyW N ls ds=run n ls ds):=fun h=>by
  obtain⟨n,h1,_,h3,h4,_,h6⟩:=plyN h
  exact⟨n,h1,h3,h4,h6⟩
 have HW0:Hid ((plyF N ls ds).1≠0→plyW N ls ds=(wd0,[])):=fun h=>by unfold plyW;rw[if_pos h]
 generalize plyF N ls ds=f at hP HW HW0
 generalize plyW N ls ds=q at hP HW HW0
 obtain⟨W,came⟩:=q
 obtain⟨A,co,cc,rfl,E4,HP⟩:=hP
 obtain⟨f0,f1⟩:=f
 unfold wvl
 simp only at HW HP HW0 ⊢
 have E04:=E01.trans E4
 have HTB0:Hid (∀V,Ext w4 V→V.cell? ⟨w.heap.size,0,none⟩=some (.int .i64 N)∧V.cell? ⟨w.heap.size,1,none⟩=some (.slice ao len cap)∧w.heap.size<V.heap.size):=fun V hV=>by
  have hlt:=hs1
  have:=(E4.trans hV).size
  exact⟨((E4.trans hV).cells.1 _ _ hlt).trans n0,((E4.trans hV).cells.1 _ _ hlt).trans n1,by omega⟩
 clear hl hd hS n0 n1 E01 E4
 by_cases hf:f0=0
 ·obtain⟨n,rfl,hw,hl2,hq⟩:=HW.out hf
  subst hf
  go_wp2
  have HIV:Hid (Inv n ls ds.length W):=by
   have:=run_inv (n:=n) (ls:=ls) (ds:=ds) hw (by omega)
   rw[←hq] at this
   exact this
  obtain⟨w5,hw5⟩:∃w5,w5=(w4.alloc (.cells #[.int .i64 W.co.st,.int .i64 W.co.now.v,.slice A.ca.n.fo W.co.now.fs.length A.ca.n.fc,.slice A.ca.n.qo W.co.now.ps.length A.ca.n.qc,.int .i64 W.co.nxt.v,.slice A.ca.x.fo W.co.nxt.fs.length A.ca.x.fc,.slice A.ca.x.qo W.co.nxt.ps.length A.ca.x.qc,.int .i64 W.co.num,.slice A.ca.wo W.co.wts.length A.ca.wc,.slice A.so W.sw.length A.sc,.slice A.oo W.od.length A.oc,.slice A.bo W.bk.length A.bc,.slice A.ko W.pk.length A.kc,.slice A.lo W.pn.length A.lc] 40)).alloc (.cells #[.int .i64 0,.int .i64 f1] 44):=⟨_,rfl⟩
  have E45:Ext w4 w5:=by rw[hw5];exact((Ext.refl w4).alloc _).alloc _
  have HE:=hidp (E04.trans E45)
  have HE45:=hidp E45
  have HP5:Hid (WoAt w5 W A∧ListAt w5 co came):=⟨HP.out.1.ext E45,HP.out.2.ext E45⟩
  have hsz5:w5.heap.size=w4.heap.size+1+1:=by rw[hw5];simp
  have HBX:Hid (w5.cell? ⟨w4.heap.size,0,none⟩=some (.int .i64 W.co.st)∧w5.cell? ⟨w4.heap.size,1,none⟩=some (.int .i64 W.co.now.v)∧w5.cell? ⟨w4.heap.size,4,none⟩=some (.int .i64 W.co.nxt.v)∧w5.cell? ⟨w4.heap.size,9,none⟩=some (.slice A.so W.sw.length A.sc)∧w5.cell? ⟨w4.heap.size,12,none⟩=some (.slice A.ko W.pk.length A.kc)∧w5.cell? ⟨w4.heap.size,13,none⟩=some (.slice A.lo W.pn.length A.lc)):=by
   show _∧_
   rw[hw5]
   refine⟨?_,?_,?_,?_,?_,?_⟩ <;> simp
  have HB14:Hid (∀V,Ext w5 V→w4.heap.size<V.heap.size∧V.cell? ⟨w4.heap.size,0,none⟩=some (.int .i64 W.co.st)∧V.cell? ⟨w4.heap.size,1,none⟩=some (.int .i64 W.co.now.v)∧V.cell? ⟨w4.heap.size,2,none⟩=some (.slice A.ca.n.fo W.co.now.fs.length A.ca.n.fc)∧V.cell? ⟨w4.heap.size,3,none⟩=some (.slice A.ca.n.qo W.co.now.ps.length A.ca.n.qc)∧V.cell? ⟨w4.heap.size,4,none⟩=some (.int .i64 W.co.nxt.v)∧V.cell? ⟨w4.heap.size,5,none⟩=some (.slice A.ca.x.fo W.co.nxt.fs.length A.ca.x.fc)∧V.cell? ⟨w4.heap.size,6,none⟩=some (.slice A.ca.x.qo W.co.nxt.ps.length A.ca.x.qc)∧V.cell? ⟨w4.heap.size,7,none⟩=some (.int .i64 W.co.num)∧V.cell? ⟨w4.heap.size,8,none⟩=some (.slice A.ca.wo W.co.wts.length A.ca.wc)∧V.cell? ⟨w4.heap.size,9,none⟩=some (.slice A.so W.sw.length A.sc)∧V.cell? ⟨w4.heap.size,10,none⟩=some (.slice A.oo W.od.length A.oc)∧V.cell? ⟨w4.heap.size,11,none⟩=some (.slice A.bo W.bk.length A.bc)∧V.cell? ⟨w4.heap.size,12,none⟩=some (.slice A.ko W.pk.length A.kc)∧V.cell? ⟨w4.heap.size,13,none⟩=some (.slice A.lo W.pn.length A.lc)):=fun V hV=>by
   have hb:V.heap[w4.heap.size]? =some (.cells #[.int .i64 W.co.st,.int .i64 W.co.now.v,.slice A.ca.n.fo W.co.now.fs.length A.ca.n.fc,.slice A.ca.n.qo W.co.now.ps.length A.ca.n.qc,.int .i64 W.co.nxt.v,.slice A.ca.x.fo W.co.nxt.fs.length A.ca.x.fc,.slice A.ca.x.qo W.co.nxt.ps.length A.ca.x.qc,.int .i64 W.co.num,.slice A.ca.wo W.co.wts.length A.ca.wc,.slice A.so W.sw.length A.sc,.slice A.oo W.od.length A.oc,.slice A.bo W.bk.length A.bc,.slice A.ko W.pk.length A.kc,.slice A.lo W.pn.length A.lc] 40 (0,0)):=(Below.block hV _ (by omega)).trans (by rw[hw5,blk_alloc_lt _ _ _ (by simp)];exact new_at rfl)
   exact⟨by have:=hV.size;omega,box_cell hb 0,box_cell hb 1,box_cell hb 2,box_cell hb 3,box_cell hb 4,box_cell hb 5,box_cell hb 6,box_cell hb 7,box_cell hb 8,box_cell hb 9,box_cell hb 10,box_cell hb 11,box_cell hb 12,box_cell hb 13⟩
  rw[←hw5]
  clear hw5 E45 HP E04 HW HW0
  have HTC:Hid (∀V,Ext w5 V→V.cell? ⟨w.heap.size,0,none⟩=some (.int .i64 (n:Int))∧V.cell? ⟨w.heap.size,1,none⟩=some (.slice ao len cap)∧w.heap.size<V.heap.size):=fun V hV=>HTB0.out V (HE45.out.trans hV)
  have hwr:wrong (n:Int) ls=(0,0):=(right_of hw).wrong
  have HWR:=hidp hwr
  have hkl:W.pn.length≤200:=by have:=HIV.out.pl;omega
  clear hq hw hwr HTB0
  go_loopw [27] (fun iv wd=>∃k:Nat,k≤W.pn.length∧iv=.int .i64 k∧Ext w5 wd) (fun iv _=>W.pn.length - (intOf iv).toNat)
  case atStart=>exact⟨0,Nat.zero_le _,rfl,Ext.refl _⟩
  case round=>
   obtain⟨k,hk,rfl,hEk⟩:=hrel
   by_cases hlt:k<W.pn.length
   ·have i1:(k:Int)<(W.pn.length:Int):=by omega
    obtain⟨g,off,a,hlo,hg,c0,c1,c2,hpl⟩:=(HP5.out.1.ext hEk).pn_get hlt
    have hvk:=HIV.out.vers k hlt
    have hln:=HIV.out.pls k hlt
    generalize W.pn.getD k pl0=p at c0 c1 c2 hpl hvk hln
    obtain⟨hps,_,hp8⟩:=hln.head
    have HSV:=hidp (fun i hi=>hln.serves (i:=i) hi)
    have HP8:=hidp hp8
    have HPS:=hidp hps
    rw[hvk] at c0
    rw[hps] at c2
    have HPL:=hidp hpl
    rw[hlo]
    have hfl12:p.fs.length≤12:=by
     obtain⟨fs,rfl,h2⟩:=hln
     exact(plan_good h2).few
    clear hlo hpl hvk hln hps hp8
    have b0:((k:Int)+1 != (k:Int)+1)=false:=by simp
    go_wp2
    obtain⟨w7,hw7⟩:∃w7,w7=wr.alloc (.cells #[.int .i64 ((k:Int)+1),.slice a.fo p.fs.length a.fc,.slice a.qo p.fs.length a.qc] 30):=⟨_,rfl⟩
    have hE6:Ext wr w7:=by rw[hw7];exact(Ext.refl wr).alloc _
    have hb2:w7.cell? ⟨wr.heap.size,2,none⟩=some (.slice a.qo p.fs.length a.qc):=by rw[hw7];simp
    have hz7:w7.heap.size=wr.heap.size+1:=by rw[hw7];simp
    rw[←hw7]
    clear hw7
    have HP7:=hidp (HPL.out.ext hE6)
    have hE7:=hEk.trans hE6
    obtain⟨B9,hB9⟩:∃B9,B9=wr.heap.size:=⟨_,rfl⟩
    rw[←hB9] at hb2 hz7 ⊢
    have hB9':=hidp hB9
    clear hB9 c0 c1 c2 hg hE6
    go_loopw [49] (fun jv wd=>∃j:Nat,j≤p.fs.length∧jv=.int .i64 j∧Ext w7 wd) (fun jv _=>p.fs.length - (intOf jv).toNat)
    case atStart=>exact⟨0,Nat.zero_le _,rfl,Ext.refl _⟩
    case round=>
     obtain⟨j,hj,rfl,hEj⟩:=hrel
     by_cases hjt:j<p.fs.length
     ·have i2:(j:Int)<(p.fs.length:Int):=by omega
      obtain⟨fb,foff,vo,vc,no,nc,fa,ft,X,Y,hfo,hfb,hfe,f0c,f1c,f2c,f3c,hX,hY⟩:=(HP7.out.ext hEj).hf.get hjt
      obtain⟨qg,qoff,po,pc,hqo,hqg,hqc,hqL,hqp⟩:=pth_get (HP7.out.ext hEj).hq (by rw[HPS.out];exact hjt)
      have hsv:=HSV.out j hjt
      rw[hfe] at hsv
      have h8:=HP8.out j
      generalize p.ps.getD j []=pa at hqc hqL hqp hsv h8
      simp only at hsv
      have hq2:=(hEj.cells.1 _ _ (by omega:B9<w7.heap.size)).trans hb2
      rw[hqo] at hq2
      obtain⟨t0,t1,ht⟩:=HTC.out wr (hE7.trans hEj)
      have hB:B9<wr.heap.size:=by have:=hEj.size;omega
      have HSC:Hid (∀V,Ext wr V→Calls Try.prog 21 #[.agg #[.int .i64 (n:Int),.slice ao len cap],.agg #[.int .i64 fa,.int .i64 ft,.slice vo X.length vc,.slice no Y.length nc],.slice po pa.length pc] V fun e w'=>e=.returned (.bool true)∧Ext V w'):=fun V hV=>by
       obtain⟨_,_,ex,hx1,_⟩:=hX
       cases ex
       obtain⟨_,_,ey,hy1,_⟩:=hY
       cases ey
       have h1:=Serves_any (n:Int) ao len cap ls fa ft X Y vo no vc nc pa po pa.length pc V hlen (HNT.out.ext (HE.out.trans ((hE7.trans hEj).trans hV))) hx HWR.out (hx1.ext hV) (by omega) (hy1.ext hV) (by omega) rfl (by omega) (hqL.ext hV)
       rw[hsv.1] at h1
       exact h1
      rw[hfo]
      clear hfo hqo hX hY hfe hqL
      go_upto_region 14 with fail
      obtain⟨w9,hw9⟩:∃w9,w9=wr.alloc (.cells #[.int .i64 fa,.int .i64 ft,.slice vo X.length vc,.slice no Y.length nc] 55):=⟨_,rfl⟩
      have E9:Ext wr w9:=by rw[hw9];exact(Ext.refl wr).alloc _
      have HEn:=hidp (hEj.trans E9)
      have hz9:w9.heap.size=wr.heap.size+1:=by rw[hw9];simp
      have x0:w9.cell? ⟨wr.heap.size,0,none⟩=some (.int .i64 fa):=by rw[hw9];simp
      have x1:w9.cell? ⟨wr.heap.size,1,none⟩=some (.int .i64 ft):=by rw[hw9];simp
      have x2:w9.cell? ⟨wr.heap.size,2,none⟩=some (.slice vo X.length vc):=by rw[hw9];simp
      have x3:w9.cell? ⟨wr.heap.size,3,none⟩=some (.slice no Y.length nc):=by rw[hw9];simp
      have HS:Hid (∀V,Ext w9 V→V.cell? ⟨w.heap.size,0,none⟩=some (.int .i64 (n:Int))∧V.cell? ⟨w.heap.size,1,none⟩=some (.slice ao len cap)∧V.cell? ⟨wr.heap.size,0,none⟩=some (.int .i64 fa)∧V.cell? ⟨wr.heap.size,1,none⟩=some (.int .i64 ft)∧V.cell? ⟨wr.heap.size,2,none⟩=some (.slice vo X.length vc)∧V.cell? ⟨wr.heap.size,3,none⟩=some (.slice no Y.length nc)∧V.cell? ⟨B9,2,none⟩=some (.slice (some ⟨qg,qoff,none⟩) p.fs.length a.qc)∧V.cell? ⟨qg,qoff+j,none⟩=some (.slice po pa.length pc)):=fun V hV=>
       ⟨((E9.trans hV).cells.1 _ _ ht).trans t0,((E9.trans hV).cells.1 _ _ ht).trans t1,(hV.cells.1 _ _ (by omega)).trans x0,(hV.cells.1 _ _ (by omega)).trans x1,(hV.cells.1 _ _ (by omega)).trans x2,(hV.cells.1 _ _ (by omega)).trans x3,((E9.trans hV).cells.1 _ _ hB).trans hq2,((E9.trans hV).cells.1 _ _ hqg).trans hqc⟩
      rw[←hw9]
      clear hw9 x0 x1 x2 x3 t0 t1 hq2 hqc f0c f1c f2c f3c hb2
      have hd:Ext w9 w9.drew:=(Ext.refl w9).drew
      go_region_held3 (fun V=>V.cell? ⟨w.heap.size,0,none⟩=some (.int .i64 (n:Int))∧V.cell? ⟨w.heap.size,1,none⟩=some (.slice ao len cap)∧V.cell? ⟨wr.heap.size,0,none⟩=some (.int .i64 fa)∧V.cell? ⟨wr.heap.size,1,none⟩=some (.int .i64 ft)∧V.cell? ⟨wr.heap.size,2,none⟩=some (.slice vo X.length vc)∧V.cell? ⟨wr.heap.size,3,none⟩=some (.slice no Y.length nc)∧V.cell? ⟨B9,2,none⟩=some (.slice (some ⟨qg,qoff,none⟩) p.fs.length a.qc)∧V.cell? ⟨qg,qoff+j,none⟩=some (.slice po pa.length pc))
       (first | (with_reducible exact HS.out _ hd) | (with_reducible exact HS.out _ mk1) | fail)
       (first
       | (go_at_call 21
          with_reducible refine(HSC.out _ (E9.trans hd)).mono ?_
          rintro e w3 ⟨rfl,E3⟩
          have mk1:=hd.trans E3))
      have HE3:=hidp (HEn.out.trans mk1)
      clear mk1 E3 hd
      go_wp2
      refine⟨⟨j+1,by omega,by simp[go_sem],HE3.out⟩,?_⟩
      simp[intOf]
      omega
     ·have i2:¬(j:Int)<(p.fs.length:Int):=by omega
      go_wp2
      refine⟨⟨k+1,by omega,by simp[go_sem],hE7.trans hEj⟩,?_⟩
      simp[intOf]
      omega
   ·have i1:¬(k:Int)<(W.pn.length:Int):=by omega
    go_wp2
    go_ret
    exact⟨rfl,HE.out.trans hEk⟩
 ·have b0:(f0 != 0)=true:=by simpa using hf
  go_wp2
  go_ret
  exact⟨rfl,(E04.alloc _).alloc _⟩
end Go.Proofs.Ytolclgbpjiokfaa.Rm
namespace Go.Proofs.Ytolclgbpjiokfaa
open Go.ChangeShapes Go.WideShapes Go.ChangeAt Go.RowKit Go.Deep Go.Joins Stw
set_option maxRecDepth 100000 in
theorem roomPlans_lifted (os:Os) (started:os.Started) (H:Type) (enc:TypeId×Value→H):
 ReturnsInHanded {} Try.checked os 4 .any (Rows.roomPlansSpec.pre6 enc Try.prog Try.f4 Rows.roomPlansRow.domain false) (Rows.roomPlansSpec.post enc Try.prog Try.f4 false true false false):=by
 refine returnsInHanded_of_change_sized (C:=Try.checked) Try.own started (by kernel_rfl) Try.func4
  (ChangeSpec.witness6 (enc:=enc) (C:=Try.checked) false ⟨#[],#[.agg #[.int .i64 0,.slice none 0 0],.slice none 0 0],[]⟩ 8 (by kernel_rfl) (by kernel_rfl) (by kernel_rfl) (by kernel_rfl)) ?_
 intro W base args ds gs before hval0 hW hcnd hsz0 _
 have hval:∀(j:Nat) t v,Try.f4.params[j]? =some t→args[j]? =some v→Value.okWide Try.prog W .any base t v:=hval0
 have hsz:(DataW.weightsEach Try.prog (Try.f4.params.toList++Rows.roomPlansSpec.plain.varTypes Try.prog) (ds++gs)).all (· ≤reachBytes)=true:=hsz0
 have hW':=hW
 obtain⟨p,q,hA0,hV,rfl,hfz,hnd⟩:=hW
 have hA:DataW.TrodAll enc Try.prog W 0 (fun _=>true) true Try.f4.params.toList args.toList ds p:=hA0
 rw[Try.params4] at hA hval hsz
 obtain⟨v0,vs0,d0,dt0,p0,q0,hargs,rfl,rfl,h0,r0⟩:=trodAll_cons hA
 obtain⟨v1,vs1,d1,dt1,p1,q1,rfl,rfl,rfl,h1,r1⟩:=trodAll_cons r0
 obtain⟨rfl,rfl,rfl⟩:=trodAll_nil r1
 obtain rfl:args=#[v0,v1]:=by cases args;simp_all
 obtain⟨rfl,rfl⟩:=trodVars_none hV
 have k0:=h0
 have lt0:∀x∈p0,x.block<W.heap.size:=by obtain⟨m,hm⟩:=k0;exact DataW.trod_lt m _ _ _ hm
 have k1:=h1
 have lt1:∀x∈p1,x.block<W.heap.size:=by obtain⟨m,hm⟩:=k1;exact DataW.trod_lt m _ _ _ hm
 obtain⟨n0,ao0,len0,cap0,ls0,rfl,hn0,hlen0,hnet0,hlw0,hreach0,hcap0,hcm0⟩:=open_topo (hval 0 24 v0 rfl rfl) h0 (weights_arg hsz (j:=0) rfl rfl)
 obtain⟨po1,pl1,pc1,rfl⟩:=okWide_slice Try.underlying25 (hval 1 25 v1 rfl rfl)
 obtain⟨fuel1,hf1⟩:=h1
 obtain⟨po1',pl1',pc1',ds1,ecs1,hdl1,hda1,hdx1,hds1,hdc1,hdm1⟩:=open_dos hf1 (weights_arg hsz (j:=1) rfl rfl)
 simp[Value.cells] at ecs1
 obtain⟨rfl,rfl,rfl⟩:=ecs1
 subst hdl1
 clear hA0 hval0 hsz0
 refine(Rm.roomPlans_any n0 ao0 len0 cap0 ls0 po1 pc1 ds1 W hlen0 hnet0 (by omega) hda1 hds1 hdx1).mono fun e W' ⟨he,bel0⟩=>?_
 subst he
 have bel:Below W.heap.size W W':=bel0
 exact⟨_,rfl,_,_,_,[],_,[],hW',trodAll_mk1 (shut_bool Try.underlying4 _),(trodAll_cons_mk (Below.trod Try.laidOut (by kernel_rfl) (of_decide_eq_true (by kernel_rfl)) k0 bel lt0) (trodAll_cons_mk (Below.trod Try.laidOut (by kernel_rfl) (of_decide_eq_true (by kernel_rfl)) k1 bel lt1) trodAll_mk0)),rfl,bel.frame _,fun h=>by cases h⟩
theorem roomPlans_holds:Rows.RoomPlansSaid:=
 OpenClaim.holds_of_wide 4 Try.f4 rfl rfl rfl rfl rfl rfl rfl ⟨rfl,rfl,rfl,rfl,rfl⟩ rfl rfl rfl rfl rfl (by kernel_rfl) Try.func4 (by kernel_rfl)
  (of_decide_eq_true (by kernel_rfl)) (by unfold Func.isWrapper;first | (rw[if_pos (by decide+kernel)];kernel_rfl) | (rw[if_neg (by decide+kernel)];exact⟨rfl,rfl⟩))
  (fun os started H enc _=>roomPlans_lifted os started H enc)
#print axioms roomPlans_holds
end Go.Proofs.Ytolclgbpjiokfaa
