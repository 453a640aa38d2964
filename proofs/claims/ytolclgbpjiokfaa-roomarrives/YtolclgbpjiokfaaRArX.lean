/- RoomArrives: who begins, where no elder rules are being dropped, and goes on while nothing else happens, goes all its path, in whatever net and behind whatever happened; for every input. -/
import Derived.Test.YtolclgbpjiokfaaU24
import Derived.Test.YtolclgbpjiokfaaU36
import Derived.Test.YtolclgbpjiokfaaU41
namespace Go.Proofs.Ytolclgbpjiokfaa
open Go.ChangeShapes Go.WideShapes Go.ChangeAt Go.RowKit Go.Deep Go.Joins Stw
theorem dos_nil {H:Type} {enc:TypeId×Value→H} {W:World} {fuel:Nat} {cs:List Value} {x:DataW H×List MemPlace} (h:DataW.trod enc Try.prog W 0 (fun _=>true) true fuel 25 cs=some x) {len cap:Nat} (e:cs=[.slice none len cap]):len=0∧cap=0:=by
 rcases open_slice Try.underlying25 h with⟨hcs,_⟩ | ⟨a,len,cap,m,n,D,Pl,hcs,_⟩
 ·rw[hcs] at e;simp at e;omega
 ·rw[hcs] at e;simp at e
end Go.Proofs.Ytolclgbpjiokfaa
namespace Go.Proofs.Ytolclgbpjiokfaa.Rm
open Go.RowKit Go.Deep Stw Stp Tb Rul Ct
theorem take_left {α:Type} {a b c:List α}:(a++b++c).take a.length=a:=by rw[List.append_assoc,List.take_left]
set_option maxRecDepth 100000 in
set_option maxHeartbeats 4000000 in
theorem roomArrives_any (N:Int) (ao:Option Addr) (len cap:Nat) (ls:List Lk) (lo:Option Addr) (lc:Nat) (ds:List Dd) (fv:Int) (w:World) (hlen:ls.length=len) (hl:NetAt w ao ls) (hx:len≤9223372036854775807) (hd:DosAt w lo ds) (hS:DsSm ds) (hdl:ds.length≤9223372036854775807) (hnl:lo=none→ds.length=0∧lc=0):
 Calls Try.prog 7 #[.agg #[.int .i64 N,.slice ao len cap],.slice lo ds.length lc,.int .i64 fv] w fun e w'=>e=.returned (.bool true)∧Ext w w':=by
 have hE0:=(Ext.refl w).alloc (.cells #[.int .i64 N,.slice ao len cap] 24)
 go_enter Try.func7,Try.ntmps7
 go_wp2_with fail
 refine(alive_any _).mono ?_
 rintro e w1 ⟨rfl,E1⟩
 have n0:w1.cell? ⟨w.heap.size,0,none⟩=some (.int .i64 N):=(E1.cells.1 _ _ (by simp)).trans (by simp)
 have n1:w1.cell? ⟨w.heap.size,1,none⟩=some (.slice ao len cap):=(E1.cells.1 _ _ (by simp)).trans (by simp)
 have hs1:w.heap.size<w1.heap.size:=by have:=E1.size;simp at this;omega
 have E01:=hE0.trans E1
 clear hE0 E1
 by_cases ha:(150:Int)<(ds.length:Int)
 ·go_wp2
  go_ret
  exact⟨rfl,E01⟩
 ·have h150:ds.length≤150:=by omega
  go_wp2_with fail
  refine(Play_any N ao len cap ls lo lc ds w1 hlen (hl.ext E01) hx (hd.ext E01) hS hdl).mono ?_
  intro e w4 hP
  have HW:Hid ((plyF N ls ds).1=0→∃n:Nat,N=(n:Int)∧(wrong n ls).1=0∧ds.length≤200∧plyW N ls ds=run n ls ds):=fun h=>by
   obtain⟨n,h1,_,h3,h4,_,h6⟩:=plyN h
   exact⟨n,h1,h3,h4,h6⟩
  generalize plyF N ls ds=f at hP HW
  generalize plyW N ls ds=q at hP HW
  obtain⟨W,came⟩:=q
  obtain⟨A,co,cc,rfl,E4,HP⟩:=hP
  obtain⟨f0,f1⟩:=f
  unfold wvl
  simp only at HW HP ⊢
  have E04:=E01.trans E4
  have m0:=(E4.cells.1 _ _ hs1).trans n0
  have m1:=(E4.cells.1 _ _ hs1).trans n1
  have hs4:w.heap.size<w4.heap.size:=by have:=E4.size;omega
  have HNT:=hidp (hl.ext E04)
  have HDS:=hidp (hd.ext E04)
  have HSM:=hidp hS
  clear n0 n1 hl hd hS
  go_upto_region 6 with fail
  obtain⟨w5,hw5⟩:∃w5,w5=(w4.alloc (.cells #[.int .i64 W.co.st,.int .i64 W.co.now.v,.slice A.ca.n.fo W.co.now.fs.length A.ca.n.fc,.slice A.ca.n.qo W.co.now.ps.length A.ca.n.qc,.int .i64 W.co.nxt.v,.slice A.ca.x.fo W.co.nxt.fs.length A.ca.x.fc,.slice A.ca.x.qo W.co.nxt.ps.length A.ca.x.qc,.int .i64 W.co.num,.slice A.ca.wo W.co.wts.length A.ca.wc,.slice A.so W.sw.length A.sc,.slice A.oo W.od.length A.oc,.slice A.bo W.bk.length A.bc,.slice A.ko W.pk.length A.kc,.slice A.lo W.pn.length A.lc] 40)).alloc (.cells #[.int .i64 f0,.int .i64 f1] 44):=⟨_,rfl⟩
  rw[←hw5]
  have E45:Ext w4 w5:=by rw[hw5];exact((Ext.refl w4).alloc _).alloc _
  have hz5:w5.heap.size=w4.heap.size+1+1:=by rw[hw5];simp
  have HE5:=hidp (E04.trans E45)
  have HBX:Hid (∀V,Ext w5 V→(V.cell? ⟨w.heap.size,0,none⟩=some (.int .i64 N)∧V.cell? ⟨w.heap.size,1,none⟩=some (.slice ao len cap)∧w.heap.size<V.heap.size)∧(V.cell? ⟨w4.heap.size,0,none⟩=some (.int .i64 W.co.st)∧V.cell? ⟨w4.heap.size,12,none⟩=some (.slice A.ko W.pk.length A.kc)∧w4.heap.size<V.heap.size)∧V.cell? ⟨w4.heap.size+1,0,none⟩=some (.int .i64 f0)∧w4.heap.size+1<V.heap.size):=fun V hV=>
   ⟨⟨((E45.trans hV).cells.1 _ _ hs4).trans m0,((E45.trans hV).cells.1 _ _ hs4).trans m1,by have:=hV.size;omega⟩,⟨(hV.cells.1 _ _ (by omega)).trans (by rw[hw5];simp),(hV.cells.1 _ _ (by omega)).trans (by rw[hw5];simp),by have:=hV.size;omega⟩,(hV.cells.1 _ _ (by omega)).trans (by rw[hw5];simp),by have:=hV.size;omega⟩
  obtain⟨_,⟨p0,p12,pl⟩,p1,pl1⟩:=HBX.out w5 (Ext.refl w5)
  have HD5:Hid (DosIn w5 (w5.alloc (.cells #[] 66)) lo ds):=(DosAt.isIn (HDS.out.ext E45)).ext ((Ext.refl w5).alloc _)
  have HN5:=hidp (HNT.out.ext E45)
  clear m0 m1 E45 hw5 HP E04 E4 E01 HNT HDS hz5
  by_cases hf:f0=0
  ·obtain⟨n,rfl,hw,hl2,hq⟩:=HW.out hf
   subst hf
   have hIV:Inv n ls ds.length W:=by
    have:=run_inv (n:=n) (ls:=ls) (ds:=ds) hw (by omega)
    rwa [←hq] at this
   have HWR:=hidp hw
   have HQ:=hidp hq
   clear hw hq HW hl2
   by_cases h4:W.co.st=4
   ·rw[h4] at p0
    clear h4
    go_wp2
    go_ret
    exact⟨rfl,HE5.out⟩
   ·have b4:(W.co.st == 4)=false:=by simpa using h4
    have H4:=hidp h4
    clear h4
    by_cases h40:(40:Int)≤(W.pk.length:Int)
    ·go_wp2
     go_ret
     exact⟨rfl,HE5.out⟩
    ·have h39:W.pk.length<40:=by omega
     have HIV:=hidp hIV
     clear hIV
     go_wp2_with (first | (at_builtin;refine wpList_copy_dos rfl _ _ rfl rfl rfl (new_at rfl) (Nat.le_refl _) rfl HD5.out hnl (by omega) ?_) | fail)
     intro ao2 cap2 W2 hDO hgr _
     have HE2:Hid (Ext w5 W2):=Below.grown ((Ext.refl w5).alloc _) hgr (by simp) (fun k hk=>by cases hk;exact Nat.le_refl _)
     have H2:Hid (RS w5 W2 (Value.slice ao2 ds.length cap2).ownBlock W2 (.slice ao2 ds.length cap2) ds):=RS.start hDO HE2.out
     generalize (Value.slice ao2 ds.length cap2).ownBlock=g2 at H2
     have HR2:Hid (RS w5 W2 g2 ((doW W2 4 fv).alloc (.cells #[.int .i64 4,.int .i64 fv,.slice none 0 0] 66)) (.slice ao2 ds.length cap2) ds):=H2.out.toExt ((doW_ext (Ext.refl W2)).alloc _)
     have HD2:Hid (DosIn w5 ((doW W2 4 fv).alloc (.cells #[.int .i64 4,.int .i64 fv,.slice none 0 0] 66)) (some ⟨W2.heap.size+1,0,none⟩) [⟨4,fv,[]⟩]):=one_in (d:=⟨4,fv,[]⟩) (by simp[doW]) (Or.inl rfl)
     clear hDO hgr p0 p12 p1 HD5
     go_wp2_with fail
     refine(do_any _ _ _).mono ?_
     rintro e _ ⟨rfl,rfl⟩
     have hdw:(doW W2 4 fv).heap.size=W2.heap.size+1:=by simp[doW]
     go_wp2_with (first | (at_builtin;refine wpList_append_rs rfl _ _ rfl rfl rfl HR2.out rfl (by decide) HD2.out (by omega) ?_) | fail)
     intro bb off cp W7 h7
     have H7:=hidp h7
     obtain⟨_,⟨_,q12,ql⟩,_⟩:=HBX.out W7 h7.ext
     clear h7 HR2 HD2 hdw H2
     go_wp2
     go_loopw [10,55] (fun mv iv wd=>∃(j:Nat) (v:Value),j≤9∧iv=.int .i64 j∧mv=v∧Hid (RS w5 W2 g2 wd v (ds++[(⟨4,fv,[]⟩:Dd)]++List.replicate j ⟨5,W.pk.length,[]⟩))) (fun _ iv _=>9 - (intOf iv).toNat)
     case atStart=>exact⟨0,_,by omega,rfl,rfl,by rw[List.replicate_zero,List.append_nil];exact H7.out⟩
     case round=>
      obtain⟨j,v,hj,rfl,hlv,HX⟩:=hrel
      obtain rfl:=hlv.symm
      clear q12 ql
      by_cases hj9:j<9
      ·have j2:(j:Int)<9:=by omega
       obtain⟨lo2,lc2,hv2,_⟩:=HX.out.row.form
       have HLL:Hid ((ds++[(⟨4,fv,[]⟩:Dd)]++List.replicate j (⟨5,W.pk.length,[]⟩:Dd)).length+1≤1000000):=by
        show _≤_
        simp;omega
       have HSU:Hid (ds++[(⟨4,fv,[]⟩:Dd)]++List.replicate j (⟨5,W.pk.length,[]⟩:Dd)++[(⟨5,W.pk.length,[]⟩:Dd)]=ds++[(⟨4,fv,[]⟩:Dd)]++List.replicate (j+1) (⟨5,W.pk.length,[]⟩:Dd)):=by
        show _=_
        rw[List.replicate_succ',List.append_assoc (ds++_)]
       generalize ds++[(⟨4,fv,[]⟩:Dd)]++List.replicate j (⟨5,W.pk.length,[]⟩:Dd)=cx at HX HLL HSU hv2
       have HR2:Hid (RS w5 W2 g2 ((doW wr 5 W.pk.length).alloc (.cells #[.int .i64 5,.int .i64 W.pk.length,.slice none 0 0] 66)) v cx):=HX.out.toExt ((doW_ext (Ext.refl wr)).alloc _)
       have HD2:Hid (DosIn w5 ((doW wr 5 W.pk.length).alloc (.cells #[.int .i64 5,.int .i64 W.pk.length,.slice none 0 0] 66)) (some ⟨wr.heap.size+1,0,none⟩) [⟨5,W.pk.length,[]⟩]):=one_in (d:=⟨5,W.pk.length,[]⟩) (by simp[doW]) (Or.inl rfl)
       subst hv2
       go_wp2_with fail
       refine(do_any _ _ _).mono ?_
       rintro e _ ⟨rfl,rfl⟩
       have hdw:(doW wr 5 W.pk.length).heap.size=wr.heap.size+1:=by simp[doW]
       go_wp2_with (first | (at_builtin;refine wpList_append_rs rfl _ _ rfl rfl rfl HR2.out rfl (by decide) HD2.out HLL.out ?_) | fail)
       intro bb off cp W7 h7
       have H7:=hidp h7
       clear h7 HR2 HD2 hdw
       go_wp2
       refine⟨⟨j+1,_,by omega,by go_num,rfl,?_⟩,by simp[intOf];omega⟩
       rw[←HSU.out]
       exact H7.out
      ·have j2:¬(j:Int)<9:=by omega
       have hj9:j=9:=by omega
       have HX9:Hid (RS w5 W2 g2 wr v (ds++[(⟨4,fv,[]⟩:Dd)]++List.replicate 9 ⟨5,W.pk.length,[]⟩)):=by rw[←hj9];exact HX.out
       obtain⟨lo2,lc2,hv2,hDI,_⟩:=HX9.out.row.form
       have hDA:=hDI.dos HX9.out.ext
       have hsm2:DsSm (ds++[(⟨4,fv,[]⟩:Dd)]++List.replicate 9 (⟨5,W.pk.length,[]⟩:Dd)):=(HSM.out.append (DsSm.of_nil (fun d hd=>by simp at hd;rw[hd]))).append (DsSm.of_nil (fun d hd=>by rw[List.eq_of_mem_replicate hd]))
       have hln2:(ds++[(⟨4,fv,[]⟩:Dd)]++List.replicate 9 (⟨5,W.pk.length,[]⟩:Dd)).length=ds.length+10:=by simp
       have HPL:=hidp (Play_any n ao len cap ls lo2 lc2 _ wr hlen (HN5.out.ext HX9.out.ext) hx hDA hsm2 (by omega))
       obtain⟨⟨t0,t1,tl⟩,_⟩:=HBX.out wr HX9.out.ext
       have hpl:=plyF_of (n:=(n:Int)) (ds:=ds++[(⟨4,fv,[]⟩:Dd)]++List.replicate 9 (⟨5,W.pk.length,[]⟩:Dd)) HWR.out (by omega)
       have HRN:Hid (plyW n ls (ds++[(⟨4,fv,[]⟩:Dd)]++List.replicate 9 (⟨5,W.pk.length,[]⟩:Dd))=run n ls (ds++[(⟨4,fv,[]⟩:Dd)]++List.replicate 9 (⟨5,W.pk.length,[]⟩:Dd))):=hpl.2
       have hI2:=run_inv (n:=n) (ls:=ls) (ds:=ds++[(⟨4,fv,[]⟩:Dd)]++List.replicate 9 (⟨5,W.pk.length,[]⟩:Dd)) HWR.out (by omega)
       have her:(run n ls (ds++[(⟨4,fv,[]⟩:Dd)]++List.replicate 9 (⟨5,W.pk.length,[]⟩:Dd))).2.getD ds.length 0=(hap n ls W ⟨4,fv,[]⟩).2:=by
        rw[run_at (by omega),take_left, ←HQ.out]
        congr 2
        rw[List.getD_eq_getElem?_getD,List.append_assoc,List.getElem?_append_right (Nat.le_refl _)]
        simp
       have hcl:(run n ls (ds++[(⟨4,fv,[]⟩:Dd)]++List.replicate 9 (⟨5,W.pk.length,[]⟩:Dd))).2.length=ds.length+10:=by rw[run_len];exact hln2
       have harr:(hap n ls W ⟨4,fv,[]⟩).2=0→∃X,(run n ls (ds++[(⟨4,fv,[]⟩:Dd)]++List.replicate 9 (⟨5,W.pk.length,[]⟩:Dd))).1=X∧X.pk.length=W.pk.length+1∧X.pn=W.pn∧(((X.pk.getD W.pk.length pk0).v=0∧(X.pk.getD W.pk.length pk0).dn=true)∨∃m i:Nat,m<X.pn.length∧(X.pk.getD W.pk.length pk0).v=(m:Int)+1∧fv=(i:Int)∧i<(X.pn.getD m pl0).ps.length∧(X.pk.getD W.pk.length pk0).dn=true∧(X.pk.getD W.pk.length pk0).tr=(X.pn.getD m pl0).ps.getD i []):=fun h0=>by
        have e:(run n ls ds).1=W:=by rw[←HQ.out]
        have:=arrives (n:=n) (ls:=ls) (ds:=ds) (f:=fv) (k:=9) HWR.out (by omega) (by rw[e];exact H4.out) (by rw[e];exact h39) (by omega) (by rw[e];exact h0)
        rw[e] at this
        exact this
       rw[HRN.out,hpl.1] at HPL
       rw[hln2] at HPL hv2
       generalize run n ls (ds++[(⟨4,fv,[]⟩:Dd)]++List.replicate 9 (⟨5,W.pk.length,[]⟩:Dd))=q at HPL her hcl harr hI2
       obtain⟨X,dame⟩:=q
       simp only at HPL her hcl harr hI2
       generalize (hap n ls W ⟨4,fv,[]⟩).2=er at her harr
       have HHR:=hidp harr
       have HER:=hidp (And.intro her hcl)
       have HI2:=hidp hI2
       have HX9E:=hidp HX9.out.ext
       have HL2:=hidp hln2
       clear hDI hDA hsm2 hpl her hcl harr hI2 hj9 HX HX9 HRN hln2
       subst hv2
       go_wp2_with fail
       refine Calls.mono HPL.out ?_
       rintro e w6 ⟨B,bo,bc,rfl,E6,HB⟩
       unfold wvl
       clear HPL t0 t1
       go_upto_region 15 with fail
       obtain⟨w7,hw7⟩:∃w7,w7=(w6.alloc (.cells #[.int .i64 X.co.st,.int .i64 X.co.now.v,.slice B.ca.n.fo X.co.now.fs.length B.ca.n.fc,.slice B.ca.n.qo X.co.now.ps.length B.ca.n.qc,.int .i64 X.co.nxt.v,.slice B.ca.x.fo X.co.nxt.fs.length B.ca.x.fc,.slice B.ca.x.qo X.co.nxt.ps.length B.ca.x.qc,.int .i64 X.co.num,.slice B.ca.wo X.co.wts.length B.ca.wc,.slice B.so X.sw.length B.sc,.slice B.oo X.od.length B.oc,.slice B.bo X.bk.length B.bc,.slice B.ko X.pk.length B.kc,.slice B.lo X.pn.length B.lc] 40)).alloc (.cells #[.int .i64 0,.int .i64 0] 44):=⟨_,rfl⟩
       rw[←hw7]
       have E67:Ext w6 w7:=by rw[hw7];exact((Ext.refl w6).alloc _).alloc _
       have hz7:w7.heap.size=w6.heap.size+1+1:=by rw[hw7];simp
       have HE7:Hid (Ext w w7):=HE5.out.trans (HX9E.out.trans (E6.trans E67))
       have HB7:Hid (WoAt w7 X B∧ListAt w7 bo dame):=⟨HB.out.1.ext E67,HB.out.2.ext E67⟩
       have HBK:Hid (∀V,Ext w7 V→V.heap[w6.heap.size]? =some (.cells #[.int .i64 X.co.st,.int .i64 X.co.now.v,.slice B.ca.n.fo X.co.now.fs.length B.ca.n.fc,.slice B.ca.n.qo X.co.now.ps.length B.ca.n.qc,.int .i64 X.co.nxt.v,.slice B.ca.x.fo X.co.nxt.fs.length B.ca.x.fc,.slice B.ca.x.qo X.co.nxt.ps.length B.ca.x.qc,.int .i64 X.co.num,.slice B.ca.wo X.co.wts.length B.ca.wc,.slice B.so X.sw.length B.sc,.slice B.oo X.od.length B.oc,.slice B.bo X.bk.length B.bc,.slice B.ko X.pk.length B.kc,.slice B.lo X.pn.length B.lc] 40 (0,0))∧w6.heap.size<V.heap.size):=fun V hV=>
        ⟨(Below.block hV _ (by omega)).trans (by rw[hw7,blk_alloc_lt _ _ _ (by simp)];exact new_at rfl),by have:=hV.size;omega⟩
       obtain⟨db,doff,hbo,hdb,hdc⟩:=HB7.out.2.get (k:=ds.length) (by have:=HER.out.2;omega)
       have d0:=hdc ds.length (by have:=HER.out.2;omega)
       rw[HER.out.1] at d0
       have i9:(ds.length:Int)<(dame.length:Int):=by have:=HER.out.2;omega
       rw[hbo]
       clear hdc hbo hw7 E67 E6 HB hz7 HX9E HER
       by_cases her:er=0
       ·subst her
        obtain⟨X',hX',hpk,hpn,hcase⟩:=HHR.out rfl
        obtain rfl:=hX'
        obtain⟨g,koff,tO,tc,hko,hg,c0,c1,c2,c3,hT,htc⟩:=HB7.out.1.pk_get (i:=W.pk.length) (by omega)
        obtain⟨hbk,hbl⟩:=HBK.out w7 (Ext.refl w7)
        have p12:=box_cell hbk 12
        simp only[List.getElem?_toArray,List.getElem?_cons_zero,List.getElem?_cons_succ] at p12
        rw[hko] at p12
        have i8:(W.pk.length:Int)<(X.pk.length:Int):=by omega
        generalize X.pk.getD W.pk.length pk0=p at c0 c1 c2 c3 hT htc hcase
        obtain⟨fl,ve,tr,dn⟩:=p
        simp only at c0 c1 c2 c3 hT htc hcase
        have HPK:=hidp (And.intro hpk hpn)
        clear hpk hpn hbk HHR
        rcases hcase with⟨k1,k2⟩ | ⟨m,i,k1,k2,k3,k4,k5,k6⟩
        ·subst k1 k2
         go_wp2
         go_ret
         exact⟨rfl,HE7.out.alloc _⟩
        ·subst k2 k3 k5 k6
         have HPO:=hidp (HI2.out.pls m k1)
         have hpl:X.pn.length≤1000:=by have:=HI2.out.pl;have:=HL2.out;omega
         have HOF:Hid (∀V,Ext w7 V→Calls Try.prog 19 #[.agg #[.int .i64 X.co.st,.int .i64 X.co.now.v,.slice B.ca.n.fo X.co.now.fs.length B.ca.n.fc,.slice B.ca.n.qo X.co.now.ps.length B.ca.n.qc,.int .i64 X.co.nxt.v,.slice B.ca.x.fo X.co.nxt.fs.length B.ca.x.fc,.slice B.ca.x.qo X.co.nxt.ps.length B.ca.x.qc,.int .i64 X.co.num,.slice B.ca.wo X.co.wts.length B.ca.wc,.slice B.so X.sw.length B.sc,.slice B.oo X.od.length B.oc,.slice B.bo X.bk.length B.bc,.slice B.ko X.pk.length B.kc,.slice B.lo X.pn.length B.lc],.int .i64 ((m:Int)+1)] V fun e w'=>OfOut V (X.pn.getD m pl0) e w'):=fun V hV=>of_any X B V m (HB7.out.1.ext hV) HI2.out.vers k1 hpl
         generalize X.pn.getD m pl0=P at HOF k4 hT htc c2 HPO
         have b0:((m:Int)+1 == 0)=false:=by simp;omega
         obtain⟨pa,hpa⟩:∃pa,pa=P.ps.getD i []:=⟨_,rfl⟩
         have h8:pa.length≤8:=by rw[hpa];exact HPO.out.head.2.2 i
         rw[←hpa] at hT htc c2
         obtain⟨W8,hW8⟩:∃W8,W8=w7.alloc (.cells #[.int .i64 fl,.int .i64 ((m:Int)+1),.slice tO pa.length tc,.bool true] 48):=⟨_,rfl⟩
         have EW8:Ext w7 W8:=by rw[hW8];exact(Ext.refl w7).alloc _
         have hzW8:W8.heap.size=w7.heap.size+1:=by rw[hW8];simp
         have HPB:Hid (∀V,Ext W8 V→V.cell? ⟨w7.heap.size,1,none⟩=some (.int .i64 ((m:Int)+1))∧V.cell? ⟨w7.heap.size,2,none⟩=some (.slice tO pa.length tc)∧V.cell? ⟨w7.heap.size,3,none⟩=some (.bool true)∧w7.heap.size<V.heap.size):=fun V hV=>
          ⟨(hV.cells.1 _ _ (by omega)).trans (by rw[hW8];simp),(hV.cells.1 _ _ (by omega)).trans (by rw[hW8];simp),(hV.cells.1 _ _ (by omega)).trans (by rw[hW8];simp),by have:=hV.size;omega⟩
         have HPA:=hidp hpa
         clear hpa hko
         go_upto_region 18 with fail
         rw[←hW8]
         obtain⟨hbk,hbl8⟩:=HBK.out W8 EW8
         have v0:=box_cell hbk 0
         have v1:=box_cell hbk 1
         have v2:=box_cell hbk 2
         have v3:=box_cell hbk 3
         have v4:=box_cell hbk 4
         have v5:=box_cell hbk 5
         have v6:=box_cell hbk 6
         have v7:=box_cell hbk 7
         have v8:=box_cell hbk 8
         have v9:=box_cell hbk 9
         have v10:=box_cell hbk 10
         have v11:=box_cell hbk 11
         have v12:=box_cell hbk 12
         have v13:=box_cell hbk 13
         simp only[List.getElem?_toArray,List.getElem?_cons_zero,List.getElem?_cons_succ] at v0 v1 v2 v3 v4 v5 v6 v7 v8 v9 v10 v11 v12 v13
         obtain⟨y1,_,_,yl⟩:=HPB.out W8 (Ext.refl W8)
         have HTW:=hidp (hT.ext EW8)
         have HEW:=hidp (HE7.out.trans EW8)
         have HOW:=hidp (HOF.out W8 EW8)
         clear hbk hW8 hzW8 c0 c1 c2 c3 hT p12 d0 HOF EW8
         go_wp2_with fail
         with_reducible refine Calls.mono HOW.out ?_
         rintro e w8 ⟨a,rfl,E8,HPL⟩
         clear v0 v1 v2 v3 v4 v5 v6 v7 v8 v9 v10 v11 v12 v13 y1 HOW
         obtain⟨qg,qoff,po,pc,hqo,hqg,hqc,hqL,hqp⟩:=pth_get HPL.out.hq k4
         rw[←HPA.out] at hqc hqL hqp
         have hi9:(i:Int)<(P.ps.length:Int):=by omega
         have HIN:Hid (∀V,Ext w8 V→Calls Try.prog 20 #[.slice tO pa.length tc,.slice po pa.length pc] V fun e w'=>e=.returned (.bool true)∧Ext V w'):=fun V hV=>by
          have h1:=Ints_any tO po pa.length pa.length tc pc pa pa V rfl rfl (by omega) (HTW.out.ext (E8.trans hV)) (hqL.ext hV)
          rw[decide_eq_true rfl] at h1
          exact h1
         rw[hqo]
         clear hqL hqo HPL
         go_upto_region 21 with fail
         obtain⟨w9,hw9⟩:∃w9,w9=w8.alloc (.cells #[.int .i64 P.v,.slice a.fo P.fs.length a.fc,.slice (some ⟨qg,qoff,none⟩) P.ps.length a.qc] 30):=⟨_,rfl⟩
         have E9:Ext w8 w9:=by rw[hw9];exact(Ext.refl w8).alloc _
         have HEn:Hid (Ext w w9):=HEW.out.trans (E8.trans E9)
         have hz9:w9.heap.size=w8.heap.size+1:=by rw[hw9];simp
         have HS:Hid (∀V,Ext w9 V→V.cell? ⟨w7.heap.size,2,none⟩=some (.slice tO pa.length tc)∧V.cell? ⟨w7.heap.size,3,none⟩=some (.bool true)∧V.cell? ⟨w8.heap.size,2,none⟩=some (.slice (some ⟨qg,qoff,none⟩) P.ps.length a.qc)∧V.cell? ⟨qg,qoff+i,none⟩=some (.slice po pa.length pc)):=fun V hV=>by
          obtain⟨_,s2,s3,_⟩:=HPB.out V (E8.trans (E9.trans hV))
          exact⟨s2,s3,(hV.cells.1 _ _ (by omega)).trans (by rw[hw9];simp),((E9.trans hV).cells.1 _ _ hqg).trans hqc⟩
         have hl9:w7.heap.size<w9.heap.size:=(HPB.out w9 (E8.trans E9)).2.2.2
         have hl8:w8.heap.size<w9.heap.size:=by omega
         have hlq:qg<w9.heap.size:=by omega
         rw[←hw9]
         clear hw9 hqc E8 hz9
         have hd:Ext w9 w9.drew:=(Ext.refl w9).drew
         go_region_held3 (fun V=>V.cell? ⟨w7.heap.size,2,none⟩=some (.slice tO pa.length tc)∧V.cell? ⟨w7.heap.size,3,none⟩=some (.bool true)∧V.cell? ⟨w8.heap.size,2,none⟩=some (.slice (some ⟨qg,qoff,none⟩) P.ps.length a.qc)∧V.cell? ⟨qg,qoff+i,none⟩=some (.slice po pa.length pc))
          (first | (with_reducible exact HS.out _ hd) | (with_reducible exact HS.out _ mk1) | fail)
          (first
          | (go_at_call 20
             with_reducible refine(HIN.out _ (E9.trans hd)).mono ?_
             rintro e w3 ⟨rfl,E3⟩
             have mk1:=hd.trans E3))
         have HE3:=hidp (HEn.out.trans mk1)
         clear mk1 E3 hd
         go_wp2
         go_ret
         exact⟨rfl,HE3.out⟩
       ·have b1:(er != 0)=true:=by simpa using her
        go_wp2
        go_ret
        exact⟨rfl,HE7.out⟩
  ·have b0:(f0 != 0)=true:=by simpa using hf
   go_wp2
   go_ret
   exact⟨rfl,HE5.out⟩
end Go.Proofs.Ytolclgbpjiokfaa.Rm
namespace Go.Proofs.Ytolclgbpjiokfaa
open Go.ChangeShapes Go.WideShapes Go.ChangeAt Go.RowKit Go.Deep Go.Joins Stw
set_option maxRecDepth 100000 in
theorem roomArrives_lifted (os:Os) (started:os.Started) (H:Type) (enc:TypeId×Value→H):
 ReturnsInHanded {} Try.checked os 7 .any (Rows.roomArrivesSpec.pre6 enc Try.prog Try.f7 Rows.roomArrivesRow.domain false) (Rows.roomArrivesSpec.post enc Try.prog Try.f7 false true false false):=by
 refine returnsInHanded_of_change_sized (C:=Try.checked) Try.own started (by kernel_rfl) Try.func7
  (ChangeSpec.witness6 (enc:=enc) (C:=Try.checked) false ⟨#[],#[.agg #[.int .i64 0,.slice none 0 0],.slice none 0 0,.int .i64 0],[]⟩ 8 (by kernel_rfl) (by kernel_rfl) (by kernel_rfl) (by kernel_rfl)) ?_
 intro W base args ds gs before hval0 hW hcnd hsz0 _
 have hval:∀(j:Nat) t v,Try.f7.params[j]? =some t→args[j]? =some v→Value.okWide Try.prog W .any base t v:=hval0
 have hsz:(DataW.weightsEach Try.prog (Try.f7.params.toList++Rows.roomArrivesSpec.plain.varTypes Try.prog) (ds++gs)).all (· ≤reachBytes)=true:=hsz0
 have hW':=hW
 obtain⟨p,q,hA0,hV,rfl,hfz,hnd⟩:=hW
 have hA:DataW.TrodAll enc Try.prog W 0 (fun _=>true) true Try.f7.params.toList args.toList ds p:=hA0
 rw[Try.params7] at hA hval hsz
 obtain⟨v0,vs0,d0,dt0,p0,q0,hargs,rfl,rfl,h0,r0⟩:=trodAll_cons hA
 obtain⟨v1,vs1,d1,dt1,p1,q1,rfl,rfl,rfl,h1,r1⟩:=trodAll_cons r0
 obtain⟨v2,vs2,d2,dt2,p2,q2,rfl,rfl,rfl,h2,r2⟩:=trodAll_cons r1
 obtain⟨rfl,rfl,rfl⟩:=trodAll_nil r2
 obtain rfl:args=#[v0,v1,v2]:=by cases args;simp_all
 obtain⟨rfl,rfl⟩:=trodVars_none hV
 have k0:=h0
 have lt0:∀x∈p0,x.block<W.heap.size:=by obtain⟨m,hm⟩:=k0;exact DataW.trod_lt m _ _ _ hm
 have k1:=h1
 have lt1:∀x∈p1,x.block<W.heap.size:=by obtain⟨m,hm⟩:=k1;exact DataW.trod_lt m _ _ _ hm
 obtain⟨n0,ao0,len0,cap0,ls0,rfl,hn0,hlen0,hnet0,hlw0,hreach0,hcap0,hcm0⟩:=open_topo (hval 0 24 v0 rfl rfl) h0 (weights_arg hsz (j:=0) rfl rfl)
 obtain⟨po1,pl1,pc1,rfl⟩:=okWide_slice Try.underlying25 (hval 1 25 v1 rfl rfl)
 obtain⟨fuel1,hf1⟩:=h1
 obtain⟨po1',pl1',pc1',ds1,ecs1,hdl1,hda1,hdx1,hds1,hdc1,hdm1⟩:=open_dos hf1 (weights_arg hsz (j:=1) rfl rfl)
 have hdn1:po1=none→pl1=0∧pc1=0:=fun e=>dos_nil hf1 (by subst e;rfl)
 simp[Value.cells] at ecs1
 obtain⟨rfl,rfl,rfl⟩:=ecs1
 subst hdl1
 obtain⟨a2,rfl,rfl,rfl,w2⟩:=open_int Try.underlying3 (hval 2 3 v2 rfl rfl) h2
 clear hA0 hval0 hsz0
 refine(Rm.roomArrives_any n0 ao0 len0 cap0 ls0 po1 pc1 ds1 a2 W hlen0 hnet0 (by omega) hda1 hds1 hdx1 hdn1).mono fun e W' ⟨he,bel0⟩=>?_
 subst he
 have bel:Below W.heap.size W W':=bel0
 exact⟨_,rfl,_,_,_,[],_,[],hW',trodAll_mk1 (shut_bool Try.underlying4 _),(trodAll_cons_mk (Below.trod Try.laidOut (by kernel_rfl) (of_decide_eq_true (by kernel_rfl)) k0 bel lt0) (trodAll_cons_mk (Below.trod Try.laidOut (by kernel_rfl) (of_decide_eq_true (by kernel_rfl)) k1 bel lt1) (trodAll_cons_mk (shut_int Try.underlying3 w2) trodAll_mk0))),rfl,bel.frame _,fun h=>by cases h⟩
theorem roomArrives_holds:Rows.RoomArrivesSaid:=
 OpenClaim.holds_of_wide 7 Try.f7 rfl rfl rfl rfl rfl rfl rfl ⟨rfl,rfl,rfl,rfl,rfl⟩ rfl rfl rfl rfl rfl (by kernel_rfl) Try.func7 (by kernel_rfl)
  (of_decide_eq_true (by kernel_rfl)) (by unfold Func.isWrapper;first | (rw[if_pos (by decide+kernel)];kernel_rfl) | (rw[if_neg (by decide+kernel)];exact⟨rfl,rfl⟩))
  (fun os started H enc _=>roomArrives_lifted os started H enc)
#print axioms roomArrives_holds
end Go.Proofs.Ytolclgbpjiokfaa
