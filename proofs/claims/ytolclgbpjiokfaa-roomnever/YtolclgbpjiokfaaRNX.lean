/- Proved: the law RoomNever answers true for every net and whatever happens in it, and leaves them as they were: no order that comes to a switch is refused. Conditions: none but that the arguments can be read. -/
import Derived.Test.YtolclgbpjiokfaaU25
import Derived.Test.YtolclgbpjiokfaaU35
import Derived.Test.YtolclgbpjiokfaaU24
namespace Go.Proofs.Ytolclgbpjiokfaa.Rm
open Go.RowKit Go.Deep Stw Stp Tb Rul Ct
theorem hap_never {n:Nat} {ls:List Lk} {t:Nat} {W:Wd} {d:Dd} (h:Inv n ls t W) (ht:t≤1000) (hd:d.k=2∨d.k=3):(hap n ls W d).2=0∨(hap n ls W d).2=6:=by
 obtain⟨k,i,fs⟩:=d
 simp only at hd
 by_cases hi:0≤i∧i<(n:Int)
 ·obtain⟨s,rfl⟩:=Int.eq_ofNat_of_zero_le hi.1
  have hs:s<n:=by omega
  rcases hd with rfl | rfl
  ·have e:hap n ls W ⟨2,(s:Int),fs⟩=hap n ls W ⟨2,(s:Int),[]⟩:=rfl
   rw[e]
   rcases h.one hs with⟨h1,_⟩ | ⟨o,h1,_⟩ | ⟨k,h1,_⟩
   ·right
    show(hapO n W (s:Int)).2=6
    unfold hapO
    rw[if_neg (by omega),Int.toNat_natCast,h1]
   ·left;rw[order_step h ht hs h1]
   ·right
    show(hapO n W (s:Int)).2=6
    unfold hapO
    rw[if_neg (by omega),Int.toNat_natCast,h1]
  ·have e:hap n ls W ⟨3,(s:Int),fs⟩=hap n ls W ⟨3,(s:Int),[]⟩:=rfl
   rw[e]
   rcases h.one hs with⟨_,h1⟩ | ⟨o,_,h1⟩ | ⟨k,_,h1⟩
   ·right
    show(hapK n ls W (s:Int)).2=6
    unfold hapK
    rw[if_neg (by omega),Int.toNat_natCast,h1]
   ·right
    show(hapK n ls W (s:Int)).2=6
    unfold hapK
    rw[if_neg (by omega),Int.toNat_natCast,h1]
   ·left;rw[back_step h hs h1]
 ·right
  rcases hd with rfl | rfl
  ·show(hapO n W i).2=6
   unfold hapO
   rw[if_pos hi]
  ·show(hapK n ls W i).2=6
   unfold hapK
   rw[if_pos hi]
theorem run_at {n:Nat} {ls:List Lk} {ds:List Dd} {k:Nat} (hk:k<ds.length):(run n ls ds).2.getD k 0=(hap n ls (run n ls (ds.take k)).1 (ds.getD k dd0)).2:=by
 have h1:=(run_past (n:=n) (ls:=ls) (ds:=ds) (k:=k+1) (by omega)).2
 have h2:run n ls (ds.take (k+1))=stepR n ls (run n ls (ds.take k)) (ds.getD k dd0):=runR_take (n:=n) (ls:=ls) (q:=(wdN n,[])) hk
 have hl:(run n ls (ds.take k)).2.length=k:=by rw[run_len,List.length_take];omega
 have h3:((run n ls ds).2.take (k+1)).getD k 0=(run n ls ds).2.getD k 0:=by
  rw[List.getD_eq_getElem?_getD,List.getD_eq_getElem?_getD,List.getElem?_take,if_pos (by omega)]
 rw[←h3, ←h1,h2]
 show((run n ls (ds.take k)).2++[(hap n ls (run n ls (ds.take k)).1 (ds.getD k dd0)).2]).getD k 0=_
 rw[List.getD_eq_getElem?_getD,List.getElem?_append_right (by omega),hl,Nat.sub_self]
 rfl
theorem run_never {n:Nat} {ls:List Lk} {ds:List Dd} (hw:(wrong n ls).1=0) (hl:ds.length≤1000) {k:Nat} (hk:k<ds.length) (hd:(ds.getD k dd0).k=2∨(ds.getD k dd0).k=3):(run n ls ds).2.getD k 0=0∨(run n ls ds).2.getD k 0=6:=by
 rw[run_at hk]
 have hlt:(ds.take k).length≤1000:=by rw[List.length_take];omega
 exact hap_never (run_inv hw hlt) hlt hd
end Go.Proofs.Ytolclgbpjiokfaa.Rm
namespace Go.Proofs.Ytolclgbpjiokfaa.Rm
open Go.RowKit Go.Deep Stw Stp Tb Rul Ct
theorem plyN {N:Int} {ls:List Lk} {ds:List Dd} (h:(plyF N ls ds).1=0):∃n:Nat,N=(n:Int)∧n≤8∧(wrong n ls).1=0∧ds.length≤200∧plyF N ls ds=(0,0)∧plyW N ls ds=run n ls ds:=by
 obtain⟨h1,h2,h3,h4⟩:=plyF_right h
 have hb:=(right_of h1).bounds
 obtain⟨n,rfl⟩:=Int.eq_ofNat_of_zero_le (show 0≤N by omega)
 exact⟨n,rfl,by omega,h1,h2,h3,h4⟩
set_option maxRecDepth 100000 in
set_option maxHeartbeats 4000000 in
theorem roomNever_any (N:Int) (ao:Option Addr) (len cap:Nat) (ls:List Lk) (lo:Option Addr) (lc:Nat) (ds:List Dd) (w:World) (hlen:ls.length=len) (hl:NetAt w ao ls) (hx:len≤9223372036854775807) (hd:DosAt w lo ds) (hS:DsSm ds) (hdl:ds.length≤9223372036854775807):
 Calls Try.prog 8 #[.agg #[.int .i64 N,.slice ao len cap],.slice lo ds.length lc] w fun e w'=>e=.returned (.bool true)∧Ext w w':=by
 go_enter Try.func8,Try.ntmps8
 go_wp2_with fail
 have E0:=(Ext.refl w).alloc (.cells #[.int .i64 N,.slice ao len cap] 24)
 refine(alive_any _).mono ?_
 rintro e w1 ⟨rfl,E1⟩
 have n0:w1.cell? ⟨w.heap.size,0,none⟩=some (.int .i64 N):=(E1.cells.1 _ _ (by simp)).trans (by simp)
 have n1:w1.cell? ⟨w.heap.size,1,none⟩=some (.slice ao len cap):=(E1.cells.1 _ _ (by simp)).trans (by simp)
 have E01:=E0.trans E1
 clear E0 E1
 go_wp2_with fail
 refine(Play_any N ao len cap ls lo lc ds w1 hlen (hl.ext E01) hx (hd.ext E01) hS hdl).mono ?_
 intro e w4 hP
 have HDS:=hidp hd
 have HW:Hid ((plyF N ls ds).1=0→∃n:Nat,N=(n:Int)∧(wrong n ls).1=0∧ds.length≤200∧plyW N ls ds=run n ls ds):=fun h=>by
  obtain⟨n,h1,_,h3,h4,_,h6⟩:=plyN h
  exact⟨n,h1,h3,h4,h6⟩
 generalize plyF N ls ds=f at hP HW
 generalize plyW N ls ds=q at hP HW
 obtain⟨W,came⟩:=q
 obtain⟨A,co,cc,rfl,E4,HP⟩:=hP
 obtain⟨f0,f1⟩:=f
 unfold wvl
 simp only at HW HP ⊢
 have E04:=E01.trans E4
 clear hl hd hS n0 n1 E01 E4
 by_cases hf:f0=0
 ·obtain⟨n,rfl,hw,hl2,hq⟩:=HW.out hf
  have hcl:came.length=ds.length:=by have:=run_len (n:=n) (ls:=ls) (ds:=ds);rw[←hq] at this;exact this
  have HNV:Hid (∀k,k<ds.length→((ds.getD k dd0).k=2∨(ds.getD k dd0).k=3)→came.getD k 0=0∨came.getD k 0=6):=fun k hk hd=>by
   have:=run_never hw (by omega) hk hd
   rw[←hq] at this;exact this
  subst hf
  clear HW hq hw
  rw[hcl]
  go_wp2
  have HE:=hidp ((E04.alloc (.cells #[.int .i64 W.co.st,.int .i64 W.co.now.v,.slice A.ca.n.fo W.co.now.fs.length A.ca.n.fc,.slice A.ca.n.qo W.co.now.ps.length A.ca.n.qc,.int .i64 W.co.nxt.v,.slice A.ca.x.fo W.co.nxt.fs.length A.ca.x.fc,.slice A.ca.x.qo W.co.nxt.ps.length A.ca.x.qc,.int .i64 W.co.num,.slice A.ca.wo W.co.wts.length A.ca.wc,.slice A.so W.sw.length A.sc,.slice A.oo W.od.length A.oc,.slice A.bo W.bk.length A.bc,.slice A.ko W.pk.length A.kc,.slice A.lo W.pn.length A.lc] 40)).alloc (.cells #[.int .i64 0,.int .i64 f1] 44))
  have HL:=hidp ((HP.out.2.ext (((Ext.refl w4).alloc (.cells #[.int .i64 W.co.st,.int .i64 W.co.now.v,.slice A.ca.n.fo W.co.now.fs.length A.ca.n.fc,.slice A.ca.n.qo W.co.now.ps.length A.ca.n.qc,.int .i64 W.co.nxt.v,.slice A.ca.x.fo W.co.nxt.fs.length A.ca.x.fc,.slice A.ca.x.qo W.co.nxt.ps.length A.ca.x.qc,.int .i64 W.co.num,.slice A.ca.wo W.co.wts.length A.ca.wc,.slice A.so W.sw.length A.sc,.slice A.oo W.od.length A.oc,.slice A.bo W.bk.length A.bc,.slice A.ko W.pk.length A.kc,.slice A.lo W.pn.length A.lc] 40)).alloc (.cells #[.int .i64 0,.int .i64 f1] 44))))
  clear HP E04
  obtain⟨w5,hw5⟩:∃w5,w5=(w4.alloc (.cells #[.int .i64 W.co.st,.int .i64 W.co.now.v,.slice A.ca.n.fo W.co.now.fs.length A.ca.n.fc,.slice A.ca.n.qo W.co.now.ps.length A.ca.n.qc,.int .i64 W.co.nxt.v,.slice A.ca.x.fo W.co.nxt.fs.length A.ca.x.fc,.slice A.ca.x.qo W.co.nxt.ps.length A.ca.x.qc,.int .i64 W.co.num,.slice A.ca.wo W.co.wts.length A.ca.wc,.slice A.so W.sw.length A.sc,.slice A.oo W.od.length A.oc,.slice A.bo W.bk.length A.bc,.slice A.ko W.pk.length A.kc,.slice A.lo W.pn.length A.lc] 40)).alloc (.cells #[.int .i64 0,.int .i64 f1] 44):=⟨_,rfl⟩
  rw[←hw5] at HE HL ⊢
  clear hw5
  go_loopw [24] (fun iv wd=>∃k:Nat,k≤ds.length∧iv=.int .i64 k∧Ext w5 wd) (fun iv _=>ds.length - (intOf iv).toNat)
  case atStart=>exact⟨0,Nat.zero_le _,rfl,Ext.refl _⟩
  case round=>
   obtain⟨k,hk,rfl,hEk⟩:=hrel
   by_cases hlt:k<ds.length
   ·have i1:(k:Int)<(ds.length:Int):=by omega
    obtain⟨db,doff,fo,fc,rfl,hdb,c0,c1,c2,_⟩:=(HDS.out).get hlt
    have E5:=HE.out.trans hEk
    have d0:=(E5.cells.1 _ _ hdb).trans c0
    have d1:=(E5.cells.1 _ _ hdb).trans c1
    have d2:=(E5.cells.1 _ _ hdb).trans c2
    obtain⟨cb,coff,hco,hcb,hcc⟩:=(HL.out.ext hEk).get (k:=0) (by omega)
    have a0:=hcc k (by omega)
    have hnv:=HNV.out k hlt
    generalize ds.getD k dd0=d at d0 d1 d2 hnv
    generalize came.getD k 0=er at a0 hnv
    obtain⟨dk,dn,dfs⟩:=d
    simp only at d0 d1 d2 hnv
    subst hco
    clear c0 c1 c2 hcc hdb
    have hE6:Ext w5 (wr.alloc (.cells #[.int .i64 dk,.int .i64 dn,.slice fo dfs.length fc] 66)):=hEk.alloc _
    by_cases h2:dk=2
    ·subst h2
     rcases hnv (Or.inl rfl) with rfl | rfl
     all_goals(
      go_wp2
      refine⟨⟨k+1,by omega,by simp[go_sem],hE6⟩,?_⟩
      simp[intOf]
      omega)
    ·by_cases h3:dk=3
     ·subst h3
      rcases hnv (Or.inr rfl) with rfl | rfl
      all_goals(
       go_wp2
       refine⟨⟨k+1,by omega,by simp[go_sem],hE6⟩,?_⟩
       simp[intOf]
       omega)
     ·have b2:(dk == 2)=false:=by simpa using h2
      have b3:(dk == 3)=false:=by simpa using h3
      go_wp2
      refine⟨⟨k+1,by omega,by simp[go_sem],hE6⟩,?_⟩
      simp[intOf]
      omega
   ·have i1:¬(k:Int)<(ds.length:Int):=by omega
    go_wp2
    go_ret
    exact⟨rfl,HE.out.trans hEk⟩
 ·have b0:(f0 != 0)=true:=by simpa using hf
  go_wp2
  go_ret
  exact⟨rfl,(E04.alloc _).alloc _⟩
end Go.Proofs.Ytolclgbpjiokfaa.Rm
namespace Go.Proofs.Ytolclgbpjiokfaa
open Go.ChangeShapes Go.WideShapes Go.ChangeAt Go.RowKit Go.Deep Go.Joins Stw
set_option maxRecDepth 100000 in
theorem roomNever_lifted (os:Os) (started:os.Started) (H:Type) (enc:TypeId×Value→H):
 ReturnsInHanded {} Try.checked os 8 .any (Rows.roomNeverSpec.pre6 enc Try.prog Try.f8 Rows.roomNeverRow.domain false) (Rows.roomNeverSpec.post enc Try.prog Try.f8 false true false false):=by
 refine returnsInHanded_of_change_sized (C:=Try.checked) Try.own started (by kernel_rfl) Try.func8
  (ChangeSpec.witness6 (enc:=enc) (C:=Try.checked) false ⟨#[],#[.agg #[.int .i64 0,.slice none 0 0],.slice none 0 0],[]⟩ 8 (by kernel_rfl) (by kernel_rfl) (by kernel_rfl) (by kernel_rfl)) ?_
 intro W base args ds gs before hval0 hW hcnd hsz0 _
 have hval:∀(j:Nat) t v,Try.f8.params[j]? =some t→args[j]? =some v→Value.okWide Try.prog W .any base t v:=hval0
 have hsz:(DataW.weightsEach Try.prog (Try.f8.params.toList++Rows.roomNeverSpec.plain.varTypes Try.prog) (ds++gs)).all (· ≤reachBytes)=true:=hsz0
 have hW':=hW
 obtain⟨p,q,hA0,hV,rfl,hfz,hnd⟩:=hW
 have hA:DataW.TrodAll enc Try.prog W 0 (fun _=>true) true Try.f8.params.toList args.toList ds p:=hA0
 rw[Try.params8] at hA hval hsz
 obtain⟨v0,vs0,d0,dt0,p0,q0,hargs,rfl,rfl,h0,r0⟩:=trodAll_cons hA
 obtain⟨v1,vs1,d1,dt1,p1,q1,rfl,rfl,rfl,h1,r1⟩:=trodAll_cons r0
 obtain⟨rfl,rfl,rfl⟩:=trodAll_nil r1
 obtain rfl:args=#[v0,v1]:=by cases args;simp_all
 obtain⟨rfl,rfl⟩:=trodVars_none hV
 have k0:=h0
 have lt0:∀x∈p0,x.block<W.heap.size:=by obtain⟨m,hm⟩:=k0;exact DataW.trod_lt m _ _ _ hm
 have k1:=h1
 have lt1:∀x∈p1,x.block<W.heap.size:=by obtain⟨m,hm⟩:=k1;exact DataW.trod_lt m _ _ _ hm
 obtain⟨n0,ao0,len0,cap0,ls0,rfl,hn0,hlen0,hnet0,hlw0,hreach0,hcap0,hcm0⟩:=open_topo (hval 0 24 v0 rfl rfl) h0 (weights_arg hsz (j:=0) rfl rfl)
 obtain⟨po1,pl1,pc1,rfl⟩:=okWide_slice Try.underlying25 (hval 1 25 v1 rfl rfl)
 obtain⟨fuel1,hf1⟩:=h1
 obtain⟨po1',pl1',pc1',ds1,ecs1,hdl1,hda1,hdx1,hds1,hdc1,hdm1⟩:=open_dos hf1 (weights_arg hsz (j:=1) rfl rfl)
 simp[Value.cells] at ecs1
 obtain⟨rfl,rfl,rfl⟩:=ecs1
 subst hdl1
 clear hA0 hval0 hsz0
 refine(Rm.roomNever_any n0 ao0 len0 cap0 ls0 po1 pc1 ds1 W hlen0 hnet0 (by omega) hda1 hds1 hdx1).mono fun e W' ⟨he,bel0⟩=>?_
 subst he
 have bel:Below W.heap.size W W':=bel0
 exact⟨_,rfl,_,_,_,[],_,[],hW',trodAll_mk1 (shut_bool Try.underlying4 _),(trodAll_cons_mk (Below.trod Try.laidOut (by kernel_rfl) (of_decide_eq_true (by kernel_rfl)) k0 bel lt0) (trodAll_cons_mk (Below.trod Try.laidOut (by kernel_rfl) (of_decide_eq_true (by kernel_rfl)) k1 bel lt1) trodAll_mk0)),rfl,bel.frame _,fun h=>by cases h⟩
theorem roomNever_holds:Rows.RoomNeverSaid:=
 OpenClaim.holds_of_wide 8 Try.f8 rfl rfl rfl rfl rfl rfl rfl ⟨rfl,rfl,rfl,rfl,rfl⟩ rfl rfl rfl rfl rfl (by kernel_rfl) Try.func8 (by kernel_rfl)
  (of_decide_eq_true (by kernel_rfl)) (by unfold Func.isWrapper;first | (rw[if_pos (by decide+kernel)];kernel_rfl) | (rw[if_neg (by decide+kernel)];exact⟨rfl,rfl⟩))
  (fun os started H enc _=>roomNever_lifted os started H enc)
#print axioms roomNever_holds
end Go.Proofs.Ytolclgbpjiokfaa
