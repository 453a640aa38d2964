/- RoomPaths' walk. -/
import Derived.Test.YtolclgbpjiokfaaU25
import Derived.Test.YtolclgbpjiokfaaU35
namespace Go.Proofs.Ytolclgbpjiokfaa.Rm
open Go.RowKit Go.Deep Stw Stp Tb Rul Ct
theorem hap_never {n:Nat} {ls:List Lk} {t:Nat} {W:Wd} {d:Dd} (h:Inv n ls t W) (ht:t≤1000) (hd:d.k=2∨d.k=3):(hap n ls W d).2=0∨(hap n ls W d).2=6:=by
 obtain⟨k,i,fs⟩:=d
 simp only at hd
 by_cases hi:0≤i∧i<(n:Int)
 ·obtain⟨s,rfl⟩:=Int.eq_ofNat_of_zero_le hi.1
  have hs:s<n:=by omega
  rcases hd with rfl | rfl
  ·have e:hap n ls W ⟨2,(s:Int),fs⟩=hap n ls W ⟨2,(s:Int),[]⟩:=rfl
   rw[e]
   rcases h.one hs with⟨h1,_⟩ | ⟨o,h1,_⟩ | ⟨k,h1,_⟩
   ·right
    show(hapO n W (s:Int)).2=6
    unfold hapO
    rw[if_neg (by omega),Int.toNat_natCast,h1]
   ·left;rw[order_step h ht hs h1]
   ·right
    show(hapO n W (s:Int)).2=6
    unfold hapO
    rw[if_neg (by omega),Int.toNat_natCast,h1]
  ·have e:hap n ls W ⟨3,(s:Int),fs⟩=hap n ls W ⟨3,(s:Int),[]⟩:=rfl
   rw[e]
   rcases h.one hs with⟨_,h1⟩ | ⟨o,_,h1⟩ | ⟨k,_,h1⟩
   ·right
    show(hapK n ls W (s:Int)).2=6
    unfold hapK
    rw[if_neg (by omega),Int.toNat_natCast,h1]
   ·right
    show(hapK n ls W (s:Int)).2=6
    unfold hapK
    rw[if_neg (by omega),Int.toNat_natCast,h1]
   ·left;rw[back_step h hs h1]
 ·right
  rcases hd with rfl | rfl
  ·show(hapO n W i).2=6
   unfold hapO
   rw[if_pos hi]
  ·show(hapK n ls W i).2=6
   unfold hapK
   rw[if_pos hi]
theorem run_at {n:Nat} {ls:List Lk} {ds:List Dd} {k:Nat} (hk:k<ds.length):(run n ls ds).2.getD k 0=(hap n ls (run n ls (ds.take k)).1 (ds.getD k dd0)).2:=by
 have h1:=(run_past (n:=n) (ls:=ls) (ds:=ds) (k:=k+1) (by omega)).2
 have h2:run n ls (ds.take (k+1))=stepR n ls (run n ls (ds.take k)) (ds.getD k dd0):=runR_take (n:=n) (ls:=ls) (q:=(wdN n,[])) hk
 have hl:(run n ls (ds.take k)).2.length=k:=by rw[run_len,List.length_take];omega
 have h3:((run n ls ds).2.take (k+1)).getD k 0=(run n ls ds).2.getD k 0:=by
  rw[List.getD_eq_getElem?_getD,List.getD_eq_getElem?_getD,List.getElem?_take,if_pos (by omega)]
 rw[←h3, ←h1,h2]
 show((run n ls (ds.take k)).2++[(hap n ls (run n ls (ds.take k)).1 (ds.getD k dd0)).2]).getD k 0=_
 rw[List.getD_eq_getElem?_getD,List.getElem?_append_right (by omega),hl,Nat.sub_self]
 rfl
theorem run_never {n:Nat} {ls:List Lk} {ds:List Dd} (hw:(wrong n ls).1=0) (hl:ds.length≤1000) {k:Nat} (hk:k<ds.length) (hd:(ds.getD k dd0).k=2∨(ds.getD k dd0).k=3):(run n ls ds).2.getD k 0=0∨(run n ls ds).2.getD k 0=6:=by
 rw[run_at hk]
 have hlt:(ds.take k).length≤1000:=by rw[List.length_take];omega
 exact hap_never (run_inv hw hlt) hlt hd
end Go.Proofs.Ytolclgbpjiokfaa.Rm
namespace Go.Proofs.Ytolclgbpjiokfaa.Rm
open Go.RowKit Go.Deep Stw Stp Tb Rul Ct
theorem plyN {N:Int} {ls:List Lk} {ds:List Dd} (h:(plyF N ls ds).1=0):∃n:Nat,N=(n:Int)∧n≤8∧(wrong n ls).1=0∧ds.length≤200∧plyF N ls ds=(0,0)∧plyW N ls ds=run n ls ds:=by
 obtain⟨h1,h2,h3,h4⟩:=plyF_right h
 have hb:=(right_of h1).bounds
 obtain⟨n,rfl⟩:=Int.eq_ofNat_of_zero_le (show 0≤N by omega)
 exact⟨n,rfl,by omega,h1,h2,h3,h4⟩
set_option maxRecDepth 100000 in
set_option maxHeartbeats 4000000 in
theorem roomNever_any (N:Int) (ao:Option Addr) (len cap:Nat) (ls:List Lk) (lo:Option Addr) (lc:Nat) (ds:List Dd) (w:World) (hlen:ls.length=len) (hl:NetAt w ao ls) (hx:len≤9223372036854775807) (hd:DosAt w lo ds) (hS:DsSm ds) (hdl:ds.length≤9223372036854775807):
 Calls Try.prog 8 #[.agg #[.int .i64 N,.slice ao len cap],.slice lo ds.length lc] w fun e w'=>e=.returned (.bool true)∧Ext w w':=by
 go_enter Try.func8,Try.ntmps8
 go_wp2_with fail
 have E0:=(Ext.refl w).alloc (.cells #[.int .i64 N,.slice ao len cap] 24)
 refine(alive_any _).mono ?_
 rintro e w1 ⟨rfl,E1⟩
 have n0:w1.cell? ⟨w.heap.size,0,none⟩=some (.int .i64 N):=(E1.cells.1 _ _ (by simp)).trans (by simp)
 have n1:w1.cell? ⟨w.heap.size,1,none⟩=some (.slice ao len cap):=(E1.cells.1 _ _ (by simp)).trans (by simp)
 have E01:=E0.trans E1
 clear E0 E1
 go_wp2_with fail
 refine(Play_any N ao len cap ls lo lc ds w1 hlen (hl.ext E01) hx (hd.ext E01) hS hdl).mono ?_
 intro e w4 hP
 have HDS:=hidp hd
 have HW:Hid ((plyF N ls ds).1=0→∃n:Nat,N=(n:Int)∧(wrong n ls).1=0∧ds.length≤200∧plyW N ls ds=run n ls ds):=fun h=>by
  obtain⟨n,h1,_,h3,h4,_,h6⟩:=plyN h
  exact⟨n,h1,h3,h4,h6⟩
 generalize plyF N ls ds=f at hP HW
 generalize plyW N ls ds=q at hP HW
 obtain⟨W,came⟩:=q
 obtain⟨A,co,cc,rfl,E4,HP⟩:=hP
 obtain⟨f0,f1⟩:=f
 unfold wvl
 simp only at HW HP ⊢
 have E04:=E01.trans E4
 clear hl hd hS n0 n1 E01 E4
 by_cases hf:f0=0
 ·obtain⟨n,rfl,hw,hl2,hq⟩:=HW.out hf
  have hcl:came.length=ds.length:=by have:=run_len (n:=n) (ls:=ls) (ds:=ds);rw[←hq] at this;exact this
  have HNV:Hid (∀k,k<ds.length→((ds.getD k dd0).k=2∨(ds.getD k dd0).k=3)→came.getD k 0=0∨came.getD k 0=6):=fun k hk hd=>by
   have:=run_never hw (by omega) hk hd
   rw[←hq] at this;exact this
  subst hf
  clear HW hq hw
  rw[hcl]
  go_wp2
  have HE:=hidp ((E04.alloc (.cells #[.int .i64 W.co.st,.int .i64 W.co.now.v,.slice A.ca.n.fo W.co.now.fs.length A.ca.n.fc,.slice A.ca.n.qo W.co.now.ps.length A.ca.n.qc,.int .i64 W.co.nxt.v,.slice A.ca.x.fo W.co.nxt.fs.length A.ca.x.fc,.slice A.ca.x.qo W.co.nxt.ps.length A.ca.x.qc,.int .i64 W.co.num,.slice A.ca.wo W.co.wts.length A.ca.wc,.slice A.so W.sw.length A.sc,.slice A.oo W.od.length A.oc,.slice A.bo W.bk.length A.bc,.slice A.ko W.pk.length A.kc,.slice A.lo W.pn.length A.lc] 40)).alloc (.cells #[.int .i64 0,.int .i64 f1] 44))
  have HL:=hidp ((HP.out.2.ext (((Ext.refl w4).alloc (.cells #[.int .i64 W.co.st,.int .i64 W.co.now.v,.slice A.ca.n.fo W.co.now.fs.length A.ca.n.fc,.slice A.ca.n.qo W.co.now.ps.length A.ca.n.qc,.int .i64 W.co.nxt.v,.slice A.ca.x.fo W.co.nxt.fs.length A.ca.x.fc,.slice A.ca.x.qo W.co.nxt.ps.length A.ca.x.qc,.int .i64 W.co.num,.slice A.ca.wo W.co.wts.length A.ca.wc,.slice A.so W.sw.length A.sc,.slice A.oo W.od.length A.oc,.slice A.bo W.bk.length A.bc,.slice A.ko W.pk.length A.kc,.slice A.lo W.pn.length A.lc] 40)).alloc (.cells #[.int .i64 0,.int .i64 f1] 44))))
  clear HP E04
  obtain⟨w5,hw5⟩:∃w5,w5=(w4.alloc (.cells #[.int .i64 W.co.st,.int .i64 W.co.now.v,.slice A.ca.n.fo W.co.now.fs.length A.ca.n.fc,.slice A.ca.n.qo W.co.now.ps.length A.ca.n.qc,.int .i64 W.co.nxt.v,.slice A.ca.x.fo W.co.nxt.fs.length A.ca.x.fc,.slice A.ca.x.qo W.co.nxt.ps.length A.ca.x.qc,.int .i64 W.co.num,.slice A.ca.wo W.co.wts.length A.ca.wc,.slice A.so W.sw.length A.sc,.slice A.oo W.od.length A.oc,.slice A.bo W.bk.length A.bc,.slice A.ko W.pk.length A.kc,.slice A.lo W.pn.length A.lc] 40)).alloc (.cells #[.int .i64 0,.int .i64 f1] 44):=⟨_,rfl⟩
  rw[←hw5] at HE HL ⊢
  clear hw5
  go_loopw [24] (fun iv wd=>∃k:Nat,k≤ds.length∧iv=.int .i64 k∧Ext w5 wd) (fun iv _=>ds.length - (intOf iv).toNat)
  case atStart=>exact⟨0,Nat.zero_le _,rfl,Ext.refl _⟩
  case round=>
   obtain⟨k,hk,rfl,hEk⟩:=hrel
   by_cases hlt:k<ds.length
   ·have i1:(k:Int)<(ds.length:Int):=by omega
    obtain⟨db,doff,fo,fc,rfl,hdb,c0,c1,c2,_⟩:=(HDS.out).get hlt
    have E5:=HE.out.trans hEk
    have d0:=(E5.cells.1 _ _ hdb).trans c0
    have d1:=(E5.cells.1 _ _ hdb).trans c1
    have d2:=(E5.cells.1 _ _ hdb).trans c2
    obtain⟨cb,coff,hco,hcb,hcc⟩:=(HL.out.ext hEk).get (k:=0) (by omega)
    have a0:=hcc k (by omega)
    have hnv:=HNV.out k hlt
    generalize ds.getD k dd0=d at d0 d1 d2 hnv
    generalize came.getD k 0=er at a0 hnv
    obtain⟨dk,dn,dfs⟩:=d
    simp only at d0 d1 d2 hnv
    subst hco
    clear c0 c1 c2 hcc hdb
    have hE6:Ext w5 (wr.alloc (.cells #[.int .i64 dk,.int .i64 dn,.slice fo dfs.length fc] 66)):=hEk.alloc _
    by_cases h2:dk=2
    ·subst h2
     rcases hnv (Or.inl rfl) with rfl | rfl
     all_goals(
      go_wp2
      refine⟨⟨k+1,by omega,by simp[go_sem],hE6⟩,?_⟩
      simp[intOf]
      omega)
    ·by_cases h3:dk=3
     ·subst h3
      rcases hnv (Or.inr rfl) with rfl | rfl
      all_goals(
       go_wp2
       refine⟨⟨k+1,by omega,by simp[go_sem],hE6⟩,?_⟩
       simp[intOf]
       omega)
     ·have b2:(dk == 2)=false:=by simpa using h2
      have b3:(dk == 3)=false:=by simpa using h3
      go_wp2
      refine⟨⟨k+1,by omega,by simp[go_sem],hE6⟩,?_⟩
      simp[intOf]
      omega
   ·have i1:¬(k:Int)<(ds.length:Int):=by omega
    go_wp2
    go_ret
    exact⟨rfl,HE.out.trans hEk⟩
 ·have b0:(f0 != 0)=true:=by simpa using hf
  go_wp2
  go_ret
  exact⟨rfl,(E04.alloc _).alloc _⟩
end Go.Proofs.Ytolclgbpjiokfaa.Rm
namespace Go.Proofs.Ytolclgbpjiokfaa.Rm
open Go.RowKit Go.Deep Stw Stp Tb Rul Ct
theorem getD_mem {α:Type} {l:List α} {z:α} {j:Nat} (hj:j<l.length):l.getD j z∈l:=by rw[List.getD_eq_getElem?_getD,List.getElem?_eq_getElem hj];exact List.getElem_mem _
theorem Inv.sw_tab {n:Nat} {ls:List Lk} {t:Nat} {W:Wd} {s:Nat} (h:Inv n ls t W) (hs:s<n):(Rul.wrong (W.sw.getD s Agt.sw0).rs).1=0∧(W.sw.getD s Agt.sw0).rs.length≤16:=by
 have h0:=h.sw_right hs
 have h1:(Rul.wrong (W.sw.getD s Agt.sw0).rs).1=0:=by
  unfold Agt.wrongS at h0
  split at h0
  ·rename_i h2;exact absurd h0 h2
  ·rename_i h2;simpa using h2
 exact⟨h1,(tab_iff.1 h1).1⟩
theorem Inv.sw_ver {n:Nat} {ls:List Lk} {t:Nat} {W:Wd} {s j:Nat} (h:Inv n ls t W) (hs:s<n) (hj:j<(W.sw.getD s Agt.sw0).rs.length):((W.sw.getD s Agt.sw0).rs.getD j (0,0,0)).1=W.co.now.v∨((W.sw.getD s Agt.sw0).rs.getD j (0,0,0)).1=W.co.nxt.v:=by
 have hm:(W.sw.getD s Agt.sw0).rs.getD j (0,0,0)∈(W.sw.getD s Agt.sw0).rs:=getD_mem hj
 exact(h.sw_mem hs hm).imp rls_ver rls_ver
theorem WoAt.sw_get {w:World} {W:Wd} {A:WA} {s:Nat} (h:WoAt w W A) (hs:s<W.sw.length):∃g off ro rc so sc,A.so=some ⟨g,off,none⟩∧g<w.heap.size∧w.cell? ⟨g,off+s*2,none⟩=some (.slice ro (W.sw.getD s Agt.sw0).rs.length rc)∧w.cell? ⟨g,off+s*2+1,none⟩=some (.slice so (W.sw.getD s Agt.sw0).st.length sc)∧Ag.SwAt w (W.sw.getD s Agt.sw0) ro so rc:=by
 rcases h.sw with h0 | ⟨g,off,h1,h2,h3⟩
 ·rw[h0] at hs;simp at hs
 ·obtain⟨ro,rc,so,sc,c0,c1,hx⟩:=h3 s hs
  exact⟨g,off,ro,rc,so,sc,h1,h2,c0,c1,hx⟩
set_option maxRecDepth 100000 in
set_option maxHeartbeats 4000000 in
theorem roomFull_any (N:Int) (ao:Option Addr) (len cap:Nat) (ls:List Lk) (lo:Option Addr) (lc:Nat) (ds:List Dd) (w:World) (hlen:ls.length=len) (hl:NetAt w ao ls) (hx:len≤9223372036854775807) (hd:DosAt w lo ds) (hS:DsSm ds) (hdl:ds.length≤9223372036854775807):
 Calls Try.prog 5 #[.agg #[.int .i64 N,.slice ao len cap],.slice lo ds.length lc] w fun e w'=>e=.returned (.bool true)∧Ext w w':=by
 go_enter Try.func5,Try.ntmps5
 go_wp2_with fail
 have E0:=(Ext.refl w).alloc (.cells #[.int .i64 N,.slice ao len cap] 24)
 refine(alive_any _).mono ?_
 rintro e w1 ⟨rfl,E1⟩
 have n0:w1.cell? ⟨w.heap.size,0,none⟩=some (.int .i64 N):=(E1.cells.1 _ _ (by simp)).trans (by simp)
 have n1:w1.cell? ⟨w.heap.size,1,none⟩=some (.slice ao len cap):=(E1.cells.1 _ _ (by simp)).trans (by simp)
 have E01:=E0.trans E1
 clear E0 E1
 go_wp2_with fail
 refine(Play_any N ao len cap ls lo lc ds w1 hlen (hl.ext E01) hx (hd.ext E01) hS hdl).mono ?_
 intro e w4 hP
 have HDS:=hidp hd
 have HNT:=hidp hl
 have HW:Hid ((plyF N ls ds).1=0→∃n:Nat,N=(n:Int)∧(wrong n ls).1=0∧ds.length≤200∧plyW N ls ds=run n ls ds):=fun h=>by
  obtain⟨n,h1,_,h3,h4,_,h6⟩:=plyN h
  exact⟨n,h1,h3,h4,h6⟩
 have HW0:Hid ((plyF N ls ds).1≠0→plyW N ls ds=(wd0,[])):=fun h=>by unfold plyW;rw[if_pos h]
 generalize plyF N ls ds=f at hP HW HW0
 generalize plyW N ls ds=q at hP HW HW0
 obtain⟨W,came⟩:=q
 obtain⟨A,co,cc,rfl,E4,HP⟩:=hP
 obtain⟨f0,f1⟩:=f
 unfold wvl
 simp only at HW HP HW0 ⊢
 have E04:=E01.trans E4
 clear hl hd hS n0 n1 E01 E4
 by_cases hf:f0=0
 ·obtain⟨n,rfl,hw,hl2,hq⟩:=HW.out hf
  subst hf
  go_wp2
  have HIV:Hid (Inv n ls ds.length W):=by
   have:=run_inv (n:=n) (ls:=ls) (ds:=ds) hw (by omega)
   rw[←hq] at this
   exact this
  obtain⟨w5,hw5⟩:∃w5,w5=(w4.alloc (.cells #[.int .i64 W.co.st,.int .i64 W.co.now.v,.slice A.ca.n.fo W.co.now.fs.length A.ca.n.fc,.slice A.ca.n.qo W.co.now.ps.length A.ca.n.qc,.int .i64 W.co.nxt.v,.slice A.ca.x.fo W.co.nxt.fs.length A.ca.x.fc,.slice A.ca.x.qo W.co.nxt.ps.length A.ca.x.qc,.int .i64 W.co.num,.slice A.ca.wo W.co.wts.length A.ca.wc,.slice A.so W.sw.length A.sc,.slice A.oo W.od.length A.oc,.slice A.bo W.bk.length A.bc,.slice A.ko W.pk.length A.kc,.slice A.lo W.pn.length A.lc] 40)).alloc (.cells #[.int .i64 0,.int .i64 f1] 44):=⟨_,rfl⟩
  have E45:Ext w4 w5:=by rw[hw5];exact((Ext.refl w4).alloc _).alloc _
  have HE:=hidp (E04.trans E45)
  have HP5:Hid (WoAt w5 W A∧ListAt w5 co came):=⟨HP.out.1.ext E45,HP.out.2.ext E45⟩
  have hsz5:w5.heap.size=w4.heap.size+1+1:=by rw[hw5];simp
  have HBX:Hid (w5.cell? ⟨w4.heap.size,0,none⟩=some (.int .i64 W.co.st)∧w5.cell? ⟨w4.heap.size,1,none⟩=some (.int .i64 W.co.now.v)∧w5.cell? ⟨w4.heap.size,4,none⟩=some (.int .i64 W.co.nxt.v)∧w5.cell? ⟨w4.heap.size,9,none⟩=some (.slice A.so W.sw.length A.sc)∧w5.cell? ⟨w4.heap.size,12,none⟩=some (.slice A.ko W.pk.length A.kc)∧w5.cell? ⟨w4.heap.size,13,none⟩=some (.slice A.lo W.pn.length A.lc)):=by
   show _∧_
   rw[hw5]
   refine⟨?_,?_,?_,?_,?_,?_⟩ <;> simp
  rw[←hw5]
  clear hw5 E45 HP E04 HW HW0
  have hsn:W.sw.length=n:=HIV.out.lsw
  have hn8:n≤8:=HIV.out.n8.2
  rw[hsn]
  clear hq hw
  go_loopw [27] (fun iv wd=>∃k:Nat,k≤n∧iv=.int .i64 k∧Ext w5 wd) (fun iv _=>n - (intOf iv).toNat)
  case atStart=>exact⟨0,Nat.zero_le _,rfl,Ext.refl _⟩
  case round=>
   obtain⟨k,hk,rfl,hEk⟩:=hrel
   by_cases hlt:k<n
   ·have i1:(k:Int)<(n:Int):=by omega
    obtain⟨g,off,ro,rc,so,sc,hso,hg,c0,c1,hsw⟩:=(HP5.out.1.ext hEk).sw_get (s:=k) (by omega)
    obtain⟨ht1,ht2⟩:=HIV.out.sw_tab hlt
    have HVR:Hid (∀j,j<(W.sw.getD k Agt.sw0).rs.length→((W.sw.getD k Agt.sw0).rs.getD j (0,0,0)).1=W.co.now.v∨((W.sw.getD k Agt.sw0).rs.getD j (0,0,0)).1=W.co.nxt.v):=fun j hj=>HIV.out.sw_ver hlt hj
    generalize W.sw.getD k Agt.sw0=sw at c0 c1 hsw ht1 ht2 HVR
    obtain⟨rs,st⟩:=sw
    simp only at c0 c1 hsw ht1 ht2 HVR
    have HRS:=hidp hsw.hr.hat
    rw[hso]
    clear hsw hso
    have hE6:Ext wr (wr.alloc (.cells #[.slice ro rs.length rc,.slice so st.length sc] 60)):=(Ext.refl wr).alloc _
    go_wp2_with fail
    refine(Tb.Wrong_any ro rs.length rc rs _ rfl (HRS.out.ext hE6) (by omega)).mono ?_
    rintro e w7 ⟨rfl,E7⟩
    have z0:w7.cell? ⟨wr.heap.size,0,none⟩=some (.slice ro rs.length rc):=(E7.cells.1 _ _ (by simp)).trans (by simp)
    have hE7:=hE6.trans E7
    have HR7:=hidp (HRS.out.ext hE7)
    have hEw7:=hEk.trans hE7
    have b0:((Rul.wrong rs).1 != 0)=false:=by rw[ht1];rfl
    have b1:¬(16:Int)<(rs.length:Int):=by omega
    clear E7 hE6 HRS c0 c1
    rw[ht1]
    have hfl:=fldF 0 (Rul.wrong rs).2 w7
    go_wp2
    go_loopw [45] (fun jv wd=>∃j:Nat,j≤rs.length∧jv=.int .i64 j∧Ext w7 wd) (fun jv _=>rs.length - (intOf jv).toNat)
    case atStart=>exact⟨0,Nat.zero_le _,rfl,Ext.refl _⟩
    case round=>
     obtain⟨j,hj,rfl,hEj⟩:=hrel
     by_cases hjt:j<rs.length
     ·have i2:(j:Int)<(rs.length:Int):=by omega
      obtain⟨rg,roff,hro,hrg,hcs⟩:=(HR7.out.ext hEj).get (k:=j) (by omega)
      obtain⟨r0,r1,r2⟩:=hcs j (by omega)
      have hvr:=HVR.out j (by omega)
      generalize rs.getD j (0,0,0)=r at r0 r1 r2 hvr
      obtain⟨x0,x1,x2⟩:=r
      simp only at r0 r1 r2 hvr
      subst hro
      have E5:=hEw7.trans hEj
      have v1:=(E5.cells.1 _ _ (by omega)).trans HBX.out.2.1
      have v4:=(E5.cells.1 _ _ (by omega)).trans HBX.out.2.2.1
      have hB:w4.heap.size<wr.heap.size:=by have:=E5.size;omega
      clear hcs E5
      by_cases hv:x0=W.co.now.v
      ·have v0:(x0 != W.co.now.v)=false:=by simpa using hv
       go_wp2
       refine⟨⟨j+1,by omega,by simp[go_sem],hEj.alloc _⟩,?_⟩
       simp[intOf]
       omega
      ·have v0:(x0 != W.co.now.v)=true:=by simpa using hv
       have v2:x0=W.co.nxt.v:=hvr.resolve_left hv
       have v3:(x0 != W.co.nxt.v)=false:=by simpa using v2
       clear hv hvr v2
       go_wp2
       refine⟨⟨j+1,by omega,by simp[go_sem],hEj.alloc _⟩,?_⟩
       simp[intOf]
       omega
     ·have i2:¬(j:Int)<(rs.length:Int):=by omega
      go_wp2
      refine⟨⟨k+1,by omega,by simp[go_sem],hEw7.trans hEj⟩,?_⟩
      simp[intOf]
      omega
   ·have i1:¬(k:Int)<(n:Int):=by omega
    go_wp2
    go_ret
    exact⟨rfl,HE.out.trans hEk⟩
 ·have b0:(f0 != 0)=true:=by simpa using hf
  go_wp2
  go_ret
  exact⟨rfl,(E04.alloc _).alloc _⟩
end Go.Proofs.Ytolclgbpjiokfaa.Rm
namespace Go.Proofs.Ytolclgbpjiokfaa.Rm
open Go.RowKit Go.Deep Stw Stp Tb Rul Ct
theorem WoAt.pn_get {w:World} {W:Wd} {A:WA} {i:Nat} (h:WoAt w W A) (hi:i<W.pn.length):∃g off,∃a:PA,A.lo=some ⟨g,off,none⟩∧g<w.heap.size∧w.cell? ⟨g,off+i*3,none⟩=some (.int .i64 (W.pn.getD i pl0).v)∧w.cell? ⟨g,off+i*3+1,none⟩=some (.slice a.fo (W.pn.getD i pl0).fs.length a.fc)∧w.cell? ⟨g,off+i*3+2,none⟩=some (.slice a.qo (W.pn.getD i pl0).ps.length a.qc)∧PlAt w (W.pn.getD i pl0) a:=by
 rcases h.pn with h0 | ⟨g,off,h1,h2,h3⟩
 ·rw[h0] at hi;simp at hi
 ·obtain⟨a,c0,c1,c2,hx⟩:=h3 i hi
  exact⟨g,off,a,h1,h2,c0,c1,c2,hx⟩
def OfOut (w:World) (p:Pl) (e:Ending) (w':World):Prop:=∃a:PA,e=.returned (.tuple #[.agg #[.int .i64 p.v,.slice a.fo p.fs.length a.fc,.slice a.qo p.ps.length a.qc],.bool true])∧Ext w w'∧Hid (PlAt w' p a)
set_option maxRecDepth 100000 in
set_option maxHeartbeats 2000000 in
theorem of_any (W:Wd) (A:WA) (w:World) (m:Nat) (h:WoAt w W A) (hv:∀j,j<W.pn.length→(W.pn.getD j pl0).v=(j:Int)+1) (hm:m<W.pn.length) (hl:W.pn.length≤1000):
 Calls Try.prog 19 #[wvl W A,.int .i64 ((m:Int)+1)] w fun e w'=>OfOut w (W.pn.getD m pl0) e w':=by
 obtain⟨P0,hP0⟩:∃P0,P0=W.pn.getD m pl0:=⟨_,rfl⟩
 rw[←hP0]
 have HP0:=hidp hP0
 clear hP0
 unfold wvl
 go_enter Try.func19,Try.ntmps19
 obtain⟨w5,hw5⟩:∃w5,w5=(w.alloc (.cells #[.int .i64 W.co.st,.int .i64 W.co.now.v,.slice A.ca.n.fo W.co.now.fs.length A.ca.n.fc,.slice A.ca.n.qo W.co.now.ps.length A.ca.n.qc,.int .i64 W.co.nxt.v,.slice A.ca.x.fo W.co.nxt.fs.length A.ca.x.fc,.slice A.ca.x.qo W.co.nxt.ps.length A.ca.x.qc,.int .i64 W.co.num,.slice A.ca.wo W.co.wts.length A.ca.wc,.slice A.so W.sw.length A.sc,.slice A.oo W.od.length A.oc,.slice A.bo W.bk.length A.bc,.slice A.ko W.pk.length A.kc,.slice A.lo W.pn.length A.lc] 40)).alloc (.cells #[.int .i64 0,.slice none 0 0,.slice none 0 0] 30):=⟨_,rfl⟩
 have E5:Ext w w5:=by rw[hw5];exact((Ext.refl w).alloc _).alloc _
 have HB:Hid (w5.heap[w.heap.size+1]? =some (.cells #[.int .i64 0,.slice none 0 0,.slice none 0 0] 30 (0,0))):=by
  show _=_
  rw[hw5]
  exact new_at (by simp)
 have hz:w5.heap.size=w.heap.size+1+1:=by rw[hw5];simp
 have HW:=hidp h
 have HV:=hidp hv
 have HE:=hidp E5
 clear h hv E5
 go_wp2
 rw[←hw5]
 clear hw5
 go_loopw [11] (fun iv wd=>∃j:Nat,j≤m∧iv=.int .i64 j∧Ext w5 wd) (fun iv _=>m+1 - (intOf iv).toNat)
 case atStart=>exact⟨0,Nat.zero_le _,rfl,Ext.refl _⟩
 case round=>
  obtain⟨j,hj,rfl,hEj⟩:=hrel
  have hjl:j<W.pn.length:=by omega
  have i1:(j:Int)<(W.pn.length:Int):=by omega
  have hEw:=HE.out.trans hEj
  obtain⟨g,off,a,hlo,hg0,d0,d1,d2,hpl⟩:=HW.out.pn_get hjl
  have c0:=(hEw.cells.1 _ _ hg0).trans d0
  have c1:=(hEw.cells.1 _ _ hg0).trans d1
  have c2:=(hEw.cells.1 _ _ hg0).trans d2
  have hg:g<wr.heap.size:=by have:=hEw.size;omega
  clear d0 d1 d2
  have hvj:=HV.out j hjl
  rw[hlo]
  clear hlo
  by_cases he:j=m
  ·subst he
   have HPL:=hidp hpl
   rw[hvj] at c0
   have hbl:=(Below.block hEj (w.heap.size+1) (by omega)).trans HB.out
   have z0:=box_cell hbl 0
   have z1:=box_cell hbl 1
   have z2:=box_cell hbl 2
   have hf:=box_frozen hbl
   simp only[List.getElem?_toArray,List.getElem?_cons_zero,List.getElem?_cons_succ] at z0 z1 z2
   have hbz:w.heap.size+1<wr.heap.size:=by have:=hEj.size;omega
   rw[←HP0.out] at c1 c2 HPL hvj
   have HVJ:=hidp hvj
   clear hpl hbl hvj HP0
   obtain⟨pv,pfs,pps⟩:=P0
   simp only at c1 c2
   go_wp2
   refine bodyPost_ret (v:=.tuple #[.agg #[.int .i64 ((j:Int)+1),.slice a.fo pfs.length a.fc,.slice a.qo pps.length a.qc],.bool true]) (by simp[results,Try.results19,go_sem,z0,z1,z2,hbz]) rfl ?_
   obtain rfl:pv=(j:Int)+1:=HVJ.out
   have hEf:∀v0 v1 v2 o,Ext w ((((wr.setCell ⟨w.heap.size+1,0,none⟩ v0).setCell ⟨w.heap.size+1,1,none⟩ v1).setCell ⟨w.heap.size+1,2,none⟩ v2).alloc o):=by
    intro v0 v1 v2 o
    refine Ext.alloc ?_ _
    iterate 3 refine Ext.setCell ?_ (by simp only;omega) _
    exact hEw
   exact⟨a,rfl,hEf _ _ _ _,HPL.out.ext (hEf _ _ _ _)⟩
  ·have hne:((j:Int)+1 == (m:Int)+1)=false:=by simp;omega
   rw[hvj] at c0
   clear hpl hvj
   go_wp2
   refine⟨⟨j+1,by omega,by simp[go_sem],hEj.alloc _⟩,?_⟩
   simp[intOf]
   omega
end Go.Proofs.Ytolclgbpjiokfaa.Rm
namespace Go.Proofs.Ytolclgbpjiokfaa.Rm
open Go.RowKit Go.Deep Stw Stp Tb Rul Ct
theorem Inv.vers {n:Nat} {ls:List Lk} {t:Nat} {W:Wd} (h:Inv n ls t W):∀j,j<W.pn.length→(W.pn.getD j pl0).v=(j:Int)+1:=fun j hj=>by
 obtain⟨fs,e,_⟩:=h.pls j hj
 rw[e]
theorem Inv.stamp_at {n:Nat} {ls:List Lk} {t:Nat} {W:Wd} {s:Nat} {x:Int×Int} (h:Inv n ls t W) (hs:s<n) (hx:x∈(W.sw.getD s Agt.sw0).st):∃m i:Nat,m<W.pn.length∧x=((i:Int),(m:Int)+1)∧i<(W.pn.getD m pl0).fs.length∧((W.pn.getD m pl0).fs.getD i Fw.f0).fr=(s:Int)∧((m:Int)+1=W.co.now.v∨(m:Int)+1=W.co.nxt.v):=by
 have key:∀p:Pl,(p=W.co.now∨p=W.co.nxt)→x∈stOf p s→∃m i:Nat,m<W.pn.length∧x=((i:Int),(m:Int)+1)∧i<(W.pn.getD m pl0).fs.length∧((W.pn.getD m pl0).fs.getD i Fw.f0).fr=(s:Int)∧((m:Int)+1=W.co.now.v∨(m:Int)+1=W.co.nxt.v):=fun p hp hx=>by
  unfold stOf Agt.stamps at hx
  obtain⟨f,hf,rfl⟩:=List.mem_map.1 hx
  obtain⟨k,h1,h2,h3⟩:=mem_beg.1 hf
  obtain⟨m,hm,e⟩:=h.plan_is hp
  cases m with
  | zero=>
   rw[e] at h1
   exact absurd h1 (Nat.not_lt_zero _)
  | succ m=>
   have hv:=h.vers m (by omega)
   have e2:p=W.pn.getD m pl0:=e
   refine⟨m,k,by omega,?_,?_,?_,?_⟩
   ·rw[h2,e2,hv]
   ·rw[←e2];exact h1
   ·rw[←e2];exact h3
   ·rw[←hv, ←e2]
    rcases hp with rfl | rfl
    ·exact Or.inl rfl
    ·exact Or.inr rfl
 rcases h.sw_st hs with e | e
 ·exact key _ (Or.inl rfl) (by rw[←e];exact hx)
 ·exact key _ (Or.inr rfl) (by rw[←e];exact hx)
theorem flow_fr {w:World} {ao:Option Addr} {fs:List Stf.Fl} {i:Nat} {x:Int} (h:Fw.FlowsAt w ao fs) (hi:i<fs.length) (hx:(fs.getD i Fw.f0).fr=x):∃b off,ao=some ⟨b,off,none⟩∧b<w.heap.size∧w.cell? ⟨b,off+i*4,none⟩=some (.int .i64 x):=by
 rcases h with h | ⟨b,off,h1,h2,h3⟩
 ·rw[h] at hi;simp at hi
 ·obtain⟨_,_,c0,_⟩:=h3 i hi
  refine⟨b,off,h1,h2,?_⟩
  rw[c0, ←hx,List.getD_eq_getElem?_getD,List.getElem?_eq_getElem hi]
  rfl
set_option maxRecDepth 100000 in
set_option maxHeartbeats 2000000 in
theorem roomStamps_any (N:Int) (ao:Option Addr) (len cap:Nat) (ls:List Lk) (lo:Option Addr) (lc:Nat) (ds:List Dd) (w:World) (hlen:ls.length=len) (hl:NetAt w ao ls) (hx:len≤9223372036854775807) (hd:DosAt w lo ds) (hS:DsSm ds) (hdl:ds.length≤9223372036854775807):
 Calls Try.prog 9 #[.agg #[.int .i64 N,.slice ao len cap],.slice lo ds.length lc] w fun e w'=>e=.returned (.bool true)∧Ext w w':=by
 go_enter Try.func9,Try.ntmps9
 go_wp2_with fail
 have E0:=(Ext.refl w).alloc (.cells #[.int .i64 N,.slice ao len cap] 24)
 refine(alive_any _).mono ?_
 rintro e w1 ⟨rfl,E1⟩
 have n0:w1.cell? ⟨w.heap.size,0,none⟩=some (.int .i64 N):=(E1.cells.1 _ _ (by simp)).trans (by simp)
 have n1:w1.cell? ⟨w.heap.size,1,none⟩=some (.slice ao len cap):=(E1.cells.1 _ _ (by simp)).trans (by simp)
 have E01:=E0.trans E1
 clear E0 E1
 go_wp2_with fail
 refine(Play_any N ao len cap ls lo lc ds w1 hlen (hl.ext E01) hx (hd.ext E01) hS hdl).mono ?_
 intro e w4 hP
 have HDS:=hidp hd
 have HNT:=hidp hl
 have HW:Hid ((plyF N ls ds).1=0→∃n:Nat,N=(n:Int)∧(wrong n ls).1=0∧ds.length≤200∧plyW N ls ds=run n ls ds):=fun h=>by
  obtain⟨n,h1,_,h3,h4,_,h6⟩:=plyN h
  exact⟨n,h1,h3,h4,h6⟩
 have HW0:Hid ((plyF N ls ds).1≠0→plyW N ls ds=(wd0,[])):=fun h=>by unfold plyW;rw[if_pos h]
 generalize plyF N ls ds=f at hP HW HW0
 generalize plyW N ls ds=q at hP HW HW0
 obtain⟨W,came⟩:=q
 obtain⟨A,co,cc,rfl,E4,HP⟩:=hP
 obtain⟨f0,f1⟩:=f
 unfold wvl
 simp only at HW HP HW0 ⊢
 have E04:=E01.trans E4
 clear hl hd hS n0 n1 E01 E4
 by_cases hf:f0=0
 ·obtain⟨n,rfl,hw,hl2,hq⟩:=HW.out hf
  subst hf
  go_wp2
  have HIV:Hid (Inv n ls ds.length W):=by
   have:=run_inv (n:=n) (ls:=ls) (ds:=ds) hw (by omega)
   rw[←hq] at this
   exact this
  obtain⟨w5,hw5⟩:∃w5,w5=(w4.alloc (.cells #[.int .i64 W.co.st,.int .i64 W.co.now.v,.slice A.ca.n.fo W.co.now.fs.length A.ca.n.fc,.slice A.ca.n.qo W.co.now.ps.length A.ca.n.qc,.int .i64 W.co.nxt.v,.slice A.ca.x.fo W.co.nxt.fs.length A.ca.x.fc,.slice A.ca.x.qo W.co.nxt.ps.length A.ca.x.qc,.int .i64 W.co.num,.slice A.ca.wo W.co.wts.length A.ca.wc,.slice A.so W.sw.length A.sc,.slice A.oo W.od.length A.oc,.slice A.bo W.bk.length A.bc,.slice A.ko W.pk.length A.kc,.slice A.lo W.pn.length A.lc] 40)).alloc (.cells #[.int .i64 0,.int .i64 f1] 44):=⟨_,rfl⟩
  have E45:Ext w4 w5:=by rw[hw5];exact((Ext.refl w4).alloc _).alloc _
  have HE:=hidp (E04.trans E45)
  have HP5:Hid (WoAt w5 W A∧ListAt w5 co came):=⟨HP.out.1.ext E45,HP.out.2.ext E45⟩
  have hsz5:w5.heap.size=w4.heap.size+1+1:=by rw[hw5];simp
  have HBX:Hid (w5.cell? ⟨w4.heap.size,0,none⟩=some (.int .i64 W.co.st)∧w5.cell? ⟨w4.heap.size,1,none⟩=some (.int .i64 W.co.now.v)∧w5.cell? ⟨w4.heap.size,4,none⟩=some (.int .i64 W.co.nxt.v)∧w5.cell? ⟨w4.heap.size,9,none⟩=some (.slice A.so W.sw.length A.sc)∧w5.cell? ⟨w4.heap.size,12,none⟩=some (.slice A.ko W.pk.length A.kc)∧w5.cell? ⟨w4.heap.size,13,none⟩=some (.slice A.lo W.pn.length A.lc)):=by
   show _∧_
   rw[hw5]
   refine⟨?_,?_,?_,?_,?_,?_⟩ <;> simp
  have HB14:Hid (∀V,Ext w5 V→w4.heap.size<V.heap.size∧V.cell? ⟨w4.heap.size,0,none⟩=some (.int .i64 W.co.st)∧V.cell? ⟨w4.heap.size,1,none⟩=some (.int .i64 W.co.now.v)∧V.cell? ⟨w4.heap.size,2,none⟩=some (.slice A.ca.n.fo W.co.now.fs.length A.ca.n.fc)∧V.cell? ⟨w4.heap.size,3,none⟩=some (.slice A.ca.n.qo W.co.now.ps.length A.ca.n.qc)∧V.cell? ⟨w4.heap.size,4,none⟩=some (.int .i64 W.co.nxt.v)∧V.cell? ⟨w4.heap.size,5,none⟩=some (.slice A.ca.x.fo W.co.nxt.fs.length A.ca.x.fc)∧V.cell? ⟨w4.heap.size,6,none⟩=some (.slice A.ca.x.qo W.co.nxt.ps.length A.ca.x.qc)∧V.cell? ⟨w4.heap.size,7,none⟩=some (.int .i64 W.co.num)∧V.cell? ⟨w4.heap.size,8,none⟩=some (.slice A.ca.wo W.co.wts.length A.ca.wc)∧V.cell? ⟨w4.heap.size,9,none⟩=some (.slice A.so W.sw.length A.sc)∧V.cell? ⟨w4.heap.size,10,none⟩=some (.slice A.oo W.od.length A.oc)∧V.cell? ⟨w4.heap.size,11,none⟩=some (.slice A.bo W.bk.length A.bc)∧V.cell? ⟨w4.heap.size,12,none⟩=some (.slice A.ko W.pk.length A.kc)∧V.cell? ⟨w4.heap.size,13,none⟩=some (.slice A.lo W.pn.length A.lc)):=fun V hV=>by
   have hb:V.heap[w4.heap.size]? =some (.cells #[.int .i64 W.co.st,.int .i64 W.co.now.v,.slice A.ca.n.fo W.co.now.fs.length A.ca.n.fc,.slice A.ca.n.qo W.co.now.ps.length A.ca.n.qc,.int .i64 W.co.nxt.v,.slice A.ca.x.fo W.co.nxt.fs.length A.ca.x.fc,.slice A.ca.x.qo W.co.nxt.ps.length A.ca.x.qc,.int .i64 W.co.num,.slice A.ca.wo W.co.wts.length A.ca.wc,.slice A.so W.sw.length A.sc,.slice A.oo W.od.length A.oc,.slice A.bo W.bk.length A.bc,.slice A.ko W.pk.length A.kc,.slice A.lo W.pn.length A.lc] 40 (0,0)):=(Below.block hV _ (by omega)).trans (by rw[hw5,blk_alloc_lt _ _ _ (by simp)];exact new_at rfl)
   exact⟨by have:=hV.size;omega,box_cell hb 0,box_cell hb 1,box_cell hb 2,box_cell hb 3,box_cell hb 4,box_cell hb 5,box_cell hb 6,box_cell hb 7,box_cell hb 8,box_cell hb 9,box_cell hb 10,box_cell hb 11,box_cell hb 12,box_cell hb 13⟩
  rw[←hw5]
  clear hw5 E45 HP E04 HW HW0
  have hsn:W.sw.length=n:=HIV.out.lsw
  have hn8:n≤8:=HIV.out.n8.2
  have HOF:Hid (∀V,Ext w5 V→∀m:Nat,m<W.pn.length→Calls Try.prog 19 #[.agg #[.int .i64 W.co.st,.int .i64 W.co.now.v,.slice A.ca.n.fo W.co.now.fs.length A.ca.n.fc,.slice A.ca.n.qo W.co.now.ps.length A.ca.n.qc,.int .i64 W.co.nxt.v,.slice A.ca.x.fo W.co.nxt.fs.length A.ca.x.fc,.slice A.ca.x.qo W.co.nxt.ps.length A.ca.x.qc,.int .i64 W.co.num,.slice A.ca.wo W.co.wts.length A.ca.wc,.slice A.so W.sw.length A.sc,.slice A.oo W.od.length A.oc,.slice A.bo W.bk.length A.bc,.slice A.ko W.pk.length A.kc,.slice A.lo W.pn.length A.lc],.int .i64 ((m:Int)+1)] V fun e w'=>OfOut V (W.pn.getD m pl0) e w'):=fun V hV m hm=>of_any W A V m (HP5.out.1.ext hV) HIV.out.vers hm (by have:=HIV.out.pl;omega)
  rw[hsn]
  have HSN:=hidp hsn
  clear hq hw hsn
  go_loopw [29] (fun iv wd=>∃k:Nat,k≤n∧iv=.int .i64 k∧Ext w5 wd) (fun iv _=>n - (intOf iv).toNat)
  case atStart=>exact⟨0,Nat.zero_le _,rfl,Ext.refl _⟩
  case round=>
   obtain⟨k,hk,rfl,hEk⟩:=hrel
   by_cases hlt:k<n
   ·have i1:(k:Int)<(n:Int):=by omega
    obtain⟨g,off,ro,rc,so,sc,hso,hg,c0,c1,hsw⟩:=(HP5.out.1.ext hEk).sw_get (s:=k) (by rw[HSN.out];exact hlt)
    have HST:Hid (∀x∈(W.sw.getD k Agt.sw0).st,∃m i:Nat,m<W.pn.length∧x=((i:Int),(m:Int)+1)∧i<(W.pn.getD m pl0).fs.length∧((W.pn.getD m pl0).fs.getD i Fw.f0).fr=(k:Int)∧((m:Int)+1=W.co.now.v∨(m:Int)+1=W.co.nxt.v)):=fun x hx=>HIV.out.stamp_at hlt hx
    generalize W.sw.getD k Agt.sw0=sw at c0 c1 hsw HST
    obtain⟨rs,st⟩:=sw
    simp only at c0 c1 hsw HST
    have HSS:=hidp hsw.hs
    have hstl:st.length≤1000000000000000:=by have:=hsw.sl;simp only at this;omega
    rw[hso]
    clear hsw hso
    go_wp2
    have hE6:Ext wr (wr.alloc (.cells #[.slice ro rs.length rc,.slice so st.length sc] 60)):=(Ext.refl wr).alloc _
    obtain⟨w7,hw7⟩:∃w7,w7=wr.alloc (.cells #[.slice ro rs.length rc,.slice so st.length sc] 60):=⟨_,rfl⟩
    rw[←hw7] at hE6 ⊢
    clear hw7
    have HS7:=hidp (HSS.out.ext hE6)
    have hE7:=hEk.trans hE6
    go_loopw [37] (fun jv wd=>∃j:Nat,j≤st.length∧jv=.int .i64 j∧Ext w7 wd) (fun jv _=>st.length - (intOf jv).toNat)
    case atStart=>exact⟨0,Nat.zero_le _,rfl,Ext.refl _⟩
    case round=>
     obtain⟨j,hj,rfl,hEj⟩:=hrel
     by_cases hjt:j<st.length
     ·have i2:(j:Int)<(st.length:Int):=by omega
      obtain⟨sg,soff,hsoe,hsg,hcs⟩:=(HS7.out.ext hEj).get (k:=j) hjt
      obtain⟨s0,s1⟩:=hcs j hjt
      obtain⟨m,i,hm,hx,hi,hfr,hver⟩:=HST.out _ (getD_mem (z:=Ag.s0) hjt)
      rw[hx] at s0 s1
      simp only at s0 s1
      subst hsoe
      have E5:=hE7.trans hEj
      obtain⟨hB,v0,v1,v2,v3,v4,v5,v6,v7,v8,v9,v10,v11,v12,v13⟩:=HB14.out wr E5
      have hcw:=HOF.out (wr.alloc (.cells #[.int .i64 (i:Int),.int .i64 ((m:Int)+1)] 74)) (E5.alloc _) m hm
      have HI:=hidp hi
      have HFR:=hidp hfr
      clear hcs hx hi hfr
      generalize W.pn.getD m pl0=p at hcw HI HFR
      go_wp2_with fail
      with_reducible refine Calls.mono hcw ?_
      clear hcw
      rintro e w8 ⟨a,rfl,E8,HPL⟩
      have E9:=(E5.alloc (.cells #[.int .i64 (i:Int),.int .i64 ((m:Int)+1)] 74)).trans E8
      have y0:w8.cell? ⟨wr.heap.size,0,none⟩=some (.int .i64 (i:Int)):=(E8.cells.1 _ _ (by simp)).trans (by simp)
      have y1:w8.cell? ⟨wr.heap.size,1,none⟩=some (.int .i64 ((m:Int)+1)):=(E8.cells.1 _ _ (by simp)).trans (by simp)
      have hy8:wr.heap.size<w8.heap.size:=by have:=E8.size;simp at this;omega
      obtain⟨hB8,_,x1,_,_,x4,_⟩:=HB14.out w8 E9
      obtain⟨fb,foff,hfo,hfb,hfc⟩:=flow_fr HPL.out.hf HI.out HFR.out
      have hi8:¬(p.fs.length:Int)≤(i:Int):=by have:=HI.out;omega
      have hi9:(i:Int)<(p.fs.length:Int):=by have:=HI.out;omega
      have hEn:∀o,Ext w7 (w8.alloc o):=fun o=>((hEj.alloc _).trans E8).alloc o
      rw[hfo]
      clear v0 v1 v2 v3 v4 v5 v6 v7 v8 v9 v10 v11 v12 v13 hfo E8 E9 E5 hB hg s0 s1 hsg
      by_cases hv:(m:Int)+1=W.co.now.v
      ·have b1:((m:Int)+1 != W.co.now.v)=false:=by simpa using hv
       clear hv hver
       go_wp2
       refine⟨⟨j+1,by omega,by simp[go_sem],hEn _⟩,?_⟩
       simp[intOf]
       omega
      ·have b1:((m:Int)+1 != W.co.now.v)=true:=by simpa using hv
       have b2:((m:Int)+1 != W.co.nxt.v)=false:=by simpa using hver.resolve_left hv
       clear hv hver
       go_wp2
       refine⟨⟨j+1,by omega,by simp[go_sem],hEn _⟩,?_⟩
       simp[intOf]
       omega
     ·have i2:¬(j:Int)<(st.length:Int):=by omega
      go_wp2
      refine⟨⟨k+1,by omega,by simp[go_sem],hE7.trans hEj⟩,?_⟩
      simp[intOf]
      omega
   ·have i1:¬(k:Int)<(n:Int):=by omega
    go_wp2
    go_ret
    exact⟨rfl,HE.out.trans hEk⟩
 ·have b0:(f0 != 0)=true:=by simpa using hf
  go_wp2
  go_ret
  exact⟨rfl,(E04.alloc _).alloc _⟩
end Go.Proofs.Ytolclgbpjiokfaa.Rm
namespace Go.Proofs.Ytolclgbpjiokfaa.Rm
open Go.RowKit Go.Deep Stw Stp Tb Rul Ct
theorem WoAt.pk_get {w:World} {W:Wd} {A:WA} {i:Nat} (h:WoAt w W A) (hi:i<W.pk.length):∃g off tO c,A.ko=some ⟨g,off,none⟩∧g<w.heap.size∧w.cell? ⟨g,off+i*4,none⟩=some (.int .i64 (W.pk.getD i pk0).fl)∧w.cell? ⟨g,off+i*4+1,none⟩=some (.int .i64 (W.pk.getD i pk0).v)∧w.cell? ⟨g,off+i*4+2,none⟩=some (.slice tO (W.pk.getD i pk0).tr.length c)∧w.cell? ⟨g,off+i*4+3,none⟩=some (.bool (W.pk.getD i pk0).dn)∧ListAt w tO (W.pk.getD i pk0).tr∧(W.pk.getD i pk0).tr.length≤c:=by
 rcases h.pk with h0 | ⟨g,off,h1,h2,h3⟩
 ·rw[h0] at hi;simp at hi
 ·obtain⟨tO,c,c0,c1,c2,c3,hx,hc⟩:=h3 i hi
  exact⟨g,off,tO,c,h1,h2,c0,c1,c2,c3,hx,hc⟩
theorem pth_get {w:World} {qo:Option Addr} {ps:List (List Int)} {i:Nat} (h:PthsAt w qo ps) (hi:i<ps.length):∃g off po pc,qo=some ⟨g,off,none⟩∧g<w.heap.size∧w.cell? ⟨g,off+i,none⟩=some (.slice po (ps.getD i []).length pc)∧ListAt w po (ps.getD i [])∧(ps.getD i []).length≤pc:=by
 rcases h with h | ⟨g,off,h1,h2,h3⟩
 ·rw[h] at hi;simp at hi
 ·obtain⟨v,c0,po,pc,rfl,h4,h5⟩:=h3 i hi
  exact⟨g,off,po,pc,h1,h2,c0,h4,h5⟩
theorem ListAt_take {w:World} {ao:Option Addr} {xs:List Int} {j:Nat} (h:ListAt w ao xs):ListAt w ao (xs.take j):=by
 rcases h with h | ⟨g,off,h1,h2,h3⟩
 ·left;rw[h];simp
 ·refine Or.inr ⟨g,off,h1,h2,fun k hk=>?_⟩
  rw[List.length_take] at hk
  rw[h3 k (by omega),List.getD_eq_getElem?_getD,List.getD_eq_getElem?_getD,List.getElem?_take,if_pos (by omega)]
set_option maxRecDepth 100000 in
set_option maxHeartbeats 2000000 in
theorem roomPaths_any (N:Int) (ao:Option Addr) (len cap:Nat) (ls:List Lk) (lo:Option Addr) (lc:Nat) (ds:List Dd) (w:World) (hlen:ls.length=len) (hl:NetAt w ao ls) (hx:len≤9223372036854775807) (hd:DosAt w lo ds) (hS:DsSm ds) (hdl:ds.length≤9223372036854775807):
 Calls Try.prog 3 #[.agg #[.int .i64 N,.slice ao len cap],.slice lo ds.length lc] w fun e w'=>e=.returned (.bool true)∧Ext w w':=by
 go_enter Try.func3,Try.ntmps3
 go_wp2_with fail
 have E0:=(Ext.refl w).alloc (.cells #[.int .i64 N,.slice ao len cap] 24)
 refine(alive_any _).mono ?_
 rintro e w1 ⟨rfl,E1⟩
 have n0:w1.cell? ⟨w.heap.size,0,none⟩=some (.int .i64 N):=(E1.cells.1 _ _ (by simp)).trans (by simp)
 have n1:w1.cell? ⟨w.heap.size,1,none⟩=some (.slice ao len cap):=(E1.cells.1 _ _ (by simp)).trans (by simp)
 have E01:=E0.trans E1
 clear E0 E1
 go_wp2_with fail
 refine(Play_any N ao len cap ls lo lc ds w1 hlen (hl.ext E01) hx (hd.ext E01) hS hdl).mono ?_
 intro e w4 hP
 have HDS:=hidp hd
 have HNT:=hidp hl
 have HW:Hid ((plyF N ls ds).1=0→∃n:Nat,N=(n:Int)∧(wrong n ls).1=0∧ds.length≤200∧plyW N ls ds=run n ls ds):=fun h=>by
  obtain⟨n,h1,_,h3,h4,_,h6⟩:=plyN h
  exact⟨n,h1,h3,h4,h6⟩
 have HW0:Hid ((plyF N ls ds).1≠0→plyW N ls ds=(wd0,[])):=fun h=>by unfold plyW;rw[if_pos h]
 generalize plyF N ls ds=f at hP HW HW0
 generalize plyW N ls ds=q at hP HW HW0
 obtain⟨W,came⟩:=q
 obtain⟨A,co,cc,rfl,E4,HP⟩:=hP
 obtain⟨f0,f1⟩:=f
 unfold wvl
 simp only at HW HP HW0 ⊢
 have E04:=E01.trans E4
 clear hl hd hS n0 n1 E01 E4
 by_cases hf:f0=0
 ·obtain⟨n,rfl,hw,hl2,hq⟩:=HW.out hf
  subst hf
  go_wp2
  have HIV:Hid (Inv n ls ds.length W):=by
   have:=run_inv (n:=n) (ls:=ls) (ds:=ds) hw (by omega)
   rw[←hq] at this
   exact this
  obtain⟨w5,hw5⟩:∃w5,w5=(w4.alloc (.cells #[.int .i64 W.co.st,.int .i64 W.co.now.v,.slice A.ca.n.fo W.co.now.fs.length A.ca.n.fc,.slice A.ca.n.qo W.co.now.ps.length A.ca.n.qc,.int .i64 W.co.nxt.v,.slice A.ca.x.fo W.co.nxt.fs.length A.ca.x.fc,.slice A.ca.x.qo W.co.nxt.ps.length A.ca.x.qc,.int .i64 W.co.num,.slice A.ca.wo W.co.wts.length A.ca.wc,.slice A.so W.sw.length A.sc,.slice A.oo W.od.length A.oc,.slice A.bo W.bk.length A.bc,.slice A.ko W.pk.length A.kc,.slice A.lo W.pn.length A.lc] 40)).alloc (.cells #[.int .i64 0,.int .i64 f1] 44):=⟨_,rfl⟩
  have E45:Ext w4 w5:=by rw[hw5];exact((Ext.refl w4).alloc _).alloc _
  have HE:=hidp (E04.trans E45)
  have HP5:Hid (WoAt w5 W A∧ListAt w5 co came):=⟨HP.out.1.ext E45,HP.out.2.ext E45⟩
  have hsz5:w5.heap.size=w4.heap.size+1+1:=by rw[hw5];simp
  have HBX:Hid (w5.cell? ⟨w4.heap.size,0,none⟩=some (.int .i64 W.co.st)∧w5.cell? ⟨w4.heap.size,1,none⟩=some (.int .i64 W.co.now.v)∧w5.cell? ⟨w4.heap.size,4,none⟩=some (.int .i64 W.co.nxt.v)∧w5.cell? ⟨w4.heap.size,9,none⟩=some (.slice A.so W.sw.length A.sc)∧w5.cell? ⟨w4.heap.size,12,none⟩=some (.slice A.ko W.pk.length A.kc)∧w5.cell? ⟨w4.heap.size,13,none⟩=some (.slice A.lo W.pn.length A.lc)):=by
   show _∧_
   rw[hw5]
   refine⟨?_,?_,?_,?_,?_,?_⟩ <;> simp
  have HB14:Hid (∀V,Ext w5 V→w4.heap.size<V.heap.size∧V.cell? ⟨w4.heap.size,0,none⟩=some (.int .i64 W.co.st)∧V.cell? ⟨w4.heap.size,1,none⟩=some (.int .i64 W.co.now.v)∧V.cell? ⟨w4.heap.size,2,none⟩=some (.slice A.ca.n.fo W.co.now.fs.length A.ca.n.fc)∧V.cell? ⟨w4.heap.size,3,none⟩=some (.slice A.ca.n.qo W.co.now.ps.length A.ca.n.qc)∧V.cell? ⟨w4.heap.size,4,none⟩=some (.int .i64 W.co.nxt.v)∧V.cell? ⟨w4.heap.size,5,none⟩=some (.slice A.ca.x.fo W.co.nxt.fs.length A.ca.x.fc)∧V.cell? ⟨w4.heap.size,6,none⟩=some (.slice A.ca.x.qo W.co.nxt.ps.length A.ca.x.qc)∧V.cell? ⟨w4.heap.size,7,none⟩=some (.int .i64 W.co.num)∧V.cell? ⟨w4.heap.size,8,none⟩=some (.slice A.ca.wo W.co.wts.length A.ca.wc)∧V.cell? ⟨w4.heap.size,9,none⟩=some (.slice A.so W.sw.length A.sc)∧V.cell? ⟨w4.heap.size,10,none⟩=some (.slice A.oo W.od.length A.oc)∧V.cell? ⟨w4.heap.size,11,none⟩=some (.slice A.bo W.bk.length A.bc)∧V.cell? ⟨w4.heap.size,12,none⟩=some (.slice A.ko W.pk.length A.kc)∧V.cell? ⟨w4.heap.size,13,none⟩=some (.slice A.lo W.pn.length A.lc)):=fun V hV=>by
   have hb:V.heap[w4.heap.size]? =some (.cells #[.int .i64 W.co.st,.int .i64 W.co.now.v,.slice A.ca.n.fo W.co.now.fs.length A.ca.n.fc,.slice A.ca.n.qo W.co.now.ps.length A.ca.n.qc,.int .i64 W.co.nxt.v,.slice A.ca.x.fo W.co.nxt.fs.length A.ca.x.fc,.slice A.ca.x.qo W.co.nxt.ps.length A.ca.x.qc,.int .i64 W.co.num,.slice A.ca.wo W.co.wts.length A.ca.wc,.slice A.so W.sw.length A.sc,.slice A.oo W.od.length A.oc,.slice A.bo W.bk.length A.bc,.slice A.ko W.pk.length A.kc,.slice A.lo W.pn.length A.lc] 40 (0,0)):=(Below.block hV _ (by omega)).trans (by rw[hw5,blk_alloc_lt _ _ _ (by simp)];exact new_at rfl)
   exact⟨by have:=hV.size;omega,box_cell hb 0,box_cell hb 1,box_cell hb 2,box_cell hb 3,box_cell hb 4,box_cell hb 5,box_cell hb 6,box_cell hb 7,box_cell hb 8,box_cell hb 9,box_cell hb 10,box_cell hb 11,box_cell hb 12,box_cell hb 13⟩
  rw[←hw5]
  clear hw5 E45 HP E04 HW HW0
  have HOF:Hid (∀V,Ext w5 V→∀m:Nat,m<W.pn.length→Calls Try.prog 19 #[.agg #[.int .i64 W.co.st,.int .i64 W.co.now.v,.slice A.ca.n.fo W.co.now.fs.length A.ca.n.fc,.slice A.ca.n.qo W.co.now.ps.length A.ca.n.qc,.int .i64 W.co.nxt.v,.slice A.ca.x.fo W.co.nxt.fs.length A.ca.x.fc,.slice A.ca.x.qo W.co.nxt.ps.length A.ca.x.qc,.int .i64 W.co.num,.slice A.ca.wo W.co.wts.length A.ca.wc,.slice A.so W.sw.length A.sc,.slice A.oo W.od.length A.oc,.slice A.bo W.bk.length A.bc,.slice A.ko W.pk.length A.kc,.slice A.lo W.pn.length A.lc],.int .i64 ((m:Int)+1)] V fun e w'=>OfOut V (W.pn.getD m pl0) e w'):=fun V hV m hm=>of_any W A V m (HP5.out.1.ext hV) HIV.out.vers hm (by have:=HIV.out.pl;omega)
  have hkl:W.pk.length≤40:=HIV.out.pkl
  clear hq hw
  go_loopw [31] (fun iv wd=>∃k:Nat,k≤W.pk.length∧iv=.int .i64 k∧Ext w5 wd) (fun iv _=>W.pk.length - (intOf iv).toNat)
  case atStart=>exact⟨0,Nat.zero_le _,rfl,Ext.refl _⟩
  case round=>
   obtain⟨k,hk,rfl,hEk⟩:=hrel
   by_cases hlt:k<W.pk.length
   ·have i1:(k:Int)<(W.pk.length:Int):=by omega
    obtain⟨g,off,tO,tc,hko,hg,c0,c1,c2,c3,hT,htc⟩:=(HP5.out.1.ext hEk).pk_get hlt
    have hok:=HIV.out.pks _ (getD_mem (z:=pk0) hlt)
    generalize W.pk.getD k pk0=p at c0 c1 c2 c3 hT htc hok
    obtain⟨fl,ve,tr,dn⟩:=p
    simp only at c0 c1 c2 c3 hT htc
    rcases hok with⟨k1,k2,x,k3,_⟩ | ⟨m,i,jj,k1,k2,k3,k4,k5,k6,k7⟩
    ·simp only at k1 k2 k3
     subst k1 k2 k3
     clear hT
     rw[hko]
     clear hko
     go_wp2
     refine⟨⟨k+1,by omega,by simp[go_sem],hEk.alloc _⟩,?_⟩
     simp[intOf]
     omega
    ·simp only at k2 k3 k7
     subst k2 k3
     have hcw:=fun V hV=>HOF.out V hV m k1
     have h8:=(HIV.out.pls m k1).head.2.2 i
     generalize W.pn.getD m pl0=P at hcw k4 k6 k7 h8
     have b0:((m:Int)+1 == 0)=false:=by simp;omega
     have HT:=hidp hT
     have HK:=hidp (And.intro k4 (And.intro k6 (And.intro k7 h8)))
     have HCW:Hid (∀V,Ext w5 V→Calls Try.prog 19 #[.agg #[.int .i64 W.co.st,.int .i64 W.co.now.v,.slice A.ca.n.fo W.co.now.fs.length A.ca.n.fc,.slice A.ca.n.qo W.co.now.ps.length A.ca.n.qc,.int .i64 W.co.nxt.v,.slice A.ca.x.fo W.co.nxt.fs.length A.ca.x.fc,.slice A.ca.x.qo W.co.nxt.ps.length A.ca.x.qc,.int .i64 W.co.num,.slice A.ca.wo W.co.wts.length A.ca.wc,.slice A.so W.sw.length A.sc,.slice A.oo W.od.length A.oc,.slice A.bo W.bk.length A.bc,.slice A.ko W.pk.length A.kc,.slice A.lo W.pn.length A.lc],.int .i64 ((m:Int)+1)] V fun e w'=>OfOut V P e w'):=hcw
     obtain⟨hB,v0,v1,v2,v3,v4,v5,v6,v7,v8,v9,v10,v11,v12,v13⟩:=HB14.out wr hEk
     clear hcw hT k1 k4 k5 k6 k7 h8
     rw[hko]
     clear hko
     go_wp2_with fail
     with_reducible refine Calls.mono (HCW.out _ (hEk.alloc _)) ?_
     rintro e w8 ⟨a,rfl,E8,HPL⟩
     have y0:w8.cell? ⟨wr.heap.size,0,none⟩=some (.int .i64 (i:Int)):=(E8.cells.1 _ _ (by simp)).trans (by simp)
     have y2:w8.cell? ⟨wr.heap.size,2,none⟩=some (.slice tO tr.length tc):=(E8.cells.1 _ _ (by simp)).trans (by simp)
     have hy8:wr.heap.size<w8.heap.size:=by have:=E8.size;simp at this;omega
     obtain⟨qg,qoff,po,pc,hqo,hqg,hqc,hqL,hqp⟩:=pth_get HPL.out.hq HK.out.1
     have hEn:∀o,Ext w5 (w8.alloc o):=fun o=>((hEk.alloc _).trans E8).alloc o
     obtain⟨pa,hpa⟩:∃pa,pa=P.ps.getD i []:=⟨_,rfl⟩
     rw[←hpa] at hqc hqL hqp
     have hi9:(i:Int)<(P.ps.length:Int):=by have:=HK.out.1;omega
     have hm8:decide (P.ps.length≤i)=false:=decide_eq_false (by omega)
     have hm9:¬P.ps.length≤i:=by omega
     have hi8:decide ((P.ps.length:Int)≤(i:Int))=false:=decide_eq_false (by omega)
     have htl:tr.length=jj∧tr=pa.take tr.length∧jj≤pa.length:=by
      have h1:=HK.out.2.1
      have h2:=HK.out.2.2.1
      rw[←hpa] at h1 h2
      have h3:tr.length=jj:=by rw[h2,List.length_take];omega
      exact⟨h3,by rw[h3];exact h2,h1⟩
     have hp8:pa.length≤8:=by rw[hpa];exact HK.out.2.2.2
     have hm7:decide (pa.length<tr.length)=false:=decide_eq_false (by omega)
     have hm6:¬pa.length<tr.length:=by omega
     have hi7:decide ((pa.length:Int)<(tr.length:Int))=false:=decide_eq_false (by omega)
     have hi6:(tr.length:Int)≤(pc:Int):=by omega
     have HIN:Hid (∀V,Ext w8 V→Calls Try.prog 20 #[.slice tO tr.length tc,.slice po tr.length pc] V fun e w'=>e=.returned (.bool true)∧Ext V w'):=fun V hV=>by
      have h1:=Ints_any tO po tr.length tr.length tc pc tr (pa.take tr.length) V rfl (by rw[List.length_take];omega) (by omega) ((HT.out.ext ((Ext.refl wr).alloc _ |>.trans E8)).ext hV) ((ListAt_take hqL).ext hV)
      rw[decide_eq_true htl.2.1] at h1
      exact h1
     rw[hqo]
     clear htl hpa hqL HT hqo v0 v1 v2 v3 v4 v5 v6 v7 v8 v9 v10 v11 v12 v13 c0 c1 c2 c3 HCW hB hg HPL
     go_upto_region 13 with fail
     obtain⟨w9,hw9⟩:∃w9,w9=w8.alloc (.cells #[.int .i64 P.v,.slice a.fo P.fs.length a.fc,.slice (some ⟨qg,qoff,none⟩) P.ps.length a.qc] 30):=⟨_,rfl⟩
     have E9:Ext w8 w9:=by rw[hw9];exact(Ext.refl w8).alloc _
     have HEn:Hid (Ext w5 w9):=by rw[hw9];exact hEn _
     have hp2:w9.cell? ⟨w8.heap.size,2,none⟩=some (.slice (some ⟨qg,qoff,none⟩) P.ps.length a.qc):=by rw[hw9];simp
     have hz9:w9.heap.size=w8.heap.size+1:=by rw[hw9];simp
     have HS:Hid (∀V,Ext w9 V→V.cell? ⟨wr.heap.size,0,none⟩=some (.int .i64 (i:Int))∧V.cell? ⟨wr.heap.size,2,none⟩=some (.slice tO tr.length tc)∧V.cell? ⟨w8.heap.size,2,none⟩=some (.slice (some ⟨qg,qoff,none⟩) P.ps.length a.qc)∧V.cell? ⟨qg,qoff+i,none⟩=some (.slice po pa.length pc)):=fun V hV=>
      ⟨((E9.trans hV).cells.1 _ _ hy8).trans y0,((E9.trans hV).cells.1 _ _ hy8).trans y2,(hV.cells.1 _ _ (by omega)).trans hp2,((E9.trans hV).cells.1 _ _ hqg).trans hqc⟩
     rw[←hw9]
     clear hw9 y0 y2 hp2 hqc hEn E8
     have hd:Ext w9 w9.drew:=(Ext.refl w9).drew
     go_region_held3 (fun V=>V.cell? ⟨wr.heap.size,0,none⟩=some (.int .i64 (i:Int))∧V.cell? ⟨wr.heap.size,2,none⟩=some (.slice tO tr.length tc)∧V.cell? ⟨w8.heap.size,2,none⟩=some (.slice (some ⟨qg,qoff,none⟩) P.ps.length a.qc)∧V.cell? ⟨qg,qoff+i,none⟩=some (.slice po pa.length pc))
      (first | (with_reducible exact HS.out _ hd) | (with_reducible exact HS.out _ mk1) | fail)
      (first
      | (go_at_call 20
         with_reducible refine(HIN.out _ (E9.trans hd)).mono ?_
         rintro e w3 ⟨rfl,E3⟩
         have mk1:=hd.trans E3))
     have HE3:=hidp (HEn.out.trans mk1)
     clear mk1 E3 hd
     go_wp2
     refine⟨⟨k+1,by omega,by simp[go_sem],HE3.out⟩,?_⟩
     simp[intOf]
     omega
   ·have i1:¬(k:Int)<(W.pk.length:Int):=by omega
    go_wp2
    go_ret
    exact⟨rfl,HE.out.trans hEk⟩
 ·have hq:=HW0.out hf
  have b0:(f0 != 0)=true:=by simpa using hf
  obtain⟨rfl,rfl⟩:W=wd0∧came=[]:=by cases hq;exact⟨rfl,rfl⟩
  go_wp2
  go_ret
  exact⟨by simp[wd0],(E04.alloc _).alloc _⟩
end Go.Proofs.Ytolclgbpjiokfaa.Rm
