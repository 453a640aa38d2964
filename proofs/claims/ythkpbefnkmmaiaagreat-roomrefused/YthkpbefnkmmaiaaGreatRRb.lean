/- SameWorld of two worlds that are the same. -/
import Derived.Test.YthkpbefnkmmaiaaGreatU23
import Derived.Test.YthkpbefnkmmaiaaGreatRRa
namespace Go.Proofs.YthkpbefnkmmaiaaGreat.Rm
open Go.RowKit Go.Deep Go.Maps Go.Sort Stw Stp Tb Rul Ct
theorem WoAt.swG {w:World} {W:Wd} {A:WA} {s:Nat} (h:WoAt w W A) (hs:s<W.sw.length):∃g off ro rc so sc,A.so=some ⟨g,off,none⟩∧g<w.heap.size∧w.cell? ⟨g,off+s*2,none⟩=some (.slice ro (W.sw.getD s Agt.sw0).rs.length rc)∧w.cell? ⟨g,off+s*2+1,none⟩=some (.slice so (W.sw.getD s Agt.sw0).st.length sc)∧Ag.SwAt w (W.sw.getD s Agt.sw0) ro so rc:=by
 rcases h.sw with h0 | ⟨g,off,h1,h2,h3⟩
 ·rw[h0] at hs;simp at hs
 ·obtain⟨ro,rc,so,sc,k⟩:=h3 s hs
  exact⟨g,off,ro,rc,so,sc,h1,h2,k⟩
theorem WoAt.odG {w:World} {W:Wd} {A:WA} {s:Nat} (h:WoAt w W A) (hs:s<W.od.length):∃g off ao c,A.oo=some ⟨g,off,none⟩∧g<w.heap.size∧w.cell? ⟨g,off+s,none⟩=some (.slice ao (W.od.getD s []).length c)∧OsAt w (W.od.getD s []) (.slice ao (W.od.getD s []).length c):=by
 rcases h.od with h0 | ⟨g,off,h1,h2,h3⟩
 ·rw[h0] at hs;simp at hs
 ·obtain⟨v,k1,k2⟩:=h3 s hs
  have k3:=k2
  obtain⟨ao,c,rfl,_⟩:=k3
  exact⟨g,off,ao,c,h1,h2,k1,k2⟩
theorem WoAt.bkG {w:World} {W:Wd} {A:WA} {s:Nat} (h:WoAt w W A) (hs:s<W.bk.length):∃g off ao c,A.bo=some ⟨g,off,none⟩∧g<w.heap.size∧w.cell? ⟨g,off+s,none⟩=some (.slice ao (W.bk.getD s []).length c)∧ListAt w ao (W.bk.getD s []):=by
 rcases h.bk with h0 | ⟨g,off,h1,h2,h3⟩
 ·rw[h0] at hs;simp at hs
 ·obtain⟨ao,c,k1,k2⟩:=h3 s hs
  exact⟨g,off,ao,c,h1,h2,k1,k2⟩
theorem WoAt.pkG {w:World} {W:Wd} {A:WA} {s:Nat} (h:WoAt w W A) (hs:s<W.pk.length):∃g off ao c,A.ko=some ⟨g,off,none⟩∧g<w.heap.size∧w.cell? ⟨g,off+s*4,none⟩=some (.int .i64 (W.pk.getD s pk0).fl)∧w.cell? ⟨g,off+s*4+1,none⟩=some (.int .i64 (W.pk.getD s pk0).v)∧w.cell? ⟨g,off+s*4+2,none⟩=some (.slice ao (W.pk.getD s pk0).tr.length c)∧w.cell? ⟨g,off+s*4+3,none⟩=some (.bool (W.pk.getD s pk0).dn)∧ListAt w ao (W.pk.getD s pk0).tr:=by
 rcases h.pk with h0 | ⟨g,off,h1,h2,h3⟩
 ·rw[h0] at hs;simp at hs
 ·obtain⟨ao,c,k0,k1,k2,k3,k4,_⟩:=h3 s hs
  exact⟨g,off,ao,c,h1,h2,k0,k1,k2,k3,k4⟩
theorem WoAt.pnG {w:World} {W:Wd} {A:WA} {s:Nat} (h:WoAt w W A) (hs:s<W.pn.length):∃g off,∃a:PA,A.lo=some ⟨g,off,none⟩∧g<w.heap.size∧w.cell? ⟨g,off+s*3,none⟩=some (.int .i64 (W.pn.getD s pl0).v)∧w.cell? ⟨g,off+s*3+1,none⟩=some (.slice a.fo (W.pn.getD s pl0).fs.length a.fc)∧w.cell? ⟨g,off+s*3+2,none⟩=some (.slice a.qo (W.pn.getD s pl0).ps.length a.qc)∧PlAt w (W.pn.getD s pl0) a:=by
 rcases h.pn with h0 | ⟨g,off,h1,h2,h3⟩
 ·rw[h0] at hs;simp at hs
 ·obtain⟨a,k⟩:=h3 s hs
  exact⟨g,off,a,h1,h2,k⟩
theorem OsAt.getG {w:World} {os:List Wir.Od} {ao:Option Addr} {c i:Nat} (h:OsAt w os (.slice ao os.length c)) (hi:i<os.length):∃g off ro rc fo fc,ao=some ⟨g,off,none⟩∧g<w.heap.size∧w.cell? ⟨g,off+i*5,none⟩=some (.int .i64 (os.getD i Wir.od0).k)∧w.cell? ⟨g,off+i*5+1,none⟩=some (.int .i64 (os.getD i Wir.od0).n)∧w.cell? ⟨g,off+i*5+2,none⟩=some (.int .i64 (os.getD i Wir.od0).v)∧w.cell? ⟨g,off+i*5+3,none⟩=some (.slice ro (os.getD i Wir.od0).rs.length rc)∧w.cell? ⟨g,off+i*5+4,none⟩=some (.slice fo (os.getD i Wir.od0).fs.length fc)∧RsAt w ro (os.getD i Wir.od0).rs∧ListAt w fo (os.getD i Wir.od0).fs:=by
 obtain⟨ao',c',e,h2⟩:=h
 cases e
 rcases h2 with h0 | ⟨g,off,h1,h2,h3⟩
 ·rw[h0] at hi;simp at hi
 ·obtain⟨ro,rc,fo,fc,k⟩:=h3 i hi
  exact⟨g,off,ro,rc,fo,fc,h1,h2,k⟩
def wbx (W:Wd) (A:WA):Array Value:=#[.int .i64 W.co.st,.int .i64 W.co.now.v,.slice A.ca.n.fo W.co.now.fs.length A.ca.n.fc,.slice A.ca.n.qo W.co.now.ps.length A.ca.n.qc,.int .i64 W.co.nxt.v,.slice A.ca.x.fo W.co.nxt.fs.length A.ca.x.fc,.slice A.ca.x.qo W.co.nxt.ps.length A.ca.x.qc,.int .i64 W.co.num,.slice A.ca.wo W.co.wts.length A.ca.wc,.slice A.so W.sw.length A.sc,.slice A.oo W.od.length A.oc,.slice A.bo W.bk.length A.bc,.slice A.ko W.pk.length A.kc,.slice A.lo W.pn.length A.lc]
theorem SamePl_same (p:Pl) (a b:PA) (w:World) (ha:PlAt w p a) (hb:PlAt w p b) (hok:PlOk p):
 Calls Tryz.prog 18 #[.agg #[.int .i64 p.v,.slice a.fo p.fs.length a.fc,.slice a.qo p.ps.length a.qc],.agg #[.int .i64 p.v,.slice b.fo p.fs.length b.fc,.slice b.qo p.ps.length b.qc]] w fun e w'=>e=.returned (.bool true)∧Ext w w':=
 SamePlan_same p.v a.fo b.fo a.qo b.qo p.fs.length p.ps.length a.fc b.fc a.qc b.qc p.fs p.ps w rfl (by have:=hok.fl;omega) ha.hf hb.hf (fun k hk=>by have:=hok.sm _ (List.getElem_mem hk);omega) rfl (by have:=hok.ql;omega) ha.hq hb.hq (fun i _=>by have h1:=getD_sum (ps:=p.ps) (i:=i);have:=hok.tt;omega)
theorem Ints_same (xs:List Int) (ao bo:Option Addr) (ac bc:Nat) (w:World) (ha:ListAt w ao xs) (hb:ListAt w bo xs) (hl:xs.length≤1000):
 Calls Tryz.prog 16 #[.slice ao xs.length ac,.slice bo xs.length bc] w fun e w'=>e=.returned (.bool true)∧Ext w w':=by
 have:=Ints_any ao bo xs.length xs.length ac bc xs xs w rfl rfl (by omega) ha hb
 rwa [decide_eq_true rfl] at this
set_option maxRecDepth 100000 in
set_option maxHeartbeats 4000000 in
theorem SameWorld_same (n:Nat) (W:Wd) (A B:WA) (w:World) (hA:WoAt w W A) (hB:WoAt w W B) (hS:WdSm n W):
 Calls Tryz.prog 7 #[wvl W A,wvl W B] w fun e w'=>e=.returned (.bool true)∧Ext w w':=by
 have HA:=hidp hA
 have HB:=hidp hB
 have HS:=hidp hS
 clear hA hB hS
 unfold wvl
 go_enter Tryz.func7,Tryz.ntmps7
 go_upto_region 1 with fail
 obtain⟨Z,hZ⟩:∃Z,Z=(w.alloc (.cells #[.int .i64 W.co.st,.int .i64 W.co.now.v,.slice A.ca.n.fo W.co.now.fs.length A.ca.n.fc,.slice A.ca.n.qo W.co.now.ps.length A.ca.n.qc,.int .i64 W.co.nxt.v,.slice A.ca.x.fo W.co.nxt.fs.length A.ca.x.fc,.slice A.ca.x.qo W.co.nxt.ps.length A.ca.x.qc,.int .i64 W.co.num,.slice A.ca.wo W.co.wts.length A.ca.wc,.slice A.so W.sw.length A.sc,.slice A.oo W.od.length A.oc,.slice A.bo W.bk.length A.bc,.slice A.ko W.pk.length A.kc,.slice A.lo W.pn.length A.lc] 39)).alloc (.cells #[.int .i64 W.co.st,.int .i64 W.co.now.v,.slice B.ca.n.fo W.co.now.fs.length B.ca.n.fc,.slice B.ca.n.qo W.co.now.ps.length B.ca.n.qc,.int .i64 W.co.nxt.v,.slice B.ca.x.fo W.co.nxt.fs.length B.ca.x.fc,.slice B.ca.x.qo W.co.nxt.ps.length B.ca.x.qc,.int .i64 W.co.num,.slice B.ca.wo W.co.wts.length B.ca.wc,.slice B.so W.sw.length B.sc,.slice B.oo W.od.length B.oc,.slice B.bo W.bk.length B.bc,.slice B.ko W.pk.length B.kc,.slice B.lo W.pn.length B.lc] 39):=⟨_,rfl⟩
 have hE0:Ext w Z:=by rw[hZ];exact((Ext.refl w).alloc _).alloc _
 have hzs:Z.heap.size=w.heap.size+1+1:=by rw[hZ];simp
 have HBK:Hid (∀V,Ext Z V→V.heap[w.heap.size]? =some (.cells #[.int .i64 W.co.st,.int .i64 W.co.now.v,.slice A.ca.n.fo W.co.now.fs.length A.ca.n.fc,.slice A.ca.n.qo W.co.now.ps.length A.ca.n.qc,.int .i64 W.co.nxt.v,.slice A.ca.x.fo W.co.nxt.fs.length A.ca.x.fc,.slice A.ca.x.qo W.co.nxt.ps.length A.ca.x.qc,.int .i64 W.co.num,.slice A.ca.wo W.co.wts.length A.ca.wc,.slice A.so W.sw.length A.sc,.slice A.oo W.od.length A.oc,.slice A.bo W.bk.length A.bc,.slice A.ko W.pk.length A.kc,.slice A.lo W.pn.length A.lc] 39 (0,0))∧V.heap[w.heap.size+1]? =some (.cells #[.int .i64 W.co.st,.int .i64 W.co.now.v,.slice B.ca.n.fo W.co.now.fs.length B.ca.n.fc,.slice B.ca.n.qo W.co.now.ps.length B.ca.n.qc,.int .i64 W.co.nxt.v,.slice B.ca.x.fo W.co.nxt.fs.length B.ca.x.fc,.slice B.ca.x.qo W.co.nxt.ps.length B.ca.x.qc,.int .i64 W.co.num,.slice B.ca.wo W.co.wts.length B.ca.wc,.slice B.so W.sw.length B.sc,.slice B.oo W.od.length B.oc,.slice B.bo W.bk.length B.bc,.slice B.ko W.pk.length B.kc,.slice B.lo W.pn.length B.lc] 39 (0,0))∧w.heap.size<V.heap.size∧w.heap.size+1<V.heap.size):=fun V hV=>
  ⟨(Below.block hV _ (by omega)).trans (by rw[hZ,blk_alloc_lt _ _ _ (by simp)];exact new_at rfl),(Below.block hV _ (by omega)).trans (by rw[hZ];exact new_at (by simp)),by have:=hV.size;omega,by have:=hV.size;omega⟩
 rw[←hZ]
 clear hZ hzs
 have HSC:=hidp (SameControl_same W.co A.ca B.ca Z (HA.out.co.ext hE0) (HB.out.co.ext hE0) HS.out.co)
 unfold cvl at HSC
 have HA2:Hid (∀V,Ext Z V→WoAt V W A):=fun V hV=>HA.out.ext (hE0.trans hV)
 have HB2:Hid (∀V,Ext Z V→WoAt V W B):=fun V hV=>HB.out.ext (hE0.trans hV)
 have HE0:=hidp hE0
 clear HA HB hE0
 obtain⟨bA,bB,lA,lB⟩:=HBK.out Z (Ext.refl Z)
 have p0:=box_cell bA 0
 have q0:=box_cell bB 0
 have p1:=box_cell bA 1
 have q1:=box_cell bB 1
 have p2:=box_cell bA 2
 have q2:=box_cell bB 2
 have p3:=box_cell bA 3
 have q3:=box_cell bB 3
 have p4:=box_cell bA 4
 have q4:=box_cell bB 4
 have p5:=box_cell bA 5
 have q5:=box_cell bB 5
 have p6:=box_cell bA 6
 have q6:=box_cell bB 6
 have p7:=box_cell bA 7
 have q7:=box_cell bB 7
 have p8:=box_cell bA 8
 have q8:=box_cell bB 8
 simp only[List.getElem?_toArray,List.getElem?_cons_zero,List.getElem?_cons_succ] at p0 q0 p1 q1 p2 q2 p3 q3 p4 q4 p5 q5 p6 q6 p7 q7 p8 q8
 clear bA bB
 go_wp2_with fail
 with_reducible refine Calls.mono HSC.out ?_
 rintro e w1 ⟨rfl,E1⟩
 clear p0 q0 p1 q1 p2 q2 p3 q3 p4 q4 p5 q5 p6 q6 p7 q7 p8 q8 HSC lA lB
 obtain⟨bA,bB,lA,lB⟩:=HBK.out w1 E1
 have p9:=box_cell bA 9
 have q9:=box_cell bB 9
 have p10:=box_cell bA 10
 have q10:=box_cell bB 10
 have p11:=box_cell bA 11
 have q11:=box_cell bB 11
 have p12:=box_cell bA 12
 have q12:=box_cell bB 12
 have p13:=box_cell bA 13
 have q13:=box_cell bB 13
 simp only[List.getElem?_toArray,List.getElem?_cons_zero,List.getElem?_cons_succ] at p9 q9 p10 q10 p11 q11 p12 q12 p13 q13
 clear bA bB
 go_wp2
 go_loopw [65] (fun iv wr=>∃k:Nat,k≤W.sw.length∧iv=.int .i64 k∧Ext Z wr) (fun iv _=>W.sw.length - (intOf iv).toNat)
 case atStart=>exact⟨0,Nat.zero_le _,rfl,E1⟩
 case round=>as_aux_lemma=>
  obtain⟨k,hk,rfl,hE⟩:=hrel
  clear p9 q9 p10 q10 p11 q11 p12 q12 p13 q13 lA lB
  obtain⟨bA,bB,lA,lB⟩:=HBK.out wr hE
  by_cases hlt:k<W.sw.length
  ·have i1:(k:Int)<(W.sw.length:Int):=by omega
   have e1:=HS.out.lsw
   have e2:=HS.out.lod
   have e3:=HS.out.lbk
   have hn8:=HS.out.n8
   have i2:(k:Int)<(W.od.length:Int):=by omega
   have i3:(k:Int)<(W.bk.length:Int):=by omega
   obtain⟨g1,o1,ro,rc,so,sc,hso,hg1,a0,a1,hx⟩:=(HA2.out wr hE).swG hlt
   obtain⟨g2,o2,ro',rc',so',sc',hso',hg2,b0,b1,hx'⟩:=(HB2.out wr hE).swG hlt
   obtain⟨g3,o3,oo,oc,hoo,hg3,a2,hos⟩:=(HA2.out wr hE).odG (s:=k) (by omega)
   obtain⟨g4,o4,oo',oc',hoo',hg4,b2,hos'⟩:=(HB2.out wr hE).odG (s:=k) (by omega)
   obtain⟨g5,o5,bo,bc,hbo,hg5,a3,hbl⟩:=(HA2.out wr hE).bkG (s:=k) (by omega)
   obtain⟨g6,o6,bo',bc',hbo',hg6,b3,hbl'⟩:=(HB2.out wr hE).bkG (s:=k) (by omega)
   have hod:=HS.out.od k (by omega)
   have hbk1:=HS.out.bk k (by omega)
   have hs8:W.sw.length≤8:=by omega
   clear e1 e2 e3 hn8
   generalize W.sw.getD k Agt.sw0=x at a0 a1 b0 b1 hx hx'
   generalize W.od.getD k []=os at a2 b2 hos hos' hod
   generalize W.bk.getD k []=bs at a3 b3 hbl hbl' hbk1
   have HQ:Hid (∀d os,Calls Tryz.prog 15 #[.agg #[.slice ro x.rs.length rc,.slice so x.st.length sc],.agg #[.slice ro' x.rs.length rc',.slice so' x.st.length sc']] (grow (redrawn wr d) os) fun e w''=>e=.returned (.bool true)∧∃p:Regrown,w''=grow (redrawn wr p.d) p.os):=fun d os=>
    Calls.regrown_of (Ag.SameSwitch_same x ro so ro' so' rc sc rc' sc' _ (hx.ext (below_regrown wr d os)) (hx'.ext (below_regrown wr d os)))
   have HQ2:Hid (∀d os,Calls Tryz.prog 16 #[.slice bo bs.length bc,.slice bo' bs.length bc'] (grow (redrawn wr d) os) fun e w''=>e=.returned (.bool true)∧∃p:Regrown,w''=grow (redrawn wr p.d) p.os):=fun d os=>
    Calls.regrown_of (Ints_same bs bo bo' bc bc' _ (hbl.ext (below_regrown wr d os)) (hbl'.ext (below_regrown wr d os)) (by omega))
   have HOS:Hid (∀V,Ext wr V→OsAt V os (.slice oo os.length oc)∧OsAt V os (.slice oo' os.length oc')):=fun V hV=>⟨hos.ext hV,hos'.ext hV⟩
   have HOD:=hidp hod
   have hol:os.length≤1:=hod.1
   clear hx hx' hbl hbl' hos hos' hod
   have p9:=box_cell bA 9
   have q9:=box_cell bB 9
   have p10:=box_cell bA 10
   have q10:=box_cell bB 10
   have p11:=box_cell bA 11
   have q11:=box_cell bB 11
   simp only[List.getElem?_toArray,List.getElem?_cons_zero,List.getElem?_cons_succ] at p9 q9 p10 q10 p11 q11
   clear bA bB
   rw[hso] at p9
   rw[hso'] at q9
   rw[hoo] at p10
   rw[hoo'] at q10
   rw[hbo] at p11
   rw[hbo'] at q11
   clear hbk1
   have HKO:Hid (∀V,Ext wr V→V.cell? ⟨w.heap.size,10,none⟩=some (.slice (some ⟨g3,o3,none⟩) W.od.length A.oc)∧V.cell? ⟨w.heap.size+1,10,none⟩=some (.slice (some ⟨g4,o4,none⟩) W.od.length B.oc)∧V.cell? ⟨g3,o3+k,none⟩=some (.slice oo os.length oc)∧V.cell? ⟨g4,o4+k,none⟩=some (.slice oo' os.length oc')∧w.heap.size<V.heap.size∧w.heap.size+1<V.heap.size∧g3<V.heap.size∧g4<V.heap.size):=fun V hV=>by
    have:=hV.size
    exact⟨(hV.cells.1 _ _ lA).trans p10,(hV.cells.1 _ _ lB).trans q10,(hV.cells.1 _ _ hg3).trans a2,(hV.cells.1 _ _ hg4).trans b2,by omega,by omega,by omega,by omega⟩
   clear hso hso' hoo hoo' hbo hbo'
   have r0:=Fw.cell_regrown a0
   have r1:=Fw.cell_regrown a1
   have r2:=Fw.cell_regrown a2
   have r3:=Fw.cell_regrown a3
   have t0:=Fw.cell_regrown b0
   have t1:=Fw.cell_regrown b1
   have t2:=Fw.cell_regrown b2
   have t3:=Fw.cell_regrown b3
   have u9:=Fw.cell_regrown p9
   have u10:=Fw.cell_regrown p10
   have u11:=Fw.cell_regrown p11
   have v9:=Fw.cell_regrown q9
   have v10:=Fw.cell_regrown q10
   have v11:=Fw.cell_regrown q11
   clear a0 a1 a2 a3 b0 b1 b2 b3 p9 p10 p11 q9 q10 q11
   go_wp2
   refine wp_region_quiet_below (by kernel_rfl) (by kernel_rfl) ?_
   repeat(go_big_quiet_step (first | (with_reducible exact HQ.out _ _) | (with_reducible exact HQ2.out _ _)))
   refine wpQuiet_nil ?_
   intro _ hw'
   obtain⟨⟨dq,oq⟩,hw''⟩:=hw'
   subst hw''
   clear r0 r1 r2 r3 t0 t1 t2 t3 u9 u10 u11 v9 v10 v11 HQ HQ2
   have Eq0:Ext wr (grow (redrawn wr dq) oq):=below_regrown wr dq oq
   generalize grow (redrawn wr dq) oq=wq at Eq0
   obtain⟨y0,y1,y2,y3,y4,y5,y6,y7⟩:=HKO.out wq Eq0
   go_wp2
   go_loopw [115] (fun jv wd=>∃j:Nat,j≤os.length∧jv=.int .i64 j∧Ext wr wd) (fun jv _=>os.length - (intOf jv).toNat)
   case atStart=>exact⟨0,Nat.zero_le _,rfl,Eq0⟩
   case round=>as_aux_lemma=>
    obtain⟨j,hj,rfl,hEj⟩:=hrel
    clear y0 y1 y2 y3 y4 y5 y6 y7
    by_cases hjl:j<os.length
    ·have j1:(j:Int)<(os.length:Int):=by omega
     obtain⟨k1,k2⟩:=HOS.out _ hEj
     obtain⟨g7,o7,ro,rc,fo,fc,hao,hg7,c0,c1,c2,c3,c4,hr,hf⟩:=k1.getG hjl
     obtain⟨g8,o8,ro',rc',fo',fc',hao',hg8,d0,d1,d2,d3,d4,hr',hf'⟩:=k2.getG hjl
     have hom:=HOD.out.2 (os.getD j Wir.od0) (by rw[List.getD_eq_getElem?_getD,List.getElem?_eq_getElem hjl];exact List.getElem_mem hjl)
     obtain⟨y0,y1,y2,y3,y4,y5,y6,y7⟩:=HKO.out _ hEj
     rw[hao] at y2
     rw[hao'] at y3
     clear hao hao' k1 k2
     generalize os.getD j Wir.od0=od at c0 c1 c2 c3 c4 d0 d1 d2 d3 d4 hr hf hr' hf' hom
     obtain⟨m1,m2,m3⟩:=hom
     have HQ:Hid (∀d us,Calls Tryz.prog 17 #[.agg #[.int .i64 od.k,.int .i64 od.n,.int .i64 od.v,.slice ro od.rs.length rc,.slice fo od.fs.length fc],.agg #[.int .i64 od.k,.int .i64 od.n,.int .i64 od.v,.slice ro' od.rs.length rc',.slice fo' od.fs.length fc']] (grow (redrawn wr d) us) fun e w''=>e=.returned (.bool true)∧∃p:Regrown,w''=grow (redrawn wr p.d) p.os):=fun d us=>
      Calls.regrown_of (Wi.SameOrder_same od ro fo ro' fo' rc fc rc' fc' _ ⟨hr.ext (below_regrown _ d us),hf.ext (below_regrown _ d us),m1,by omega,by omega⟩ ⟨hr'.ext (below_regrown _ d us),hf'.ext (below_regrown _ d us),m1,by omega,by omega⟩)
     have r0:=Fw.cell_regrown c0
     have r1:=Fw.cell_regrown c1
     have r2:=Fw.cell_regrown c2
     have r3:=Fw.cell_regrown c3
     have r4:=Fw.cell_regrown c4
     have t0:=Fw.cell_regrown d0
     have t1:=Fw.cell_regrown d1
     have t2:=Fw.cell_regrown d2
     have t3:=Fw.cell_regrown d3
     have t4:=Fw.cell_regrown d4
     have u0:=Fw.cell_regrown y0
     have u1:=Fw.cell_regrown y1
     have u2:=Fw.cell_regrown y2
     have u3:=Fw.cell_regrown y3
     clear c0 c1 c2 c3 c4 d0 d1 d2 d3 d4 y0 y1 y2 y3 hr hf hr' hf' m1 m2 m3
     go_wp2
     refine wp_region_quiet_below (by kernel_rfl) (by kernel_rfl) ?_
     repeat(go_big_quiet_step (with_reducible exact HQ.out _ _))
     refine wpQuiet_nil ?_
     intro _ hw'
     obtain⟨⟨dq,oq⟩,hw''⟩:=hw'
     subst hw''
     clear r0 r1 r2 r3 r4 t0 t1 t2 t3 t4 u0 u1 u2 u3 HQ
     go_wp2
     exact⟨⟨j+1,by omega,by go_num,hEj.trans (below_regrown _ dq oq)⟩,by simp[intOf];omega⟩
    ·have j1:¬(j:Int)<(os.length:Int):=by omega
     go_wp2
     exact⟨⟨k+1,by omega,by go_num,hE.trans hEj⟩,by simp[intOf];omega⟩
  ·have i1:¬(k:Int)<(W.sw.length:Int):=by omega
   have p12:=box_cell bA 12
   have q12:=box_cell bB 12
   simp only[List.getElem?_toArray,List.getElem?_cons_zero,List.getElem?_cons_succ] at p12 q12
   clear bA bB
   go_wp2
   go_loopw [141] (fun iv wd=>∃k:Nat,k≤W.pk.length∧iv=.int .i64 k∧Ext Z wd) (fun iv _=>W.pk.length - (intOf iv).toNat)
   case atStart=>exact⟨0,Nat.zero_le _,rfl,hE⟩
   case round=>as_aux_lemma=>
    clear hlt hk i1 p12 q12 lA lB
    obtain⟨j,hj,rfl,hEj⟩:=hrel
    obtain⟨bA,bB,lA,lB⟩:=HBK.out _ hEj
    by_cases hjl:j<W.pk.length
    ·have i1:(j:Int)<(W.pk.length:Int):=by omega
     have hpl:=HS.out.pkl
     obtain⟨g1,o1,tO,tc,hko,hg1,a0,a1,a2,a3,hT⟩:=(HA2.out _ hEj).pkG hjl
     obtain⟨g2,o2,tO',tc',hko',hg2,b0,b1,b2,b3,hT'⟩:=(HB2.out _ hEj).pkG hjl
     have h8:=HS.out.pk j hjl
     generalize W.pk.getD j pk0=x at a0 a1 a2 a3 b0 b1 b2 b3 hT hT' h8
     have HIN:Hid (∀V,Ext wr V→Calls Tryz.prog 16 #[.slice tO x.tr.length tc,.slice tO' x.tr.length tc'] V fun e w'=>e=.returned (.bool true)∧Ext V w'):=fun V hV=>Ints_same x.tr tO tO' tc tc' V (hT.ext hV) (hT'.ext hV) (by omega)
     clear hT hT' h8
     have p12:=box_cell bA 12
     have q12:=box_cell bB 12
     simp only[List.getElem?_toArray,List.getElem?_cons_zero,List.getElem?_cons_succ] at p12 q12
     clear bA bB
     rw[hko] at p12
     rw[hko'] at q12
     clear hko hko'
     obtain⟨fl,ve,tr,dn⟩:=x
     simp only at a0 a1 a2 a3 b0 b1 b2 b3 HIN
     have hEr:=Ext.refl wr
     go_wp2
     go_region
     all_goals
      go_wp2_with fail
      refine Calls.mono (HIN.out _ ((hEr.alloc _).alloc _).drew) ?_
      rintro e w3 ⟨rfl,E3⟩
      have hE3:=hEj.trans ((((hEr.alloc _).alloc _).drew).trans E3)
      clear E3
      go_wp2
      exact⟨⟨j+1,by omega,by go_num,hE3⟩,by simp[intOf];omega⟩
    ·have i1:¬(j:Int)<(W.pk.length:Int):=by omega
     have p13:=box_cell bA 13
     have q13:=box_cell bB 13
     simp only[List.getElem?_toArray,List.getElem?_cons_zero,List.getElem?_cons_succ] at p13 q13
     clear bA bB
     go_wp2
     go_loopw [185] (fun iv wd=>∃k:Nat,k≤W.pn.length∧iv=.int .i64 k∧Ext Z wd) (fun iv _=>W.pn.length - (intOf iv).toNat)
     case atStart=>exact⟨0,Nat.zero_le _,rfl,hEj⟩
     case round=>as_aux_lemma=>
      clear hjl hj i1 p13 q13 lA lB
      obtain⟨m,hm,rfl,hEm⟩:=hrel
      obtain⟨bA,bB,lA,lB⟩:=HBK.out _ hEm
      by_cases hml:m<W.pn.length
      ·have i1:(m:Int)<(W.pn.length:Int):=by omega
       have hpl:=HS.out.pnl
       obtain⟨g1,o1,pa,hlo,hg1,a0,a1,a2,hP⟩:=(HA2.out _ hEm).pnG hml
       obtain⟨g2,o2,pb,hlo',hg2,b0,b1,b2,hP'⟩:=(HB2.out _ hEm).pnG hml
       have hok:=HS.out.pn m hml
       generalize W.pn.getD m pl0=x at a0 a1 a2 b0 b1 b2 hP hP' hok
       have HQ:Hid (∀d us,Calls Tryz.prog 18 #[.agg #[.int .i64 x.v,.slice pa.fo x.fs.length pa.fc,.slice pa.qo x.ps.length pa.qc],.agg #[.int .i64 x.v,.slice pb.fo x.fs.length pb.fc,.slice pb.qo x.ps.length pb.qc]] (grow (redrawn wr d) us) fun e w''=>e=.returned (.bool true)∧∃p:Regrown,w''=grow (redrawn wr p.d) p.os):=fun d us=>
        Calls.regrown_of (SamePl_same x pa pb _ (hP.ext (below_regrown _ d us)) (hP'.ext (below_regrown _ d us)) hok)
       clear hP hP' hok
       have p13:=box_cell bA 13
       have q13:=box_cell bB 13
       simp only[List.getElem?_toArray,List.getElem?_cons_zero,List.getElem?_cons_succ] at p13 q13
       clear bA bB
       rw[hlo] at p13
       rw[hlo'] at q13
       clear hlo hlo'
       have r0:=Fw.cell_regrown a0
       have r1:=Fw.cell_regrown a1
       have r2:=Fw.cell_regrown a2
       have t0:=Fw.cell_regrown b0
       have t1:=Fw.cell_regrown b1
       have t2:=Fw.cell_regrown b2
       have u0:=Fw.cell_regrown p13
       have u1:=Fw.cell_regrown q13
       clear a0 a1 a2 b0 b1 b2 p13 q13
       go_wp2
       refine wp_region_quiet_below (by kernel_rfl) (by kernel_rfl) ?_
       repeat(go_big_quiet_step (with_reducible exact HQ.out _ _))
       refine wpQuiet_nil ?_
       intro _ hw'
       obtain⟨⟨dq,oq⟩,hw''⟩:=hw'
       subst hw''
       clear r0 r1 r2 t0 t1 t2 u0 u1 HQ
       go_wp2
       exact⟨⟨m+1,by omega,by go_num,hEm.trans (below_regrown _ dq oq)⟩,by simp[intOf];omega⟩
      ·have i1:¬(m:Int)<(W.pn.length:Int):=by omega
       go_wp2
       go_ret
       exact⟨rfl,HE0.out.trans hEm⟩
end Go.Proofs.YthkpbefnkmmaiaaGreat.Rm
