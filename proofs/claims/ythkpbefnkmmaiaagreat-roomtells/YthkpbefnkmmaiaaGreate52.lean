import Derived.Test.YthkpbefnkmmaiaaGreate42
set_option maxRecDepth 100000
set_option maxHeartbeats 4000000
namespace Go.Proofs.YthkpbefnkmmaiaaGreat
open Go.Proofs.Tryz
namespace Rm
open Go.RowKit Go.Deep Stw Stp Tb Rul Ct
structure WdSm (n:Nat) (W:Wd):Prop where
 n8:n<=8
 co:CoOk W.co
 lsw:W.sw.length=n
 lod:W.od.length=n
 lbk:W.bk.length=n
 od:∀s,s<n->(W.od.getD s []).length<=1/\∀o∈W.od.getD s [],I64 o.k/\o.rs.length<=16/\o.fs.length<=12
 bk:∀s,s<n->(W.bk.getD s []).length<=1
 pkl:W.pk.length<=40
 pk:∀i,i<W.pk.length->(W.pk.getD i Q8).tr.length<=8
 pnl:W.pn.length<=1000
 pn:∀i,i<W.pn.length->PlOk (W.pn.getD i pl0)
theorem ord_k{c:Co}{s:Nat}{o:Wir.Od}(h:ordC c s=some o):o.k=1\/o.k=2\/o.k=3:=by
 unfold ordC at h
 split at h
 ·unfold addO at h
  split at h
  ·cases h
  ·cases h;exact Or.inl rfl
 ·split at h
  ·unfold Zz at h
   split at h
   ·cases h
   ·cases h;exact Or.inr (Or.inl rfl)
  ·split at h
   ·unfold drpO at h
    split at h
    ·cases h
    ·cases h;exact Or.inr (Or.inr rfl)
   ·cases h
theorem Inv.sm{n:Nat}{ls:List Lk}{t:Nat}{W:Wd}(h:Inv n ls t W)(ht:t<=1000):WdSm n W:=by
 refine⟨h.n8.2,h.small ht,h.lsw,h.lod,h.lbk,fun s hs=>?_,fun s hs=>?_,h.pkl,fun i hi=>?_,by have:=h.pl;omega,fun i hi=>(h.pls i hi).ok⟩
 ·rcases h.dyn.core.sws s hs with⟨e,_,_⟩ | ⟨o,k,e1,e2,e3,e4⟩ | ⟨k,e,_,_⟩
  ·rw[e];exact⟨by simp,fun o ho=>by cases ho⟩
  ·have hk:=h.dyn.core.nle k ((h.dyn.core.wmem k).2 ⟨s,hs,by rw[e2];simp[pend,nmb]⟩)
   have hnum:=h.num
   have hr:=q8c (k:=k) h.ok e1 hs hk.1 (by omega)
   rw[e2]
   refine⟨by simp,fun x hx=>?_⟩
   rw[List.mem_singleton.1 hx]
   refine⟨?_,hr.2.1,hr.2.2⟩
   show I64 o.k
   rcases ord_k e1 with e | e | e <;> rw[e] <;> exact Zi (by omega) (by omega)
  ·rw[e];exact⟨by simp,fun o ho=>by cases ho⟩
 ·rcases h.dyn.core.sws s hs with⟨_,e,_⟩ | ⟨o,k,e1,e2,e3,e4⟩ | ⟨k,_,e,_⟩
  ·rw[e];simp
  ·rw[e3];simp
  ·rw[e];simp
 ·have hp:=h.pks _ (List.getElem_mem hi)
  have e:W.pk.getD i Q8=W.pk[i]:=by rw[Zt,List.getElem?_eq_getElem hi];rfl
  rw[e]
  rcases hp with⟨_,_,x,hx,_⟩ | ⟨m,k,j,h1,_,_,_,_,_,h7⟩
  ·rw[hx];simp
  ·rw[h7]
   have:=(h.pls m h1).head.2.2 k
   rw[List.length_take];omega
end Rm
section
open Go.RowKit Go.Maps Stw Go.Deep Stp Go.Sort
theorem q3d(v:Int)(fo go qo ro:Option Addr)(fl ql fc gc qc rc:Nat)(fs:List Stf.Fl)(ps:List (List Int))(w:World)(hfl:fs.length=fl)(hfx:fl<=4611686018427387904)(hf:Fw.Qk w fo fs)(hg:Fw.Qk w go fs)(hS:Fw.Sm fs)(hql:ps.length=ql)(hqx:ql<=4611686018427387904)(hq:q0i w qo ps)(hr:q0i w ro ps)(hP:∀i,i<ps.length->(ps.getD i []).length<=4611686018427387904):
  Calls prog 18 #[.agg #[.int .i64 v,.slice fo fl fc,.slice qo ql qc],.agg #[.int .i64 v,.slice go fl gc,.slice ro ql rc]] w fun e w'=>e=.returned (.bool true)/\Ext w w':=by
  have hE0:Ext w ((w.alloc (.cells #[.int .i64 v,.slice fo fl fc,.slice qo ql qc] 29)).alloc (.cells #[.int .i64 v,.slice go fl gc,.slice ro ql rc] 29)):=((Ext.refl w).alloc _).alloc _
  go_enter func18,ntmps18
  go_wp2_with fail
  refine(Fw.z2v fo go fl fl fc gc fs fs _ hfl hfl hfx (hf.ext hE0) (hg.ext hE0) hS).mono ?_
  rintro e w1 ⟨rfl,E1⟩
  rw[Stf.q9t rfl]
  have hE1:Ext w w1:=hE0.trans E1
  have hs1:w.heap.size+1<w1.heap.size:=by have:=E1.size;simp at this;omega
  have hs0:w.heap.size<w1.heap.size:=by omega
  have q:=E1.cells.1
  have a2:w1.cell? ⟨w.heap.size,2,none⟩=some (.slice qo ql qc):=(q _ _ (by simp;omega)).trans (by simp)
  have b2:w1.cell? ⟨w.heap.size+1,2,none⟩=some (.slice ro ql rc):=(q _ _ (by simp)).trans (by simp)
  clear q
  go_wp2_with fail
  go_loopw [31] (fun iv wr=>∃k:Nat,k<=ql/\iv=.int .i64 k/\Ext w1 wr) (fun iv _=>ql - (intOf iv).toNat)
  case atStart=>exact⟨0,Zu _,rfl,Ext.refl w1⟩
  case round=>
   obtain⟨k,hk,rfl,hext⟩:=hrel
   have a2r:=(hext.cells.1 _ _ hs0).trans a2
   have b2r:=(hext.cells.1 _ _ hs1).trans b2
   by_cases hlt:k<ql
   ·rcases hq.ext (hE1.trans hext) with h0 | ⟨g1,o1,rfl,hg1,hc1⟩
    ·exfalso;rw[h0] at hql;simp at hql;omega
    rcases hr.ext (hE1.trans hext) with h0 | ⟨g2,o2,rfl,hg2,hc2⟩
    ·exfalso;rw[h0] at hql;simp at hql;omega
    obtain⟨v1,d1,x1,y1,rfl,l1,_⟩:=hc1 k (by omega)
    obtain⟨v2,d2,x2,y2,rfl,l2,_⟩:=hc2 k (by omega)
    have hPk:=hP k (by omega)
    obtain⟨x,hx⟩:=Qy (ps.getD k [])
    rw[<-hx] at d1 d2 l1 l2 hPk
    clear hx hc1 hc2
    have HQ:Hid (∀d os,Calls prog 16 #[.slice x1 x.length y1,.slice x2 x.length y2] (grow (redrawn wr d) os) fun e w''=>e=.returned (.bool true)/\∃p:Regrown,w''=grow (redrawn wr p.d) p.os):=fun d os=>by
     have:=q4e x1 x2 _ _ y1 y2 x x (grow (redrawn wr d) os) rfl rfl hPk (l1.ext (brg wr d os)) (l2.ext (brg wr d os))
     rw[dtt rfl] at this
     exact Calls.regrown_of this
    have g1':=Fw.clr a2r
    have g2':=Fw.clr b2r
    have g3':=Fw.clr d1
    have g4':=Fw.clr d2
    have i1:(k:Int)<(ql:Int):=by omega
    clear d1 d2 l1 l2
    go_wp2
    refine qb ?_
    repeat(go_big_quiet_step (with_reducible exact HQ.out _ _))
    refine qn fun dq oq=>?_
    clear g1' g2' g3' g4' HQ
    go_wp2
    refine⟨⟨k+1,by omega,by go_num,hext.trans (brg wr dq oq)⟩,by simp[intOf];omega⟩
   ·have i1:¬(k:Int)<(ql:Int):=by omega
    go_wp2
    go_ret
    exact⟨rfl,hE1.trans hext⟩
end
namespace Ct
open Go.RowKit Go.Deep Stw Stp Tb Rul
theorem q6w(c:Co)(a a':CA)(w:World)(h:Zr w c a)(h':Zr w c a')(hok:CoOk c):
 Calls prog 14 #[cvl c a,cvl c a'] w fun e w'=>e=.returned (.bool true)/\Ext w w':=by
 have HA:=Qa h
 have HB:=Qa h'
 have HN:=Qa hok.n
 have HX:=Qa hok.x
 have hwl:=hok.w
 clear h h' hok
 unfold cvl
 go_enter func14,ntmps14
 go_upto_region 1 with fail
 obtain⟨B,hB⟩:=Qy ((w.alloc (.cells #[.int .i64 c.st,.int .i64 c.now.v,.slice a.n.fo c.now.fs.length a.n.fc,.slice a.n.qo c.now.ps.length a.n.qc,.int .i64 c.Qd.v,.slice a.x.fo c.Qd.fs.length a.x.fc,.slice a.x.qo c.Qd.ps.length a.x.qc,.int .i64 c.num,.slice a.wo c.Qg.length a.wc] 32)).alloc (.cells #[.int .i64 c.st,.int .i64 c.now.v,.slice a'.n.fo c.now.fs.length a'.n.fc,.slice a'.n.qo c.now.ps.length a'.n.qc,.int .i64 c.Qd.v,.slice a'.x.fo c.Qd.fs.length a'.x.fc,.slice a'.x.qo c.Qd.ps.length a'.x.qc,.int .i64 c.num,.slice a'.wo c.Qg.length a'.wc] 32))
 have hE0:Ext w B:=by rw[hB];exact((Ext.refl w).alloc _).alloc _
 have HK:Hid (∀V,Ext B V->BX V w.heap.size (coL c a)/\BX V (w.heap.size+1) (coL c a')/\w.heap.size<V.heap.size/\w.heap.size+1<V.heap.size):=fun V hV=>by
  have r0:BX B w.heap.size (coL c a):=by rw[hB];exact World.rowIs.alloc (q0k rfl _ _ _ _ _ _ _ _ _) _
  have r1:BX B (w.heap.size+1) (coL c a'):=by rw[hB];exact q0k (by simp) _ _ _ _ _ _ _ _ _
  have l0:=World.rowIs.lt r0
  have l1:=World.rowIs.lt r1
  exact⟨World.rowIs.of_block r0 (Below.block hV _ l0),World.rowIs.of_block r1 (Below.block hV _ l1),Q5 l0 hV.size,Q5 l1 hV.size⟩
 rw[<-hB]
 clear hB
 have sm:∀p:Pl,PlOk p->Fw.Sm p.fs:=fun p hp k hk=>by have:=hp.sm _ (List.getElem_mem hk);omega
 have gd:∀p:Pl,PlOk p->∀i,i<p.ps.length->(p.ps.getD i []).length<=4611686018427387904:=fun p hp i _=>by have h1:=z2e (ps:=p.ps) (i:=i);have:=hp.tt;omega
 have HS1:=Qa (fun V (hV:Ext B V)=>q3d c.now.v a.n.fo a'.n.fo a.n.qo a'.n.qo c.now.fs.length c.now.ps.length a.n.fc a'.n.fc a.n.qc a'.n.qc c.now.fs c.now.ps V rfl (by have:=HN.out.fl;omega) (HA.out.hn.hf.ext (hE0.trans hV)) (HB.out.hn.hf.ext (hE0.trans hV)) (sm _ HN.out) rfl (by have:=HN.out.ql;omega) (HA.out.hn.hq.ext (hE0.trans hV)) (HB.out.hn.hq.ext (hE0.trans hV)) (gd _ HN.out))
 have HS2:=Qa (fun V (hV:Ext B V)=>q3d c.Qd.v a.x.fo a'.x.fo a.x.qo a'.x.qo c.Qd.fs.length c.Qd.ps.length a.x.fc a'.x.fc a.x.qc a'.x.qc c.Qd.fs c.Qd.ps V rfl (by have:=HX.out.fl;omega) (HA.out.hx.hf.ext (hE0.trans hV)) (HB.out.hx.hf.ext (hE0.trans hV)) (sm _ HX.out) rfl (by have:=HX.out.ql;omega) (HA.out.hx.hq.ext (hE0.trans hV)) (HB.out.hx.hq.ext (hE0.trans hV)) (gd _ HX.out))
 clear sm gd
 obtain⟨q,q',hl0,hl1⟩:=HK.out B (Ext.refl _)
 have c0:B.cell? ⟨w.heap.size,0,none⟩=some (.int .i64 c.st):=Zj q (i:=0) (by omega)
 have c1:B.cell? ⟨w.heap.size,1,none⟩=some (.int .i64 c.now.v):=Zj q (i:=1) (by omega)
 have c2:B.cell? ⟨w.heap.size,2,none⟩=some (.slice a.n.fo c.now.fs.length a.n.fc):=Zj q (i:=2) (by omega)
 have c3:B.cell? ⟨w.heap.size,3,none⟩=some (.slice a.n.qo c.now.ps.length a.n.qc):=Zj q (i:=3) (by omega)
 have c7:B.cell? ⟨w.heap.size,7,none⟩=some (.int .i64 c.num):=Zj q (i:=7) (by omega)
 have d0:B.cell? ⟨w.heap.size+1,0,none⟩=some (.int .i64 c.st):=Zj q' (i:=0) (by omega)
 have d1:B.cell? ⟨w.heap.size+1,1,none⟩=some (.int .i64 c.now.v):=Zj q' (i:=1) (by omega)
 have d2:B.cell? ⟨w.heap.size+1,2,none⟩=some (.slice a'.n.fo c.now.fs.length a'.n.fc):=Zj q' (i:=2) (by omega)
 have d3:B.cell? ⟨w.heap.size+1,3,none⟩=some (.slice a'.n.qo c.now.ps.length a'.n.qc):=Zj q' (i:=3) (by omega)
 have d7:B.cell? ⟨w.heap.size+1,7,none⟩=some (.int .i64 c.num):=Zj q' (i:=7) (by omega)
 clear q q'
 go_wp2_with fail
 refine Calls.mono (HS1.out B (Ext.refl _)) ?_
 rintro e w1 ⟨rfl,E1⟩
 clear c0 c1 c2 c3 c7 d0 d1 d2 d3 d7 HS1
 obtain⟨q,q',hl10,hl11⟩:=HK.out w1 E1
 have c4:w1.cell? ⟨w.heap.size,4,none⟩=some (.int .i64 c.Qd.v):=Zj q (i:=4) (by omega)
 have c5:w1.cell? ⟨w.heap.size,5,none⟩=some (.slice a.x.fo c.Qd.fs.length a.x.fc):=Zj q (i:=5) (by omega)
 have c6:w1.cell? ⟨w.heap.size,6,none⟩=some (.slice a.x.qo c.Qd.ps.length a.x.qc):=Zj q (i:=6) (by omega)
 have d4:w1.cell? ⟨w.heap.size+1,4,none⟩=some (.int .i64 c.Qd.v):=Zj q' (i:=4) (by omega)
 have d5:w1.cell? ⟨w.heap.size+1,5,none⟩=some (.slice a'.x.fo c.Qd.fs.length a'.x.fc):=Zj q' (i:=5) (by omega)
 have d6:w1.cell? ⟨w.heap.size+1,6,none⟩=some (.slice a'.x.qo c.Qd.ps.length a'.x.qc):=Zj q' (i:=6) (by omega)
 clear q q'
 go_wp2_with fail
 refine Calls.mono (HS2.out w1 E1) ?_
 rintro e w2 ⟨rfl,E2⟩
 have E12:=E1.trans E2
 clear c4 c5 c6 d4 d5 d6 HS2
 obtain⟨q,q',hl20,hl21⟩:=HK.out w2 E12
 have c8:w2.cell? ⟨w.heap.size,8,none⟩=some (.slice a.wo c.Qg.length a.wc):=Zj q (i:=8) (by omega)
 have d8:w2.cell? ⟨w.heap.size+1,8,none⟩=some (.slice a'.wo c.Qg.length a'.wc):=Zj q' (i:=8) (by omega)
 clear q q'
 go_wp2_with fail
 refine Calls.mono (q4e a.wo a'.wo c.Qg.length c.Qg.length a.wc a'.wc c.Qg c.Qg _ rfl rfl (by omega) (HA.out.hw.ext (hE0.trans E12)) (HB.out.hw.ext (hE0.trans E12))) ?_
 rintro e w3 ⟨he,E3⟩
 rw[show decide (c.Qg=c.Qg)=true from dtt rfl] at he
 subst he
 go_wp2
 go_ret
 exact⟨rfl,hE0.trans (E12.trans E3)⟩
end Ct
namespace Ag
open Go.RowKit Go.Deep Tb Rul
theorem q8w(s:Agt.Sw)(ro so ro' so':Option Addr)(rc sc rc' sc':Nat)(w:World)(h:Zn w s ro so rc)(h':Zn w s ro' so' rc'):
 Calls prog 15 #[svl s ro so rc sc,svl s ro' so' rc' sc'] w fun e w'=>e=.returned (.bool true)/\Ext w w':=by
 obtain⟨rs,st⟩:=s
 unfold svl
 have hsl:st.length*16<=140737488351232:=h.sl
 have hrl:rs.length*24<=140737488351232:=h.rl
 have HS:Hid (StAt w so st):=h.hs
 have HS':Hid (StAt w so' st):=h'.hs
 have HR:Hid (Zl w ro rs):=h.hr.Q2
 have HR':Hid (Zl w ro' rs):=h'.hr.Q2
 clear h h'
 go_enter func15,ntmps15
 go_wp2_with fail
 obtain⟨B,hB⟩:=Qy ((w.alloc (.cells #[.slice ro rs.length rc,.slice so st.length sc] 64)).alloc (.cells #[.slice ro' rs.length rc',.slice so' st.length sc'] 64))
 have hE0:Ext w B:=by rw[hB];exact((Ext.refl w).alloc _).alloc _
 have HK:Hid (∀W,Ext B W->cl W w.heap.size 1 (.slice so st.length sc)/\cl W (w.heap.size+1) 1 (.slice so' st.length sc')):=fun W hW=>by
  have l0:w.heap.size<B.heap.size:=by rw[hB];simp;omega
  have l1:w.heap.size+1<B.heap.size:=by rw[hB];simp
  exact⟨(hW.cells.1 _ _ l0).trans (by rw[hB];simp),(hW.cells.1 _ _ l1).trans (by rw[hB];simp)⟩
 rw[<-hB]
 clear hB
 refine(q4o ro ro' rs.length rc rc' rs _ rfl (Zl.ext HR.out hE0) (Zl.ext HR'.out hE0) (by omega)).mono ?_
 rintro e w1 ⟨rfl,E1⟩
 obtain⟨q0,q1⟩:=HK.out _ E1
 go_wp2
 go_loopw [24] (fun iv wd=>∃k:Nat,k<=st.length/\iv=.int .i64 k/\Ext B wd) (fun iv _=>st.length - (intOf iv).toNat)
 case atStart=>exact⟨0,Zu _,rfl,E1⟩
 case round=>
  obtain⟨k,hk,rfl,hE⟩:=hrel
  clear q0 q1
  have hEw:=hE0.trans hE
  by_cases hlt:k<st.length
  ·obtain⟨g,off,rfl,hg,hcs⟩:=(StAt.ext HS.out hEw).get hlt
   obtain⟨g',off',rfl,hg',hcs'⟩:=(StAt.ext HS'.out hEw).get hlt
   obtain⟨q0,q1⟩:=HK.out _ hE
   have i1:(k:Int)<(st.length:Int):=by omega
   obtain⟨c0,c1⟩:=hcs k hlt
   obtain⟨d0,d1⟩:=hcs' k hlt
   obtain⟨x,hx⟩:∃x,st.getD k s0=x:=⟨_,rfl⟩
   rw[hx] at c0 c1 d0 d1
   clear hx hcs hcs'
   go_wp2
   go_region
   go_wp2
   exact⟨⟨k+1,by omega,by go_num,hE.drew⟩,by simp[intOf];omega⟩
  ·have i1:¬(k:Int)<(st.length:Int):=by omega
   go_wp2
   go_ret
   exact⟨rfl,hEw⟩
end Ag
namespace Wi
open Go.RowKit Go.Maps Go.Deep Go.Sort Tb Rul
theorem q9h(o:Wir.Od)(ro fo ro' fo':Option Addr)(rc fc rc' fc':Nat)(w:World)(h:OAt w o ro fo)(h':OAt w o ro' fo'):
 Calls prog 17 #[ovl o ro fo rc fc,ovl o ro' fo' rc' fc'] w fun e w'=>e=.returned (.bool true)/\Ext w w':=by
 obtain⟨k,n,v,rs,fs⟩:=o
 unfold ovl
 have HA:Hid _:=h
 have HB:Hid _:=h'
 clear h h'
 go_enter func17,ntmps17
 go_wp2_with fail
 obtain⟨B,hB⟩:=Qy ((w.alloc (.cells #[.int .i64 k,.int .i64 n,.int .i64 v,.slice ro rs.length rc,.slice fo fs.length fc] 69)).alloc (.cells #[.int .i64 k,.int .i64 n,.int .i64 v,.slice ro' rs.length rc',.slice fo' fs.length fc'] 69))
 have hE0:Ext w B:=by rw[hB];exact((Ext.refl w).alloc _).alloc _
 have HK:Hid (∀W,Ext B W->cl W w.heap.size 4 (.slice fo fs.length fc)/\cl W (w.heap.size+1) 4 (.slice fo' fs.length fc')):=fun W hW=>by
  have l0:w.heap.size<B.heap.size:=by rw[hB];simp;omega
  have l1:w.heap.size+1<B.heap.size:=by rw[hB];simp
  exact⟨(hW.cells.1 _ _ l0).trans (by rw[hB];simp),(hW.cells.1 _ _ l1).trans (by rw[hB];simp)⟩
 rw[<-hB]
 clear hB
 refine(q4o ro ro' rs.length rc rc' rs _ rfl (HA.out.hr.ext hE0) (HB.out.hr.ext hE0) HA.out.rl).mono ?_
 rintro e w1 ⟨rfl,E1⟩
 obtain⟨q0,q1⟩:=HK.out _ E1
 have hE1:=hE0.trans E1
 go_wp2_with fail
 refine(q4e fo fo' fs.length fs.length fc fc' fs fs _ rfl rfl HA.out.fl (HA.out.hf.ext hE1) (HB.out.hf.ext hE1)).mono ?_
 rintro e w2 ⟨he,E2⟩
 rw[show decide (fs=fs)=true from dtt rfl] at he
 subst he
 go_wp2
 go_ret
 exact⟨rfl,hE1.trans E2⟩
end Wi
namespace Rm
open Go.RowKit Go.Deep Go.Maps Go.Sort Stw Stp Tb Rul Ct
variable {w:World} {W:Wd} {s:Nat}
theorem WoAt.swG{A:WA}(h:WoAt w W A)(hs:s<W.sw.length):∃g off ro rc so sc,A.so=some ⟨g,off,none⟩/\g<w.heap.size/\w.cell? ⟨g,off+s*2,none⟩=some (.slice ro (W.sw.getD s Agt.Zq).rs.length rc)/\w.cell? ⟨g,off+s*2+1,none⟩=some (.slice so (W.sw.getD s Agt.Zq).st.length sc)/\Ag.Zn w (W.sw.getD s Agt.Zq) ro so rc:=by
 rcases h.sw with h0 | ⟨g,off,h1,h2,h3⟩
 ·rw[h0] at hs;simp at hs
 ·obtain⟨ro,rc,so,sc,k⟩:=h3 s hs
  exact⟨g,off,ro,rc,so,sc,h1,h2,k⟩
theorem WoAt.odG{A:WA}(h:WoAt w W A)(hs:s<W.od.length):∃g off ao c,A.oo=some ⟨g,off,none⟩/\g<w.heap.size/\w.cell? ⟨g,off+s,none⟩=some (.slice ao (W.od.getD s []).length c)/\OsAt w (W.od.getD s []) (.slice ao (W.od.getD s []).length c):=by
 rcases h.od with h0 | ⟨g,off,h1,h2,h3⟩
 ·rw[h0] at hs;simp at hs
 ·obtain⟨v,k1,k2⟩:=h3 s hs
  have k3:=k2
  obtain⟨ao,c,rfl,_⟩:=k3
  exact⟨g,off,ao,c,h1,h2,k1,k2⟩
theorem WoAt.bkG{A:WA}(h:WoAt w W A)(hs:s<W.bk.length):∃g off ao c,A.bo=some ⟨g,off,none⟩/\g<w.heap.size/\w.cell? ⟨g,off+s,none⟩=some (.slice ao (W.bk.getD s []).length c)/\Qj w ao (W.bk.getD s []):=by
 rcases h.bk with h0 | ⟨g,off,h1,h2,h3⟩
 ·rw[h0] at hs;simp at hs
 ·obtain⟨ao,c,k1,k2⟩:=h3 s hs
  exact⟨g,off,ao,c,h1,h2,k1,k2⟩
theorem WoAt.pkG{A:WA}(h:WoAt w W A)(hs:s<W.pk.length):∃g off ao c,A.ko=some ⟨g,off,none⟩/\g<w.heap.size/\w.cell? ⟨g,off+s*4,none⟩=some (.int .i64 (W.pk.getD s Q8).fl)/\w.cell? ⟨g,off+s*4+1,none⟩=some (.int .i64 (W.pk.getD s Q8).v)/\w.cell? ⟨g,off+s*4+2,none⟩=some (.slice ao (W.pk.getD s Q8).tr.length c)/\w.cell? ⟨g,off+s*4+3,none⟩=some (.bool (W.pk.getD s Q8).dn)/\Qj w ao (W.pk.getD s Q8).tr:=by
 rcases h.pk with h0 | ⟨g,off,h1,h2,h3⟩
 ·rw[h0] at hs;simp at hs
 ·obtain⟨ao,c,k0,k1,k2,k3,k4,_⟩:=h3 s hs
  exact⟨g,off,ao,c,h1,h2,k0,k1,k2,k3,k4⟩
theorem WoAt.pnG{A:WA}(h:WoAt w W A)(hs:s<W.pn.length):∃g off,∃a:PA,A.lo=some ⟨g,off,none⟩/\g<w.heap.size/\w.cell? ⟨g,off+s*3,none⟩=some (.int .i64 (W.pn.getD s pl0).v)/\w.cell? ⟨g,off+s*3+1,none⟩=some (.slice a.fo (W.pn.getD s pl0).fs.length a.fc)/\w.cell? ⟨g,off+s*3+2,none⟩=some (.slice a.qo (W.pn.getD s pl0).ps.length a.qc)/\PlAt w (W.pn.getD s pl0) a:=by
 rcases h.pn with h0 | ⟨g,off,h1,h2,h3⟩
 ·rw[h0] at hs;simp at hs
 ·obtain⟨a,k⟩:=h3 s hs
  exact⟨g,off,a,h1,h2,k⟩
theorem OsAt.getG{os:List Wir.Od}{ao:Option Addr}{c i:Nat}(h:OsAt w os (.slice ao os.length c))(hi:i<os.length):∃g off ro rc fo fc,ao=some ⟨g,off,none⟩/\g<w.heap.size/\w.cell? ⟨g,off+i*5,none⟩=some (.int .i64 (os.getD i Wir.od0).k)/\w.cell? ⟨g,off+i*5+1,none⟩=some (.int .i64 (os.getD i Wir.od0).n)/\w.cell? ⟨g,off+i*5+2,none⟩=some (.int .i64 (os.getD i Wir.od0).v)/\w.cell? ⟨g,off+i*5+3,none⟩=some (.slice ro (os.getD i Wir.od0).rs.length rc)/\w.cell? ⟨g,off+i*5+4,none⟩=some (.slice fo (os.getD i Wir.od0).fs.length fc)/\Zl w ro (os.getD i Wir.od0).rs/\Qj w fo (os.getD i Wir.od0).fs:=by
 obtain⟨ao',c',e,h2⟩:=h
 cases e
 rcases h2 with h0 | ⟨g,off,h1,h2,h3⟩
 ·rw[h0] at hi;simp at hi
 ·obtain⟨ro,rc,fo,fc,k⟩:=h3 i hi
  exact⟨g,off,ro,rc,fo,fc,h1,h2,k⟩
theorem z8k(p:Pl)(a b:PA)(w:World)(ha:PlAt w p a)(hb:PlAt w p b)(hok:PlOk p):
 Calls prog 18 #[.agg #[.int .i64 p.v,.slice a.fo p.fs.length a.fc,.slice a.qo p.ps.length a.qc],.agg #[.int .i64 p.v,.slice b.fo p.fs.length b.fc,.slice b.qo p.ps.length b.qc]] w fun e w'=>e=.returned (.bool true)/\Ext w w':=
 q3d p.v a.fo b.fo a.qo b.qo p.fs.length p.ps.length a.fc b.fc a.qc b.qc p.fs p.ps w rfl (by have:=hok.fl;omega) ha.hf hb.hf (fun k hk=>by have:=hok.sm _ (List.getElem_mem hk);omega) rfl (by have:=hok.ql;omega) ha.hq hb.hq (fun i _=>by have h1:=z2e (ps:=p.ps) (i:=i);have:=hok.tt;omega)
theorem z6b(xs:List Int)(ao bo:Option Addr)(ac bc:Nat)(w:World)(ha:Qj w ao xs)(hb:Qj w bo xs)(hl:xs.length<=1000):
 Calls prog 16 #[.slice ao xs.length ac,.slice bo xs.length bc] w fun e w'=>e=.returned (.bool true)/\Ext w w':=by
 have:=q4e ao bo xs.length xs.length ac bc xs xs w rfl rfl (by omega) ha hb
 rwa [dtt rfl] at this
theorem q9g(n:Nat)(W:Wd)(A B:WA)(w:World)(hA:WoAt w W A)(hB:WoAt w W B)(hS:WdSm n W):
 Calls prog 7 #[wvl W A,wvl W B] w fun e w'=>e=.returned (.bool true)/\Ext w w':=by
 have HA:=Qa hA
 have HB:=Qa hB
 have HS:=Qa hS
 clear hA hB hS
 unfold wvl
 go_enter func7,ntmps7
 go_upto_region 1 with fail
 obtain⟨Z,hZ⟩:=Qy ((w.alloc (.cells #[.int .i64 W.co.st,.int .i64 W.co.now.v,.slice A.ca.n.fo W.co.now.fs.length A.ca.n.fc,.slice A.ca.n.qo W.co.now.ps.length A.ca.n.qc,.int .i64 W.co.Qd.v,.slice A.ca.x.fo W.co.Qd.fs.length A.ca.x.fc,.slice A.ca.x.qo W.co.Qd.ps.length A.ca.x.qc,.int .i64 W.co.num,.slice A.ca.wo W.co.Qg.length A.ca.wc,.slice A.so W.sw.length A.sc,.slice A.oo W.od.length A.oc,.slice A.bo W.bk.length A.bc,.slice A.ko W.pk.length A.kc,.slice A.lo W.pn.length A.lc] 39)).alloc (.cells #[.int .i64 W.co.st,.int .i64 W.co.now.v,.slice B.ca.n.fo W.co.now.fs.length B.ca.n.fc,.slice B.ca.n.qo W.co.now.ps.length B.ca.n.qc,.int .i64 W.co.Qd.v,.slice B.ca.x.fo W.co.Qd.fs.length B.ca.x.fc,.slice B.ca.x.qo W.co.Qd.ps.length B.ca.x.qc,.int .i64 W.co.num,.slice B.ca.wo W.co.Qg.length B.ca.wc,.slice B.so W.sw.length B.sc,.slice B.oo W.od.length B.oc,.slice B.bo W.bk.length B.bc,.slice B.ko W.pk.length B.kc,.slice B.lo W.pn.length B.lc] 39))
 have hE0:Ext w Z:=by rw[hZ];exact((Ext.refl w).alloc _).alloc _
 have hzs:Z.heap.size=w.heap.size+1+1:=by rw[hZ];simp
 have HBK:Hid (∀V,Ext Z V->V.heap[w.heap.size]? =some (.cells #[.int .i64 W.co.st,.int .i64 W.co.now.v,.slice A.ca.n.fo W.co.now.fs.length A.ca.n.fc,.slice A.ca.n.qo W.co.now.ps.length A.ca.n.qc,.int .i64 W.co.Qd.v,.slice A.ca.x.fo W.co.Qd.fs.length A.ca.x.fc,.slice A.ca.x.qo W.co.Qd.ps.length A.ca.x.qc,.int .i64 W.co.num,.slice A.ca.wo W.co.Qg.length A.ca.wc,.slice A.so W.sw.length A.sc,.slice A.oo W.od.length A.oc,.slice A.bo W.bk.length A.bc,.slice A.ko W.pk.length A.kc,.slice A.lo W.pn.length A.lc] 39)/\V.heap[w.heap.size+1]? =some (.cells #[.int .i64 W.co.st,.int .i64 W.co.now.v,.slice B.ca.n.fo W.co.now.fs.length B.ca.n.fc,.slice B.ca.n.qo W.co.now.ps.length B.ca.n.qc,.int .i64 W.co.Qd.v,.slice B.ca.x.fo W.co.Qd.fs.length B.ca.x.fc,.slice B.ca.x.qo W.co.Qd.ps.length B.ca.x.qc,.int .i64 W.co.num,.slice B.ca.wo W.co.Qg.length B.ca.wc,.slice B.so W.sw.length B.sc,.slice B.oo W.od.length B.oc,.slice B.bo W.bk.length B.bc,.slice B.ko W.pk.length B.kc,.slice B.lo W.pn.length B.lc] 39)/\w.heap.size<V.heap.size/\w.heap.size+1<V.heap.size):=fun V hV=>
  ⟨(Below.block hV _ (by omega)).trans (by rw[hZ,bal _ _ _ (by simp)];exact Q7 rfl),(Below.block hV _ (by omega)).trans (by rw[hZ];exact Q7 (by simp)),by have:=hV.size;omega,by have:=hV.size;omega⟩
 rw[<-hZ]
 clear hZ hzs
 have HSC:=Qa (q6w W.co A.ca B.ca Z (HA.out.co.ext hE0) (HB.out.co.ext hE0) HS.out.co)
 unfold cvl at HSC
 have HA2:Hid (∀V,Ext Z V->WoAt V W A):=fun V hV=>HA.out.ext (hE0.trans hV)
 have HB2:Hid (∀V,Ext Z V->WoAt V W B):=fun V hV=>HB.out.ext (hE0.trans hV)
 have HE0:=Qa hE0
 clear HA HB hE0
 obtain⟨bA,bB,lA,lB⟩:=HBK.out Z (Ext.refl Z)
 have p0:=Qb bA 0
 have q0:=Qb bB 0
 have p1:=Qb bA 1
 have q1:=Qb bB 1
 have p2:=Qb bA 2
 have q2:=Qb bB 2
 have p3:=Qb bA 3
 have q3:=Qb bB 3
 have p4:=Qb bA 4
 have q4:=Qb bB 4
 have p5:=Qb bA 5
 have q5:=Qb bB 5
 have p6:=Qb bA 6
 have q6:=Qb bB 6
 have p7:=Qb bA 7
 have q7:=Qb bB 7
 have p8:=Qb bA 8
 have q8:=Qb bB 8
 simp only[List.getElem?_toArray,List.getElem?_cons_zero,List.getElem?_cons_succ] at p0 q0 p1 q1 p2 q2 p3 q3 p4 q4 p5 q5 p6 q6 p7 q7 p8 q8
 clear bA bB
 go_wp2_with fail
 with_reducible refine Calls.mono HSC.out ?_
 rintro e w1 ⟨rfl,E1⟩
 clear p0 q0 p1 q1 p2 q2 p3 q3 p4 q4 p5 q5 p6 q6 p7 q7 p8 q8 HSC lA lB
 obtain⟨bA,bB,lA,lB⟩:=HBK.out w1 E1
 have p9:=Qb bA 9
 have q9:=Qb bB 9
 have p10:=Qb bA 10
 have q10:=Qb bB 10
 have p11:=Qb bA 11
 have q11:=Qb bB 11
 have p12:=Qb bA 12
 have q12:=Qb bB 12
 have p13:=Qb bA 13
 have q13:=Qb bB 13
 simp only[List.getElem?_toArray,List.getElem?_cons_zero,List.getElem?_cons_succ] at p9 q9 p10 q10 p11 q11 p12 q12 p13 q13
 clear bA bB
 go_wp2
 go_loopw [65] (fun iv wr=>∃k:Nat,k<=W.sw.length/\iv=.int .i64 k/\Ext Z wr) (fun iv _=>W.sw.length - (intOf iv).toNat)
 case atStart=>exact⟨0,Zu _,rfl,E1⟩
 case round=>as_aux_lemma=>
  obtain⟨k,hk,rfl,hE⟩:=hrel
  clear p9 q9 p10 q10 p11 q11 p12 q12 p13 q13 lA lB
  obtain⟨bA,bB,lA,lB⟩:=HBK.out wr hE
  by_cases hlt:k<W.sw.length
  ·have i1:(k:Int)<(W.sw.length:Int):=by omega
   have e1:=HS.out.lsw
   have e2:=HS.out.lod
   have e3:=HS.out.lbk
   have hn8:=HS.out.n8
   have i2:(k:Int)<(W.od.length:Int):=by omega
   have i3:(k:Int)<(W.bk.length:Int):=by omega
   obtain⟨g1,o1,ro,rc,so,sc,hso,hg1,a0,a1,hx⟩:=(HA2.out wr hE).swG hlt
   obtain⟨g2,o2,ro',rc',so',sc',hso',hg2,b0,b1,hx'⟩:=(HB2.out wr hE).swG hlt
   obtain⟨g3,o3,oo,oc,hoo,hg3,a2,hos⟩:=(HA2.out wr hE).odG (s:=k) (by omega)
   obtain⟨g4,o4,oo',oc',hoo',hg4,b2,hos'⟩:=(HB2.out wr hE).odG (s:=k) (by omega)
   obtain⟨g5,o5,bo,bc,hbo,hg5,a3,hbl⟩:=(HA2.out wr hE).bkG (s:=k) (by omega)
   obtain⟨g6,o6,bo',bc',hbo',hg6,b3,hbl'⟩:=(HB2.out wr hE).bkG (s:=k) (by omega)
   have hod:=HS.out.od k (by omega)
   have hbk1:=HS.out.bk k (by omega)
   have hs8:W.sw.length<=8:=by omega
   clear e1 e2 e3 hn8
   generalize W.sw.getD k Agt.Zq=x at a0 a1 b0 b1 hx hx'
   generalize W.od.getD k []=os at a2 b2 hos hos' hod
   generalize W.bk.getD k []=bs at a3 b3 hbl hbl' hbk1
   have HQ:Hid (∀d os,Calls prog 15 #[.agg #[.slice ro x.rs.length rc,.slice so x.st.length sc],.agg #[.slice ro' x.rs.length rc',.slice so' x.st.length sc']] (grow (redrawn wr d) os) fun e w''=>e=.returned (.bool true)/\∃p:Regrown,w''=grow (redrawn wr p.d) p.os):=fun d os=>
    Calls.regrown_of (Ag.q8w x ro so ro' so' rc sc rc' sc' _ (hx.ext (brg wr d os)) (hx'.ext (brg wr d os)))
   have HQ2:Hid (∀d os,Calls prog 16 #[.slice bo bs.length bc,.slice bo' bs.length bc'] (grow (redrawn wr d) os) fun e w''=>e=.returned (.bool true)/\∃p:Regrown,w''=grow (redrawn wr p.d) p.os):=fun d os=>
    Calls.regrown_of (z6b bs bo bo' bc bc' _ (hbl.ext (brg wr d os)) (hbl'.ext (brg wr d os)) (by omega))
   have HOS:Hid (∀V,Ext wr V->OsAt V os (.slice oo os.length oc)/\OsAt V os (.slice oo' os.length oc')):=fun V hV=>⟨hos.ext hV,hos'.ext hV⟩
   have HOD:=Qa hod
   have hol:os.length<=1:=hod.1
   clear hx hx' hbl hbl' hos hos' hod
   have p9:=Qb bA 9
   have q9:=Qb bB 9
   have p10:=Qb bA 10
   have q10:=Qb bB 10
   have p11:=Qb bA 11
   have q11:=Qb bB 11
   simp only[List.getElem?_toArray,List.getElem?_cons_zero,List.getElem?_cons_succ] at p9 q9 p10 q10 p11 q11
   clear bA bB
   rw[hso] at p9
   rw[hso'] at q9
   rw[hoo] at p10
   rw[hoo'] at q10
   rw[hbo] at p11
   rw[hbo'] at q11
   clear hbk1
   have HKO:Hid (∀V,Ext wr V->cl V w.heap.size 10 (.slice (some ⟨g3,o3,none⟩) W.od.length A.oc)/\cl V (w.heap.size+1) 10 (.slice (some ⟨g4,o4,none⟩) W.od.length B.oc)/\cl V g3 (o3+k) (.slice oo os.length oc)/\cl V g4 (o4+k) (.slice oo' os.length oc')/\w.heap.size<V.heap.size/\w.heap.size+1<V.heap.size/\g3<V.heap.size/\g4<V.heap.size):=fun V hV=>by
    have:=hV.size
    exact⟨(hV.cells.1 _ _ lA).trans p10,(hV.cells.1 _ _ lB).trans q10,(hV.cells.1 _ _ hg3).trans a2,(hV.cells.1 _ _ hg4).trans b2,by omega,by omega,by omega,by omega⟩
   clear hso hso' hoo hoo' hbo hbo'
   have r0:=Fw.clr a0
   have r1:=Fw.clr a1
   have r2:=Fw.clr a2
   have r3:=Fw.clr a3
   have t0:=Fw.clr b0
   have t1:=Fw.clr b1
   have t2:=Fw.clr b2
   have t3:=Fw.clr b3
   have u9:=Fw.clr p9
   have u10:=Fw.clr p10
   have u11:=Fw.clr p11
   have v9:=Fw.clr q9
   have v10:=Fw.clr q10
   have v11:=Fw.clr q11
   clear a0 a1 a2 a3 b0 b1 b2 b3 p9 p10 p11 q9 q10 q11
   go_wp2
   refine qb ?_
   repeat(go_big_quiet_step (first | (with_reducible exact HQ.out _ _) | (with_reducible exact HQ2.out _ _)))
   refine qn fun dq oq=>?_
   clear r0 r1 r2 r3 t0 t1 t2 t3 u9 u10 u11 v9 v10 v11 HQ HQ2
   have Eq0:Ext wr (grow (redrawn wr dq) oq):=brg wr dq oq
   generalize grow (redrawn wr dq) oq=wq at Eq0
   obtain⟨y0,y1,y2,y3,y4,y5,y6,y7⟩:=HKO.out wq Eq0
   go_wp2
   go_loopw [115] (fun jv wd=>∃j:Nat,j<=os.length/\jv=.int .i64 j/\Ext wr wd) (fun jv _=>os.length - (intOf jv).toNat)
   case atStart=>exact⟨0,Zu _,rfl,Eq0⟩
   case round=>as_aux_lemma=>
    obtain⟨j,hj,rfl,hEj⟩:=hrel
    clear y0 y1 y2 y3 y4 y5 y6 y7
    by_cases hjl:j<os.length
    ·have j1:(j:Int)<(os.length:Int):=by omega
     obtain⟨k1,k2⟩:=HOS.out _ hEj
     obtain⟨g7,o7,ro,rc,fo,fc,hao,hg7,c0,c1,c2,c3,c4,hr,hf⟩:=k1.getG hjl
     obtain⟨g8,o8,ro',rc',fo',fc',hao',hg8,d0,d1,d2,d3,d4,hr',hf'⟩:=k2.getG hjl
     have hom:=HOD.out.2 (os.getD j Wir.od0) (by rw[Zt,List.getElem?_eq_getElem hjl];exact List.getElem_mem hjl)
     obtain⟨y0,y1,y2,y3,y4,y5,y6,y7⟩:=HKO.out _ hEj
     rw[hao] at y2
     rw[hao'] at y3
     clear hao hao' k1 k2
     generalize os.getD j Wir.od0=od at c0 c1 c2 c3 c4 d0 d1 d2 d3 d4 hr hf hr' hf' hom
     obtain⟨m1,m2,m3⟩:=hom
     have HQ:Hid (∀d us,Calls prog 17 #[.agg #[.int .i64 od.k,.int .i64 od.n,.int .i64 od.v,.slice ro od.rs.length rc,.slice fo od.fs.length fc],.agg #[.int .i64 od.k,.int .i64 od.n,.int .i64 od.v,.slice ro' od.rs.length rc',.slice fo' od.fs.length fc']] (grow (redrawn wr d) us) fun e w''=>e=.returned (.bool true)/\∃p:Regrown,w''=grow (redrawn wr p.d) p.os):=fun d us=>
      Calls.regrown_of (Wi.q9h od ro fo ro' fo' rc fc rc' fc' _ ⟨hr.ext (brg _ d us),hf.ext (brg _ d us),m1,by omega,by omega⟩ ⟨hr'.ext (brg _ d us),hf'.ext (brg _ d us),m1,by omega,by omega⟩)
     have r0:=Fw.clr c0
     have r1:=Fw.clr c1
     have r2:=Fw.clr c2
     have r3:=Fw.clr c3
     have r4:=Fw.clr c4
     have t0:=Fw.clr d0
     have t1:=Fw.clr d1
     have t2:=Fw.clr d2
     have t3:=Fw.clr d3
     have t4:=Fw.clr d4
     have u0:=Fw.clr y0
     have u1:=Fw.clr y1
     have u2:=Fw.clr y2
     have u3:=Fw.clr y3
     clear c0 c1 c2 c3 c4 d0 d1 d2 d3 d4 y0 y1 y2 y3 hr hf hr' hf' m1 m2 m3
     go_wp2
     refine qb ?_
     repeat(go_big_quiet_step (with_reducible exact HQ.out _ _))
     refine qn fun dq oq=>?_
     clear r0 r1 r2 r3 r4 t0 t1 t2 t3 t4 u0 u1 u2 u3 HQ
     go_wp2
     exact⟨⟨j+1,by omega,by go_num,hEj.trans (brg _ dq oq)⟩,by simp[intOf];omega⟩
    ·have j1:¬(j:Int)<(os.length:Int):=by omega
     go_wp2
     exact⟨⟨k+1,by omega,by go_num,hE.trans hEj⟩,by simp[intOf];omega⟩
  ·have i1:¬(k:Int)<(W.sw.length:Int):=by omega
   have p12:=Qb bA 12
   have q12:=Qb bB 12
   simp only[List.getElem?_toArray,List.getElem?_cons_zero,List.getElem?_cons_succ] at p12 q12
   clear bA bB
   go_wp2
   go_loopw [141] (fun iv wd=>∃k:Nat,k<=W.pk.length/\iv=.int .i64 k/\Ext Z wd) (fun iv _=>W.pk.length - (intOf iv).toNat)
   case atStart=>exact⟨0,Zu _,rfl,hE⟩
   case round=>as_aux_lemma=>
    clear hlt hk i1 p12 q12 lA lB
    obtain⟨j,hj,rfl,hEj⟩:=hrel
    obtain⟨bA,bB,lA,lB⟩:=HBK.out _ hEj
    by_cases hjl:j<W.pk.length
    ·have i1:(j:Int)<(W.pk.length:Int):=by omega
     have hpl:=HS.out.pkl
     obtain⟨g1,o1,tO,tc,hko,hg1,a0,a1,a2,a3,hT⟩:=(HA2.out _ hEj).pkG hjl
     obtain⟨g2,o2,tO',tc',hko',hg2,b0,b1,b2,b3,hT'⟩:=(HB2.out _ hEj).pkG hjl
     have h8:=HS.out.pk j hjl
     generalize W.pk.getD j Q8=x at a0 a1 a2 a3 b0 b1 b2 b3 hT hT' h8
     have HIN:Hid (∀V,Ext wr V->Calls prog 16 #[.slice tO x.tr.length tc,.slice tO' x.tr.length tc'] V fun e w'=>e=.returned (.bool true)/\Ext V w'):=fun V hV=>z6b x.tr tO tO' tc tc' V (hT.ext hV) (hT'.ext hV) (by omega)
     clear hT hT' h8
     have p12:=Qb bA 12
     have q12:=Qb bB 12
     simp only[List.getElem?_toArray,List.getElem?_cons_zero,List.getElem?_cons_succ] at p12 q12
     clear bA bB
     rw[hko] at p12
     rw[hko'] at q12
     clear hko hko'
     obtain⟨fl,ve,tr,dn⟩:=x
     simp only at a0 a1 a2 a3 b0 b1 b2 b3 HIN
     have hEr:=Ext.refl wr
     go_wp2
     go_region
     all_goals
      go_wp2_with fail
      refine Calls.mono (HIN.out _ ((hEr.alloc _).alloc _).drew) ?_
      rintro e w3 ⟨rfl,E3⟩
      have hE3:=hEj.trans ((((hEr.alloc _).alloc _).drew).trans E3)
      clear E3
      go_wp2
      exact⟨⟨j+1,by omega,by go_num,hE3⟩,by simp[intOf];omega⟩
    ·have i1:¬(j:Int)<(W.pk.length:Int):=by omega
     have p13:=Qb bA 13
     have q13:=Qb bB 13
     simp only[List.getElem?_toArray,List.getElem?_cons_zero,List.getElem?_cons_succ] at p13 q13
     clear bA bB
     go_wp2
     go_loopw [185] (fun iv wd=>∃k:Nat,k<=W.pn.length/\iv=.int .i64 k/\Ext Z wd) (fun iv _=>W.pn.length - (intOf iv).toNat)
     case atStart=>exact⟨0,Zu _,rfl,hEj⟩
     case round=>as_aux_lemma=>
      clear hjl hj i1 p13 q13 lA lB
      obtain⟨m,hm,rfl,hEm⟩:=hrel
      obtain⟨bA,bB,lA,lB⟩:=HBK.out _ hEm
      by_cases hml:m<W.pn.length
      ·have i1:(m:Int)<(W.pn.length:Int):=by omega
       have hpl:=HS.out.pnl
       obtain⟨g1,o1,pa,hlo,hg1,a0,a1,a2,hP⟩:=(HA2.out _ hEm).pnG hml
       obtain⟨g2,o2,pb,hlo',hg2,b0,b1,b2,hP'⟩:=(HB2.out _ hEm).pnG hml
       have hok:=HS.out.pn m hml
       generalize W.pn.getD m pl0=x at a0 a1 a2 b0 b1 b2 hP hP' hok
       have HQ:Hid (∀d us,Calls prog 18 #[.agg #[.int .i64 x.v,.slice pa.fo x.fs.length pa.fc,.slice pa.qo x.ps.length pa.qc],.agg #[.int .i64 x.v,.slice pb.fo x.fs.length pb.fc,.slice pb.qo x.ps.length pb.qc]] (grow (redrawn wr d) us) fun e w''=>e=.returned (.bool true)/\∃p:Regrown,w''=grow (redrawn wr p.d) p.os):=fun d us=>
        Calls.regrown_of (z8k x pa pb _ (hP.ext (brg _ d us)) (hP'.ext (brg _ d us)) hok)
       clear hP hP' hok
       have p13:=Qb bA 13
       have q13:=Qb bB 13
       simp only[List.getElem?_toArray,List.getElem?_cons_zero,List.getElem?_cons_succ] at p13 q13
       clear bA bB
       rw[hlo] at p13
       rw[hlo'] at q13
       clear hlo hlo'
       have r0:=Fw.clr a0
       have r1:=Fw.clr a1
       have r2:=Fw.clr a2
       have t0:=Fw.clr b0
       have t1:=Fw.clr b1
       have t2:=Fw.clr b2
       have u0:=Fw.clr p13
       have u1:=Fw.clr q13
       clear a0 a1 a2 b0 b1 b2 p13 q13
       go_wp2
       refine qb ?_
       repeat(go_big_quiet_step (with_reducible exact HQ.out _ _))
       refine qn fun dq oq=>?_
       clear r0 r1 r2 t0 t1 t2 u0 u1 HQ
       go_wp2
       exact⟨⟨m+1,by omega,by go_num,hEm.trans (brg _ dq oq)⟩,by simp[intOf];omega⟩
      ·have i1:¬(m:Int)<(W.pn.length:Int):=by omega
       go_wp2
       go_ret
       exact⟨rfl,HE0.out.trans hEm⟩
end Rm
end Go.Proofs.YthkpbefnkmmaiaaGreat
