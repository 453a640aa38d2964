/- What SameOrder answers of two orders that are the same. -/
import Derived.Test.YthkpbefnkmmaiaaGreatU25
import Derived.Test.YthkpbefnkmmaiaaGreatU03
import Derived.Lib.QuietBelow
import Derived.Test.YthkpbefnkmmaiaaGreatU07
import Derived.Test.YthkpbefnkmmaiaaGreatU14
import Derived.Test.YthkpbefnkmmaiaaGreatU20
import Derived.Test.YthkpbefnkmmaiaaGreatU30
import Derived.Test.YthkpbefnkmmaiaaGreatU10
import Derived.Test.YthkpbefnkmmaiaaGreatU02
namespace Go.Proofs.YthkpbefnkmmaiaaGreat.Rm
open Go.RowKit Go.Deep Stw Stp Tb Rul Ct
structure WdSm (n:Nat) (W:Wd):Prop where
 n8:n≤8
 co:CoOk W.co
 lsw:W.sw.length=n
 lod:W.od.length=n
 lbk:W.bk.length=n
 od:∀s,s<n→(W.od.getD s []).length≤1∧∀o∈W.od.getD s [],I64 o.k∧o.rs.length≤16∧o.fs.length≤12
 bk:∀s,s<n→(W.bk.getD s []).length≤1
 pkl:W.pk.length≤40
 pk:∀i,i<W.pk.length→(W.pk.getD i pk0).tr.length≤8
 pnl:W.pn.length≤1000
 pn:∀i,i<W.pn.length→PlOk (W.pn.getD i pl0)
theorem ord_k {c:Co} {s:Nat} {o:Wir.Od} (h:ordC c s=some o):o.k=1∨o.k=2∨o.k=3:=by
 unfold ordC at h
 split at h
 ·unfold addO at h
  split at h
  ·cases h
  ·cases h;exact Or.inl rfl
 ·split at h
  ·unfold stpO at h
   split at h
   ·cases h
   ·cases h;exact Or.inr (Or.inl rfl)
  ·split at h
   ·unfold drpO at h
    split at h
    ·cases h
    ·cases h;exact Or.inr (Or.inr rfl)
   ·cases h
theorem Inv.sm {n:Nat} {ls:List Lk} {t:Nat} {W:Wd} (h:Inv n ls t W) (ht:t≤1000):WdSm n W:=by
 refine⟨h.n8.2,h.small ht,h.lsw,h.lod,h.lbk,fun s hs=>?_,fun s hs=>?_,h.pkl,fun i hi=>?_,by have:=h.pl;omega,fun i hi=>(h.pls i hi).ok⟩
 ·rcases h.dyn.core.sws s hs with⟨e,_,_⟩ | ⟨o,k,e1,e2,e3,e4⟩ | ⟨k,e,_,_⟩
  ·rw[e];exact⟨by simp,fun o ho=>by cases ho⟩
  ·have hk:=h.dyn.core.nle k ((h.dyn.core.wmem k).2 ⟨s,hs,by rw[e2];simp[pend,nmb]⟩)
   have hnum:=h.num
   have hr:=ord_right (k:=k) h.ok e1 hs hk.1 (by omega)
   rw[e2]
   refine⟨by simp,fun x hx=>?_⟩
   rw[List.mem_singleton.1 hx]
   refine⟨?_,hr.2.1,hr.2.2⟩
   show I64 o.k
   rcases ord_k e1 with e | e | e <;> rw[e] <;> exact i64_small (by omega) (by omega)
  ·rw[e];exact⟨by simp,fun o ho=>by cases ho⟩
 ·rcases h.dyn.core.sws s hs with⟨_,e,_⟩ | ⟨o,k,e1,e2,e3,e4⟩ | ⟨k,_,e,_⟩
  ·rw[e];simp
  ·rw[e3];simp
  ·rw[e];simp
 ·have hp:=h.pks _ (List.getElem_mem hi)
  have e:W.pk.getD i pk0=W.pk[i]:=by rw[List.getD_eq_getElem?_getD,List.getElem?_eq_getElem hi];rfl
  rw[e]
  rcases hp with⟨_,_,x,hx,_⟩ | ⟨m,k,j,h1,_,_,_,_,_,h7⟩
  ·rw[hx];simp
  ·rw[h7]
   have:=(h.pls m h1).head.2.2 k
   rw[List.length_take];omega
end Go.Proofs.YthkpbefnkmmaiaaGreat.Rm
namespace Stf
def tup (f:Fl):Int×Int×List Int×List Int:=(f.fr,f.to,f.via,f.nt)
theorem tup_inj {f g:Fl} (h:tup f=tup g):f=g:=by
 cases f;cases g
 simp only[tup,Prod.mk.injEq] at h
 obtain⟨h1,h2,h3,h4⟩:=h
 subst h1 h2 h3 h4
 rfl
def sameF (fs gs:List Fl):Bool:=decide (fs.map tup=gs.map tup)
theorem map_inj:∀{fs gs:List Fl},fs.map tup=gs.map tup→fs=gs
 | [],[],_=>rfl
 | [],_::_,h=>by cases h
 | _::_,[],h=>by cases h
 | f::fs,g::gs,h=>by
  simp only[List.map_cons,List.cons.injEq] at h
  rw[tup_inj h.1,map_inj h.2]
theorem sameF_true {fs gs:List Fl} (h:fs=gs):sameF fs gs=true:=decide_eq_true (by rw[h])
theorem sameF_false {fs gs:List Fl} (h:fs≠gs):sameF fs gs=false:=decide_eq_false (fun e=>h (map_inj e))
end Stf
namespace Go.Proofs.YthkpbefnkmmaiaaGreat.Fw
open Go.RowKit Go.Maps Stf Go.Sort
theorem cell_lt' {w:World} {a:Addr} {v:Value} (h:w.cell? a=some v):a.block<w.heap.size:=by
 rcases Nat.lt_or_ge a.block w.heap.size with h1 | h1
 ·exact h1
 ·have:w.heap[a.block]? =none:=by simp[h1]
  simp[World.cell?,this] at h
theorem cell_regrown {w:World} {a:Addr} {v:Value} (h:w.cell? a=some v) (d:Nat) (os:Array Obj):(grow (redrawn w d) os).cell? a=some v:=(Below.cell (below_regrown w d os) (cell_lt' h)).trans h
theorem same_diff (ao bo:Option Addr) (la lb c1 c2:Nat) (w:World) (h:la≠lb):
 Calls Tryz.prog 37 #[.slice ao la c1,.slice bo lb c2] w fun e w'=>e=.returned (.bool false)∧w'=w:=by
 have h':((la:Int) == (lb:Int))=false:=by simp;omega
 go_enter Tryz.func37,Tryz.ntmps37
 go_wp2
 go_ret
 exact⟨rfl,rfl⟩
theorem ne_at {fs gs:List Fl} {k:Nat} {a t a' t':Int} {X Y X' Y':List Int} (h1:fs.getD k f0=⟨a,t,X,Y⟩) (h2:gs.getD k f0=⟨a',t',X',Y'⟩) (h:¬(a=a'∧t=t'∧X=X'∧Y=Y')):sameF fs gs=false:=by
 refine sameF_false ?_
 rintro rfl
 rw[h1] at h2
 simp only[Fl.mk.injEq] at h2
 exact h h2
set_option maxRecDepth 100000 in
set_option maxHeartbeats 4000000 in
theorem same_some (ao bo:Option Addr) (n c1 c2:Nat) (fs gs:List Fl) (w:World) (ha:fs.length=n) (hb:gs.length=n) (hn:n≤4611686018427387904) (h1:FlowsAt w ao fs) (h2:FlowsAt w bo gs) (hS:Sm fs):
 Calls Tryz.prog 37 #[.slice ao n c1,.slice bo n c2] w fun e w'=>e=.returned (.bool (sameF fs gs))∧Ext w w':=by
 go_enter Tryz.func37,Tryz.ntmps37
 go_wp2
 go_loopw [13] (fun i wr=>∃k:Nat,k≤n∧i=.int .i64 k∧(∀j,j<k→fs.getD j f0=gs.getD j f0)∧Ext w wr) (fun i _=>n - (intOf i).toNat)
 case atStart=>exact⟨0,Nat.zero_le _,rfl,fun j hj=>by omega,Ext.refl w⟩
 case round=>
  obtain⟨k,hk,rfl,hpre,hext⟩:=hrel
  by_cases hlt:k<n
  ·obtain⟨b,off,vo,vc,no,nc,a,t,X,Y,rfl,hbk,hg,d0,d1,d2,d3,hv,hnn⟩:=(h1.ext hext).get (k:=k) (by omega)
   obtain⟨b',off',vo',vc',no',nc',a',t',X',Y',rfl,hbk',hg',d0',d1',d2',d3',hv',hnn'⟩:=(h2.ext hext).get (k:=k) (by omega)
   have hsm:=hS.get (k:=k) (by omega) hg
   have HP:=hid hpre
   have HG:=hid hg
   have HG':=hid hg'
   have g0:=cell_regrown d0
   have g1:=cell_regrown d1
   have g2:=cell_regrown d2
   have g3:=cell_regrown d3
   have q0:=cell_regrown d0'
   have q1:=cell_regrown d1'
   have q2:=cell_regrown d2'
   have q3:=cell_regrown d3'
   have i1:(k:Int)<(n:Int):=by omega
   obtain⟨_,_,e1,lv,_⟩:=hv
   obtain⟨_,_,e2,ln,_⟩:=hnn
   obtain⟨_,_,e1',lv',_⟩:=hv'
   obtain⟨_,_,e2',ln',_⟩:=hnn'
   cases e1;cases e2;cases e1';cases e2'
   obtain⟨β2,hβ2⟩:∃β,β=decide (X=X'):=⟨_,rfl⟩
   obtain⟨β3,hβ3⟩:∃β,β=decide (Y=Y'):=⟨_,rfl⟩
   have HQ:Hid (∀d os,Calls Tryz.prog 16 #[.slice vo X.length vc,.slice vo' X'.length vc'] (grow (redrawn wr d) os) fun e w''=>e=.returned (.bool β2)∧∃p:Regrown,w''=grow (redrawn wr p.d) p.os):=fun d os=>
    Calls.regrown_of (by rw[hβ2];exact Ints_any vo vo' X.length X'.length vc vc' X X' _ rfl rfl hsm.1 (lv.ext (below_regrown wr d os)) (lv'.ext (below_regrown wr d os)))
   have HQ2:Hid (∀d os,Calls Tryz.prog 16 #[.slice no Y.length nc,.slice no' Y'.length nc'] (grow (redrawn wr d) os) fun e w''=>e=.returned (.bool β3)∧∃p:Regrown,w''=grow (redrawn wr p.d) p.os):=fun d os=>
    Calls.regrown_of (by rw[hβ3];exact Ints_any no no' Y.length Y'.length nc nc' Y Y' _ rfl rfl hsm.2 (ln.ext (below_regrown wr d os)) (ln'.ext (below_regrown wr d os)))
   have HB2:=hid hβ2
   have HB3:=hid hβ3
   clear hβ2 hβ3 hpre hg hg' d0 d1 d2 d3 d0' d1' d2' d3' lv ln lv' ln'
   cases r0:(a != a')
   ·have ea:a=a':=by simpa using r0
    have EA:=hid ea
    clear ea
    cases r1:(t != t')
    ·have et:t=t':=by simpa using r1
     have ET:=hid et
     clear et
     cases β2
     ·go_wp2
      refine wp_region_quiet_below (by kernel_rfl) (by kernel_rfl) ?_
      repeat(go_big_quiet_step (first | (with_reducible exact HQ.out _ _) | (with_reducible exact HQ2.out _ _)))
      refine wpQuiet_nil ?_
      intro _ hw'
      obtain⟨⟨dq,oq⟩,hw''⟩:=hw'
      subst hw''
      clear g0 g1 g2 g3 q0 q1 q2 q3 HQ HQ2
      go_wp2
      go_ret
      exact⟨by rw[ne_at HG.out HG'.out (fun h=>by have:=HB2.out;simp[h.2.2.1] at this)];rfl,hext.trans (below_regrown wr dq oq)⟩
     ·cases β3
      ·go_wp2
       refine wp_region_quiet_below (by kernel_rfl) (by kernel_rfl) ?_
       repeat(go_big_quiet_step (first | (with_reducible exact HQ.out _ _) | (with_reducible exact HQ2.out _ _)))
       refine wpQuiet_nil ?_
       intro _ hw'
       obtain⟨⟨dq,oq⟩,hw''⟩:=hw'
       subst hw''
       clear g0 g1 g2 g3 q0 q1 q2 q3 HQ HQ2
       go_wp2
       go_ret
       exact⟨by rw[ne_at HG.out HG'.out (fun h=>by have:=HB3.out;simp[h.2.2.2] at this)];rfl,hext.trans (below_regrown wr dq oq)⟩
      ·go_wp2
       refine wp_region_quiet_below (by kernel_rfl) (by kernel_rfl) ?_
       repeat(go_big_quiet_step (first | (with_reducible exact HQ.out _ _) | (with_reducible exact HQ2.out _ _)))
       refine wpQuiet_nil ?_
       intro _ hw'
       obtain⟨⟨dq,oq⟩,hw''⟩:=hw'
       subst hw''
       clear g0 g1 g2 g3 q0 q1 q2 q3 HQ HQ2
       go_wp2
       refine⟨⟨k+1,by omega,by go_num,fun j hj=>?_,hext.trans (below_regrown wr dq oq)⟩,by simp[intOf];omega⟩
       by_cases e:j=k
       ·subst e
        rw[HG.out,HG'.out,EA.out,ET.out,of_decide_eq_true HB2.out.symm,of_decide_eq_true HB3.out.symm]
       ·exact HP.out j (by omega)
    ·go_wp2
     refine wp_region_quiet_below (by kernel_rfl) (by kernel_rfl) ?_
     repeat(go_big_quiet_step (first | (with_reducible exact HQ.out _ _) | (with_reducible exact HQ2.out _ _)))
     refine wpQuiet_nil ?_
     intro _ hw'
     obtain⟨⟨dq,oq⟩,hw''⟩:=hw'
     subst hw''
     clear g0 g1 g2 g3 q0 q1 q2 q3 HQ HQ2
     go_wp2
     go_ret
     exact⟨by rw[ne_at HG.out HG'.out (fun h=>by simp[h.2.1] at r1)];rfl,hext.trans (below_regrown wr dq oq)⟩
   ·go_wp2
    refine wp_region_quiet_below (by kernel_rfl) (by kernel_rfl) ?_
    repeat(go_big_quiet_step (first | (with_reducible exact HQ.out _ _) | (with_reducible exact HQ2.out _ _)))
    refine wpQuiet_nil ?_
    intro _ hw'
    obtain⟨⟨dq,oq⟩,hw''⟩:=hw'
    subst hw''
    clear g0 g1 g2 g3 q0 q1 q2 q3 HQ HQ2
    go_wp2
    go_ret
    exact⟨by rw[ne_at HG.out HG'.out (fun h=>by simp[h.1] at r0)];rfl,hext.trans (below_regrown wr dq oq)⟩
  ·have heq:sameF fs gs=true:=by
    refine sameF_true ?_
    refine List.ext_getElem (by omega) (fun j j1 j2=>?_)
    have:=hpre j (by omega)
    simpa[List.getD_eq_getElem?_getD,j1,j2] using this
   have HEQ:=hid heq
   clear heq
   go_wp2
   go_ret
   exact⟨by rw[HEQ.out];rfl,hext⟩
theorem SameFlows_any (ao bo:Option Addr) (la lb c1 c2:Nat) (fs gs:List Fl) (w:World) (ha:fs.length=la) (hb:gs.length=lb) (hn:la≤4611686018427387904) (h1:FlowsAt w ao fs) (h2:FlowsAt w bo gs) (hS:Sm fs):
 Calls Tryz.prog 37 #[.slice ao la c1,.slice bo lb c2] w fun e w'=>e=.returned (.bool (sameF fs gs))∧Ext w w':=by
 by_cases hab:la=lb
 ·subst hab
  exact same_some ao bo la c1 c2 fs gs w ha hb hn h1 h2 hS
 ·refine(same_diff ao bo la lb c1 c2 w hab).mono ?_
  rintro e w' ⟨rfl,rfl⟩
  have:sameF fs gs=false:=by
   refine sameF_false ?_
   rintro rfl
   omega
  exact⟨by rw[this],Ext.refl _⟩
end Go.Proofs.YthkpbefnkmmaiaaGreat.Fw
namespace Go.Proofs.YthkpbefnkmmaiaaGreat
open Go.RowKit Go.Maps Stw Go.Deep Stp Go.Sort
set_option maxRecDepth 100000 in
set_option maxHeartbeats 4000000 in
theorem SamePlan_same (v:Int) (fo go qo ro:Option Addr) (fl ql fc gc qc rc:Nat) (fs:List Stf.Fl) (ps:List (List Int)) (w:World) (hfl:fs.length=fl) (hfx:fl≤4611686018427387904) (hf:Fw.FlowsAt w fo fs) (hg:Fw.FlowsAt w go fs) (hS:Fw.Sm fs)
 (hql:ps.length=ql) (hqx:ql≤4611686018427387904) (hq:PthsAt w qo ps) (hr:PthsAt w ro ps) (hP:∀i,i<ps.length→(ps.getD i []).length≤4611686018427387904):
 Calls Tryz.prog 18 #[.agg #[.int .i64 v,.slice fo fl fc,.slice qo ql qc],.agg #[.int .i64 v,.slice go fl gc,.slice ro ql rc]] w fun e w'=>e=.returned (.bool true)∧Ext w w':=by
 have hE0:Ext w ((w.alloc (.cells #[.int .i64 v,.slice fo fl fc,.slice qo ql qc] 29)).alloc (.cells #[.int .i64 v,.slice go fl gc,.slice ro ql rc] 29)):=((Ext.refl w).alloc _).alloc _
 go_enter Tryz.func18,Tryz.ntmps18
 go_wp2_with fail
 refine(Fw.SameFlows_any fo go fl fl fc gc fs fs _ hfl hfl hfx (hf.ext hE0) (hg.ext hE0) hS).mono ?_
 rintro e w1 ⟨rfl,E1⟩
 rw[Stf.sameF_true rfl]
 have hE1:Ext w w1:=hE0.trans E1
 have hs1:w.heap.size+1<w1.heap.size:=by have:=E1.size;simp at this;omega
 have hs0:w.heap.size<w1.heap.size:=by omega
 have q:=E1.cells.1
 have a2:w1.cell? ⟨w.heap.size,2,none⟩=some (.slice qo ql qc):=(q _ _ (by simp;omega)).trans (by simp)
 have b2:w1.cell? ⟨w.heap.size+1,2,none⟩=some (.slice ro ql rc):=(q _ _ (by simp)).trans (by simp)
 clear q
 go_wp2_with fail
 go_loopw [31] (fun iv wr=>∃k:Nat,k≤ql∧iv=.int .i64 k∧Ext w1 wr) (fun iv _=>ql - (intOf iv).toNat)
 case atStart=>exact⟨0,Nat.zero_le _,rfl,Ext.refl w1⟩
 case round=>
  obtain⟨k,hk,rfl,hext⟩:=hrel
  have a2r:=(hext.cells.1 _ _ hs0).trans a2
  have b2r:=(hext.cells.1 _ _ hs1).trans b2
  by_cases hlt:k<ql
  ·rcases hq.ext (hE1.trans hext) with h0 | ⟨g1,o1,rfl,hg1,hc1⟩
   ·exfalso;rw[h0] at hql;simp at hql;omega
   rcases hr.ext (hE1.trans hext) with h0 | ⟨g2,o2,rfl,hg2,hc2⟩
   ·exfalso;rw[h0] at hql;simp at hql;omega
   obtain⟨v1,d1,x1,y1,rfl,l1,_⟩:=hc1 k (by omega)
   obtain⟨v2,d2,x2,y2,rfl,l2,_⟩:=hc2 k (by omega)
   have hPk:=hP k (by omega)
   obtain⟨x,hx⟩:∃x,x=ps.getD k []:=⟨_,rfl⟩
   rw[←hx] at d1 d2 l1 l2 hPk
   clear hx hc1 hc2
   have HQ:Hid (∀d os,Calls Tryz.prog 16 #[.slice x1 x.length y1,.slice x2 x.length y2] (grow (redrawn wr d) os) fun e w''=>e=.returned (.bool true)∧∃p:Regrown,w''=grow (redrawn wr p.d) p.os):=fun d os=>by
    have:=Ints_any x1 x2 _ _ y1 y2 x x (grow (redrawn wr d) os) rfl rfl hPk (l1.ext (below_regrown wr d os)) (l2.ext (below_regrown wr d os))
    rw[decide_eq_true rfl] at this
    exact Calls.regrown_of this
   have g1':=Fw.cell_regrown a2r
   have g2':=Fw.cell_regrown b2r
   have g3':=Fw.cell_regrown d1
   have g4':=Fw.cell_regrown d2
   have i1:(k:Int)<(ql:Int):=by omega
   clear d1 d2 l1 l2
   go_wp2
   refine wp_region_quiet_below (by kernel_rfl) (by kernel_rfl) ?_
   repeat(go_big_quiet_step (with_reducible exact HQ.out _ _))
   refine wpQuiet_nil ?_
   intro _ hw'
   obtain⟨⟨dq,oq⟩,hw''⟩:=hw'
   subst hw''
   clear g1' g2' g3' g4' HQ
   go_wp2
   refine⟨⟨k+1,by omega,by go_num,hext.trans (below_regrown wr dq oq)⟩,by simp[intOf];omega⟩
  ·have i1:¬(k:Int)<(ql:Int):=by omega
   go_wp2
   go_ret
   exact⟨rfl,hE1.trans hext⟩
end Go.Proofs.YthkpbefnkmmaiaaGreat
namespace Go.Proofs.YthkpbefnkmmaiaaGreat.Ct
open Go.RowKit Go.Deep Stw Stp Tb Rul
set_option maxRecDepth 100000 in
set_option maxHeartbeats 4000000 in
theorem SameControl_same (c:Co) (a a':CA) (w:World) (h:CoAt w c a) (h':CoAt w c a') (hok:CoOk c):
 Calls Tryz.prog 14 #[cvl c a,cvl c a'] w fun e w'=>e=.returned (.bool true)∧Ext w w':=by
 have HA:=hidp h
 have HB:=hidp h'
 have HN:=hidp hok.n
 have HX:=hidp hok.x
 have hwl:=hok.w
 clear h h' hok
 unfold cvl
 go_enter Tryz.func14,Tryz.ntmps14
 go_upto_region 1 with fail
 obtain⟨B,hB⟩:∃B,B=(w.alloc (.cells #[.int .i64 c.st,.int .i64 c.now.v,.slice a.n.fo c.now.fs.length a.n.fc,.slice a.n.qo c.now.ps.length a.n.qc,.int .i64 c.nxt.v,.slice a.x.fo c.nxt.fs.length a.x.fc,.slice a.x.qo c.nxt.ps.length a.x.qc,.int .i64 c.num,.slice a.wo c.wts.length a.wc] 32)).alloc (.cells #[.int .i64 c.st,.int .i64 c.now.v,.slice a'.n.fo c.now.fs.length a'.n.fc,.slice a'.n.qo c.now.ps.length a'.n.qc,.int .i64 c.nxt.v,.slice a'.x.fo c.nxt.fs.length a'.x.fc,.slice a'.x.qo c.nxt.ps.length a'.x.qc,.int .i64 c.num,.slice a'.wo c.wts.length a'.wc] 32):=⟨_,rfl⟩
 have hE0:Ext w B:=by rw[hB];exact((Ext.refl w).alloc _).alloc _
 have HK:Hid (∀V,Ext B V→BX V w.heap.size (coL c a)∧BX V (w.heap.size+1) (coL c a')∧w.heap.size<V.heap.size∧w.heap.size+1<V.heap.size):=fun V hV=>by
  have r0:BX B w.heap.size (coL c a):=by rw[hB];exact World.rowIs.alloc (box_row rfl _ _ _ _ _ _ _ _ _) _
  have r1:BX B (w.heap.size+1) (coL c a'):=by rw[hB];exact box_row (by simp) _ _ _ _ _ _ _ _ _
  have l0:=World.rowIs.lt r0
  have l1:=World.rowIs.lt r1
  exact⟨World.rowIs.of_block r0 (Below.block hV _ l0),World.rowIs.of_block r1 (Below.block hV _ l1),Nat.lt_of_lt_of_le l0 hV.size,Nat.lt_of_lt_of_le l1 hV.size⟩
 rw[←hB]
 clear hB
 have sm:∀p:Pl,PlOk p→Fw.Sm p.fs:=fun p hp k hk=>by have:=hp.sm _ (List.getElem_mem hk);omega
 have gd:∀p:Pl,PlOk p→∀i,i<p.ps.length→(p.ps.getD i []).length≤4611686018427387904:=fun p hp i _=>by have h1:=getD_sum (ps:=p.ps) (i:=i);have:=hp.tt;omega
 have HS1:=hidp (fun V (hV:Ext B V)=>SamePlan_same c.now.v a.n.fo a'.n.fo a.n.qo a'.n.qo c.now.fs.length c.now.ps.length a.n.fc a'.n.fc a.n.qc a'.n.qc c.now.fs c.now.ps V rfl (by have:=HN.out.fl;omega) (HA.out.hn.hf.ext (hE0.trans hV)) (HB.out.hn.hf.ext (hE0.trans hV)) (sm _ HN.out) rfl (by have:=HN.out.ql;omega) (HA.out.hn.hq.ext (hE0.trans hV)) (HB.out.hn.hq.ext (hE0.trans hV)) (gd _ HN.out))
 have HS2:=hidp (fun V (hV:Ext B V)=>SamePlan_same c.nxt.v a.x.fo a'.x.fo a.x.qo a'.x.qo c.nxt.fs.length c.nxt.ps.length a.x.fc a'.x.fc a.x.qc a'.x.qc c.nxt.fs c.nxt.ps V rfl (by have:=HX.out.fl;omega) (HA.out.hx.hf.ext (hE0.trans hV)) (HB.out.hx.hf.ext (hE0.trans hV)) (sm _ HX.out) rfl (by have:=HX.out.ql;omega) (HA.out.hx.hq.ext (hE0.trans hV)) (HB.out.hx.hq.ext (hE0.trans hV)) (gd _ HX.out))
 clear sm gd
 obtain⟨q,q',hl0,hl1⟩:=HK.out B (Ext.refl _)
 have c0:B.cell? ⟨w.heap.size,0,none⟩=some (.int .i64 c.st):=World.rowIs.cell q (i:=0) (by omega)
 have c1:B.cell? ⟨w.heap.size,1,none⟩=some (.int .i64 c.now.v):=World.rowIs.cell q (i:=1) (by omega)
 have c2:B.cell? ⟨w.heap.size,2,none⟩=some (.slice a.n.fo c.now.fs.length a.n.fc):=World.rowIs.cell q (i:=2) (by omega)
 have c3:B.cell? ⟨w.heap.size,3,none⟩=some (.slice a.n.qo c.now.ps.length a.n.qc):=World.rowIs.cell q (i:=3) (by omega)
 have c7:B.cell? ⟨w.heap.size,7,none⟩=some (.int .i64 c.num):=World.rowIs.cell q (i:=7) (by omega)
 have d0:B.cell? ⟨w.heap.size+1,0,none⟩=some (.int .i64 c.st):=World.rowIs.cell q' (i:=0) (by omega)
 have d1:B.cell? ⟨w.heap.size+1,1,none⟩=some (.int .i64 c.now.v):=World.rowIs.cell q' (i:=1) (by omega)
 have d2:B.cell? ⟨w.heap.size+1,2,none⟩=some (.slice a'.n.fo c.now.fs.length a'.n.fc):=World.rowIs.cell q' (i:=2) (by omega)
 have d3:B.cell? ⟨w.heap.size+1,3,none⟩=some (.slice a'.n.qo c.now.ps.length a'.n.qc):=World.rowIs.cell q' (i:=3) (by omega)
 have d7:B.cell? ⟨w.heap.size+1,7,none⟩=some (.int .i64 c.num):=World.rowIs.cell q' (i:=7) (by omega)
 clear q q'
 go_wp2_with fail
 refine Calls.mono (HS1.out B (Ext.refl _)) ?_
 rintro e w1 ⟨rfl,E1⟩
 clear c0 c1 c2 c3 c7 d0 d1 d2 d3 d7 HS1
 obtain⟨q,q',hl10,hl11⟩:=HK.out w1 E1
 have c4:w1.cell? ⟨w.heap.size,4,none⟩=some (.int .i64 c.nxt.v):=World.rowIs.cell q (i:=4) (by omega)
 have c5:w1.cell? ⟨w.heap.size,5,none⟩=some (.slice a.x.fo c.nxt.fs.length a.x.fc):=World.rowIs.cell q (i:=5) (by omega)
 have c6:w1.cell? ⟨w.heap.size,6,none⟩=some (.slice a.x.qo c.nxt.ps.length a.x.qc):=World.rowIs.cell q (i:=6) (by omega)
 have d4:w1.cell? ⟨w.heap.size+1,4,none⟩=some (.int .i64 c.nxt.v):=World.rowIs.cell q' (i:=4) (by omega)
 have d5:w1.cell? ⟨w.heap.size+1,5,none⟩=some (.slice a'.x.fo c.nxt.fs.length a'.x.fc):=World.rowIs.cell q' (i:=5) (by omega)
 have d6:w1.cell? ⟨w.heap.size+1,6,none⟩=some (.slice a'.x.qo c.nxt.ps.length a'.x.qc):=World.rowIs.cell q' (i:=6) (by omega)
 clear q q'
 go_wp2_with fail
 refine Calls.mono (HS2.out w1 E1) ?_
 rintro e w2 ⟨rfl,E2⟩
 have E12:=E1.trans E2
 clear c4 c5 c6 d4 d5 d6 HS2
 obtain⟨q,q',hl20,hl21⟩:=HK.out w2 E12
 have c8:w2.cell? ⟨w.heap.size,8,none⟩=some (.slice a.wo c.wts.length a.wc):=World.rowIs.cell q (i:=8) (by omega)
 have d8:w2.cell? ⟨w.heap.size+1,8,none⟩=some (.slice a'.wo c.wts.length a'.wc):=World.rowIs.cell q' (i:=8) (by omega)
 clear q q'
 go_wp2_with fail
 refine Calls.mono (Ints_any a.wo a'.wo c.wts.length c.wts.length a.wc a'.wc c.wts c.wts _ rfl rfl (by omega) (HA.out.hw.ext (hE0.trans E12)) (HB.out.hw.ext (hE0.trans E12))) ?_
 rintro e w3 ⟨he,E3⟩
 rw[show decide (c.wts=c.wts)=true from decide_eq_true rfl] at he
 subst he
 go_wp2
 go_ret
 exact⟨rfl,hE0.trans (E12.trans E3)⟩
end Go.Proofs.YthkpbefnkmmaiaaGreat.Ct
namespace Go.Proofs.YthkpbefnkmmaiaaGreat.Ag
open Go.RowKit Go.Deep Tb Rul
set_option maxRecDepth 100000 in
set_option maxHeartbeats 800000 in
theorem SameSwitch_same (s:Agt.Sw) (ro so ro' so':Option Addr) (rc sc rc' sc':Nat) (w:World) (h:SwAt w s ro so rc) (h':SwAt w s ro' so' rc'):
 Calls Tryz.prog 15 #[svl s ro so rc sc,svl s ro' so' rc' sc'] w fun e w'=>e=.returned (.bool true)∧Ext w w':=by
 obtain⟨rs,st⟩:=s
 unfold svl
 have hsl:st.length*16≤140737488351232:=h.sl
 have hrl:rs.length*24≤140737488351232:=h.rl
 have HS:Hid (StAt w so st):=h.hs
 have HS':Hid (StAt w so' st):=h'.hs
 have HR:Hid (RsAt w ro rs):=h.hr.hat
 have HR':Hid (RsAt w ro' rs):=h'.hr.hat
 clear h h'
 go_enter Tryz.func15,Tryz.ntmps15
 go_wp2_with fail
 obtain⟨B,hB⟩:∃B,B=(w.alloc (.cells #[.slice ro rs.length rc,.slice so st.length sc] 64)).alloc (.cells #[.slice ro' rs.length rc',.slice so' st.length sc'] 64):=⟨_,rfl⟩
 have hE0:Ext w B:=by rw[hB];exact((Ext.refl w).alloc _).alloc _
 have HK:Hid (∀W,Ext B W→W.cell? ⟨w.heap.size,1,none⟩=some (.slice so st.length sc)∧W.cell? ⟨w.heap.size+1,1,none⟩=some (.slice so' st.length sc')):=fun W hW=>by
  have l0:w.heap.size<B.heap.size:=by rw[hB];simp;omega
  have l1:w.heap.size+1<B.heap.size:=by rw[hB];simp
  exact⟨(hW.cells.1 _ _ l0).trans (by rw[hB];simp),(hW.cells.1 _ _ l1).trans (by rw[hB];simp)⟩
 rw[←hB]
 clear hB
 refine(SameRules_same ro ro' rs.length rc rc' rs _ rfl (RsAt.ext HR.out hE0) (RsAt.ext HR'.out hE0) (by omega)).mono ?_
 rintro e w1 ⟨rfl,E1⟩
 obtain⟨q0,q1⟩:=HK.out _ E1
 go_wp2
 go_loopw [24] (fun iv wd=>∃k:Nat,k≤st.length∧iv=.int .i64 k∧Ext B wd) (fun iv _=>st.length - (intOf iv).toNat)
 case atStart=>exact⟨0,Nat.zero_le _,rfl,E1⟩
 case round=>
  obtain⟨k,hk,rfl,hE⟩:=hrel
  clear q0 q1
  have hEw:=hE0.trans hE
  by_cases hlt:k<st.length
  ·obtain⟨g,off,rfl,hg,hcs⟩:=(StAt.ext HS.out hEw).get hlt
   obtain⟨g',off',rfl,hg',hcs'⟩:=(StAt.ext HS'.out hEw).get hlt
   obtain⟨q0,q1⟩:=HK.out _ hE
   have i1:(k:Int)<(st.length:Int):=by omega
   obtain⟨c0,c1⟩:=hcs k hlt
   obtain⟨d0,d1⟩:=hcs' k hlt
   obtain⟨x,hx⟩:∃x,st.getD k s0=x:=⟨_,rfl⟩
   rw[hx] at c0 c1 d0 d1
   clear hx hcs hcs'
   go_wp2
   go_region
   go_wp2
   exact⟨⟨k+1,by omega,by go_num,hE.drew⟩,by simp[intOf];omega⟩
  ·have i1:¬(k:Int)<(st.length:Int):=by omega
   go_wp2
   go_ret
   exact⟨rfl,hEw⟩
end Go.Proofs.YthkpbefnkmmaiaaGreat.Ag
namespace Go.Proofs.YthkpbefnkmmaiaaGreat.Wi
open Go.RowKit Go.Maps Go.Deep Go.Sort Tb Rul
set_option maxRecDepth 100000 in
set_option maxHeartbeats 800000 in
theorem SameOrder_same (o:Wir.Od) (ro fo ro' fo':Option Addr) (rc fc rc' fc':Nat) (w:World) (h:OAt w o ro fo) (h':OAt w o ro' fo'):
 Calls Tryz.prog 17 #[ovl o ro fo rc fc,ovl o ro' fo' rc' fc'] w fun e w'=>e=.returned (.bool true)∧Ext w w':=by
 obtain⟨k,n,v,rs,fs⟩:=o
 unfold ovl
 have HA:Hid _:=h
 have HB:Hid _:=h'
 clear h h'
 go_enter Tryz.func17,Tryz.ntmps17
 go_wp2_with fail
 obtain⟨B,hB⟩:∃B,B=(w.alloc (.cells #[.int .i64 k,.int .i64 n,.int .i64 v,.slice ro rs.length rc,.slice fo fs.length fc] 69)).alloc (.cells #[.int .i64 k,.int .i64 n,.int .i64 v,.slice ro' rs.length rc',.slice fo' fs.length fc'] 69):=⟨_,rfl⟩
 have hE0:Ext w B:=by rw[hB];exact((Ext.refl w).alloc _).alloc _
 have HK:Hid (∀W,Ext B W→W.cell? ⟨w.heap.size,4,none⟩=some (.slice fo fs.length fc)∧W.cell? ⟨w.heap.size+1,4,none⟩=some (.slice fo' fs.length fc')):=fun W hW=>by
  have l0:w.heap.size<B.heap.size:=by rw[hB];simp;omega
  have l1:w.heap.size+1<B.heap.size:=by rw[hB];simp
  exact⟨(hW.cells.1 _ _ l0).trans (by rw[hB];simp),(hW.cells.1 _ _ l1).trans (by rw[hB];simp)⟩
 rw[←hB]
 clear hB
 refine(SameRules_same ro ro' rs.length rc rc' rs _ rfl (HA.out.hr.ext hE0) (HB.out.hr.ext hE0) HA.out.rl).mono ?_
 rintro e w1 ⟨rfl,E1⟩
 obtain⟨q0,q1⟩:=HK.out _ E1
 have hE1:=hE0.trans E1
 go_wp2_with fail
 refine(Ints_any fo fo' fs.length fs.length fc fc' fs fs _ rfl rfl HA.out.fl (HA.out.hf.ext hE1) (HB.out.hf.ext hE1)).mono ?_
 rintro e w2 ⟨he,E2⟩
 rw[show decide (fs=fs)=true from decide_eq_true rfl] at he
 subst he
 go_wp2
 go_ret
 exact⟨rfl,hE1.trans E2⟩
end Go.Proofs.YthkpbefnkmmaiaaGreat.Wi
