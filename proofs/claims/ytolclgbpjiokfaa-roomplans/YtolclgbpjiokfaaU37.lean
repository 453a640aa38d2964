/- What the document's own Serves answers, for every right net, every flow and every list; nothing that was there is changed. -/
import Derived.Test.YtolclgbpjiokfaaU01
import Derived.Test.YtolclgbpjiokfaaU02
import Derived.Lib.QuietBelow
import Derived.Test.YtolclgbpjiokfaaU03
import Derived.Test.YtolclgbpjiokfaaU05
namespace Go.Proofs.Ytolclgbpjiokfaa
open Go.RowKit Go.Maps Stw Go.Sort
theorem jn_cases2 (y:Lk) (a b:Int):((a == y.a)=true∧(b == y.b)=true∧jn y a b=true)∨((a == y.a)=true∧(b == y.b)=false∧(a == y.b)=true∧(b == y.a)=true∧jn y a b=true)∨((a == y.a)=true∧(b == y.b)=false∧(a == y.b)=true∧(b == y.a)=false∧jn y a b=false)∨
 ((a == y.a)=true∧(b == y.b)=false∧(a == y.b)=false∧jn y a b=false)∨((a == y.a)=false∧(a == y.b)=true∧(b == y.a)=true∧jn y a b=true)∨((a == y.a)=false∧(a == y.b)=true∧(b == y.a)=false∧jn y a b=false)∨((a == y.a)=false∧(a == y.b)=false∧jn y a b=false):=by
 unfold jn
 rw[BEq.comm (a:=a) (b:=y.a),BEq.comm (a:=b) (b:=y.b),BEq.comm (a:=a) (b:=y.b),BEq.comm (a:=b) (b:=y.a)]
 cases (y.a == a) <;> cases (y.b == b) <;> cases (y.a == b) <;> cases (y.b == a) <;> simp
theorem cost_at:∀{ls:List Lk} {k:Nat} {a b:Int},k<ls.length→(∀j,j<k→jn (ls.getD j lk0) a b=false)→jn (ls.getD k lk0) a b=true→cost ls a b=(ls.getD k lk0).c
 | [],_,_,_,h,_,_=>by simp at h
 | l::r,0,a,b,_,_,h=>by
  have h':jn l a b=true:=h
  simp[cost,h']
 | l::r,k+1,a,b,hk,h0,h1=>by
  have h2:jn l a b=false:=h0 0 (by omega)
  simp only[cost,h2,Bool.false_eq_true,if_false]
  have:=cost_at (ls:=r) (k:=k) (a:=a) (b:=b) (by simpa using hk) (fun j hj=>h0 (j+1) (by omega)) h1
  simpa using this
theorem cost_not:∀{ls:List Lk} {a b:Int},(∀j,j<ls.length→jn (ls.getD j lk0) a b=false)→cost ls a b=0
 | [],_,_,_=>rfl
 | l::r,a,b,h0=>by
  have h2:jn l a b=false:=h0 0 (by simp)
  simp only[cost,h2,Bool.false_eq_true,if_false]
  exact cost_not (fun j hj=>h0 (j+1) (by simp;omega))
set_option maxHeartbeats 1000000 in
theorem refCost_none (n a b:Int) (ao:Option Addr) (cap:Nat) (w:World):
 Calls Try.prog 57 #[.agg #[.int .i64 n,.slice ao 0 cap],.int .i64 a,.int .i64 b] w fun e w'=>e=.returned (.int .i64 0)∧Ext w w':=by
 go_enter Try.func57,Try.ntmps57
 go_wp2
 refine wp_loop_rounds 1 ?_
 rw[rounds_succ]
 go_wp2
 go_ret
 exact⟨rfl,(Ext.refl w).alloc _⟩
set_option maxHeartbeats 2000000 in
theorem refCost_some (n a0 b0:Int) (b off len cap:Nat) (ls:List Lk) (w:World) (hlen:ls.length=len) (hl:LinksAt w b off ls) (hbl:b<w.heap.size) (hx:len≤9223372036854775807):
 Calls Try.prog 57 #[.agg #[.int .i64 n,.slice (some ⟨b,off,none⟩) len cap],.int .i64 a0,.int .i64 b0] w fun e w'=>e=.returned (.int .i64 (cost ls a0 b0))∧Ext w w':=by
 go_enter Try.func57,Try.ntmps57
 go_wp2
 go_loopw [12] (fun i wr=>∃k:Nat,k≤len∧i=.int .i64 k∧(∀j,j<k→jn (ls.getD j lk0) a0 b0=false)∧Ext w wr) (fun i _=>len - (intOf i).toNat)
 case atStart=>exact⟨0,Nat.zero_le _,rfl,fun j hj=>by omega,(Ext.refl w).alloc _⟩
 case round=>
  obtain⟨k,hk,rfl,hno,hext⟩:=hrel
  by_cases hlt:k<len
  ·obtain⟨m0,m1,m2⟩:=hl k (by omega)
   rw[←hext.cells.1 _ _ hbl] at m0 m1 m2
   have hjc:=jn_cases2 (ls.getD k lk0) a0 b0
   have hca:=cost_at (ls:=ls) (k:=k) (a:=a0) (b:=b0) (by omega) hno
   obtain⟨y,hy⟩:∃y,y=ls.getD k lk0:=⟨_,rfl⟩
   rw[←hy] at m0 m1 m2 hjc hca
   have HY:Hid (y=ls.getD k lk0):=hy
   have HCA:Hid (jn y a0 b0=true→cost ls a0 b0=y.c):=hca
   have HNO:Hid (∀j,j<k→jn (ls.getD j lk0) a0 b0=false):=hno
   clear hy hca hno
   have hbr:b<wr.heap.size:=by have:=hext.size;omega
   rcases hjc with⟨j1,j2,j3⟩ | ⟨j1,j2,j4,j5,j3⟩ | ⟨j1,j2,j4,j5,j3⟩ | ⟨j1,j2,j4,j3⟩ | ⟨j1,j4,j5,j3⟩ | ⟨j1,j4,j5,j3⟩ | ⟨j1,j4,j3⟩
   all_goals
    have HJ:Hid _:=j3
    clear j3
    go_wp2
    first
    | (go_ret
       exact⟨by rw[HCA.out HJ.out];rfl,hext.alloc _⟩)
    | (go_roundw
       (case rel=>
        refine⟨k+1,by omega,by go_num,fun j hj=>?_,hext.alloc _⟩
        by_cases e:j=k
        ·subst e;rw[←HY.out];exact HJ.out
        ·exact HNO.out j (by omega))
       (case measure=>simp[intOf];omega))
  ·go_wp2
   go_ret
   exact⟨by rw[cost_not (fun j hj=>hno j (by omega))];rfl,hext⟩
theorem refCost_any (n a0 b0:Int) (ao:Option Addr) (len cap:Nat) (ls:List Lk) (w:World) (hlen:ls.length=len) (hl:NetAt w ao ls) (hx:len≤9223372036854775807):
 Calls Try.prog 57 #[.agg #[.int .i64 n,.slice ao len cap],.int .i64 a0,.int .i64 b0] w fun e w'=>e=.returned (.int .i64 (cost ls a0 b0))∧Ext w w':=by
 rcases hl with rfl | ⟨b,off,rfl,hb,hl⟩
 ·subst hlen
  exact refCost_none n a0 b0 ao cap w
 ·exact refCost_some n a0 b0 b off len cap ls w hlen hl hb hx
end Go.Proofs.Ytolclgbpjiokfaa
namespace Go.Proofs.Ytolclgbpjiokfaa
open Go.RowKit Go.Maps Stw Go.Sort
theorem getD_mem' {L:List Int} {i:Nat} (h:i<L.length):L.getD i 0∈L:=by
 rw[List.getD_eq_getElem?_getD,List.getElem?_eq_getElem h];exact List.getElem_mem h
theorem not_mem_take {ps:List Int} {k:Nat} {x:Int} (hk:k≤ps.length) (h:∀j,j<k→(ps.getD j 0 == x)=false):¬x∈ps.take k:=by
 intro hm
 rw[List.mem_take_iff_getElem] at hm
 obtain⟨j,hj,e⟩:=hm
 have:=h j (by omega)
 rw[List.getD_eq_getElem?_getD,List.getElem?_eq_getElem (by omega:j<ps.length)] at this
 simp[e] at this
theorem mem_take' {ps:List Int} {k m:Nat} {x:Int} (hk:k≤ps.length) (hm:m<k) (h:(ps.getD m 0 == x)=true):x∈ps.take k:=by
 rw[List.mem_take_iff_getElem]
 refine⟨m,by omega,?_⟩
 rw[List.getD_eq_getElem?_getD,List.getElem?_eq_getElem (by omega:m<ps.length)] at h
 simpa using h
set_option maxHeartbeats 1000000 in
theorem refLength_none (n:Int) (ao po:Option Addr) (len cap pc:Nat) (w:World):
 Calls Try.prog 40 #[.agg #[.int .i64 n,.slice ao len cap],.slice po 0 pc] w fun e w'=>e=.returned (.tuple #[.int .i64 0,.bool false])∧Ext w w':=by
 go_enter Try.func40,Try.ntmps40
 go_wp2
 refine wp_loop_rounds 1 ?_
 rw[rounds_succ]
 go_wp2
 go_ret2
 exact⟨rfl,(Ext.refl w).alloc _⟩
set_option maxRecDepth 100000 in
set_option maxHeartbeats 4000000 in
theorem refLength_some (n:Int) (ao:Option Addr) (len cap b off pl pc:Nat) (ls:List Lk) (ps:List Int) (w:World) (hlen:ls.length=len) (hl:NetAt w ao ls) (hx:len≤9223372036854775807)
 (hr:wrong n ls=(0,0)) (hpl:ps.length=pl) (hp0:0<pl) (hpx:pl*8≤140737488351232) (hb:b<w.heap.size) (hp:IntsAt w b off ps):
 Calls Try.prog 40 #[.agg #[.int .i64 n,.slice ao len cap],.slice (some ⟨b,off,none⟩) pl pc] w fun e w'=>e=.returned (.tuple #[.int .i64 (lengthOf n ls ps).1,.bool (lengthOf n ls ps).2])∧Ext w w':=by
 have HR:Hid (wrong n ls=(0,0)):=hr
 have hright:=right_of (by rw[hr]:(wrong n ls).1=0)
 have HC:Hid (∀a b,0≤cost ls a b∧cost ls a b≤1000):=fun a b=>⟨(hright.cost a b).1,(hright.cost a b).2.1⟩
 have HBAD:Hid (∀i,i<ps.length→okAt n ls ps i=false→lengthOf n ls ps=(0,false)):=fun i hi h=>by
  have:=pathB_bad (n:=n) (ls:=ls) (ps:=ps) (i:=i) hi h
  simp[lengthOf,this]
 clear hr
 go_enter Try.func40,Try.ntmps40
 go_wp2
 go_loopw [6,12] (fun sm i wr=>∃k:Nat,k≤pl∧i=.int .i64 k∧sm=.int .i64 (psum ls ps k)∧okTo n ls ps k∧Ext (w.alloc (.cells #[.int .i64 n,.slice ao len cap] 24)) wr) (fun _ i _=>pl - (intOf i).toNat)
 case atStart=>exact⟨0,Nat.zero_le _,rfl,rfl,fun i hi=>by omega,Ext.refl _⟩
 case round=>
  obtain⟨k,hk,rfl,rfl,hok,hxt⟩:=hrel
  obtain⟨wo,rfl⟩:∃wo:World,wo=wr:=⟨_,rfl⟩
  have hext:Ext w wo:=((Ext.refl w).alloc _).trans hxt
  have hs0:w.heap.size<wo.heap.size:=by have:=hxt.size;simp at this;omega
  have c0:wo.cell? ⟨w.heap.size,0,none⟩=some (.int .i64 n):=(hxt.cells.1 _ _ (by simp)).trans (by simp)
  have c1:wo.cell? ⟨w.heap.size,1,none⟩=some (.slice ao len cap):=(hxt.cells.1 _ _ (by simp)).trans (by simp)
  have hps:=psum_range (ps:=ps) HC.out k
  by_cases hlt:k<pl
  ·have p0:wo.cell? ⟨b,off+k,none⟩=some (.int .i64 (ps.getD k 0)):=(hext.cells.1 _ _ hb).trans (hp k (by omega))
   obtain⟨x,hx0⟩:∃x,x=ps.getD k 0:=⟨_,rfl⟩
   rw[←hx0] at p0
   have HX:Hid (x=ps.getD k 0):=hx0
   clear hx0
   have hbr:b<wo.heap.size:=by have:=hext.size;omega
   by_cases hsw:x<0∨n≤x
   ·have HF:Hid (lengthOf n ls ps=(0,false)):=HBAD.out k (by omega) (okAt_false_sw (by rw[←HX.out,swB_false];omega))
    rcases(show x<0∨(¬x<0∧n≤x) by omega) with hq | ⟨hq1,hq2⟩
    all_goals
     clear hsw
     go_wp2
     go_ret2
     exact⟨by rw[HF.out];rfl,hext⟩
   ·have hs1:0≤x:=by omega
    have hs2:x<n:=by omega
    clear hsw
    go_wp2
    go_loopw [9] (fun jv wr=>∃m:Nat,m≤k∧jv=.int .i64 m∧(∀j,j<m→(ps.getD j 0 == x)=false)∧wr=wo) (fun jv _=>k - (intOf jv).toNat)
    case atStart=>exact⟨0,Nat.zero_le _,rfl,fun j hj=>by omega,rfl⟩
    case round=>
     obtain⟨m,hmk,rfl,hno,rfl⟩:=hrel
     by_cases hmlt:m<k
     ·have q0:wr.cell? ⟨b,off+m,none⟩=some (.int .i64 (ps.getD m 0)):=(hext.cells.1 _ _ hb).trans (hp m (by omega))
      have hmt:=mem_take' (ps:=ps) (k:=k) (m:=m) (x:=x) (by omega) hmlt
      obtain⟨y,hy0⟩:∃y,y=ps.getD m 0:=⟨_,rfl⟩
      rw[←hy0] at q0 hmt
      have HY:Hid (y=ps.getD m 0):=hy0
      have HMT:Hid ((y == x)=true→x∈ps.take k):=hmt
      have HNO:Hid (∀j,j<m→(ps.getD j 0 == x)=false):=hno
      clear hy0 hmt hno
      cases hyx:(y == x)
      ·have HYX:Hid ((y == x)=false):=hyx
       go_wp2
       go_roundw
       case rel=>
        refine⟨m+1,by omega,by go_num,fun j hj=>?_,by trivial⟩
        by_cases e:j=m
        ·subst e;rw[←HY.out];exact HYX.out
        ·exact HNO.out j (by omega)
       case measure=>simp[intOf];omega
      ·have HF:Hid (lengthOf n ls ps=(0,false)):=HBAD.out k (by omega) (okAt_false_met (by rw[←HX.out];exact HMT.out hyx))
       go_wp2
       go_ret2
       exact⟨by rw[HF.out];rfl,hext⟩
     ·have hnm:¬x∈ps.take k:=not_mem_take (by omega) (fun j hj=>hno j (by omega))
      have HNM:Hid (¬x∈ps.take k):=hnm
      clear hnm hno
      have g0:∀d os,(grow (redrawn wr d) os).cell? ⟨w.heap.size,0,none⟩=some (.int .i64 n):=cell_regrown c0
      have g1:∀d os,(grow (redrawn wr d) os).cell? ⟨w.heap.size,1,none⟩=some (.slice ao len cap):=cell_regrown c1
      rcases Nat.eq_zero_or_pos k with hk0 | hkp
      ·subst hk0
       go_wp2
       refine wp_region_quiet_below (by kernel_rfl) (by kernel_rfl) ?_
       repeat(go_big_quiet_step (fail))
       refine wpQuiet_nil ?_
       intro _ hw'
       obtain⟨⟨d1,o1⟩,hw''⟩:=hw'
       subst hw''
       clear g0 g1
       go_wp2
       go_roundw
       case rel=>
        exact⟨0+1,by omega,by go_num,by simp[psum],okTo_succ hok (okAt_mk (by rw[←HX.out];exact swB_true.2 ⟨hs1,hs2⟩) (by rw[←HX.out];exact HNM.out) (Or.inl rfl)),hxt.trans (below_regrown wr d1 o1)⟩
       case measure=>simp[intOf];omega
      ·have hkp':(0:Int)<(k:Int):=by omega
       have p1:wr.cell? ⟨b,off+(k - 1),none⟩=some (.int .i64 (ps.getD (k - 1) 0)):=(hext.cells.1 _ _ hb).trans (hp (k - 1) (by omega))
       obtain⟨y,hy0⟩:∃y,y=ps.getD (k - 1) 0:=⟨_,rfl⟩
       rw[←hy0] at p1
       have HY:Hid (y=ps.getD (k - 1) 0):=hy0
       obtain⟨cv,hcv⟩:∃cv,cv=cost ls y x:=⟨_,rfl⟩
       have hcb:=HC.out y x
       rw[←hcv] at hcb
       have HCV:Hid (cv=cost ls y x):=hcv
       have gp:∀d os,(grow (redrawn wr d) os).cell? ⟨b,off+(k - 1),none⟩=some (.int .i64 y):=cell_regrown p1
       have HQ:Hid (∀d os,Calls Try.prog 57 #[.agg #[.int .i64 n,.slice ao len cap],.int .i64 y,.int .i64 x] (grow (redrawn wr d) os) fun e w''=>e=.returned (.int .i64 cv)∧∃p:Regrown,w''=grow (redrawn wr p.d) p.os):=fun d os=>
        Calls.regrown_of (by
         rw[hcv]
         exact refCost_any n y x ao len cap ls _ hlen (hl.ext (hext.trans (below_regrown wr d os))) hx)
       have i1:(k:Int) - 1<(pl:Int):=by omega
       have i2:(0:Int)≤(k:Int) - 1:=by omega
       clear hy0 hcv
       by_cases hc0:cv=0
       ·have HF:Hid (lengthOf n ls ps=(0,false)):=HBAD.out k (by omega) (okAt_false_cost (by omega) (by rw[←HX.out, ←HY.out, ←HCV.out];exact hc0))
        subst hc0
        go_wp2
        refine wp_region_quiet_below (by kernel_rfl) (by kernel_rfl) ?_
        repeat(go_big_quiet_step (exact HQ.out _ _))
        refine wpQuiet_nil ?_
        intro _ hw'
        obtain⟨⟨d1,o1⟩,hw''⟩:=hw'
        subst hw''
        clear g0 g1 gp HQ
        go_wp2
        go_ret2
        exact⟨by rw[HF.out];rfl,hext.trans (below_regrown wr d1 o1)⟩
       ·have hc1:(cv == 0)=false:=by simpa using hc0
        go_wp2
        refine wp_region_quiet_below (by kernel_rfl) (by kernel_rfl) ?_
        repeat(go_big_quiet_step (exact HQ.out _ _))
        refine wpQuiet_nil ?_
        intro _ hw'
        obtain⟨⟨d1,o1⟩,hw''⟩:=hw'
        subst hw''
        clear g0 g1 gp HQ
        obtain⟨w6,hw6⟩:∃w6,w6=grow (redrawn wr d1) o1:=⟨_,rfl⟩
        have h6:Ext wr w6:=by rw[hw6];exact below_regrown wr d1 o1
        rw[←hw6]
        clear hw6
        have g0:∀d os,(grow (redrawn w6 d) os).cell? ⟨w.heap.size,0,none⟩=some (.int .i64 n):=cell_regrown ((h6.cells.1 _ _ hs0).trans c0)
        have g1:∀d os,(grow (redrawn w6 d) os).cell? ⟨w.heap.size,1,none⟩=some (.slice ao len cap):=cell_regrown ((h6.cells.1 _ _ hs0).trans c1)
        have gp:∀d os,(grow (redrawn w6 d) os).cell? ⟨b,off+(k - 1),none⟩=some (.int .i64 y):=cell_regrown ((h6.cells.1 _ _ hbr).trans p1)
        have HQ:Hid (∀d os,Calls Try.prog 57 #[.agg #[.int .i64 n,.slice ao len cap],.int .i64 y,.int .i64 x] (grow (redrawn w6 d) os) fun e w''=>e=.returned (.int .i64 cv)∧∃p:Regrown,w''=grow (redrawn w6 p.d) p.os):=fun d os=>
         Calls.regrown_of (by
          rw[HCV.out]
          exact refCost_any n y x ao len cap ls _ hlen (hl.ext ((hext.trans h6).trans (below_regrown w6 d os))) hx)
        go_wp2
        refine wp_region_quiet_below (by kernel_rfl) (by kernel_rfl) ?_
        repeat(go_big_quiet_step (exact HQ.out _ _))
        refine wpQuiet_nil ?_
        intro _ hw'
        obtain⟨⟨d2,o2⟩,hw''⟩:=hw'
        subst hw''
        clear g0 g1 gp HQ
        go_wp2
        go_roundw
        case rel=>
         refine⟨k+1,by omega,by go_num,?_,okTo_succ hok (okAt_mk (by rw[←HX.out];exact swB_true.2 ⟨hs1,hs2⟩) (by rw[←HX.out];exact HNM.out) (Or.inr (by rw[←HX.out, ←HY.out, ←HCV.out];exact hc0))),(hxt.trans h6).trans (below_regrown w6 d2 o2)⟩
         simp only[psum]
         rw[if_neg (by omega), ←HX.out, ←HY.out, ←HCV.out]
        case measure=>simp[intOf];omega
  ·have hpp:(0:Int)<(pl:Int):=by omega
   go_wp2
   go_ret2
   have hkl:k=ps.length:=by omega
   have hfin:lengthOf n ls ps=(psum ls ps ps.length,true):=by
    have h1:pathB n ls ps=true:=pathB_true.2 ⟨by intro e;rw[e] at hpl;simp at hpl;omega,by rw[←hkl];exact hok⟩
    simp[lengthOf,h1,HR.out]
   exact⟨by rw[hfin, ←hkl];rfl,hext⟩
theorem refLength_any (n:Int) (ao po:Option Addr) (len cap pl pc:Nat) (ls:List Lk) (ps:List Int) (w:World) (hlen:ls.length=len) (hl:NetAt w ao ls) (hx:len≤9223372036854775807)
 (hr:wrong n ls=(0,0)) (hpl:ps.length=pl) (hpx:pl*8≤140737488351232) (hp:ListAt w po ps):
 Calls Try.prog 40 #[.agg #[.int .i64 n,.slice ao len cap],.slice po pl pc] w fun e w'=>e=.returned (.tuple #[.int .i64 (lengthOf n ls ps).1,.bool (lengthOf n ls ps).2])∧Ext w w':=by
 have e0:lengthOf n ls []=(0,false):=by simp[lengthOf,pathB]
 rcases hp with rfl | ⟨b,off,rfl,hb,hp⟩
 ·subst hpl
  rw[e0]
  exact refLength_none n ao po len cap pc w
 ·by_cases h0:0<pl
  ·exact refLength_some n ao len cap b off pl pc ls ps w hlen hl hx hr hpl h0 hpx hb hp
  ·have e1:ps=[]:=List.eq_nil_of_length_eq_zero (by omega)
   subst e1
   subst hpl
   rw[e0]
   exact refLength_none n ao _ len cap pc w
end Go.Proofs.Ytolclgbpjiokfaa
namespace Go.Proofs.Ytolclgbpjiokfaa
open Go.RowKit Go.Maps Stf Go.Sort Fw
set_option maxHeartbeats 1000000 in
theorem in_any (lo:Option Addr) (lc len:Nat) (L:List Int) (x:Int) (w:World) (hlen:L.length=len) (hL:ListAt w lo L) (hx:len≤4611686018427387904):
 Calls Try.prog 41 #[.slice lo len lc,.int .i64 x] w fun e w'=>e=.returned (.bool (decide (x∈L)))∧w'=w:=by
 go_enter Try.func41,Try.ntmps41
 go_wp2
 go_loopw [9] (fun iv wr=>∃k:Nat,k≤len∧iv=.int .i64 k∧(∀j,j<k→L.getD j 0≠x)∧wr=w) (fun iv _=>len - (intOf iv).toNat)
 case atStart=>exact⟨0,Nat.zero_le _,rfl,fun j hj=>by omega,rfl⟩
 case round=>
  obtain⟨k,hk,rfl,hpre,rfl⟩:=hrel
  by_cases hlt:k<len
  ·obtain⟨bk,off,rfl,hbk,hat⟩:∃bk off,lo=some ⟨bk,off,none⟩∧bk<wr.heap.size∧IntsAt wr bk off L:=by
    rcases hL with rfl | h
    ·simp at hlen;omega
    ·exact h
   have ce:=hat k (by omega)
   obtain⟨y,hy⟩:∃y,y=L.getD k 0:=⟨_,rfl⟩
   rw[←hy] at ce
   have HY:=hid hy
   have HP:=hid hpre
   have i1:(k:Int)<(len:Int):=by omega
   clear hy hpre hat
   cases hxy:(y == x)
   ·have hne:y≠x:=by simpa using hxy
    have HNE:=hid hne
    clear hne
    go_wp2
    refine⟨⟨k+1,by omega,by go_num,fun j hj=>?_,trivial⟩,by simp[intOf];omega⟩
    by_cases e:j=k
    ·subst e;rw[←HY.out];exact HNE.out
    ·exact HP.out j (by omega)
   ·have heq:y=x:=by simpa using hxy
    have hm:decide (x∈L)=true:=by
     rw[decide_eq_true_eq, ←heq,HY.out]
     simp[List.getD_eq_getElem?_getD,show k<L.length by omega]
    have HM:=hid hm
    clear heq hm
    go_wp2
    go_ret
    exact⟨by rw[HM.out];rfl,rfl⟩
  ·have hm:decide (x∈L)=false:=by
    rw[decide_eq_false_iff_not]
    intro hx
    obtain⟨i,hi,rfl⟩:=List.getElem_of_mem hx
    exact hpre i (by omega) (by simp[List.getD_eq_getElem?_getD,hi])
   have HM:=hid hm
   clear hm hpre
   go_wp2
   go_ret
   exact⟨by rw[HM.out];rfl,rfl⟩
end Go.Proofs.Ytolclgbpjiokfaa
namespace Stp
open Stw
def stp (via nt:List Int) (o:Option Nat) (s:Int):Option Nat:=match o with
 | none=>none
 | some m=>if s∈nt then none else if s∈via then(if via.getD m 0=s then some (m+1) else none) else some m
def sc (via nt p:List Int):Option Nat:=p.foldl (stp via nt) (some 0)
theorem sc_none (via nt:List Int):∀q:List Int,q.foldl (stp via nt) none=none
 | []=>rfl
 | _::q=>sc_none via nt q
theorem stp_bad {via nt:List Int} {m:Nat} {s:Int} (h:s∈nt):stp via nt (some m) s=none:=by simp[stp,h]
theorem stp_other {via nt:List Int} {m:Nat} {s:Int} (h:¬s∈nt) (h1:¬s∈via):stp via nt (some m) s=some m:=by simp[stp,h,h1]
theorem stp_met {via nt:List Int} {m:Nat} {s:Int} (h:¬s∈nt) (h1:s∈via) (h2:via.getD m 0=s):stp via nt (some m) s=some (m+1):=by
 simp only[stp,h,h1,h2,if_true,if_false]
theorem stp_miss {via nt:List Int} {m:Nat} {s:Int} (h:¬s∈nt) (h1:s∈via) (h2:¬via.getD m 0=s):stp via nt (some m) s=none:=by
 simp only[stp,h,h1,h2,if_true,if_false]
theorem getD_some {via:List Int} {m:Nat} {s:Int} (hm:m<via.length):via[m]? =some s↔via.getD m 0=s:=by
 rw[List.getD_eq_getElem?_getD,List.getElem?_eq_getElem hm];simp
theorem mtv_le {via:List Int} {m:Nat} {s:Int} (h:m≤via.length):mtv via m s≤via.length:=by
 unfold mtv
 split
 ·rename_i h1
  have:=(List.getElem?_eq_some_iff.1 h1).1
  omega
 ·exact h
structure Sc (via nt q:List Int) (m:Nat):Prop where
 le:m≤via.length
 ok:∀x∈q,¬x∈nt
 met:metOf via 0 q=m
 all:∀i,i<m→via.getD i 0∈q
theorem Sc.start (via nt:List Int):Sc via nt [] 0:=⟨Nat.zero_le _,fun x hx=>(by cases hx),rfl,fun i hi=>by omega⟩
theorem metOf_snoc {via:List Int} {m:Nat} {q:List Int} {s:Int}:metOf via m (q++[s])=mtv via (metOf via m q) s:=by simp[metOf]
theorem mtv_no {via:List Int} {m:Nat} {s:Int} (h:¬s∈via):mtv via m s=m:=by
 unfold mtv
 rw[if_neg]
 intro h1
 exact h (List.mem_of_getElem? h1)
theorem Sc.other {via nt q:List Int} {m:Nat} {s:Int} (h:Sc via nt q m) (h1:¬s∈nt) (h2:¬s∈via):Sc via nt (q++[s]) m:=
 ⟨h.le,fun x hx=>by
  rcases List.mem_append.1 hx with hx | hx
  ·exact h.ok x hx
  ·simp at hx;subst hx;exact h1,
  by rw[metOf_snoc,h.met,mtv_no h2],fun i hi=>List.mem_append.2 (Or.inl (h.all i hi))⟩
theorem Sc.left {via nt q:List Int} {m:Nat} {s:Int} (h:Sc via nt q m) (h2:s∈via) (h3:¬s∈q):m<via.length:=by
 rcases Nat.lt_or_ge m via.length with h4 | h4
 ·exact h4
 ·obtain⟨i,hi,rfl⟩:=List.getElem_of_mem h2
  have:=h.all i (by omega)
  rw[getD_eq hi] at this
  exact absurd this h3
theorem Sc.next {via nt q:List Int} {m:Nat} {s:Int} (h:Sc via nt q m) (h1:¬s∈nt) (hm:m<via.length) (h3:via.getD m 0=s):Sc via nt (q++[s]) (m+1):=
 ⟨hm,fun x hx=>by
  rcases List.mem_append.1 hx with hx | hx
  ·exact h.ok x hx
  ·simp at hx;subst hx;exact h1,
  by rw[metOf_snoc,h.met,mtv,if_pos ((getD_some hm).2 h3)],fun i hi=>by
   by_cases e:i=m
   ·subst e;rw[h3];simp
   ·exact List.mem_append.2 (Or.inl (h.all i (by omega)))⟩
theorem metOf_le {via:List Int}:∀(q:List Int) (m:Nat),m≤metOf via m q
 | [],m=>Nat.le_refl _
 | s::q,m=>by
  have h1:=metOf_le (via:=via) q (mtv via m s)
  have h2:m≤mtv via m s:=by unfold mtv;split <;> omega
  exact Nat.le_trans h2 h1
theorem met_in {via:List Int}:∀{q:List Int} {m i:Nat},m≤i→i<metOf via m q→via.getD i 0∈q
 | [],m,i,h1,h2=>by have:i<m:=h2;omega
 | s::q,m,i,h1,h2=>by
  have h3:metOf via m (s::q)=metOf via (mtv via m s) q:=rfl
  rw[h3] at h2
  by_cases hv:via[m]? =some s
  ·have e:mtv via m s=m+1:=by rw[mtv,if_pos hv]
   rw[e] at h2
   by_cases hi:i=m
   ·subst hi
    have hm:=(List.getElem?_eq_some_iff.1 hv).1
    rw[(getD_some hm).1 hv]
    simp
   ·exact List.mem_cons_of_mem _ (met_in (by omega) h2)
  ·have e:mtv via m s=m:=by rw[mtv,if_neg hv]
   rw[e] at h2
   exact List.mem_cons_of_mem _ (met_in h1 h2)
theorem sc_ok {via nt:List Int}:∀{v u:List Int} {m:Nat},(u++v).Nodup→Sc via nt u m→(∀x∈v,¬x∈nt)→metOf via m v=via.length→v.foldl (stp via nt) (some m)=some via.length
 | [],u,m,_,_,_,h=>by
  have:m=via.length:=h
  simp[this]
 | s::v,u,m,hnd,hsc,hnt,h=>by
  have h1:=hnt s (by simp)
  have hnu:¬s∈u:=fun hm=>by
   have:=(List.nodup_append.1 hnd).2.2 s hm s (by simp)
   exact this rfl
  have hnv:¬s∈v:=(List.nodup_cons.1 (List.nodup_append.1 hnd).2.1).1
  have hnd':((u++[s])++v).Nodup:=by simpa using hnd
  by_cases hv:s∈via
  ·have hm:=hsc.left hv hnu
   by_cases he:via.getD m 0=s
   ·simp only[List.foldl_cons,stp_met h1 hv he]
    refine sc_ok hnd' (hsc.next h1 hm he) (fun x hx=>hnt x (by simp[hx])) ?_
    have e:mtv via m s=m+1:=by rw[mtv,if_pos ((getD_some hm).2 he)]
    rw[←e]
    exact h
   ·exfalso
    have e:mtv via m s=m:=by rw[mtv,if_neg (fun h=>he ((getD_some hm).1 h))]
    have h4:metOf via (mtv via m s) v=via.length:=h
    rw[e] at h4
    obtain⟨i,hi,hs⟩:=List.getElem_of_mem hv
    rcases Nat.lt_trichotomy i m with h6 | h6 | h6
    ·have:=hsc.all i h6
     rw[getD_eq hi,hs] at this
     exact hnu this
    ·subst h6
     exact he (by rw[getD_eq hi,hs])
    ·have:=met_in (via:=via) (q:=v) (m:=m) (i:=i) (by omega) (by omega)
     rw[getD_eq hi,hs] at this
     exact hnv this
  ·simp only[List.foldl_cons,stp_other h1 hv]
   refine sc_ok hnd' (hsc.other h1 hv) (fun x hx=>hnt x (by simp[hx])) ?_
   rw[←mtv_no (m:=m) hv]
   exact h
theorem sc_inv {via nt:List Int}:∀{v:List Int} {m k:Nat},m≤via.length→v.foldl (stp via nt) (some m)=some k→(∀x∈v,¬x∈nt)∧(k=via.length→metOf via m v=via.length)
 | [],m,k,_,h=>by
  injection h with h
  exact⟨fun x hx=>(by cases hx),fun e=>by rw[←e, ←h];rfl⟩
 | s::v,m,k,hm,h=>by
  simp only[List.foldl_cons] at h
  by_cases h1:s∈nt
  ·rw[stp_bad h1,sc_none] at h;cases h
  ·by_cases hv:s∈via
   ·by_cases he:via.getD m 0=s
    ·rw[stp_met h1 hv he] at h
     by_cases hlt:m<via.length
     ·obtain⟨h2,h3⟩:=sc_inv (by omega) h
      refine⟨fun x hx=>?_,fun e=>?_⟩
      ·rcases List.mem_cons.1 hx with rfl | hx
       ·exact h1
       ·exact h2 x hx
      ·have e1:mtv via m s=m+1:=by rw[mtv,if_pos ((getD_some hlt).2 he)]
       have h4:=h3 e
       rw[←e1] at h4
       exact h4
     ·
      have hk:∀{v:List Int} {a b:Nat},v.foldl (stp via nt) (some a)=some b→a≤b:=by
       intro v
       induction v with
       | nil=>intro a b h;injection h with h;omega
       | cons s v ih=>
        intro a b h
        simp only[List.foldl_cons] at h
        cases hs:stp via nt (some a) s with
        | none=>rw[hs,sc_none] at h;cases h
        | some c=>
         rw[hs] at h
         have h5:=ih h
         have h6:a≤c:=by
          unfold stp at hs
          simp only at hs
          split at hs
          ·cases hs
          ·split at hs
           ·split at hs
            ·injection hs with hs;omega
            ·cases hs
           ·injection hs with hs;omega
         omega
      have hmk:=hk h
      refine⟨fun x hx=>?_,fun e=>by omega⟩
      have hn:∀{v:List Int} {a b:Nat},v.foldl (stp via nt) (some a)=some b→∀x∈v,¬x∈nt:=by
       intro v
       induction v with
       | nil=>intro a b _ x hx;cases hx
       | cons s v ih=>
        intro a b h x hx
        simp only[List.foldl_cons] at h
        cases hs:stp via nt (some a) s with
        | none=>rw[hs,sc_none] at h;cases h
        | some c=>
         rw[hs] at h
         rcases List.mem_cons.1 hx with rfl | hx
         ·intro hm
          rw[stp_bad hm] at hs
          cases hs
         ·exact ih h x hx
      rcases List.mem_cons.1 hx with rfl | hx
      ·exact h1
      ·exact hn h x hx
    ·rw[stp_miss h1 hv he,sc_none] at h;cases h
   ·rw[stp_other h1 hv] at h
    obtain⟨h2,h3⟩:=sc_inv hm h
    refine⟨fun x hx=>?_,fun e=>?_⟩
    ·rcases List.mem_cons.1 hx with rfl | hx
     ·exact h1
     ·exact h2 x hx
    ·have h4:=h3 e
     rw[←mtv_no (m:=m) hv] at h4
     exact h4
def svB (n:Int) (ls:List Lk) (fr tq:Int) (via nt p:List Int):Bool:=pathB n ls p && (p.getD 0 0 == fr) && (p.getD (p.length - 1) 0 == tq) && decide (sc via nt p=some via.length)
theorem lst_getD {p:List Int} (h:p≠[]):lst p=p.getD (p.length - 1) 0:=by
 have h0:0<p.length:=List.length_pos_iff.2 h
 have:=lst_take (ps:=p) (k:=p.length) h0 (Nat.le_refl _)
 rwa [List.take_length] at this
theorem svB_iff {n:Int} {ls:List Lk} {fr tq:Int} {via nt p:List Int} (hr:Right n ls) (hf:0≤fr∧fr<n):svB n ls fr tq via nt p=true↔Srv (cost ls) fr tq via nt p:=by
 simp only[svB,Bool.and_eq_true,beq_iff_eq,decide_eq_true_eq]
 constructor
 ·rintro⟨⟨⟨h1,h2⟩,h3⟩,h4⟩
  have hp:=pth_of hr h1
  have hne:=((pathB_iff hr).1 h1).1
  rw[lst_getD hne,h2,h3] at hp
  obtain⟨h5,h6⟩:=sc_inv (Nat.zero_le _) h4
  exact⟨hp,h5,h6 rfl⟩
 ·intro h
  have hp:=h.toPth.path hr hf
  have hne:=((pathB_iff hr).1 hp).1
  refine⟨⟨⟨hp,?_⟩,?_⟩,sc_ok (u:=[]) (by simpa using h.nd) (Sc.start via nt) h.not h.met⟩
  ·obtain⟨r,hr'⟩:=h.head
   rw[hr'];rfl
  ·rw[←lst_getD hne];exact h.last
end Stp
namespace Go.Proofs.Ytolclgbpjiokfaa
open Go.RowKit Go.Maps Stw Go.Deep Stp
theorem svB_no {n:Int} {ls:List Lk} {fr tq:Int} {via nt p:List Int} (h:pathB n ls p=false):svB n ls fr tq via nt p=false:=by simp[svB,h]
theorem svB_fr {n:Int} {ls:List Lk} {fr tq:Int} {via nt p:List Int} (h:(p.getD 0 0 == fr)=false):svB n ls fr tq via nt p=false:=by simp only[svB,h,Bool.and_false,Bool.false_and]
theorem svB_to {n:Int} {ls:List Lk} {fr tq:Int} {via nt p:List Int} (h:(p.getD (p.length - 1) 0 == tq)=false):svB n ls fr tq via nt p=false:=by simp only[svB,h,Bool.and_false,Bool.false_and]
theorem svB_sc {n:Int} {ls:List Lk} {fr tq:Int} {via nt p:List Int} {β:Bool} (h1:pathB n ls p=true) (h2:(p.getD 0 0 == fr)=true) (h3:(p.getD (p.length - 1) 0 == tq)=true) (h4:decide (sc via nt p=some via.length)=β):svB n ls fr tq via nt p=β:=by simp only[svB,h1,h2,h3,h4,Bool.true_and]
theorem sc_take {via nt p:List Int} {k:Nat} (h:k<p.length):(p.take (k+1)).foldl (stp via nt) (some 0)=stp via nt ((p.take k).foldl (stp via nt) (some 0)) (p.getD k 0):=by
 rw[List.take_succ_eq_append_getElem h,List.foldl_append,getD_eq h];rfl
theorem sc_dead {via nt p:List Int} {k:Nat} (h:(p.take k).foldl (stp via nt) (some 0)=none):sc via nt p=none:=by
 unfold sc
 rw[←List.take_append_drop k p,List.foldl_append,h,sc_none]
set_option maxRecDepth 100000 in
set_option maxHeartbeats 2000000 in
theorem Serves_any (n:Int) (ao:Option Addr) (len cap:Nat) (ls:List Lk) (fr tq:Int) (via nt:List Int) (vo no:Option Addr) (vc nc:Nat) (ps:List Int) (po:Option Addr) (pl pc:Nat) (w:World) (hlen:ls.length=len) (hl:NetAt w ao ls) (hx:len≤9223372036854775807) (hr:wrong n ls=(0,0))
 (hv:ListAt w vo via) (hvl:via.length≤4611686018427387904) (hn:ListAt w no nt) (hnl:nt.length≤4611686018427387904) (hpl:ps.length=pl) (hpx:pl*8≤140737488351232) (hp:ListAt w po ps):
 Calls Try.prog 21 #[.agg #[.int .i64 n,.slice ao len cap],.agg #[.int .i64 fr,.int .i64 tq,.slice vo via.length vc,.slice no nt.length nc],.slice po pl pc] w fun e w'=>e=.returned (.bool (svB n ls fr tq via nt ps))∧Ext w w':=by
 have HR:=hidp hr
 have hright:=right_of (by rw[hr]:(wrong n ls).1=0)
 clear hr
 have HL:=hidp (length_iff (ps:=ps) hright)
 go_enter Try.func21,Try.ntmps21
 go_wp2_with fail
 refine(refLength_any n ao po len cap pl pc ls ps _ hlen (hl.ext (((Ext.refl w).alloc _).alloc _)) hx HR.out hpl hpx (hp.ext (((Ext.refl w).alloc _).alloc _))).mono ?_
 rintro e w1 ⟨he,E1⟩
 have hw1:Ext w w1:=(((Ext.refl w).alloc _).alloc _).trans E1
 have hs1:w.heap.size+1<w1.heap.size:=by have:=E1.size;simp at this;omega
 cases hpb:pathB n ls ps
 ·rw[HL.out,hpb] at he
  subst he
  have HS:=hidp (svB_no (fr:=fr) (tq:=tq) (via:=via) (nt:=nt) hpb)
  clear hpb
  go_wp2
  go_region
  go_wp2
  go_ret
  exact⟨by rw[HS.out];rfl,hw1.drew⟩
 ·rw[HL.out,hpb] at he
  simp only[if_true] at he
  subst he
  obtain⟨hne,hrg,hnd,hch⟩:=(pathB_iff hright).1 hpb
  have hlp:ps.length≤8:=by
   have hb:=hright.bounds
   exact pth_len (show Pth (cost ls) (ps.getD 0 0) (lst ps) ps from pth_of hright hpb)
  have hl0:0<ps.length:=List.length_pos_iff.2 hne
  obtain⟨b,off,rfl,hb,hat⟩:∃b off,po=some ⟨b,off,none⟩∧b<w.heap.size∧IntsAt w b off ps:=by
   rcases hp with rfl | h
   ·exact absurd rfl hne
   ·exact h
  have q1:=E1.cells.1
  have b0:w1.cell? ⟨w.heap.size+1,0,none⟩=some (.int .i64 fr):=(q1 _ _ (by simp)).trans (by simp)
  have b1:w1.cell? ⟨w.heap.size+1,1,none⟩=some (.int .i64 tq):=(q1 _ _ (by simp)).trans (by simp)
  have b2:w1.cell? ⟨w.heap.size+1,2,none⟩=some (.slice vo via.length vc):=(q1 _ _ (by simp)).trans (by simp)
  have b3:w1.cell? ⟨w.heap.size+1,3,none⟩=some (.slice no nt.length nc):=(q1 _ _ (by simp)).trans (by simp)
  have p0:w1.cell? ⟨b,off,none⟩=some (.int .i64 (ps.getD 0 0)):=(hw1.cells.1 _ _ hb).trans (hat 0 hl0)
  have pz:w1.cell? ⟨b,off+(pl - 1),none⟩=some (.int .i64 (ps.getD (ps.length - 1) 0)):=(hw1.cells.1 _ _ hb).trans (by rw[←hpl];exact hat (ps.length - 1) (by omega))
  clear q1
  have hpl0:0<pl:=by omega
  have hpl8:pl≤8:=by omega
  have hbw:b<w1.heap.size:=by have:=hw1.size;omega
  have HH:=hidp (And.intro hnd (And.intro hpb hat))
  obtain⟨x0,hx0⟩:∃x0,x0=ps.getD 0 0:=⟨_,rfl⟩
  obtain⟨xz,hxz⟩:∃xz,xz=ps.getD (ps.length - 1) 0:=⟨_,rfl⟩
  rw[←hx0] at p0
  rw[←hxz] at pz
  have HX0:=hidp hx0
  have HXZ:=hidp hxz
  clear hx0 hxz hnd hpb hat hrg hch hne
  cases h1:(x0 == fr)
  ·have HS:=hidp (svB_fr (n:=n) (ls:=ls) (tq:=tq) (via:=via) (nt:=nt) (by rw[←HX0.out];exact h1))
   have h1':(x0 != fr)=true:=by simp only[bne,h1,Bool.not_false]
   go_wp2
   go_region
   go_wp2
   go_ret
   exact⟨by rw[HS.out];rfl,hw1.drew⟩
  ·have h1':(x0 != fr)=false:=by simp only[bne,h1,Bool.not_true]
   cases h2:(xz == tq)
   ·have HS:=hidp (svB_to (n:=n) (ls:=ls) (fr:=fr) (via:=via) (nt:=nt) (by rw[←HXZ.out];exact h2))
    have h2':(xz != tq)=true:=by simp only[bne,h2,Bool.not_false]
    go_wp2
    go_region
    go_wp2
    go_ret
    exact⟨by rw[HS.out];rfl,hw1.drew⟩
   ·have h2':(xz != tq)=false:=by simp only[bne,h2,Bool.not_true]
    have HS:Hid (∀β,decide (sc via nt ps=some via.length)=β→svB n ls fr tq via nt ps=β):=fun β h=>svB_sc HH.out.2.1 (by rw[←HX0.out];exact h1) (by rw[←HXZ.out];exact h2) h
    go_wp2
    go_region
    go_wp2
    go_loopw [9,41] (fun mv iv wr=>∃k m:Nat,k≤pl∧iv=.int .i64 k∧mv=.int .i64 m∧Sc via nt (ps.take k) m∧(ps.take k).foldl (stp via nt) (some 0)=some m∧wr=w1.drew) (fun _ iv _=>pl - (intOf iv).toNat)
    case atStart=>exact⟨0,0,Nat.zero_le _,rfl,rfl,Sc.start via nt,rfl,rfl⟩
    case round=>
     obtain⟨k,m,hk,rfl,rfl,hsc,hfo,rfl⟩:=hrel
     have hml:=hsc.le
     have hvw:ListAt w1.drew vo via:=hv.ext hw1.drew
     have hnw:ListAt w1.drew no nt:=hn.ext hw1.drew
     by_cases hlt:k<pl
     ·have pk:w1.drew.cell? ⟨b,off+k,none⟩=some (.int .i64 (ps.getD k 0)):=(hw1.drew.cells.1 _ _ hb).trans (HH.out.2.2 k (by omega))
      have HN:Hid (¬ps.getD k 0∈ps.take k):=(Stp.nodup_iff.1 HH.out.1) k (by omega)
      have HT:=hidp (sc_take (via:=via) (nt:=nt) (p:=ps) (k:=k) (by omega))
      have HT2:Hid (ps.take (k+1)=ps.take k++[ps.getD k 0]):=by rw[List.take_succ_eq_append_getElem (by omega:k<ps.length), ←getD_eq];exact hidp rfl
      obtain⟨x,hx1⟩:∃x,x=ps.getD k 0:=⟨_,rfl⟩
      rw[←hx1] at pk HN HT HT2
      clear hx1
      have HSc:=hidp hsc
      have HFo:=hidp hfo
      clear hsc hfo
      have i1:(k:Int)<(pl:Int):=by omega
      cases hnm:decide (x∈nt)
      ·have hnm':¬x∈nt:=of_decide_eq_false hnm
       have HNM:=hidp hnm'
       clear hnm'
       go_wp2_with fail
       refine(in_any no nc nt.length nt x _ rfl hnw hnl).mono ?_
       rintro e w2 ⟨he,rfl⟩
       rw[hnm] at he
       subst he
       cases hvm:decide (x∈via)
       ·have HVM:Hid (¬x∈via):=hidp (of_decide_eq_false hvm)
        go_wp2_with fail
        refine(in_any vo vc via.length via x _ rfl hvw hvl).mono ?_
        rintro e w3 ⟨he,rfl⟩
        rw[hvm] at he
        subst he
        clear hnm hvm
        go_wp2
        go_roundw
        case rel=>exact⟨k+1,m,by omega,by go_num,rfl,by rw[HT2.out];exact HSc.out.other HNM.out HVM.out,by rw[HT.out,HFo.out];exact stp_other HNM.out HVM.out,trivial⟩
        case measure=>simp[intOf];omega
       ·have HVM:Hid (x∈via):=hidp (of_decide_eq_true hvm)
        go_wp2_with fail
        refine(in_any vo vc via.length via x _ rfl hvw hvl).mono ?_
        rintro e w3 ⟨he,rfl⟩
        rw[hvm] at he
        subst he
        have hmlt:=HSc.out.left HVM.out HN.out
        obtain⟨bv,ov,rfl,hbv,hatv⟩:∃bv ov,vo=some ⟨bv,ov,none⟩∧bv<w1.heap.size∧IntsAt w1.drew bv ov via:=by
         rcases hvw with rfl | h
         ·simp at hmlt
         ·exact h
        have pv:=hatv m hmlt
        clear hatv hnm hvm
        obtain⟨y,hy⟩:∃y,y=via.getD m 0:=⟨_,rfl⟩
        rw[←hy] at pv
        have HY:=hidp hy
        clear hy
        have i2:(m:Int)<(via.length:Int):=by omega
        cases hyx:(y == x)
        ·have hyx':(y != x)=true:=by simp only[bne,hyx,Bool.not_false]
         have HNE:Hid (¬via.getD m 0=x):=by rw[←HY.out];exact hidp (by simpa using hyx)
         go_wp2
         go_ret
         have HD:=HS.out false (by rw[sc_dead (k:=k+1) (by rw[HT.out,HFo.out];exact stp_miss HNM.out HVM.out HNE.out)];simp)
         exact⟨by rw[HD];rfl,hw1.drew⟩
        ·have hyx':(y != x)=false:=by simp only[bne,hyx,Bool.not_true]
         have HEQ:Hid (via.getD m 0=x):=by rw[←HY.out];exact hidp (by simpa using hyx)
         go_wp2
         go_roundw
         case rel=>exact⟨k+1,m+1,by omega,by go_num,by go_num,by rw[HT2.out];exact HSc.out.next HNM.out hmlt HEQ.out,by rw[HT.out,HFo.out];exact stp_met HNM.out HVM.out HEQ.out,trivial⟩
         case measure=>simp[intOf];omega
      ·have HNM:Hid (x∈nt):=hidp (of_decide_eq_true hnm)
       go_wp2_with fail
       refine(in_any no nc nt.length nt x _ rfl hnw hnl).mono ?_
       rintro e w2 ⟨he,rfl⟩
       rw[hnm] at he
       subst he
       clear hnm
       go_wp2
       go_ret
       have HD:=HS.out false (by rw[sc_dead (k:=k+1) (by rw[HT.out,HFo.out];exact stp_bad HNM.out)];simp)
       exact⟨by rw[HD];rfl,hw1.drew⟩
     ·have hkk:ps.take k=ps:=List.take_of_length_le (by omega)
      rw[hkk] at hfo
      have HFo:Hid (sc via nt ps=some m):=hfo
      clear hkk hfo hsc
      cases hmv:((m:Int) == (via.length:Int))
      ·have HD:=hidp (HS.out false (by rw[HFo.out];simp at hmv ⊢;omega))
       go_wp2
       go_ret
       exact⟨by rw[HD.out];rfl,hw1.drew⟩
      ·have HD:=hidp (HS.out true (by rw[HFo.out];simp at hmv ⊢;omega))
       go_wp2
       go_ret
       exact⟨by rw[HD.out];rfl,hw1.drew⟩
end Go.Proofs.Ytolclgbpjiokfaa
