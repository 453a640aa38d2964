/- What the document's own Length answers, for every right net and every list; nothing that was there is changed. -/
import Derived.Test.YtkfapjenckhmkaaGreatDoorTTr
namespace Go.Proofs.YtkfapjenckhmkaaGreatDoor
open Go.RowKit Go.Maps Stw Go.Sort
theorem getD_mem' {L:List Int} {i:Nat} (h:i<L.length):L.getD i 0∈L:=by
 rw[List.getD_eq_getElem?_getD,List.getElem?_eq_getElem h];exact List.getElem_mem h
theorem not_mem_take {ps:List Int} {k:Nat} {x:Int} (hk:k≤ps.length) (h:∀j,j<k→(ps.getD j 0 == x)=false):¬x∈ps.take k:=by
 intro hm
 rw[List.mem_take_iff_getElem] at hm
 obtain⟨j,hj,e⟩:=hm
 have:=h j (by omega)
 rw[List.getD_eq_getElem?_getD,List.getElem?_eq_getElem (by omega:j<ps.length)] at this
 simp[e] at this
theorem mem_take' {ps:List Int} {k m:Nat} {x:Int} (hk:k≤ps.length) (hm:m<k) (h:(ps.getD m 0 == x)=true):x∈ps.take k:=by
 rw[List.mem_take_iff_getElem]
 refine⟨m,by omega,?_⟩
 rw[List.getD_eq_getElem?_getD,List.getElem?_eq_getElem (by omega:m<ps.length)] at h
 simpa using h
set_option maxHeartbeats 1000000 in
theorem refLength_none (n:Int) (ao po:Option Addr) (len cap pc:Nat) (w:World):
 Calls Tryz.prog 21 #[.agg #[.int .i64 n,.slice ao len cap],.slice po 0 pc] w fun e w'=>e=.returned (.tuple #[.int .i64 0,.bool false])∧Ext w w':=by
 go_enter Tryz.func21,Tryz.ntmps21
 go_wp2
 refine wp_loop_rounds 1 ?_
 rw[rounds_succ]
 go_wp2
 go_ret2
 exact⟨rfl,(Ext.refl w).alloc _⟩
set_option maxRecDepth 100000 in
set_option maxHeartbeats 4000000 in
theorem refLength_some (n:Int) (ao:Option Addr) (len cap b off pl pc:Nat) (ls:List Lk) (ps:List Int) (w:World) (hlen:ls.length=len) (hl:NetAt w ao ls) (hx:len≤9223372036854775807)
 (hr:wrong n ls=(0,0)) (hpl:ps.length=pl) (hp0:0<pl) (hpx:pl*8≤140737488351232) (hb:b<w.heap.size) (hp:IntsAt w b off ps):
 Calls Tryz.prog 21 #[.agg #[.int .i64 n,.slice ao len cap],.slice (some ⟨b,off,none⟩) pl pc] w fun e w'=>e=.returned (.tuple #[.int .i64 (lengthOf n ls ps).1,.bool (lengthOf n ls ps).2])∧Ext w w':=by
 have HR:Hid (wrong n ls=(0,0)):=hr
 have hright:=right_of (by rw[hr]:(wrong n ls).1=0)
 have HC:Hid (∀a b,0≤cost ls a b∧cost ls a b≤1000):=fun a b=>⟨(hright.cost a b).1,(hright.cost a b).2.1⟩
 have HBAD:Hid (∀i,i<ps.length→okAt n ls ps i=false→lengthOf n ls ps=(0,false)):=fun i hi h=>by
  have:=pathB_bad (n:=n) (ls:=ls) (ps:=ps) (i:=i) hi h
  simp[lengthOf,this]
 clear hr
 go_enter Tryz.func21,Tryz.ntmps21
 go_wp2
 go_loopw [6,12] (fun sm i wr=>∃k:Nat,k≤pl∧i=.int .i64 k∧sm=.int .i64 (psum ls ps k)∧okTo n ls ps k∧Ext (w.alloc (.cells #[.int .i64 n,.slice ao len cap] 24)) wr) (fun _ i _=>pl - (intOf i).toNat)
 case atStart=>exact⟨0,Nat.zero_le _,rfl,rfl,fun i hi=>by omega,Ext.refl _⟩
 case round=>
  obtain⟨k,hk,rfl,rfl,hok,hxt⟩:=hrel
  obtain⟨wo,rfl⟩:∃wo:World,wo=wr:=⟨_,rfl⟩
  have hext:Ext w wo:=((Ext.refl w).alloc _).trans hxt
  have hs0:w.heap.size<wo.heap.size:=by have:=hxt.size;simp at this;omega
  have c0:wo.cell? ⟨w.heap.size,0,none⟩=some (.int .i64 n):=(hxt.cells.1 _ _ (by simp)).trans (by simp)
  have c1:wo.cell? ⟨w.heap.size,1,none⟩=some (.slice ao len cap):=(hxt.cells.1 _ _ (by simp)).trans (by simp)
  have hps:=psum_range (ps:=ps) HC.out k
  by_cases hlt:k<pl
  ·have p0:wo.cell? ⟨b,off+k,none⟩=some (.int .i64 (ps.getD k 0)):=(hext.cells.1 _ _ hb).trans (hp k (by omega))
   obtain⟨x,hx0⟩:∃x,x=ps.getD k 0:=⟨_,rfl⟩
   rw[←hx0] at p0
   have HX:Hid (x=ps.getD k 0):=hx0
   clear hx0
   have hbr:b<wo.heap.size:=by have:=hext.size;omega
   by_cases hsw:x<0∨n≤x
   ·have HF:Hid (lengthOf n ls ps=(0,false)):=HBAD.out k (by omega) (okAt_false_sw (by rw[←HX.out,swB_false];omega))
    rcases(show x<0∨(¬x<0∧n≤x) by omega) with hq | ⟨hq1,hq2⟩
    all_goals
     clear hsw
     go_wp2
     go_ret2
     exact⟨by rw[HF.out];rfl,hext⟩
   ·have hs1:0≤x:=by omega
    have hs2:x<n:=by omega
    clear hsw
    go_wp2
    go_loopw [9] (fun jv wr=>∃m:Nat,m≤k∧jv=.int .i64 m∧(∀j,j<m→(ps.getD j 0 == x)=false)∧wr=wo) (fun jv _=>k - (intOf jv).toNat)
    case atStart=>exact⟨0,Nat.zero_le _,rfl,fun j hj=>by omega,rfl⟩
    case round=>
     obtain⟨m,hmk,rfl,hno,rfl⟩:=hrel
     by_cases hmlt:m<k
     ·have q0:wr.cell? ⟨b,off+m,none⟩=some (.int .i64 (ps.getD m 0)):=(hext.cells.1 _ _ hb).trans (hp m (by omega))
      have hmt:=mem_take' (ps:=ps) (k:=k) (m:=m) (x:=x) (by omega) hmlt
      obtain⟨y,hy0⟩:∃y,y=ps.getD m 0:=⟨_,rfl⟩
      rw[←hy0] at q0 hmt
      have HY:Hid (y=ps.getD m 0):=hy0
      have HMT:Hid ((y == x)=true→x∈ps.take k):=hmt
      have HNO:Hid (∀j,j<m→(ps.getD j 0 == x)=false):=hno
      clear hy0 hmt hno
      cases hyx:(y == x)
      ·have HYX:Hid ((y == x)=false):=hyx
       go_wp2
       go_roundw
       case rel=>
        refine⟨m+1,by omega,by go_num,fun j hj=>?_,by trivial⟩
        by_cases e:j=m
        ·subst e;rw[←HY.out];exact HYX.out
        ·exact HNO.out j (by omega)
       case measure=>simp[intOf];omega
      ·have HF:Hid (lengthOf n ls ps=(0,false)):=HBAD.out k (by omega) (okAt_false_met (by rw[←HX.out];exact HMT.out hyx))
       go_wp2
       go_ret2
       exact⟨by rw[HF.out];rfl,hext⟩
     ·have hnm:¬x∈ps.take k:=not_mem_take (by omega) (fun j hj=>hno j (by omega))
      have HNM:Hid (¬x∈ps.take k):=hnm
      clear hnm hno
      have g0:∀d os,(grow (redrawn wr d) os).cell? ⟨w.heap.size,0,none⟩=some (.int .i64 n):=cell_regrown c0
      have g1:∀d os,(grow (redrawn wr d) os).cell? ⟨w.heap.size,1,none⟩=some (.slice ao len cap):=cell_regrown c1
      rcases Nat.eq_zero_or_pos k with hk0 | hkp
      ·subst hk0
       go_wp2
       refine wp_region_quiet_below (by kernel_rfl) (by kernel_rfl) ?_
       repeat(go_big_quiet_step (fail))
       refine wpQuiet_nil ?_
       intro _ hw'
       obtain⟨⟨d1,o1⟩,hw''⟩:=hw'
       subst hw''
       clear g0 g1
       go_wp2
       go_roundw
       case rel=>
        exact⟨0+1,by omega,by go_num,by simp[psum],okTo_succ hok (okAt_mk (by rw[←HX.out];exact swB_true.2 ⟨hs1,hs2⟩) (by rw[←HX.out];exact HNM.out) (Or.inl rfl)),hxt.trans (below_regrown wr d1 o1)⟩
       case measure=>simp[intOf];omega
      ·have hkp':(0:Int)<(k:Int):=by omega
       have p1:wr.cell? ⟨b,off+(k - 1),none⟩=some (.int .i64 (ps.getD (k - 1) 0)):=(hext.cells.1 _ _ hb).trans (hp (k - 1) (by omega))
       obtain⟨y,hy0⟩:∃y,y=ps.getD (k - 1) 0:=⟨_,rfl⟩
       rw[←hy0] at p1
       have HY:Hid (y=ps.getD (k - 1) 0):=hy0
       obtain⟨cv,hcv⟩:∃cv,cv=cost ls y x:=⟨_,rfl⟩
       have hcb:=HC.out y x
       rw[←hcv] at hcb
       have HCV:Hid (cv=cost ls y x):=hcv
       have gp:∀d os,(grow (redrawn wr d) os).cell? ⟨b,off+(k - 1),none⟩=some (.int .i64 y):=cell_regrown p1
       have HQ:Hid (∀d os,Calls Tryz.prog 37 #[.agg #[.int .i64 n,.slice ao len cap],.int .i64 y,.int .i64 x] (grow (redrawn wr d) os) fun e w''=>e=.returned (.int .i64 cv)∧∃p:Regrown,w''=grow (redrawn wr p.d) p.os):=fun d os=>
        Calls.regrown_of (by
         rw[hcv]
         exact refCost_any n y x ao len cap ls _ hlen (hl.ext (hext.trans (below_regrown wr d os))) hx)
       have i1:(k:Int) - 1<(pl:Int):=by omega
       have i2:(0:Int)≤(k:Int) - 1:=by omega
       clear hy0 hcv
       by_cases hc0:cv=0
       ·have HF:Hid (lengthOf n ls ps=(0,false)):=HBAD.out k (by omega) (okAt_false_cost (by omega) (by rw[←HX.out, ←HY.out, ←HCV.out];exact hc0))
        subst hc0
        go_wp2
        refine wp_region_quiet_below (by kernel_rfl) (by kernel_rfl) ?_
        repeat(go_big_quiet_step (exact HQ.out _ _))
        refine wpQuiet_nil ?_
        intro _ hw'
        obtain⟨⟨d1,o1⟩,hw''⟩:=hw'
        subst hw''
        clear g0 g1 gp HQ
        go_wp2
        go_ret2
        exact⟨by rw[HF.out];rfl,hext.trans (below_regrown wr d1 o1)⟩
       ·have hc1:(cv == 0)=false:=by simpa using hc0
        go_wp2
        refine wp_region_quiet_below (by kernel_rfl) (by kernel_rfl) ?_
        repeat(go_big_quiet_step (exact HQ.out _ _))
        refine wpQuiet_nil ?_
        intro _ hw'
        obtain⟨⟨d1,o1⟩,hw''⟩:=hw'
        subst hw''
        clear g0 g1 gp HQ
        obtain⟨w6,hw6⟩:∃w6,w6=grow (redrawn wr d1) o1:=⟨_,rfl⟩
        have h6:Ext wr w6:=by rw[hw6];exact below_regrown wr d1 o1
        rw[←hw6]
        clear hw6
        have g0:∀d os,(grow (redrawn w6 d) os).cell? ⟨w.heap.size,0,none⟩=some (.int .i64 n):=cell_regrown ((h6.cells.1 _ _ hs0).trans c0)
        have g1:∀d os,(grow (redrawn w6 d) os).cell? ⟨w.heap.size,1,none⟩=some (.slice ao len cap):=cell_regrown ((h6.cells.1 _ _ hs0).trans c1)
        have gp:∀d os,(grow (redrawn w6 d) os).cell? ⟨b,off+(k - 1),none⟩=some (.int .i64 y):=cell_regrown ((h6.cells.1 _ _ hbr).trans p1)
        have HQ:Hid (∀d os,Calls Tryz.prog 37 #[.agg #[.int .i64 n,.slice ao len cap],.int .i64 y,.int .i64 x] (grow (redrawn w6 d) os) fun e w''=>e=.returned (.int .i64 cv)∧∃p:Regrown,w''=grow (redrawn w6 p.d) p.os):=fun d os=>
         Calls.regrown_of (by
          rw[HCV.out]
          exact refCost_any n y x ao len cap ls _ hlen (hl.ext ((hext.trans h6).trans (below_regrown w6 d os))) hx)
        go_wp2
        refine wp_region_quiet_below (by kernel_rfl) (by kernel_rfl) ?_
        repeat(go_big_quiet_step (exact HQ.out _ _))
        refine wpQuiet_nil ?_
        intro _ hw'
        obtain⟨⟨d2,o2⟩,hw''⟩:=hw'
        subst hw''
        clear g0 g1 gp HQ
        go_wp2
        go_roundw
        case rel=>
         refine⟨k+1,by omega,by go_num,?_,okTo_succ hok (okAt_mk (by rw[←HX.out];exact swB_true.2 ⟨hs1,hs2⟩) (by rw[←HX.out];exact HNM.out) (Or.inr (by rw[←HX.out, ←HY.out, ←HCV.out];exact hc0))),(hxt.trans h6).trans (below_regrown w6 d2 o2)⟩
         simp only[psum]
         rw[if_neg (by omega), ←HX.out, ←HY.out, ←HCV.out]
        case measure=>simp[intOf];omega
  ·have hpp:(0:Int)<(pl:Int):=by omega
   go_wp2
   go_ret2
   have hkl:k=ps.length:=by omega
   have hfin:lengthOf n ls ps=(psum ls ps ps.length,true):=by
    have h1:pathB n ls ps=true:=pathB_true.2 ⟨by intro e;rw[e] at hpl;simp at hpl;omega,by rw[←hkl];exact hok⟩
    simp[lengthOf,h1,HR.out]
   exact⟨by rw[hfin, ←hkl];rfl,hext⟩
theorem refLength_any (n:Int) (ao po:Option Addr) (len cap pl pc:Nat) (ls:List Lk) (ps:List Int) (w:World) (hlen:ls.length=len) (hl:NetAt w ao ls) (hx:len≤9223372036854775807)
 (hr:wrong n ls=(0,0)) (hpl:ps.length=pl) (hpx:pl*8≤140737488351232) (hp:ListAt w po ps):
 Calls Tryz.prog 21 #[.agg #[.int .i64 n,.slice ao len cap],.slice po pl pc] w fun e w'=>e=.returned (.tuple #[.int .i64 (lengthOf n ls ps).1,.bool (lengthOf n ls ps).2])∧Ext w w':=by
 have e0:lengthOf n ls []=(0,false):=by simp[lengthOf,pathB]
 rcases hp with rfl | ⟨b,off,rfl,hb,hp⟩
 ·subst hpl
  rw[e0]
  exact refLength_none n ao po len cap pc w
 ·by_cases h0:0<pl
  ·exact refLength_some n ao len cap b off pl pc ls ps w hlen hl hx hr hpl h0 hpx hb hp
  ·have e1:ps=[]:=List.eq_nil_of_length_eq_zero (by omega)
   subst e1
   subst hpl
   rw[e0]
   exact refLength_none n ao _ len cap pc w
end Go.Proofs.YtkfapjenckhmkaaGreatDoor
