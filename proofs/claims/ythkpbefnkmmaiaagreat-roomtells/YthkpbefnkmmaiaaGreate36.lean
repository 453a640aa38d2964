import Derived.Test.YthkpbefnkmmaiaaGreate35
set_option maxRecDepth 100000
set_option maxHeartbeats 4000000
namespace Go.Proofs.YthkpbefnkmmaiaaGreat
open Go.Proofs.Tryz
section
open Go.RowKit Go.Maps Stw Go.Sort
variable {k:Nat} {x:Int}
theorem z4l{ps:List Int}(hk:k<=ps.length)(h:∀j,j<k->(ps.getD j 0 == x)=false):¬x∈ps.take k:=by
 intro hm
 rw[List.mem_take_iff_getElem] at hm
 obtain⟨j,hj,e⟩:=hm
 have:=h j (by omega)
 rw[Zt,List.getElem?_eq_getElem (by omega:j<ps.length)] at this
 simp[e] at this
theorem mem_take'{ps:List Int}{m:Nat}(hk:k<=ps.length)(hm:m<k)(h:(ps.getD m 0 == x)=true):x∈ps.take k:=by
 rw[List.mem_take_iff_getElem]
 refine⟨m,by omega,?_⟩
 rw[Zt,List.getElem?_eq_getElem (by omega:m<ps.length)] at h
 simpa using h
theorem q4l(n:Int)(ao po:Option Addr)(len cap pc:Nat)(w:World):
 Calls prog 107 #[.agg #[.int .i64 n,.slice ao len cap],.slice po 0 pc] w fun e w'=>e=.returned (.tuple #[.int .i64 0,.bool false])/\Ext w w':=by
 go_enter func107,ntmps107
 go_wp2
 refine wp_loop_rounds 1 ?_
 rw[rounds_succ]
 go_wp2
 go_ret2
 exact⟨rfl,(Ext.refl w).alloc _⟩
theorem q9d(n:Int)(ao:Option Addr)(len cap b off pl pc:Nat)(ls:List Lk)(ps:List Int)(w:World)(hlen:ls.length=len)(hl:Zg w ao ls)(hx:len<=9223372036854775807)(hr:Qc n ls=(0,0))(hpl:ps.length=pl)(hp0:0<pl)(hpx:pl*8<=140737488351232)(hb:b<w.heap.size)(hp:Q9 w b off ps):
  Calls prog 107 #[.agg #[.int .i64 n,.slice ao len cap],.slice (some ⟨b,off,none⟩) pl pc] w fun e w'=>e=.returned (.tuple #[.int .i64 (lengthOf n ls ps).1,.bool (lengthOf n ls ps).2])/\Ext w w':=by
  have HR:Hid (Qc n ls=(0,0)):=hr
  have hright:=Zo (by rw[hr]:(Qc n ls).1=0)
  have HC:Hid (∀a b,0<=cost ls a b/\cost ls a b<=1000):=fun a b=>⟨(hright.cost a b).1,(hright.cost a b).2.1⟩
  have HBAD:Hid (∀i,i<ps.length->okAt n ls ps i=false->lengthOf n ls ps=(0,false)):=fun i hi h=>by
   have:=pathB_bad (n:=n) (ls:=ls) (ps:=ps) (i:=i) hi h
   simp[lengthOf,this]
  clear hr
  go_enter func107,ntmps107
  go_wp2
  go_loopw [6,12] (fun sm i wr=>∃k:Nat,k<=pl/\i=.int .i64 k/\sm=.int .i64 (psum ls ps k)/\okTo n ls ps k/\Ext (w.alloc (.cells #[.int .i64 n,.slice ao len cap] 24)) wr) (fun _ i _=>pl - (intOf i).toNat)
  case atStart=>exact⟨0,Zu _,rfl,rfl,fun i hi=>by omega,Ext.refl _⟩
  case round=>
   obtain⟨k,hk,rfl,rfl,hok,hxt⟩:=hrel
   obtain⟨wo,rfl⟩:∃wo:World,wo=wr:=⟨_,rfl⟩
   have hext:Ext w wo:=((Ext.refl w).alloc _).trans hxt
   have hs0:w.heap.size<wo.heap.size:=by have:=hxt.size;simp at this;omega
   have c0:wo.cell? ⟨w.heap.size,0,none⟩=some (.int .i64 n):=(hxt.cells.1 _ _ (by simp)).trans (by simp)
   have c1:wo.cell? ⟨w.heap.size,1,none⟩=some (.slice ao len cap):=(hxt.cells.1 _ _ (by simp)).trans (by simp)
   have hps:=q9v (ps:=ps) HC.out k
   by_cases hlt:k<pl
   ·have p0:wo.cell? ⟨b,off+k,none⟩=some (.int .i64 (ps.getD k 0)):=(hext.cells.1 _ _ hb).trans (hp k (by omega))
    obtain⟨x,hx0⟩:=Qy (ps.getD k 0)
    rw[<-hx0] at p0
    have HX:Hid (x=ps.getD k 0):=hx0
    clear hx0
    have hbr:b<wo.heap.size:=by have:=hext.size;omega
    by_cases hsw:x<0\/n<=x
    ·have HF:Hid (lengthOf n ls ps=(0,false)):=HBAD.out k (by omega) (z1u (by rw[<-HX.out,q5e];omega))
     rcases(show x<0\/(¬x<0/\n<=x) by omega) with hq | ⟨hq1,hq2⟩
     all_goals
      clear hsw
      go_wp2
      go_ret2
      exact⟨by rw[HF.out];rfl,hext⟩
    ·have hs1:0<=x:=by omega
     have hs2:x<n:=by omega
     clear hsw
     go_wp2
     go_loopw [9] (fun jv wr=>∃m:Nat,m<=k/\jv=.int .i64 m/\(∀j,j<m->(ps.getD j 0 == x)=false)/\wr=wo) (fun jv _=>k - (intOf jv).toNat)
     case atStart=>exact⟨0,Zu _,rfl,fun j hj=>by omega,rfl⟩
     case round=>
      obtain⟨m,hmk,rfl,hno,rfl⟩:=hrel
      by_cases hmlt:m<k
      ·have q0:wr.cell? ⟨b,off+m,none⟩=some (.int .i64 (ps.getD m 0)):=(hext.cells.1 _ _ hb).trans (hp m (by omega))
       have hmt:=mem_take' (ps:=ps) (k:=k) (m:=m) (x:=x) (by omega) hmlt
       obtain⟨y,hy0⟩:=Qy (ps.getD m 0)
       rw[<-hy0] at q0 hmt
       have HY:Hid (y=ps.getD m 0):=hy0
       have HMT:Hid ((y == x)=true->x∈ps.take k):=hmt
       have HNO:Hid (∀j,j<m->(ps.getD j 0 == x)=false):=hno
       clear hy0 hmt hno
       cases hyx:(y == x)
       ·have HYX:Hid ((y == x)=false):=hyx
        go_wp2
        go_roundw
        case rel=>
         refine⟨m+1,by omega,by go_num,fun j hj=>?_,by trivial⟩
         by_cases e:j=m
         ·subst e;rw[<-HY.out];exact HYX.out
         ·exact HNO.out j (by omega)
        case measure=>simp[intOf];omega
       ·have HF:Hid (lengthOf n ls ps=(0,false)):=HBAD.out k (by omega) (q4m (by rw[<-HX.out];exact HMT.out hyx))
        go_wp2
        go_ret2
        exact⟨by rw[HF.out];rfl,hext⟩
      ·have hnm:¬x∈ps.take k:=z4l (by omega) (fun j hj=>hno j (by omega))
       have HNM:Hid (¬x∈ps.take k):=hnm
       clear hnm hno
       have g0:∀d os,(grow (redrawn wr d) os).cell? ⟨w.heap.size,0,none⟩=some (.int .i64 n):=clr c0
       have g1:∀d os,(grow (redrawn wr d) os).cell? ⟨w.heap.size,1,none⟩=some (.slice ao len cap):=clr c1
       rcases Nat.eq_zero_or_pos k with hk0 | hkp
       ·subst hk0
        go_wp2
        refine qb ?_
        repeat(go_big_quiet_step (fail))
        refine qn fun d1 o1=>?_
        clear g0 g1
        go_wp2
        go_roundw
        case rel=>
         exact⟨0+1,by omega,by go_num,by simp[psum],z4k hok (z7i (by rw[<-HX.out];exact q2s.2 ⟨hs1,hs2⟩) (by rw[<-HX.out];exact HNM.out) (Or.inl rfl)),hxt.trans (brg wr d1 o1)⟩
        case measure=>simp[intOf];omega
       ·have hkp':(0:Int)<(k:Int):=by omega
        have p1:wr.cell? ⟨b,off+(k - 1),none⟩=some (.int .i64 (ps.getD (k - 1) 0)):=(hext.cells.1 _ _ hb).trans (hp (k - 1) (by omega))
        obtain⟨y,hy0⟩:=Qy (ps.getD (k - 1) 0)
        rw[<-hy0] at p1
        have HY:Hid (y=ps.getD (k - 1) 0):=hy0
        obtain⟨cv,hcv⟩:=Qy (cost ls y x)
        have hcb:=HC.out y x
        rw[<-hcv] at hcb
        have HCV:Hid (cv=cost ls y x):=hcv
        have gp:∀d os,(grow (redrawn wr d) os).cell? ⟨b,off+(k - 1),none⟩=some (.int .i64 y):=clr p1
        have HQ:Hid (∀d os,Calls prog 119 #[.agg #[.int .i64 n,.slice ao len cap],.int .i64 y,.int .i64 x] (grow (redrawn wr d) os) fun e w''=>e=.returned (.int .i64 cv)/\∃p:Regrown,w''=grow (redrawn wr p.d) p.os):=fun d os=>
         Calls.regrown_of (by
          rw[hcv]
          exact q2t n y x ao len cap ls _ hlen (hl.ext (hext.trans (brg wr d os))) hx)
        have i1:(k:Int) - 1<(pl:Int):=by omega
        have i2:(0:Int)<=(k:Int) - 1:=by omega
        clear hy0 hcv
        by_cases hc0:cv=0
        ·have HF:Hid (lengthOf n ls ps=(0,false)):=HBAD.out k (by omega) (q3m (by omega) (by rw[<-HX.out, <-HY.out, <-HCV.out];exact hc0))
         subst hc0
         go_wp2
         refine qb ?_
         repeat(go_big_quiet_step (exact HQ.out _ _))
         refine qn fun d1 o1=>?_
         clear g0 g1 gp HQ
         go_wp2
         go_ret2
         exact⟨by rw[HF.out];rfl,hext.trans (brg wr d1 o1)⟩
        ·have hc1:(cv == 0)=false:=by simpa using hc0
         go_wp2
         refine qb ?_
         repeat(go_big_quiet_step (exact HQ.out _ _))
         refine qn fun d1 o1=>?_
         clear g0 g1 gp HQ
         obtain⟨w6,hw6⟩:=Qy (grow (redrawn wr d1) o1)
         have h6:Ext wr w6:=by rw[hw6];exact brg wr d1 o1
         rw[<-hw6]
         clear hw6
         have g0:∀d os,(grow (redrawn w6 d) os).cell? ⟨w.heap.size,0,none⟩=some (.int .i64 n):=clr ((h6.cells.1 _ _ hs0).trans c0)
         have g1:∀d os,(grow (redrawn w6 d) os).cell? ⟨w.heap.size,1,none⟩=some (.slice ao len cap):=clr ((h6.cells.1 _ _ hs0).trans c1)
         have gp:∀d os,(grow (redrawn w6 d) os).cell? ⟨b,off+(k - 1),none⟩=some (.int .i64 y):=clr ((h6.cells.1 _ _ hbr).trans p1)
         have HQ:Hid (∀d os,Calls prog 119 #[.agg #[.int .i64 n,.slice ao len cap],.int .i64 y,.int .i64 x] (grow (redrawn w6 d) os) fun e w''=>e=.returned (.int .i64 cv)/\∃p:Regrown,w''=grow (redrawn w6 p.d) p.os):=fun d os=>
          Calls.regrown_of (by
           rw[HCV.out]
           exact q2t n y x ao len cap ls _ hlen (hl.ext ((hext.trans h6).trans (brg w6 d os))) hx)
         go_wp2
         refine qb ?_
         repeat(go_big_quiet_step (exact HQ.out _ _))
         refine qn fun d2 o2=>?_
         clear g0 g1 gp HQ
         go_wp2
         go_roundw
         case rel=>
          refine⟨k+1,by omega,by go_num,?_,z4k hok (z7i (by rw[<-HX.out];exact q2s.2 ⟨hs1,hs2⟩) (by rw[<-HX.out];exact HNM.out) (Or.inr (by rw[<-HX.out, <-HY.out, <-HCV.out];exact hc0))),(hxt.trans h6).trans (brg w6 d2 o2)⟩
          simp only[psum]
          rw[if_neg (by omega), <-HX.out, <-HY.out, <-HCV.out]
         case measure=>simp[intOf];omega
   ·have hpp:(0:Int)<(pl:Int):=by omega
    go_wp2
    go_ret2
    have hkl:k=ps.length:=by omega
    have hfin:lengthOf n ls ps=(psum ls ps ps.length,true):=by
     have h1:q3k n ls ps=true:=q6j.2 ⟨by intro e;rw[e] at hpl;simp at hpl;omega,by rw[<-hkl];exact hok⟩
     simp[lengthOf,h1,HR.out]
    exact⟨by rw[hfin, <-hkl];rfl,hext⟩
theorem q1l(n:Int)(ao po:Option Addr)(len cap pl pc:Nat)(ls:List Lk)(ps:List Int)(w:World)(hlen:ls.length=len)(hl:Zg w ao ls)(hx:len<=9223372036854775807)(hr:Qc n ls=(0,0))(hpl:ps.length=pl)(hpx:pl*8<=140737488351232)(hp:Qj w po ps):
  Calls prog 107 #[.agg #[.int .i64 n,.slice ao len cap],.slice po pl pc] w fun e w'=>e=.returned (.tuple #[.int .i64 (lengthOf n ls ps).1,.bool (lengthOf n ls ps).2])/\Ext w w':=by
  have e0:lengthOf n ls []=(0,false):=by simp[lengthOf,q3k]
  rcases hp with rfl | ⟨b,off,rfl,hb,hp⟩
  ·subst hpl
   rw[e0]
   exact q4l n ao po len cap pc w
  ·by_cases h0:0<pl
   ·exact q9d n ao len cap b off pl pc ls ps w hlen hl hx hr hpl h0 hpx hb hp
   ·have e1:ps=[]:=List.eq_nil_of_length_eq_zero (by omega)
    subst e1
    subst hpl
    rw[e0]
    exact q4l n ao _ len cap pc w
end
section
open Go.RowKit Go.Maps Stf Go.Sort Fw
theorem q5m(lo:Option Addr)(lc len:Nat)(L:List Int)(x:Int)(w:World)(hlen:L.length=len)(hL:Qj w lo L)(hx:len<=4611686018427387904):
 Calls prog 104 #[.slice lo len lc,.int .i64 x] w fun e w'=>e=.returned (.bool (decide (x∈L)))/\w'=w:=by
 go_enter func104,ntmps104
 go_wp2
 go_loopw [9] (fun iv wr=>∃k:Nat,k<=len/\iv=.int .i64 k/\(∀j,j<k->L.getD j 0≠x)/\wr=w) (fun iv _=>len - (intOf iv).toNat)
 case atStart=>exact⟨0,Zu _,rfl,fun j hj=>by omega,rfl⟩
 case round=>
  obtain⟨k,hk,rfl,hpre,rfl⟩:=hrel
  by_cases hlt:k<len
  ·obtain⟨bk,off,rfl,hbk,Q2⟩:∃bk off,lo=some ⟨bk,off,none⟩/\bk<wr.heap.size/\Q9 wr bk off L:=by
    rcases hL with rfl | h
    ·simp at hlen;omega
    ·exact h
   have ce:=Q2 k (by omega)
   obtain⟨y,hy⟩:=Qy (L.getD k 0)
   rw[<-hy] at ce
   have HY:=hid hy
   have HP:=hid hpre
   have i1:(k:Int)<(len:Int):=by omega
   clear hy hpre Q2
   cases hxy:(y == x)
   ·have hne:y≠x:=by simpa using hxy
    have HNE:=hid hne
    clear hne
    go_wp2
    refine⟨⟨k+1,by omega,by go_num,fun j hj=>?_,trivial⟩,by simp[intOf];omega⟩
    by_cases e:j=k
    ·subst e;rw[<-HY.out];exact HNE.out
    ·exact HP.out j (by omega)
   ·have heq:y=x:=by simpa using hxy
    have hm:decide (x∈L)=true:=by
     rw[decide_eq_true_eq, <-heq,HY.out]
     simp[show k<L.length by omega]
    have HM:=hid hm
    clear heq hm
    go_wp2
    go_ret
    exact⟨by rw[HM.out];rfl,rfl⟩
  ·have hm:decide (x∈L)=false:=by
    rw[decide_eq_false_iff_not]
    intro hx
    obtain⟨i,hi,rfl⟩:=List.getElem_of_mem hx
    exact hpre i (by omega) (by simp[hi])
   have HM:=hid hm
   clear hm hpre
   go_wp2
   go_ret
   exact⟨by rw[HM.out];rfl,rfl⟩
end
end Go.Proofs.YthkpbefnkmmaiaaGreat
namespace Stp
open Stw
def stp (via nt:List Int) (o:Option Nat) (s:Int):Option Nat:=match o with
 | none=>none
 | some m=>if s∈nt then none else if s∈via then(if via.getD m 0=s then some (m+1) else none) else some m
def sc (via nt p:List Int):Option Nat:=p.foldl (stp via nt) (some 0)
theorem q6e(via nt:List Int):∀q:List Int,q.foldl (stp via nt) none=none
 | []=>rfl
 | _::q=>q6e via nt q
variable {via nt:List Int} {m:Nat} {s:Int}
theorem z6h(h:s∈nt):stp via nt (some m) s=none:=by simp[stp,h]
theorem q7n(h:¬s∈nt)(h1:¬s∈via):stp via nt (some m) s=some m:=by simp[stp,h,h1]
theorem z6g(h:¬s∈nt)(h1:s∈via)(h2:via.getD m 0=s):stp via nt (some m) s=some (m+1):=by
 simp only[stp,h,h1,h2,if_true,if_false]
theorem stp_miss(h:¬s∈nt)(h1:s∈via)(h2:¬via.getD m 0=s):stp via nt (some m) s=none:=by
 simp only[stp,h,h1,h2,if_true,if_false]
theorem getD_some(hm:m<via.length):via[m]? =some s↔via.getD m 0=s:=by
 rw[Zt,List.getElem?_eq_getElem hm];simp
structure Sc (via nt q:List Int) (m:Nat):Prop where
 le:m<=via.length
 ok:∀x∈q,¬x∈nt
 met:q5j via 0 q=m
 all:∀i,i<m->via.getD i 0∈q
theorem Sc.start(via nt:List Int):Sc via nt [] 0:=⟨Zu _,fun x hx=>(by cases hx),rfl,fun i hi=>by omega⟩
variable {q:List Int}
theorem q9y:q5j via m (q++[s])=mtv via (q5j via m q) s:=by simp[q5j]
theorem mtv_no(h:¬s∈via):mtv via m s=m:=by
 unfold mtv
 rw[if_neg]
 intro h1
 exact h (List.mem_of_getElem? h1)
theorem Sc.other(h:Sc via nt q m)(h1:¬s∈nt)(h2:¬s∈via):Sc via nt (q++[s]) m:=
 ⟨h.le,fun x hx=>by
  rcases List.mem_append.1 hx with hx | hx
  ·exact h.ok x hx
  ·simp at hx;subst hx;exact h1,
  by rw[q9y,h.met,mtv_no h2],fun i hi=>List.mem_append.2 (Or.inl (h.all i hi))⟩
theorem Sc.left(h:Sc via nt q m)(h2:s∈via)(h3:¬s∈q):m<via.length:=by
 rcases Nat.lt_or_ge m via.length with h4 | h4
 ·exact h4
 ·obtain⟨i,hi,rfl⟩:=List.getElem_of_mem h2
  have:=h.all i (by omega)
  rw[getD_eq hi] at this
  exact absurd this h3
theorem Sc.next(h:Sc via nt q m)(h1:¬s∈nt)(hm:m<via.length)(h3:via.getD m 0=s):Sc via nt (q++[s]) (m+1):=
 ⟨hm,fun x hx=>by
  rcases List.mem_append.1 hx with hx | hx
  ·exact h.ok x hx
  ·simp at hx;subst hx;exact h1,
  by rw[q9y,h.met,mtv,if_pos ((getD_some hm).2 h3)],fun i hi=>by
   by_cases e:i=m
   ·subst e;rw[h3];simp
   ·exact List.mem_append.2 (Or.inl (h.all i (by omega)))⟩
theorem met_in{via:List Int}:∀{q:List Int} {m i:Nat},m<=i->i<q5j via m q->via.getD i 0∈q
 | [],m,i,h1,h2=>by have:i<m:=h2;omega
 | s::q,m,i,h1,h2=>by
  have h3:q5j via m (s::q)=q5j via (mtv via m s) q:=rfl
  rw[h3] at h2
  by_cases hv:via[m]? =some s
  ·have e:mtv via m s=m+1:=by rw[mtv,if_pos hv]
   rw[e] at h2
   by_cases hi:i=m
   ·subst hi
    have hm:=(List.getElem?_eq_some_iff.1 hv).1
    rw[(getD_some hm).1 hv]
    simp
   ·exact List.mem_cons_of_mem _ (met_in (by omega) h2)
  ·have e:mtv via m s=m:=by rw[mtv,if_neg hv]
   rw[e] at h2
   exact List.mem_cons_of_mem _ (met_in h1 h2)
theorem sc_ok{via nt:List Int}:∀{v u:List Int} {m:Nat},(u++v).Nodup->Sc via nt u m->(∀x∈v,¬x∈nt)->q5j via m v=via.length->v.foldl (stp via nt) (some m)=some via.length
 | [],u,m,_,_,_,h=>by
  have:m=via.length:=h
  simp[this]
 | s::v,u,m,hnd,hsc,hnt,h=>by
  have h1:=hnt s (by simp)
  have hnu:¬s∈u:=fun hm=>by
   have:=(List.nodup_append.1 hnd).2.2 s hm s (by simp)
   exact this rfl
  have hnv:¬s∈v:=(List.nodup_cons.1 (List.nodup_append.1 hnd).2.1).1
  have hnd':((u++[s])++v).Nodup:=by simpa using hnd
  by_cases hv:s∈via
  ·have hm:=hsc.left hv hnu
   by_cases he:via.getD m 0=s
   ·simp only[List.foldl_cons,z6g h1 hv he]
    refine sc_ok hnd' (hsc.next h1 hm he) (fun x hx=>hnt x (by simp[hx])) ?_
    have e:mtv via m s=m+1:=by rw[mtv,if_pos ((getD_some hm).2 he)]
    rw[<-e]
    exact h
   ·exfalso
    have e:mtv via m s=m:=by rw[mtv,if_neg (fun h=>he ((getD_some hm).1 h))]
    have h4:q5j via (mtv via m s) v=via.length:=h
    rw[e] at h4
    obtain⟨i,hi,hs⟩:=List.getElem_of_mem hv
    rcases Nat.lt_trichotomy i m with h6 | h6 | h6
    ·have:=hsc.all i h6
     rw[getD_eq hi,hs] at this
     exact hnu this
    ·subst h6
     exact he (by rw[getD_eq hi,hs])
    ·have:=met_in (via:=via) (q:=v) (m:=m) (i:=i) (by omega) (by omega)
     rw[getD_eq hi,hs] at this
     exact hnv this
  ·simp only[List.foldl_cons,q7n h1 hv]
   refine sc_ok hnd' (hsc.other h1 hv) (fun x hx=>hnt x (by simp[hx])) ?_
   rw[<-mtv_no (m:=m) hv]
   exact h
theorem sc_inv{via nt:List Int}:∀{v:List Int} {m k:Nat},m<=via.length->v.foldl (stp via nt) (some m)=some k->(∀x∈v,¬x∈nt)/\(k=via.length->q5j via m v=via.length)
 | [],m,k,_,h=>by
  injection h with h
  exact⟨fun x hx=>(by cases hx),fun e=>by rw[<-e, <-h];rfl⟩
 | s::v,m,k,hm,h=>by
  simp only[List.foldl_cons] at h
  by_cases h1:s∈nt
  ·rw[z6h h1,q6e] at h;cases h
  ·by_cases hv:s∈via
   ·by_cases he:via.getD m 0=s
    ·rw[z6g h1 hv he] at h
     by_cases hlt:m<via.length
     ·obtain⟨h2,h3⟩:=sc_inv (by omega) h
      refine⟨fun x hx=>?_,fun e=>?_⟩
      ·rcases List.mem_cons.1 hx with rfl | hx
       ·exact h1
       ·exact h2 x hx
      ·have e1:mtv via m s=m+1:=by rw[mtv,if_pos ((getD_some hlt).2 he)]
       have h4:=h3 e
       rw[<-e1] at h4
       exact h4
     ·
      have hk:∀{v:List Int} {a b:Nat},v.foldl (stp via nt) (some a)=some b->a<=b:=by
       intro v
       induction v with
       | nil=>intro a b h;injection h with h;omega
       | cons s v ih=>
        intro a b h
        simp only[List.foldl_cons] at h
        cases hs:stp via nt (some a) s with
        | none=>rw[hs,q6e] at h;cases h
        | some c=>
         rw[hs] at h
         have h5:=ih h
         have h6:a<=c:=by
          unfold stp at hs
          simp only at hs
          split at hs
          ·cases hs
          ·split at hs
           ·split at hs
            ·injection hs with hs;omega
            ·cases hs
           ·injection hs with hs;omega
         omega
      have hmk:=hk h
      refine⟨fun x hx=>?_,fun e=>by omega⟩
      have hn:∀{v:List Int} {a b:Nat},v.foldl (stp via nt) (some a)=some b->∀x∈v,¬x∈nt:=by
       intro v
       induction v with
       | nil=>intro a b _ x hx;cases hx
       | cons s v ih=>
        intro a b h x hx
        simp only[List.foldl_cons] at h
        cases hs:stp via nt (some a) s with
        | none=>rw[hs,q6e] at h;cases h
        | some c=>
         rw[hs] at h
         rcases List.mem_cons.1 hx with rfl | hx
         ·intro hm
          rw[z6h hm] at hs
          cases hs
         ·exact ih h x hx
      rcases List.mem_cons.1 hx with rfl | hx
      ·exact h1
      ·exact hn h x hx
    ·rw[stp_miss h1 hv he,q6e] at h;cases h
   ·rw[q7n h1 hv] at h
    obtain⟨h2,h3⟩:=sc_inv hm h
    refine⟨fun x hx=>?_,fun e=>?_⟩
    ·rcases List.mem_cons.1 hx with rfl | hx
     ·exact h1
     ·exact h2 x hx
    ·have h4:=h3 e
     rw[<-mtv_no (m:=m) hv] at h4
     exact h4
def svB (n:Int) (ls:List Lk) (fr tq:Int) (via nt p:List Int):Bool:=q3k n ls p && (p.getD 0 0 == fr) && (p.getD (p.length - 1) 0 == tq) && decide (sc via nt p=some via.length)
variable {p:List Int}
theorem z2c(h:p≠[]):lst p=p.getD (p.length - 1) 0:=by
 have h0:0<p.length:=List.length_pos_iff.2 h
 have:=lst_take (ps:=p) (k:=p.length) h0 (Ql _)
 rwa [List.take_length] at this
theorem svB_iff{n:Int}{ls:List Lk}{fr tq:Int}(hr:q1z n ls)(hf:0<=fr/\fr<n):svB n ls fr tq via nt p=true↔Srv (cost ls) fr tq via nt p:=by
 simp only[svB,Bool.and_eq_true,beq_iff_eq,decide_eq_true_eq]
 constructor
 ·rintro⟨⟨⟨h1,h2⟩,h3⟩,h4⟩
  have hp:=pth_of hr h1
  have hne:=((q2k hr).1 h1).1
  rw[z2c hne,h2,h3] at hp
  obtain⟨h5,h6⟩:=sc_inv (Zu _) h4
  exact⟨hp,h5,h6 rfl⟩
 ·intro h
  have hp:=h.toPth.path hr hf
  have hne:=((q2k hr).1 hp).1
  refine⟨⟨⟨hp,?_⟩,?_⟩,sc_ok (u:=[]) (by simpa using h.nd) (Sc.start via nt) h.not h.met⟩
  ·obtain⟨r,hr'⟩:=h.head
   rw[hr'];rfl
  ·rw[<-z2c hne];exact h.last
end Stp
namespace Go.Proofs.YthkpbefnkmmaiaaGreat
open Go.Proofs.Tryz
section
open Go.RowKit Go.Maps Stw Go.Deep Stp
variable {via nt p:List Int} {ls:List Lk} {fr tq:Int}
theorem svB_no{n:Int}(h:q3k n ls p=false):svB n ls fr tq via nt p=false:=by simp[svB,h]
theorem svB_fr{n:Int}(h:(p.getD 0 0 == fr)=false):svB n ls fr tq via nt p=false:=by simp only[svB,h,Bool.and_false,Bool.false_and]
theorem svB_to{n:Int}(h:(p.getD (p.length - 1) 0 == tq)=false):svB n ls fr tq via nt p=false:=by simp only[svB,h,Bool.and_false,Bool.false_and]
theorem svB_sc{n:Int}{β:Bool}(h1:q3k n ls p=true)(h2:(p.getD 0 0 == fr)=true)(h3:(p.getD (p.length - 1) 0 == tq)=true)(h4:decide (sc via nt p=some via.length)=β):svB n ls fr tq via nt p=β:=by simp only[svB,h1,h2,h3,h4,Bool.true_and]
variable {k:Nat}
theorem sc_take(h:k<p.length):(p.take (k+1)).foldl (stp via nt) (some 0)=stp via nt ((p.take k).foldl (stp via nt) (some 0)) (p.getD k 0):=by
 rw[List.take_succ_eq_append_getElem h,List.foldl_append,getD_eq h];rfl
theorem sc_dead(h:(p.take k).foldl (stp via nt) (some 0)=none):sc via nt p=none:=by
 unfold sc
 rw[<-List.take_append_drop k p,List.foldl_append,h,q6e]
theorem z0k(n:Int)(ao:Option Addr)(len cap:Nat)(ls:List Lk)(fr tq:Int)(via nt:List Int)(vo no:Option Addr)(vc nc:Nat)(ps:List Int)(po:Option Addr)(pl pc:Nat)(w:World)(hlen:ls.length=len)(hl:Zg w ao ls)(hx:len<=9223372036854775807)(hr:Qc n ls=(0,0))(hv:Qj w vo via)(hvl:via.length<=4611686018427387904)(hn:Qj w no nt)(hnl:nt.length<=4611686018427387904)(hpl:ps.length=pl)(hpx:pl*8<=140737488351232)(hp:Qj w po ps):
  Calls prog 106 #[.agg #[.int .i64 n,.slice ao len cap],.agg #[.int .i64 fr,.int .i64 tq,.slice vo via.length vc,.slice no nt.length nc],.slice po pl pc] w fun e w'=>e=.returned (.bool (svB n ls fr tq via nt ps))/\Ext w w':=by
  have HR:=Qa hr
  have hright:=Zo (by rw[hr]:(Qc n ls).1=0)
  clear hr
  have HL:=Qa (q6m (ps:=ps) hright)
  go_enter func106,ntmps106
  go_wp2_with fail
  refine(q1l n ao po len cap pl pc ls ps _ hlen (hl.ext (((Ext.refl w).alloc _).alloc _)) hx HR.out hpl hpx (hp.ext (((Ext.refl w).alloc _).alloc _))).mono ?_
  rintro e w1 ⟨he,E1⟩
  have hw1:Ext w w1:=(((Ext.refl w).alloc _).alloc _).trans E1
  have hs1:w.heap.size+1<w1.heap.size:=by have:=E1.size;simp at this;omega
  cases hpb:q3k n ls ps
  ·rw[HL.out,hpb] at he
   subst he
   have HS:=Qa (svB_no (fr:=fr) (tq:=tq) (via:=via) (nt:=nt) hpb)
   clear hpb
   go_wp2
   go_region
   go_wp2
   go_ret
   exact⟨by rw[HS.out];rfl,hw1.drew⟩
  ·rw[HL.out,hpb] at he
   simp only[if_true] at he
   subst he
   obtain⟨hne,hrg,hnd,hch⟩:=(q2k hright).1 hpb
   have hlp:ps.length<=8:=by
    have hb:=hright.bounds
    exact q8a (show Pth (cost ls) (ps.getD 0 0) (lst ps) ps from pth_of hright hpb)
   have hl0:0<ps.length:=List.length_pos_iff.2 hne
   obtain⟨b,off,rfl,hb,Q2⟩:∃b off,po=some ⟨b,off,none⟩/\b<w.heap.size/\Q9 w b off ps:=by
    rcases hp with rfl | h
    ·exact absurd rfl hne
    ·exact h
   have q1:=E1.cells.1
   have b0:w1.cell? ⟨w.heap.size+1,0,none⟩=some (.int .i64 fr):=(q1 _ _ (by simp)).trans (by simp)
   have b1:w1.cell? ⟨w.heap.size+1,1,none⟩=some (.int .i64 tq):=(q1 _ _ (by simp)).trans (by simp)
   have b2:w1.cell? ⟨w.heap.size+1,2,none⟩=some (.slice vo via.length vc):=(q1 _ _ (by simp)).trans (by simp)
   have b3:w1.cell? ⟨w.heap.size+1,3,none⟩=some (.slice no nt.length nc):=(q1 _ _ (by simp)).trans (by simp)
   have p0:w1.cell? ⟨b,off,none⟩=some (.int .i64 (ps.getD 0 0)):=(hw1.cells.1 _ _ hb).trans (Q2 0 hl0)
   have pz:w1.cell? ⟨b,off+(pl - 1),none⟩=some (.int .i64 (ps.getD (ps.length - 1) 0)):=(hw1.cells.1 _ _ hb).trans (by rw[<-hpl];exact Q2 (ps.length - 1) (by omega))
   clear q1
   have hpl0:0<pl:=by omega
   have hpl8:pl<=8:=by omega
   have hbw:b<w1.heap.size:=by have:=hw1.size;omega
   have HH:=Qa (And.intro hnd (And.intro hpb Q2))
   obtain⟨x0,hx0⟩:=Qy (ps.getD 0 0)
   obtain⟨xz,hxz⟩:=Qy (ps.getD (ps.length - 1) 0)
   rw[<-hx0] at p0
   rw[<-hxz] at pz
   have HX0:=Qa hx0
   have HXZ:=Qa hxz
   clear hx0 hxz hnd hpb Q2 hrg hch hne
   cases h1:(x0 == fr)
   ·have HS:=Qa (svB_fr (n:=n) (ls:=ls) (tq:=tq) (via:=via) (nt:=nt) (by rw[<-HX0.out];exact h1))
    have h1':(x0 != fr)=true:=by simp only[bne,h1,Bool.not_false]
    go_wp2
    go_region
    go_wp2
    go_ret
    exact⟨by rw[HS.out];rfl,hw1.drew⟩
   ·have h1':(x0 != fr)=false:=by simp only[bne,h1,Bool.not_true]
    cases h2:(xz == tq)
    ·have HS:=Qa (svB_to (n:=n) (ls:=ls) (fr:=fr) (via:=via) (nt:=nt) (by rw[<-HXZ.out];exact h2))
     have h2':(xz != tq)=true:=by simp only[bne,h2,Bool.not_false]
     go_wp2
     go_region
     go_wp2
     go_ret
     exact⟨by rw[HS.out];rfl,hw1.drew⟩
    ·have h2':(xz != tq)=false:=by simp only[bne,h2,Bool.not_true]
     have HS:Hid (∀β,decide (sc via nt ps=some via.length)=β->svB n ls fr tq via nt ps=β):=fun β h=>svB_sc HH.out.2.1 (by rw[<-HX0.out];exact h1) (by rw[<-HXZ.out];exact h2) h
     go_wp2
     go_region
     go_wp2
     go_loopw [9,41] (fun mv iv wr=>∃k m:Nat,k<=pl/\iv=.int .i64 k/\mv=.int .i64 m/\Sc via nt (ps.take k) m/\(ps.take k).foldl (stp via nt) (some 0)=some m/\wr=w1.drew) (fun _ iv _=>pl - (intOf iv).toNat)
     case atStart=>exact⟨0,0,Zu _,rfl,rfl,Sc.start via nt,rfl,rfl⟩
     case round=>
      obtain⟨k,m,hk,rfl,rfl,hsc,hfo,rfl⟩:=hrel
      have hml:=hsc.le
      have hvw:Qj w1.drew vo via:=hv.ext hw1.drew
      have hnw:Qj w1.drew no nt:=hn.ext hw1.drew
      by_cases hlt:k<pl
      ·have pk:w1.drew.cell? ⟨b,off+k,none⟩=some (.int .i64 (ps.getD k 0)):=(hw1.drew.cells.1 _ _ hb).trans (HH.out.2.2 k (by omega))
       have HN:Hid (¬ps.getD k 0∈ps.take k):=(Stp.nodup_iff.1 HH.out.1) k (by omega)
       have HT:=Qa (sc_take (via:=via) (nt:=nt) (p:=ps) (k:=k) (by omega))
       have HT2:Hid (ps.take (k+1)=ps.take k++[ps.getD k 0]):=by rw[List.take_succ_eq_append_getElem (by omega:k<ps.length), <-getD_eq];exact Qa rfl
       obtain⟨x,hx1⟩:=Qy (ps.getD k 0)
       rw[<-hx1] at pk HN HT HT2
       clear hx1
       have HSc:=Qa hsc
       have HFo:=Qa hfo
       clear hsc hfo
       have i1:(k:Int)<(pl:Int):=by omega
       cases hnm:decide (x∈nt)
       ·have hnm':¬x∈nt:=of_decide_eq_false hnm
        have HNM:=Qa hnm'
        clear hnm'
        go_wp2_with fail
        refine(q5m no nc nt.length nt x _ rfl hnw hnl).mono ?_
        rintro e w2 ⟨he,rfl⟩
        rw[hnm] at he
        subst he
        cases hvm:decide (x∈via)
        ·have HVM:Hid (¬x∈via):=Qa (of_decide_eq_false hvm)
         go_wp2_with fail
         refine(q5m vo vc via.length via x _ rfl hvw hvl).mono ?_
         rintro e w3 ⟨he,rfl⟩
         rw[hvm] at he
         subst he
         clear hnm hvm
         go_wp2
         go_roundw
         case rel=>exact⟨k+1,m,by omega,by go_num,rfl,by rw[HT2.out];exact HSc.out.other HNM.out HVM.out,by rw[HT.out,HFo.out];exact q7n HNM.out HVM.out,trivial⟩
         case measure=>simp[intOf];omega
        ·have HVM:Hid (x∈via):=Qa (of_decide_eq_true hvm)
         go_wp2_with fail
         refine(q5m vo vc via.length via x _ rfl hvw hvl).mono ?_
         rintro e w3 ⟨he,rfl⟩
         rw[hvm] at he
         subst he
         have hmlt:=HSc.out.left HVM.out HN.out
         obtain⟨bv,ov,rfl,hbv,hatv⟩:∃bv ov,vo=some ⟨bv,ov,none⟩/\bv<w1.heap.size/\Q9 w1.drew bv ov via:=by
          rcases hvw with rfl | h
          ·simp at hmlt
          ·exact h
         have pv:=hatv m hmlt
         clear hatv hnm hvm
         obtain⟨y,hy⟩:=Qy (via.getD m 0)
         rw[<-hy] at pv
         have HY:=Qa hy
         clear hy
         have i2:(m:Int)<(via.length:Int):=by omega
         cases hyx:(y == x)
         ·have hyx':(y != x)=true:=by simp only[bne,hyx,Bool.not_false]
          have HNE:Hid (¬via.getD m 0=x):=by rw[<-HY.out];exact Qa (by simpa using hyx)
          go_wp2
          go_ret
          have HD:=HS.out false (by rw[sc_dead (k:=k+1) (by rw[HT.out,HFo.out];exact stp_miss HNM.out HVM.out HNE.out)];simp)
          exact⟨by rw[HD];rfl,hw1.drew⟩
         ·have hyx':(y != x)=false:=by simp only[bne,hyx,Bool.not_true]
          have HEQ:Hid (via.getD m 0=x):=by rw[<-HY.out];exact Qa (by simpa using hyx)
          go_wp2
          go_roundw
          case rel=>exact⟨k+1,m+1,by omega,by go_num,by go_num,by rw[HT2.out];exact HSc.out.next HNM.out hmlt HEQ.out,by rw[HT.out,HFo.out];exact z6g HNM.out HVM.out HEQ.out,trivial⟩
          case measure=>simp[intOf];omega
       ·have HNM:Hid (x∈nt):=Qa (of_decide_eq_true hnm)
        go_wp2_with fail
        refine(q5m no nc nt.length nt x _ rfl hnw hnl).mono ?_
        rintro e w2 ⟨he,rfl⟩
        rw[hnm] at he
        subst he
        clear hnm
        go_wp2
        go_ret
        have HD:=HS.out false (by rw[sc_dead (k:=k+1) (by rw[HT.out,HFo.out];exact z6h HNM.out)];simp)
        exact⟨by rw[HD];rfl,hw1.drew⟩
      ·have hkk:ps.take k=ps:=List.take_of_length_le (by omega)
       rw[hkk] at hfo
       have HFo:Hid (sc via nt ps=some m):=hfo
       clear hkk hfo hsc
       cases hmv:((m:Int) == (via.length:Int))
       ·have HD:=Qa (HS.out false (by rw[HFo.out];simp at hmv ⊢;omega))
        go_wp2
        go_ret
        exact⟨by rw[HD.out];rfl,hw1.drew⟩
       ·have HD:=Qa (HS.out true (by rw[HFo.out];simp at hmv ⊢;omega))
        go_wp2
        go_ret
        exact⟨by rw[HD.out];rfl,hw1.drew⟩
end
end Go.Proofs.YthkpbefnkmmaiaaGreat
