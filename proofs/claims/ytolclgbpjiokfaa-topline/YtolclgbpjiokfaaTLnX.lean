/- TopLine: in a line a flow's rules are as many as its switches but one, and its path costs as many links as it has; for every input. -/
import Derived.Test.YtolclgbpjiokfaaU39
import Derived.Test.YtolclgbpjiokfaaU01
import Derived.Test.YtolclgbpjiokfaaU02
import Derived.Test.YtolclgbpjiokfaaU36
import Derived.Test.YtolclgbpjiokfaaU16
import Derived.Test.YtolclgbpjiokfaaU11
import Derived.Lib.MinMax
import Derived.Test.YtolclgbpjiokfaaU24
namespace Go.Proofs.Ytolclgbpjiokfaa.Rm
open Go.RowKit Go.Deep Stw Stp Tb Rul Ct
def tlB (n a b:Nat):Bool:=
 decide (plnF n 1 (lnk (n - 1)) [⟨(a:Int),(b:Int),[],[]⟩]=(0,0)) && decide (lengthOf n (lnk (n - 1)) (fnd n (lnk (n - 1)) ⟨(a:Int),(b:Int),[],[]⟩).2=(((max (a - b) (b - a):Nat):Int),true)) && decide ((fnd n (lnk (n - 1)) ⟨(a:Int),(b:Int),[],[]⟩).2.length=max (a - b) (b - a)+1) &&
  decide (((List.range n).map (fun(s:Nat)=>(rof 1 (s:Int) [(fnd n (lnk (n - 1)) ⟨(a:Int),(b:Int),[],[]⟩).2] 1).length)).sum=max (a - b) (b - a)) && (fnd n (lnk (n - 1)) ⟨(a:Int),(b:Int),[],[]⟩).2.all (fun x=>decide (0≤x) && decide (x<9))
theorem tl_all:((List.range 9).all fun n=>decide (n<2) || (List.range n).all fun a=>(List.range n).all fun b=>decide (a=b) || tlB n a b)=true:=by decide+kernel
theorem tl_get {n a b:Nat} (h2:2≤n) (h8:n≤8) (ha:a<n) (hb:b<n) (hab:a≠b):plnF n 1 (lnk (n - 1)) [⟨(a:Int),(b:Int),[],[]⟩]=(0,0)∧lengthOf n (lnk (n - 1)) (fnd n (lnk (n - 1)) ⟨(a:Int),(b:Int),[],[]⟩).2=(((max (a - b) (b - a):Nat):Int),true)∧(fnd n (lnk (n - 1)) ⟨(a:Int),(b:Int),[],[]⟩).2.length=max (a - b) (b - a)+1∧
 ((List.range n).map (fun(s:Nat)=>(rof 1 (s:Int) [(fnd n (lnk (n - 1)) ⟨(a:Int),(b:Int),[],[]⟩).2] 1).length)).sum=max (a - b) (b - a)∧∀x∈(fnd n (lnk (n - 1)) ⟨(a:Int),(b:Int),[],[]⟩).2,0≤x∧x<9:=by
 have h:=tl_all
 rw[List.all_eq_true] at h
 have h1:=h n (by rw[List.mem_range];omega)
 rw[Bool.or_eq_true,decide_eq_true_iff,List.all_eq_true] at h1
 have h3:=h1.resolve_left (by omega) a (List.mem_range.2 ha)
 rw[List.all_eq_true] at h3
 have h4:=h3 b (List.mem_range.2 hb)
 rw[Bool.or_eq_true,decide_eq_true_iff] at h4
 have h5:=h4.resolve_left hab
 unfold tlB at h5
 simp only[Bool.and_eq_true,decide_eq_true_iff,List.all_eq_true] at h5
 exact⟨h5.1.1.1.1,h5.1.1.1.2,h5.1.1.2,h5.1.2,h5.2⟩
def rng (n:Nat):List Lk:=lnk (n - 1)++[⟨(n:Int) - 1,0,1⟩]
def taB (n t x:Nat):Bool:=
 decide ((fnd n (rng n) ⟨0,(t:Int),[],[(x:Int)]⟩).1=0) && decide ((fnd n (rng n) ⟨0,(t:Int),[],[(x:Int)]⟩).2.length=n - t+1) && decide ((fnd n (rng n) ⟨0,(t:Int),[],[(x:Int)]⟩).2.getD 1 0=(n:Int) - 1) &&
 decide ((fnd n (rng n) ⟨0,(t:Int),[(x:Int)],[]⟩).1=0) && decide ((fnd n (rng n) ⟨0,(t:Int),[(x:Int)],[]⟩).2.length=t+1) && decide ((fnd n (rng n) ⟨0,(t:Int),[(x:Int)],[]⟩).2.getD 1 0=1)
theorem ta_all:((List.range 9).all fun n=>decide (n<4) || (List.range (n - 1)).all fun t=>decide (t<2) || (List.range t).all fun x=>decide (x<1) || taB n t x)=true:=by decide+kernel
theorem ta_get {n t x:Nat} (h4:4≤n) (h8:n≤8) (ht:2≤t) (htn:t<n - 1) (hx:1≤x) (hxt:x<t):
 ((fnd n (rng n) ⟨0,(t:Int),[],[(x:Int)]⟩).1=0∧(fnd n (rng n) ⟨0,(t:Int),[],[(x:Int)]⟩).2.length=n - t+1∧(fnd n (rng n) ⟨0,(t:Int),[],[(x:Int)]⟩).2.getD 1 0=(n:Int) - 1)∧
 (fnd n (rng n) ⟨0,(t:Int),[(x:Int)],[]⟩).1=0∧(fnd n (rng n) ⟨0,(t:Int),[(x:Int)],[]⟩).2.length=t+1∧(fnd n (rng n) ⟨0,(t:Int),[(x:Int)],[]⟩).2.getD 1 0=1:=by
 have h:=ta_all
 rw[List.all_eq_true] at h
 have h1:=h n (by rw[List.mem_range];omega)
 rw[Bool.or_eq_true,decide_eq_true_iff,List.all_eq_true] at h1
 have h3:=h1.resolve_left (by omega) t (List.mem_range.2 htn)
 rw[Bool.or_eq_true,decide_eq_true_iff,List.all_eq_true] at h3
 have h4:=h3.resolve_left (by omega) x (List.mem_range.2 hxt)
 rw[Bool.or_eq_true,decide_eq_true_iff] at h4
 have h5:=h4.resolve_left (by omega)
 unfold taB at h5
 simp only[Bool.and_eq_true,decide_eq_true_iff] at h5
 exact⟨⟨h5.1.1.1.1.1,h5.1.1.1.1.2,h5.1.1.1.2⟩,h5.1.1.2,h5.1.2,h5.2⟩
end Go.Proofs.Ytolclgbpjiokfaa.Rm
namespace Go.Proofs.Ytolclgbpjiokfaa
open Go.RowKit Go.Maps Stw
theorem CostMap.below {B:Nat} {w w':World} {m:Nat} {ls:List Lk} (h:CostMap w m ls) (hm:m<B) (k:Below B w w'):CostMap w' m ls:=by
 obtain⟨n,hn,D,hown,hD⟩:=h
 refine⟨n,hn,D,?_,hD⟩
 obtain⟨es,cl,hb,r⟩:=hown
 exact⟨es,cl,by rw[←hb];exact k.block m hm,r⟩
def Met (w:World) (A:Nat) (l:List Int):Prop:=∀s:Nat,s<8→w.cell? ⟨A,s,none⟩=some (.bool (decide ((s:Int)∈l)))∧w.frozen? ⟨A,s,none⟩=false
theorem Met.ext {w w':World} {A:Nat} {l:List Int} (h:Met w A l) (hA:A<w.heap.size) (k:Ext w w'):Met w' A l:=fun s hs=>⟨(k.cells.1 _ _ hA).trans (h s hs).1,(k.cells.2 _ _ hA).trans (h s hs).2⟩
theorem Met.set {w:World} {A:Nat} {l:List Int} (h:Met w A l) {x:Nat} (hx:x<8):Met (w.setCell ⟨A,x,none⟩ (.bool true)) A (l++[(x:Int)]):=by
 intro s hs
 obtain⟨h1,h2⟩:=h s hs
 refine⟨?_,by simpa using h2⟩
 by_cases e:s=x
 ·subst e
  rw[World.cell?_setCell_same w _ _ h1]
  simp
 ·rw[World.cell?_setCell_other w ⟨A,x,none⟩ ⟨A,s,none⟩ _ (fun h=>e (by cases h;rfl)),h1]
  simp
  omega
theorem Met.start (w:World):Met (w.alloc (.cells #[.bool false,.bool false,.bool false,.bool false,.bool false,.bool false,.bool false,.bool false] 111)) w.heap.size []:=by
 intro s hs
 match s,hs with
 | 0,_ | 1,_ | 2,_ | 3,_ | 4,_ | 5,_ | 6,_ | 7,_=>simp
set_option maxHeartbeats 1000000 in
theorem Length_wrong (n:Int) (ao po:Option Addr) (len cap pl pc:Nat) (ls:List Lk) (w:World) (hlen:ls.length=len) (hl:NetAt w ao ls) (hx:len≤9223372036854775807) (hr:(wrong n ls).1≠0):
 Calls Try.prog 35 #[.agg #[.int .i64 n,.slice ao len cap],.slice po pl pc] w fun e w'=>e=.returned (.tuple #[.int .i64 0,.bool false])∧Ext w w':=by
 have hr':((wrong n ls).1 == 0)=false:=by simpa using hr
 have HR:Hid ((wrong n ls).1≠0):=hr
 clear hr
 go_enter Try.func35,Try.ntmps35
 go_wp2_with fail
 refine(read_fault n ao len cap ls _ hlen (hl.ext ((Ext.refl w).alloc _)) hx).mono ?_
 rintro e w1 ⟨hb1,mo,rfl⟩
 go_wp2
 go_ret2
 exact⟨rfl,(((Ext.refl w).alloc _).trans hb1).alloc _⟩
set_option maxHeartbeats 1000000 in
theorem Length_none (n:Int) (ao po:Option Addr) (len cap pc:Nat) (ls:List Lk) (w:World) (hlen:ls.length=len) (hl:NetAt w ao ls) (hx:len≤9223372036854775807) (hr:wrong n ls=(0,0)):
 Calls Try.prog 35 #[.agg #[.int .i64 n,.slice ao len cap],.slice po 0 pc] w fun e w'=>e=.returned (.tuple #[.int .i64 0,.bool false])∧Ext w w':=by
 go_enter Try.func35,Try.ntmps35
 go_wp2_with fail
 refine(read_fault n ao len cap ls _ hlen (hl.ext ((Ext.refl w).alloc _)) hx).mono ?_
 rintro e w1 ⟨hb1,mo,rfl⟩
 go_wp2
 go_ret2
 exact⟨rfl,(((Ext.refl w).alloc _).trans hb1).alloc _⟩
set_option maxHeartbeats 1000000 in
theorem Length_some (n:Int) (ao:Option Addr) (len cap b off pl pc:Nat) (ls:List Lk) (ps:List Int) (w:World) (hlen:ls.length=len) (hl:NetAt w ao ls) (hx:len≤9223372036854775807)
 (hr:wrong n ls=(0,0)) (hpl:ps.length=pl) (hp0:0<pl) (hpx:pl*8≤140737488351232) (hb:b<w.heap.size) (hp:IntsAt w b off ps) (hi:∀x∈ps,I64 x):
 Calls Try.prog 35 #[.agg #[.int .i64 n,.slice ao len cap],.slice (some ⟨b,off,none⟩) pl pc] w fun e w'=>e=.returned (.tuple #[.int .i64 (lengthOf n ls ps).1,.bool (lengthOf n ls ps).2])∧Ext w w':=by
 have HR:Hid (wrong n ls=(0,0)):=hr
 have hright:=right_of (by rw[hr]:(wrong n ls).1=0)
 have hbd:=hright.bounds
 have HC:Hid (∀a b,0≤cost ls a b∧cost ls a b≤1000):=fun a b=>⟨(hright.cost a b).1,(hright.cost a b).2.1⟩
 have hp0':((pl:Int) == 0)=false:=by simp;omega
 clear hr
 go_enter Try.func35,Try.ntmps35
 go_wp2_with fail
 refine(read_any n ao len cap ls _ hlen (hl.ext ((Ext.refl w).alloc _)) hx).mono ?_
 rintro e w1 ⟨hb1,h⟩
 rcases h with⟨hw,m,rfl,hm,hmap⟩ | ⟨hw,rfl⟩
 ·clear hw
  have hs1:w.heap.size<w1.heap.size:=by have:=hb1.size;simp at this;omega
  have hmB:=hmap.lt
  go_wp2
  go_loopw [9,28] (fun sm i wr=>∃k:Nat,k≤pl∧i=.int .i64 k∧sm=.int .i64 (psum ls ps k)∧okTo n ls ps k∧Met wr (w1.heap.size+1) (ps.take k)∧
   Below (w1.heap.size+1) (w1.alloc (.cells #[.int .i64 0,.int .i64 0] 44)) wr∧w1.heap.size+1<wr.heap.size)
   (fun _ i _=>pl - (intOf i).toNat)
  case atStart=>
   refine⟨0,Nat.zero_le _,rfl,rfl,fun i hi=>by omega,?_,(Below.refl _ _).alloc (by simp) _,by simp⟩
   have:=Met.start (w1.alloc (.cells #[.int .i64 0,.int .i64 0] 44))
   simpa using this
  case round=>
   obtain⟨k,hk,rfl,rfl,hok,hmet,hnx,hs2⟩:=hrel
   have hw1:Ext w1 wr:=Below.trans ((Ext.refl w1).alloc _) (hnx.mono (by omega))
   have hw:Ext w wr:=(((Ext.refl w).alloc _).trans hb1).trans hw1
   have hs0:w.heap.size<wr.heap.size:=by omega
   have c0:wr.cell? ⟨w.heap.size,0,none⟩=some (.int .i64 n):=(hw1.cells.1 _ _ hs1).trans ((hb1.cells.1 _ _ (by simp)).trans (by simp))
   have c1:wr.cell? ⟨w.heap.size,1,none⟩=some (.slice ao len cap):=(hw1.cells.1 _ _ hs1).trans ((hb1.cells.1 _ _ (by simp)).trans (by simp))
   have hmr:CostMap wr m ls:=hmap.ext hw1
   have hps:=psum_range (ps:=ps) HC.out k
   by_cases hlt:k<pl
   ·have p0:wr.cell? ⟨b,off+k,none⟩=some (.int .i64 (ps.getD k 0)):=(hw.cells.1 _ _ hb).trans (hp k (by omega))
    have ix:I64 (ps.getD k 0):=by rw[List.getD_eq_getElem?_getD,List.getElem?_eq_getElem (by omega:k<ps.length)];exact hi _ (List.getElem_mem _)
    obtain⟨x,hx0⟩:∃x,x=ps.getD k 0:=⟨_,rfl⟩
    rw[←hx0] at p0 ix
    have HX:Hid (x=ps.getD k 0):=hx0
    clear hx0
    have hbr:b<wr.heap.size:=by omega
    go_wp2_with fail
    refine(isSwitch_any _ _ _ _ _ _).mono ?_;rintro e w2 ⟨rfl,hb2⟩
    cases hsw:swB n x
    ·go_wp2
     go_ret2
     have hfin:lengthOf n ls ps=(0,false):=by
      have:=pathB_bad (n:=n) (ls:=ls) (ps:=ps) (i:=k) (by omega) (okAt_false_sw (by rw[←HX.out];exact hsw))
      simp[lengthOf,this]
     exact⟨by rw[hfin];rfl,hw.trans hb2⟩
    ·have hsx:=swB_true.1 hsw
     have hm2:=hmet.ext hs2 hb2
     obtain⟨xn,hxn⟩:=Int.eq_ofNat_of_zero_le hsx.1
     have mt:=hm2 xn (by omega)
     by_cases hmem:x∈ps.take k
     ·have mt1:w2.cell? ⟨w1.heap.size+1,x.toNat,none⟩=some (.bool true):=by
       rw[show x.toNat=xn by omega,mt.1, ←hxn];simp[hmem]
      clear mt hxn hm2
      go_wp2
      go_ret2
      have hfin:lengthOf n ls ps=(0,false):=by
       have:=pathB_bad (n:=n) (ls:=ls) (ps:=ps) (i:=k) (by omega) (okAt_false_met (by rw[←HX.out];exact hmem))
       simp[lengthOf,this]
      exact⟨by rw[hfin];rfl,hw.trans hb2⟩
     ·have mt1:w2.cell? ⟨w1.heap.size+1,x.toNat,none⟩=some (.bool false):=by
       rw[show x.toNat=xn by omega,mt.1, ←hxn];simp[hmem]
      have mt2:w2.frozen? ⟨w1.heap.size+1,x.toNat,none⟩=false:=by rw[show x.toNat=xn by omega];exact mt.2
      have hs3:=hb2.size
      have hmet':Met (w2.setCell ⟨w1.heap.size+1,x.toNat,none⟩ (.bool true)) (w1.heap.size+1) (ps.take (k+1)):=by
       have h3:=hm2.set (x:=xn) (by omega)
       rw[←hxn] at h3
       rw[show x.toNat=xn by omega,List.take_succ_eq_append_getElem (by omega:k<ps.length)]
       have h4:ps[k]'(by omega)=x:=by rw[HX.out];simp[List.getD_eq_getElem?_getD,show k<ps.length by omega]
       rw[h4];exact h3
      clear hm2 mt hxn
      cases hk0:((k:Int) == 0)
      ·have hk1:1≤k:=by have:(k:Int)≠0:=by simpa using hk0
                        omega
       have p1:w2.cell? ⟨b,off+(k - 1),none⟩=some (.int .i64 (ps.getD (k - 1) 0)):=(hb2.cells.1 _ _ hbr).trans ((hw.cells.1 _ _ hb).trans (hp (k - 1) (by omega)))
       have iy:I64 (ps.getD (k - 1) 0):=by rw[List.getD_eq_getElem?_getD,List.getElem?_eq_getElem (by omega:k - 1<ps.length)];exact hi _ (List.getElem_mem _)
       obtain⟨y,hy0⟩:∃y,y=ps.getD (k - 1) 0:=⟨_,rfl⟩
       rw[←hy0] at p1 iy
       have HY:Hid (y=ps.getD (k - 1) 0):=hy0
       clear hy0
       have hc:=HC.out y x
       by_cases hc0:cost ls y x=0
       ·go_wp2_with fail
        refine(joining_any _ _ _).mono ?_;rintro e w3 ⟨rfl,hb3⟩
        have hm3:CostMap w3 m ls:=((hmr.ext hb2).setCell (by simp;omega) _).ext hb3
        have hrun:=hm3.look iy ix
        rw[hc0] at hrun
        have HC0:Hid (cost ls y x=0):=hc0
        clear hc0 hc
        go_wp2
        go_ret2
        have hfin:lengthOf n ls ps=(0,false):=by
         have:=pathB_bad (n:=n) (ls:=ls) (ps:=ps) (i:=k) (by omega) (okAt_false_cost (by omega) (by rw[←HX.out, ←HY.out];exact HC0.out))
         simp[lengthOf,this]
        exact⟨by rw[hfin];rfl,((hw.trans hb2).setCell (by simp;omega) _).trans hb3⟩
       ·go_wp2_with fail
        refine(joining_any _ _ _).mono ?_;rintro e w3 ⟨rfl,hb3⟩
        have hm3:CostMap w3 m ls:=((hmr.ext hb2).setCell (by simp;omega) _).ext hb3
        have hrun:=hm3.look iy ix
        have hcb:(cost ls y x == 0)=false:=by simpa using hc0
        go_wp2
        go_roundw
        case rel=>
         refine⟨k+1,by omega,by go_num,?_,okTo_succ hok (okAt_mk (by rw[←HX.out];exact hsw) (by rw[←HX.out];exact hmem) (Or.inr (by rw[←HX.out, ←HY.out];exact hc0))),hmet'.ext (by simp;omega) hb3,below_ext ((below_ext hnx hb2 (by omega)).setCell (by simp) _) hb3 (by simp;omega),?_⟩
         ·simp only[psum]
          rw[if_neg (by omega), ←HX.out, ←HY.out]
         ·have:=hb3.size;simp at this;omega
        case measure=>simp[intOf];omega
      ·go_wp2
       have hk1:k=0:=by simpa using hk0
       go_roundw
       case rel=>exact⟨k+1,by omega,by go_num,by simp[psum,hk1],okTo_succ hok (okAt_mk (by rw[←HX.out];exact hsw) (by rw[←HX.out];exact hmem) (Or.inl hk1)),hmet',(below_ext hnx hb2 (by omega)).setCell (by simp) _,by simp;omega⟩
       case measure=>simp[intOf];omega
   ·go_wp2
    go_ret2
    have hkl:k=ps.length:=by omega
    have hfin:lengthOf n ls ps=(psum ls ps ps.length,true):=by
     have h1:pathB n ls ps=true:=pathB_true.2 ⟨by intro e;rw[e] at hpl;simp at hpl;omega,by rw[←hkl];exact hok⟩
     simp[lengthOf,h1,HR.out]
    exact⟨by rw[hfin, ←hkl];rfl,hw⟩
 ·exact absurd (by rw[HR.out]) hw
theorem Length_any (n:Int) (ao po:Option Addr) (len cap pl pc:Nat) (ls:List Lk) (ps:List Int) (w:World) (hlen:ls.length=len) (hl:NetAt w ao ls) (hx:len≤9223372036854775807)
 (hpl:ps.length=pl) (hpx:pl*8≤140737488351232) (hp:ListAt w po ps) (hi:∀x∈ps,I64 x):
 Calls Try.prog 35 #[.agg #[.int .i64 n,.slice ao len cap],.slice po pl pc] w fun e w'=>e=.returned (.tuple #[.int .i64 (lengthOf n ls ps).1,.bool (lengthOf n ls ps).2])∧Ext w w':=by
 by_cases hr:(wrong n ls).1=0
 ·have hr':wrong n ls=(0,0):=(right_of hr).wrong
  rcases hp with rfl | ⟨b,off,rfl,hb,hp⟩
  ·subst hpl
   have e0:lengthOf n ls []=(0,false):=by simp[lengthOf,pathB]
   rw[e0]
   exact Length_none n ao po len cap pc ls w hlen hl hx hr'
  ·by_cases h0:0<pl
   ·exact Length_some n ao len cap b off pl pc ls ps w hlen hl hx hr' hpl h0 hpx hb hp hi
   ·have e1:ps=[]:=List.eq_nil_of_length_eq_zero (by omega)
    subst e1
    subst hpl
    have e0:lengthOf n ls []=(0,false):=by simp[lengthOf,pathB]
    rw[e0]
    exact Length_none n ao _ len cap pc ls w hlen hl hx hr'
 ·have e0:lengthOf n ls ps=(0,false):=by simp[lengthOf,hr]
  rw[e0]
  exact Length_wrong n ao po len cap pl pc ls w hlen hl hx hr
end Go.Proofs.Ytolclgbpjiokfaa
namespace Go.Proofs.Ytolclgbpjiokfaa.Rm
open Go.RowKit Go.Deep Stw Stp Tb Rul Ct
theorem sum_take {f:Nat→Nat} {n k:Nat} (h:k<n):((List.range (k+1)).map f).sum=((List.range k).map f).sum+f k:=by
 have _:=h
 rw[List.range_succ];simp
set_option maxRecDepth 100000 in
set_option maxHeartbeats 4000000 in
theorem topLine_any (N a0 b0:Int) (w:World):
 Calls Try.prog 14 #[.int .i64 N,.int .i64 a0,.int .i64 b0] w fun e w'=>e=.returned (.bool true)∧Ext w w':=by
 go_enter Try.func14,Try.ntmps14
 go_wp2_with fail
 refine(t_alive_any _).mono ?_
 rintro e w1 ⟨rfl,E1⟩
 by_cases h1:N<2
 ·go_wp2
  go_ret
  exact⟨rfl,E1⟩
 by_cases h2:8<N
 ·go_wp2
  go_ret
  exact⟨rfl,E1⟩
 by_cases h3:a0<0
 ·go_wp2
  go_ret
  exact⟨rfl,E1⟩
 by_cases h4:b0<0
 ·go_wp2
  go_ret
  exact⟨rfl,E1⟩
 by_cases h5:N≤a0
 ·go_wp2
  go_ret
  exact⟨rfl,E1⟩
 by_cases h6:N≤b0
 ·go_wp2
  go_ret
  exact⟨rfl,E1⟩
 by_cases h7:(a0 == b0)=true
 ·go_wp2
  go_ret
  exact⟨rfl,E1⟩
 obtain⟨n,rfl⟩:=Int.eq_ofNat_of_zero_le (show 0≤N by omega)
 obtain⟨a,rfl⟩:=Int.eq_ofNat_of_zero_le (show 0≤a0 by omega)
 obtain⟨b,rfl⟩:=Int.eq_ofNat_of_zero_le (show 0≤b0 by omega)
 have h8:((a:Int) == (b:Int))=false:=by simpa using h7
 have hab:a≠b:=fun e=>by subst e;simp at h8
 clear h7
 have htl:=tl_get (n:=n) (a:=a) (b:=b) (by omega) (by omega) (by omega) (by omega) hab
 obtain⟨P,hP⟩:∃P,P=(fnd n (lnk (n - 1)) ⟨(a:Int),(b:Int),[],[]⟩).2:=⟨_,rfl⟩
 obtain⟨k,hk⟩:∃k,k=max (a - b) (b - a):=⟨_,rfl⟩
 rw[←hP, ←hk] at htl
 have HTL:=hidp htl
 have HP:Hid (plnP n (lnk (n - 1)) [⟨(a:Int),(b:Int),[],[]⟩]=[P]):=by show _=_;rw[hP];rfl
 have hmx:max ((a:Int) - (b:Int)) ((b:Int) - (a:Int))=(k:Int):=by omega
 have hk8:k≤8:=by omega
 have hn8:n≤8:=by omega
 have hI:I64 (n:Int):=i64_small (by omega) (by omega)
 have hwa:IntKind.i64.wrap ((a:Int) - (b:Int))=(a:Int) - (b:Int):=by rw[IntKind.wrap_i64];omega
 have hwb:IntKind.i64.wrap ((b:Int) - (a:Int))=(b:Int) - (a:Int):=by rw[IntKind.wrap_i64];omega
 have hwk:IntKind.i64.wrap ((k:Int)+1)=(k:Int)+1:=by rw[IntKind.wrap_i64];omega
 clear htl hP hk hab
 go_wp2_with fail
 refine(line_lit n n w1 rfl (by omega)).mono ?_
 rintro e w2 ⟨ao,cap,rfl,E2,HL⟩
 obtain⟨m,hm⟩:∃m,m=n - 1:=⟨_,rfl⟩
 rw[←hm] at HL HTL HP ⊢
 have hm8:m≤8:=by omega
 have HLN:Hid (∀V,Calls Try.prog 33 #[.int .i64 n] V fun e w'=>∃ao cap,e=.returned (.agg #[.int .i64 n,.slice ao m cap])∧Ext V w'∧Hid (NetAt w' ao (lnk m))):=fun V=>by rw[hm];exact line_lit n n V rfl (by omega)
 clear hm
 have HPL:=hidp (Plan_any n 1 ao m cap (lnk m) (some ⟨w2.heap.size,0,none⟩) 1 1 [⟨(a:Int),(b:Int),[],[]⟩] _ (lnk_len m) (HL.out.ext ((Ext.refl w2).alloc (.cells #[.int .i64 (a:Int),.int .i64 (b:Int),.slice none 0 0,.slice none 0 0] 55))) (by omega) hI rfl (flow_in rfl) (flow_sm _ _) (by omega))
 have HE2:=hidp (E1.trans E2)
 clear HL E1 E2
 go_wp2_with fail
 refine Calls.mono HPL.out ?_
 rintro e w3 ⟨pv,fo,fl,fc,qo,ql,qc,rfl,E3,hcs⟩
 rw[HTL.out.1] at hcs ⊢
 obtain⟨_,rfl,rfl,_,rfl,hPA⟩:=hcs.resolve_left (fun h=>h.1 rfl)
 rw[HP.out] at hPA ⊢
 have HE3:=hidp (HE2.out.trans (((Ext.refl w2).alloc _).trans E3))
 clear HPL hcs E3
 simp only[List.length_cons,List.length_nil,Nat.zero_add]
 go_upto_region 9 with fail
 obtain⟨w4,hw4⟩:∃w4,w4=(w3.alloc (.cells #[.int .i64 1,.slice fo 1 fc,.slice qo 1 qc] 30)).alloc (.cells #[.int .i64 0,.int .i64 0] 44):=⟨_,rfl⟩
 rw[←hw4]
 have E34:Ext w3 w4:=by rw[hw4];exact((Ext.refl w3).alloc _).alloc _
 have hz4:w4.heap.size=w3.heap.size+1+1:=by rw[hw4];simp
 obtain⟨qg,qoff,po,pc,hqo,hqg,hqc,hqL,hqp⟩:=pth_get hPA (i:=0) (by simp)
 simp only[List.getD_cons_zero,Nat.add_zero] at hqc hqL hqp
 subst hqo
 have HBX:Hid (∀V,Ext w4 V→(V.cell? ⟨w3.heap.size,0,none⟩=some (.int .i64 1)∧V.cell? ⟨w3.heap.size,1,none⟩=some (.slice fo 1 fc)∧V.cell? ⟨w3.heap.size,2,none⟩=some (.slice (some ⟨qg,qoff,none⟩) 1 qc)∧w3.heap.size<V.heap.size)∧V.cell? ⟨qg,qoff,none⟩=some (.slice po P.length pc)∧qg<V.heap.size):=fun V hV=>
  ⟨⟨(hV.cells.1 _ _ (by omega)).trans (by rw[hw4];simp),(hV.cells.1 _ _ (by omega)).trans (by rw[hw4];simp),(hV.cells.1 _ _ (by omega)).trans (by rw[hw4];simp),by have:=hV.size;omega⟩,((E34.trans hV).cells.1 _ _ hqg).trans hqc,by have:=(E34.trans hV).size;omega⟩
 have HS:Hid (∀V,Ext w4 V→V.cell? ⟨w3.heap.size,2,none⟩=some (.slice (some ⟨qg,qoff,none⟩) 1 qc)∧V.cell? ⟨qg,qoff,none⟩=some (.slice po P.length pc)):=fun V hV=>⟨(HBX.out V hV).1.2.2.1,(HBX.out V hV).2.1⟩
 have hl3:w3.heap.size<w4.heap.size:=by omega
 have hlq:qg<w4.heap.size:=by omega
 have HPs:=hidp (hPA.ext E34)
 have HqL:=hidp (hqL.ext E34)
 have hPl:P.length=k+1:=HTL.out.2.2.1
 have HLG:Hid (∀V ao' cap',Ext w4 V→NetAt V ao' (lnk m)→Calls Try.prog 35 #[.agg #[.int .i64 n,.slice ao' m cap'],.slice po P.length pc] V fun e w'=>e=.returned (.tuple #[.int .i64 k,.bool true])∧Ext V w'):=fun V ao' cap' hV hN=>by
  have h1:=Length_any n ao' po m cap' P.length pc (lnk m) P V (lnk_len m) hN (by omega) rfl (by omega) (HqL.out.ext hV) (fun x hx=>by have:=HTL.out.2.2.2.2 x hx;exact i64_small (by omega) (by omega))
  rw[HTL.out.2.1] at h1
  exact h1
 have HE4:=hidp (HE3.out.trans E34)
 have HPK:=hidp hPl
 clear hw4 hqc hqL hqp hPA E34 hz4 hPl
 have hr0:Ext w4 w4:=Ext.refl w4
 have hd:Ext w4 w4.drew:=hr0.drew
 go_region_held3 (fun V=>V.cell? ⟨w3.heap.size,2,none⟩=some (.slice (some ⟨qg,qoff,none⟩) 1 qc)∧V.cell? ⟨qg,qoff,none⟩=some (.slice po P.length pc))
  (first | (with_reducible exact HS.out _ hd) | (with_reducible exact HS.out _ mk2) | (with_reducible exact HS.out _ mk1) | fail)
  (first
  | (go_at_call 35
     with_reducible refine(HLG.out _ _ _ mk1 hN5).mono ?_
     rintro e w6 ⟨rfl,E6⟩
     have mk2:=mk1.trans E6)
  | (go_at_call 33
     refine(HLN.out _).mono ?_
     rintro e w5 ⟨ao5,cap5,rfl,E5,HN5⟩
     have hN5:=HN5.out
     have mk1:=hd.trans E5))
 have E46:=mk2
 obtain⟨⟨x0,x1,x2,xl⟩,_⟩:=HBX.out w6 E46
 have HOF:=hidp (Of_any 1 fo (some ⟨qg,qoff,none⟩) 1 fc 1 qc n [P] w6 rfl (pths_ps (HPs.out.ext E46)) (by omega) (by rw[tot_sum];have:=HPK.out;simp;omega) (by omega))
 have HE6:=hidp (HE4.out.trans E46)
 clear mk1 mk2 hd hr0 HLG HLN hN5 HN5 E5 E6
 go_wp2_with fail
 refine Calls.mono HOF.out ?_
 rintro e w7 ⟨vs,rfl,hTB,E7⟩
 have HTB:=hidp hTB
 have HE7:=hidp (HE6.out.trans E7)
 have E47:=E46.trans E7
 have HE47:=hidp E47
 clear hTB x0 x1 x2 xl HOF E7 E46 E47
 go_wp2
 go_loopw [12,80] (fun cv iv wd=>∃j:Nat,j≤n∧iv=.int .i64 j∧cv=.int .i64 (((List.range j).map (fun(s:Nat)=>(rof 1 (s:Int) [P] 1).length)).sum:Nat)∧Ext w7 wd) (fun _ iv _=>n - (intOf iv).toNat)
 case atStart=>exact⟨0,Nat.zero_le _,rfl,rfl,Ext.refl _⟩
 case round=>
  obtain⟨j,hj,rfl,rfl,hEj⟩:=hrel
  by_cases hjn:j<n
  ·have i1:(j:Int)<(n:Int):=by omega
   have tb:=HTB.out.ext hEj
   obtain⟨o1,p1,e1,_⟩:=RO.form (tb.own j hjn)
   have d0:=tb.row.cell (i:=j) hjn
   have hdl:=tb.row.lt
   rw[e1] at d0
   have HSU:=hidp (sum_take (f:=fun(s:Nat)=>(rof 1 (s:Int) [P] 1).length) hjn)
   have hle:((List.range (j+1)).map (fun(s:Nat)=>(rof 1 (s:Int) [P] 1).length)).sum≤k:=by
    have h:=HTL.out.2.2.2.1
    have key:∀d,((List.range (j+1)).map (fun(s:Nat)=>(rof 1 (s:Int) [P] 1).length)).sum≤((List.range (j+1+d)).map (fun(s:Nat)=>(rof 1 (s:Int) [P] 1).length)).sum:=fun d=>by
     induction d with
     | zero=>exact Nat.le_refl _
     | succ d ih=>rw[←Nat.add_assoc,List.range_succ (n:=j+1+d),List.map_append,List.sum_append];exact Nat.le_trans ih (Nat.le_add_right _ _)
    have h2:=key (n - (j+1))
    rw[show j+1+(n - (j+1))=n by omega,h] at h2
    exact h2
   rw[HSU.out] at hle
   generalize hS:((List.range j).map (fun(s:Nat)=>(rof 1 (s:Int) [P] 1).length)).sum=S at HSU hle
   generalize hL:(rof 1 (j:Int) [P] 1).length=L at d0 HSU hle
   have hwS:IntKind.i64.wrap ((S:Int)+(L:Int))=(S:Int)+(L:Int):=by rw[IntKind.wrap_i64];omega
   clear hS hL tb e1
   go_wp2
   refine⟨⟨j+1,by omega,by go_num,?_,hEj⟩,by simp[intOf];omega⟩
   rw[HSU.out]
   simp
  ·have i1:¬(j:Int)<(n:Int):=by omega
   have hjn:j=n:=by omega
   have hsu:((List.range j).map (fun(s:Nat)=>(rof 1 (s:Int) [P] 1).length)).sum=k:=by rw[hjn];exact HTL.out.2.2.2.1
   rw[hsu]
   obtain⟨⟨_,_,x2,xl⟩,xq,xql⟩:=HBX.out wr (HE47.out.trans hEj)
   have ePk:((P.length:Int) == (k:Int)+1)=true:=by have:=HPK.out;simp;omega
   clear hsu hjn
   go_wp2
   go_ret
   exact⟨rfl,HE7.out.trans hEj⟩
end Go.Proofs.Ytolclgbpjiokfaa.Rm
namespace Go.Proofs.Ytolclgbpjiokfaa
open Go.ChangeShapes Go.WideShapes Go.ChangeAt Go.RowKit Go.Deep Go.Joins Stw
set_option maxRecDepth 100000 in
theorem topLine_lifted (os:Os) (started:os.Started) (H:Type) (enc:TypeId×Value→H):
 ReturnsInHanded {} Try.checked os 14 .any (Rows.topLineSpec.pre6 enc Try.prog Try.f14 Rows.topLineRow.domain false) (Rows.topLineSpec.post enc Try.prog Try.f14 false true false false):=by
 refine returnsInHanded_of_change_sized (C:=Try.checked) Try.own started (by kernel_rfl) Try.func14
  (ChangeSpec.witness6 (enc:=enc) (C:=Try.checked) false ⟨#[],#[.int .i64 0,.int .i64 0,.int .i64 0],[]⟩ 8 (by kernel_rfl) (by kernel_rfl) (by kernel_rfl) (by kernel_rfl)) ?_
 intro W base args ds gs before hval0 hW hcnd hsz0 _
 have hval:∀(j:Nat) t v,Try.f14.params[j]? =some t→args[j]? =some v→Value.okWide Try.prog W .any base t v:=hval0
 have hsz:(DataW.weightsEach Try.prog (Try.f14.params.toList++Rows.topLineSpec.plain.varTypes Try.prog) (ds++gs)).all (· ≤reachBytes)=true:=hsz0
 have hW':=hW
 obtain⟨p,q,hA0,hV,rfl,hfz,hnd⟩:=hW
 have hA:DataW.TrodAll enc Try.prog W 0 (fun _=>true) true Try.f14.params.toList args.toList ds p:=hA0
 rw[Try.params14] at hA hval hsz
 obtain⟨v0,vs0,d0,dt0,p0,q0,hargs,rfl,rfl,h0,r0⟩:=trodAll_cons hA
 obtain⟨v1,vs1,d1,dt1,p1,q1,rfl,rfl,rfl,h1,r1⟩:=trodAll_cons r0
 obtain⟨v2,vs2,d2,dt2,p2,q2,rfl,rfl,rfl,h2,r2⟩:=trodAll_cons r1
 obtain⟨rfl,rfl,rfl⟩:=trodAll_nil r2
 obtain rfl:args=#[v0,v1,v2]:=by cases args;simp_all
 obtain⟨rfl,rfl⟩:=trodVars_none hV
 obtain⟨a0,rfl,rfl,rfl,w0⟩:=open_int Try.underlying3 (hval 0 3 v0 rfl rfl) h0
 obtain⟨a1,rfl,rfl,rfl,w1⟩:=open_int Try.underlying3 (hval 1 3 v1 rfl rfl) h1
 obtain⟨a2,rfl,rfl,rfl,w2⟩:=open_int Try.underlying3 (hval 2 3 v2 rfl rfl) h2
 clear hA0 hval0 hsz0
 refine(Rm.topLine_any a0 a1 a2 W).mono fun e W' ⟨he,bel0⟩=>?_
 subst he
 have bel:Below W.heap.size W W':=bel0
 exact⟨_,rfl,_,_,_,[],_,[],hW',trodAll_mk1 (shut_bool Try.underlying4 _),(trodAll_cons_mk (shut_int Try.underlying3 w0) (trodAll_cons_mk (shut_int Try.underlying3 w1) (trodAll_cons_mk (shut_int Try.underlying3 w2) trodAll_mk0))),rfl,bel.frame _,fun h=>by cases h⟩
theorem topLine_holds:Rows.TopLineSaid:=
 OpenClaim.holds_of_wide 14 Try.f14 rfl rfl rfl rfl rfl rfl rfl ⟨rfl,rfl,rfl,rfl,rfl⟩ rfl rfl rfl rfl rfl (by kernel_rfl) Try.func14 (by kernel_rfl)
  (of_decide_eq_true (by kernel_rfl)) (by unfold Func.isWrapper;first | (rw[if_pos (by decide+kernel)];kernel_rfl) | (rw[if_neg (by decide+kernel)];exact⟨rfl,rfl⟩))
  (fun os started H enc _=>topLine_lifted os started H enc)
#print axioms topLine_holds
end Go.Proofs.Ytolclgbpjiokfaa
