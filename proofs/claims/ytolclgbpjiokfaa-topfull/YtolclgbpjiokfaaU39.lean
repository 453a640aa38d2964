/- What the laws of the whole ask first. -/
import Derived.Test.YtolclgbpjiokfaaU38
import Derived.Test.YtolclgbpjiokfaaU36
namespace Go.Proofs.Ytolclgbpjiokfaa.Rm
open Go.RowKit Go.Deep Stw Stp Tb Rul Ct
set_option maxHeartbeats 1000000 in
theorem t_do_any (k n:Int) (w:World):Calls Try.prog 31 #[.int .i64 k,.int .i64 n] w fun e w'=>e=.returned (.agg #[.int .i64 k,.int .i64 n,.slice none 0 0])∧w'=doW w k n:=by
 go_enter Try.func31,Try.ntmps31
 go_wp2
 refine bodyPost_ret (v:=.agg #[.int .i64 k,.int .i64 n,.slice none 0 0]) (by simp[results,Try.results31,go_sem]) rfl ⟨rfl,rfl⟩
set_option maxRecDepth 100000 in
set_option maxHeartbeats 4000000 in
theorem t_drain_any (N:Int) (ao:Option Addr) (len cap:Nat) (ls:List Lk) (v0:Value) (ds:List Dd) (z w:World) (hlen:ls.length=len) (hl:NetAt z ao ls) (hx:len≤9223372036854775807) (hrow:DO z w v0 ds) (hE:Ext z w) (hS:DsSm ds) (hdl:ds.length≤1000):
 Calls Try.prog 30 #[.agg #[.int .i64 N,.slice ao len cap],v0] w fun e w'=>∃v',e=.returned v'∧Hid (RS z w v0.ownBlock w' v' (drn N ls 10 ds)):=by
 obtain⟨g,hg⟩:∃g,g=v0.ownBlock:=⟨_,rfl⟩
 have HG:Hid (∀k,g=some k→z.heap.size≤k∧k<w.heap.size):=fun k hk=>hrow.lt k (by rw[←hg];exact hk)
 obtain⟨lo0,lc0,hv0,_⟩:=hrow.form
 obtain⟨w1,hw1⟩:∃w1,w1=w.alloc (.cells #[.int .i64 N,.slice ao len cap] 24):=⟨_,rfl⟩
 have E1:Ext w w1:=by rw[hw1];exact(Ext.refl w).alloc _
 have hz1:w1.heap.size=w.heap.size+1:=by rw[hw1];simp
 have HST:Hid (RS z w1 g w1 v0 ds):=⟨hrow.ext E1,hE.trans E1,Gb.refl _ _,fun k hk=>Or.inl (by rw[hg];exact hk)⟩
 have HT:Hid (∀V,w1.grownBy V g→V.cell? ⟨w.heap.size,0,none⟩=some (.int .i64 N)∧V.cell? ⟨w.heap.size,1,none⟩=some (.slice ao len cap)∧w.heap.size<V.heap.size):=fun V hV=>by
  have hne:some w.heap.size≠g:=fun e=>by have:=(HG.out _ e.symm).2;omega
  refine⟨hV.cell (by rw[hw1];simp) hne,hV.cell (by rw[hw1];simp) hne,?_⟩
  have:=hV.size
  omega
 have HE1:=hidp E1
 have HNT:=hidp hl
 have HS:=hidp (And.intro hS hdl)
 rw[←hg]
 clear hg hrow hE hl hS hdl E1
 subst hv0
 go_enter Try.func30,Try.ntmps30
 go_wp2
 rw[←hw1]
 clear hw1
 go_loopw [1,10] (fun lv iv wd=>∃(r:Nat) (v:Value) (es:List Dd),r≤10∧iv=.int .i64 r∧lv=v∧Hid (RS z w1 g wd v es∧drn N ls (10 - r) es=drn N ls 10 ds∧DsSm es∧es.length≤1000)) (fun _ iv _=>10 - (intOf iv).toNat)
 case atStart=>exact⟨0,_,ds,by omega,rfl,rfl,HST.out,rfl,HS.out.1,HS.out.2⟩
 case round=>
  obtain⟨r,v,es,hr,rfl,hlv,HI⟩:=hrel
  obtain rfl:=hlv.symm
  by_cases hlt:r<10
  ·have i1:(r:Int)<10:=by omega
   obtain⟨t0,t1,tl⟩:=HT.out wr HI.out.1.gr
   obtain⟨lo,lc,hv,hDI,_⟩:=HI.out.1.row.form
   have HPL:Hid (Calls Try.prog 18 #[.agg #[.int .i64 N,.slice ao len cap],.slice lo es.length lc] wr fun e w'=>PlyAll z wr (plyW N ls es).1 (plyW N ls es).2 (plyF N ls es) e w'):=Play_in N ao len cap ls lo lc es z wr HI.out.1.ext hlen HNT.out hx hDI HI.out.2.2.1 (by have:=HI.out.2.2.2;omega)
   have HSM:=hidp (ply_small (N:=N) (ls:=ls) (es:=es))
   have HDR:Hid (drn N ls (10 - r) es=if drn1 (plyW N ls es).1=[] then es else drn N ls (10 - (r+1)) (es++drn1 (plyW N ls es).1)):=by
    show _=_
    rw[show 10 - r=(10 - (r+1))+1 by omega,drn]
   have HDL:=hidp (drn1_le (N:=N) (ls:=ls) (es:=es))
   generalize plyW N ls es=q at HPL HSM HDR HDL
   generalize plyF N ls es=f at HPL
   obtain⟨W,came⟩:=q
   obtain⟨f0,f1⟩:=f
   simp only at HPL HSM HDR HDL
   obtain⟨g5,hg5⟩:∃g5,g5=v.ownBlock:=⟨_,rfl⟩
   have HG5:Hid (∀k,g5=some k→z.heap.size≤k∧k<wr.heap.size):=fun k hk=>HI.out.1.row.lt k (by rw[←hg5];exact hk)
   have HGE:=hidp hg5
   clear hg5 hDI
   subst hv
   go_wp2_with fail
   refine Calls.mono HPL.out ?_
   rintro e w4 ⟨A,co,cc,rfl,E4,HP⟩
   unfold wvl
   have hs4:w.heap.size<w4.heap.size:=by have:=E4.size;omega
   clear t0 t1
   go_upto_region 5 with fail
   obtain⟨w5,hw5⟩:∃w5,w5=(w4.alloc (.cells #[.int .i64 W.co.st,.int .i64 W.co.now.v,.slice A.ca.n.fo W.co.now.fs.length A.ca.n.fc,.slice A.ca.n.qo W.co.now.ps.length A.ca.n.qc,.int .i64 W.co.nxt.v,.slice A.ca.x.fo W.co.nxt.fs.length A.ca.x.fc,.slice A.ca.x.qo W.co.nxt.ps.length A.ca.x.qc,.int .i64 W.co.num,.slice A.ca.wo W.co.wts.length A.ca.wc,.slice A.so W.sw.length A.sc,.slice A.oo W.od.length A.oc,.slice A.bo W.bk.length A.bc,.slice A.ko W.pk.length A.kc,.slice A.lo W.pn.length A.lc] 40)).alloc (.cells #[.int .i64 f0,.int .i64 f1] 44):=⟨_,rfl⟩
   rw[←hw5]
   have E45:Ext w4 w5:=by rw[hw5];exact((Ext.refl w4).alloc _).alloc _
   have hz5:w5.heap.size=w4.heap.size+1+1:=by rw[hw5];simp
   have H5:Hid (RS z w1 g w5 (.slice lo es.length lc) es):=HI.out.1.toExt (E4.trans E45)
   have HBX:Hid (∀V,w5.grownBy V g5→Ext z V→(V.cell? ⟨w4.heap.size,9,none⟩=some (.slice A.so W.sw.length A.sc)∧V.cell? ⟨w4.heap.size,10,none⟩=some (.slice A.oo W.od.length A.oc)∧V.cell? ⟨w4.heap.size,11,none⟩=some (.slice A.bo W.bk.length A.bc)∧w4.heap.size<V.heap.size)∧WoAt V W A):=fun V hV hEV=>by
    have hne:∀b,wr.heap.size≤b→some b≠g5:=fun b hb e=>by have:=(HG5.out _ e.symm).2;omega
    have h4:=E4.size
    have hsV:=hV.size
    refine⟨⟨hV.cell (by rw[hw5];simp) (hne _ h4),hV.cell (by rw[hw5];simp) (hne _ h4),hV.cell (by rw[hw5];simp) (hne _ h4),by omega⟩,?_⟩
    refine(HP.out V (by omega) hEV (fun b hb hnb=>?_)).1
    rw[hV.block b (by omega) (fun e=>by have:=HG5.out b e.symm;omega)]
    exact E45.block b hb
   have H50:Hid (RS z w5 g5 w5 (.slice lo es.length lc) es):=by
    have:=RS.start H5.out.row H5.out.ext
    rw[←HGE.out] at this
    exact this
   obtain⟨⟨p9,_,_,pl⟩,_⟩:=HBX.out w5 (Gb.refl _ _) H5.out.ext
   clear hw5 E45 HP E4 HPL HG5
   go_wp2
   go_loopw [1,8,22] (fun lv bv iv wd=>∃(s:Nat) (v:Value) (β:Bool) (cu:List Dd),s≤W.sw.length∧iv=.int .i64 s∧lv=v∧bv=.bool β∧Hid (RS z w5 g5 wd v cu∧cu=es++(List.range s).flatMap (acts W)∧β=decide (es.length<cu.length)∧cu.length≤es.length+3*s)) (fun _ _ iv _=>W.sw.length - (intOf iv).toNat)
   case atStart=>exact⟨0,_,false,es,Nat.zero_le _,rfl,rfl,rfl,H50.out,by simp,by simp,by omega⟩
   case round=>
    obtain⟨s,v,β,cu,hs,rfl,hlv,rfl,HC⟩:=hrel
    obtain rfl:=hlv.symm
    clear p9 pl
    by_cases hst:s<W.sw.length
    ·have j1:(s:Int)<(W.sw.length:Int):=by omega
     obtain⟨e200,n8,eod,ebk,e1⟩:=HSM.out.resolve_left (by omega)
     obtain⟨o1,b1⟩:=e1 s hst
     obtain⟨⟨_,p10,_,pl⟩,hWo⟩:=HBX.out wr HC.out.1.gr HC.out.1.ext
     obtain⟨og,ooff,hoo,hog,hoc⟩:=hWo.od.resolve_left (fun e=>by rw[e] at eod;simp at eod;omega)
     obtain⟨ov,o0,oO,oC,hov,_⟩:=hoc s (by omega)
     subst hov
     rw[hoo,eod] at p10
     have HAE:=hidp (acts_eq W s)
     generalize (W.od.getD s []).length=ol at o0 o1 HAE
     obtain⟨bl,hbl⟩:∃bl,bl=(W.bk.getD s []).length:=⟨_,rfl⟩
     have HBL:=hidp hbl
     rw[←hbl] at b1 HAE
     clear hbl
     have HOO:=hidp (And.intro hoo (And.intro eod ebk))
     clear hoc hWo hoo eod ebk e1
     go_wp2
     go_loopw [1,8,31] (fun lv bv iv wd=>∃(j:Nat) (v:Value) (β:Bool) (cx:List Dd),j≤ol∧iv=.int .i64 j∧lv=v∧bv=.bool β∧Hid (RS z w5 g5 wd v cx∧cx=cu++act2 s j∧β=decide (es.length<cx.length)∧cx.length=cu.length+2*j)) (fun _ _ iv _=>ol - (intOf iv).toNat)
     case atStart=>exact⟨0,_,β,cu,Nat.zero_le _,rfl,rfl,rfl,HC.out.1,by simp[act2],HC.out.2.2.1,by omega⟩
     case round=>
      obtain⟨j,v,β,cx,hj,rfl,hlv,rfl,HX⟩:=hrel
      obtain rfl:=hlv.symm
      clear p10 pl o0 hog
      by_cases hjo:j<ol
      ·have j2:(j:Int)<(ol:Int):=by omega
       obtain⟨lo2,lc2,hv2,_⟩:=HX.out.1.row.form
       have HLL:Hid (es.length<cx.length+2∧cx.length+2≤1000000):=by
        have h1:=HC.out.2.1
        have h2:=HX.out.2.2.2
        have h3:=HC.out.2.2.2
        have h4:es.length≤cu.length:=by rw[h1,List.length_append];omega
        exact⟨by omega,by omega⟩
       have HR2:Hid (RS z w5 g5 ((doW (doW wr 2 s) 3 s).alloc (.cells #[.int .i64 2,.int .i64 s,.slice none 0 0,.int .i64 3,.int .i64 s,.slice none 0 0] 66)) v cx):=HX.out.1.toExt (((doW_ext (doW_ext (Ext.refl wr)))).alloc _)
       have HD2:Hid (DosIn z ((doW (doW wr 2 s) 3 s).alloc (.cells #[.int .i64 2,.int .i64 s,.slice none 0 0,.int .i64 3,.int .i64 s,.slice none 0 0] 66)) (some ⟨wr.heap.size+1+1,0,none⟩) [⟨2,s,[]⟩,⟨3,s,[]⟩]):=two_in (by simp[doW])
       subst hv2
       go_wp2_with fail
       refine(t_do_any _ _ _).mono ?_
       rintro e _ ⟨rfl,rfl⟩
       go_wp2_with fail
       refine(t_do_any _ _ _).mono ?_
       rintro e _ ⟨rfl,rfl⟩
       have hdw:(doW (doW wr 2 s) 3 s).heap.size=wr.heap.size+1+1:=by simp[doW]
       go_wp2_with (first | (at_builtin;refine wpList_append_rs rfl _ _ rfl rfl rfl HR2.out rfl (by decide) HD2.out HLL.out.2 ?_) | fail)
       intro bb off cp W7 h7
       have H7:=hidp h7
       clear h7 HR2 HD2 hdw
       go_wp2
       refine⟨⟨j+1,_,true,cx++[⟨2,s,[]⟩,⟨3,s,[]⟩],by omega,by go_num,rfl,rfl,H7.out,?_,?_,?_⟩,by simp[intOf];omega⟩
       ·rw[HX.out.2.1,act2_succ,List.append_assoc]
       ·rw[eq_comm,decide_eq_true_iff,List.length_append];exact HLL.out.1
       ·rw[List.length_append,HX.out.2.2.2];simp;omega
      ·have j2:¬(j:Int)<(ol:Int):=by omega
       have hjl:j=ol:=by omega
       obtain⟨⟨_,_,p11,pl⟩,hWo⟩:=HBX.out wr HX.out.1.gr HX.out.1.ext
       obtain⟨bg,boff,hbo,hbg,hbc⟩:=hWo.bk.resolve_left (fun e=>by have:=HOO.out.2.2;rw[e] at this;simp at this;omega)
       obtain⟨bO,bC,b0,_⟩:=hbc s (by rw[HOO.out.2.2];exact hst)
       rw[hbo,HOO.out.2.2] at p11
       rw[←HBL.out] at b0
       have HJL:=hidp hjl
       clear hWo hbc hjl hbo
       go_wp2
       go_loopw [1,8,47] (fun lv bv iv wd=>∃(k:Nat) (v:Value) (β:Bool) (cy:List Dd),k≤bl∧iv=.int .i64 k∧lv=v∧bv=.bool β∧Hid (RS z w5 g5 wd v cy∧cy=cx++act1 s k∧β=decide (es.length<cy.length)∧cy.length=cx.length+k)) (fun _ _ iv _=>bl - (intOf iv).toNat)
       case atStart=>exact⟨0,_,β,cx,Nat.zero_le _,rfl,rfl,rfl,HX.out.1,by simp[act1],HX.out.2.2.1,by omega⟩
       case round=>
        obtain⟨k,v,β,cy,hk,rfl,hlv,rfl,HY⟩:=hrel
        obtain rfl:=hlv.symm
        clear p11 pl b0 hbg
        by_cases hkb:k<bl
        ·have j3:(k:Int)<(bl:Int):=by omega
         obtain⟨lo2,lc2,hv2,_⟩:=HY.out.1.row.form
         have HLL:Hid (es.length<cy.length+1∧cy.length+1≤1000000):=by
          have h1:=HC.out.2.1
          have h2:=HX.out.2.2.2
          have h3:=HC.out.2.2.2
          have h5:=HY.out.2.2.2
          have h4:es.length≤cu.length:=by rw[h1,List.length_append];omega
          exact⟨by omega,by omega⟩
         have HR2:Hid (RS z w5 g5 ((doW wr 3 s).alloc (.cells #[.int .i64 3,.int .i64 s,.slice none 0 0] 66)) v cy):=HY.out.1.toExt ((doW_ext (Ext.refl wr)).alloc _)
         have HD2:Hid (DosIn z ((doW wr 3 s).alloc (.cells #[.int .i64 3,.int .i64 s,.slice none 0 0] 66)) (some ⟨wr.heap.size+1,0,none⟩) [⟨3,s,[]⟩]):=one_in (d:=⟨3,s,[]⟩) (by simp[doW]) (Or.inl rfl)
         subst hv2
         go_wp2_with fail
         refine(t_do_any _ _ _).mono ?_
         rintro e _ ⟨rfl,rfl⟩
         have hdw:(doW wr 3 s).heap.size=wr.heap.size+1:=by simp[doW]
         go_wp2_with (first | (at_builtin;refine wpList_append_rs rfl _ _ rfl rfl rfl HR2.out rfl (by decide) HD2.out HLL.out.2 ?_) | fail)
         intro bb off cp W7 h7
         have H7:=hidp h7
         clear h7 HR2 HD2 hdw
         go_wp2
         refine⟨⟨k+1,_,true,cy++[⟨3,s,[]⟩],by omega,by go_num,rfl,rfl,H7.out,?_,?_,?_⟩,by simp[intOf];omega⟩
         ·rw[HY.out.2.1,act1_succ,List.append_assoc]
         ·rw[eq_comm,decide_eq_true_iff,List.length_append];exact HLL.out.1
         ·rw[List.length_append,HY.out.2.2.2];simp;omega
        ·have j3:¬(k:Int)<(bl:Int):=by omega
         have hkl:k=bl:=by omega
         have HKL:=hidp hkl
         clear hkl
         go_wp2
         refine⟨⟨s+1,_,β,cy,by omega,by go_num,rfl,rfl,HY.out.1,?_,HY.out.2.2.1,?_⟩,by simp[intOf];omega⟩
         ·rw[HY.out.2.1,HX.out.2.1,HC.out.2.1,HJL.out,HKL.out,List.range_succ,List.flatMap_append,List.append_assoc,List.append_assoc]
          simp[HAE.out]
         ·have h1:=HY.out.2.2.2
          have h2:=HX.out.2.2.2
          have h3:=HC.out.2.2.2
          omega
    ·have j1:¬(s:Int)<(W.sw.length:Int):=by omega
     have HFI:Hid (cu=es++drn1 W):=by
      have:s=W.sw.length:=by omega
      have h:=HC.out.2.1
      rw[this] at h
      exact h
     have HRT:Hid (RS z w1 g wr v cu):=by
      have h:=HC.out.1
      rw[HGE.out] at h
      exact H5.out.trans h
     cases β with
     | false=>
      have HDN:Hid (drn1 W=[]):=by
       have h:=HC.out.2.2.1
       rw[eq_comm,decide_eq_false_iff_not,HFI.out,List.length_append] at h
       exact List.eq_nil_of_length_eq_zero (by omega)
      go_wp2
      go_ret
      refine⟨_,rfl,?_⟩
      have h:=HRT.out.low HE1.out
      rw[←HI.out.2.1,HDR.out,if_pos HDN.out]
      rw[HFI.out,HDN.out,List.append_nil] at h
      exact h
     | true=>
      have HDN:Hid (drn1 W≠[]):=fun e=>by
       have h:=HC.out.2.2.1
       rw[eq_comm,decide_eq_true_iff,HFI.out,e] at h
       simp at h
      go_wp2
      refine⟨⟨r+1,_,cu,by omega,by go_num,rfl,HRT.out,?_,?_,?_⟩,by simp[intOf];omega⟩
      ·rw[←HI.out.2.1,HDR.out,if_neg HDN.out,HFI.out]
      ·rw[HFI.out];exact HI.out.2.2.1.append (DsSm.of_nil fun d hd=>drn1_fs hd)
      ·rw[HFI.out,List.length_append]
       have h1:=HDL.out.1
       have h2:es.length≤200:=by
        by_cases h3:200<es.length
        ·exact absurd (HDL.out.2 h3) HDN.out
        ·omega
       omega
  ·have i1:¬(r:Int)<10:=by omega
   have hr10:r=10:=by omega
   have HR10:=hidp hr10
   clear hr10
   go_wp2
   go_ret
   refine⟨_,rfl,?_⟩
   have h:=HI.out.1.low HE1.out
   have e:=HI.out.2.1
   rw[HR10.out] at e
   rw[←e]
   exact h
end Go.Proofs.Ytolclgbpjiokfaa.Rm
namespace Go.Proofs.Ytolclgbpjiokfaa.Rm
open Go.RowKit Go.Deep Stw Stp Tb Rul Ct
def lnk (m:Nat):List Lk:=(List.range m).map fun(i:Nat)=>⟨(i:Int),(i:Int)+1,1⟩
def lcs (ls:List Lk):List Value:=ls.flatMap fun l=>[.int .i64 l.a,.int .i64 l.b,.int .i64 l.c]
theorem lnk_len (m:Nat):(lnk m).length=m:=by simp[lnk]
theorem lnk_succ (m:Nat):lnk (m+1)=lnk m++[⟨(m:Int),(m:Int)+1,1⟩]:=by simp[lnk,List.range_succ]
theorem lcs_append (a b:List Lk):lcs (a++b)=lcs a++lcs b:=by simp[lcs]
theorem lcs_cons (l:Lk) (r:List Lk):lcs (l::r)=[.int .i64 l.a,.int .i64 l.b,.int .i64 l.c]++lcs r:=by simp[lcs]
theorem lcs_at:∀(ls:List Lk) (k:Nat),k<ls.length→(lcs ls)[k*3]? =some (.int .i64 (ls.getD k lk0).a)∧(lcs ls)[k*3+1]? =some (.int .i64 (ls.getD k lk0).b)∧(lcs ls)[k*3+2]? =some (.int .i64 (ls.getD k lk0).c)
 | [],k,h=>by simp at h
 | r::rs,0,_=>by simp[lcs]
 | r::rs,k+1,h=>by
  have ih:=lcs_at rs k (by simpa using h)
  rw[lcs_cons]
  simp only[List.getElem?_append,List.length_cons,List.length_nil,show ¬(k+1)*3<0+1+1+1 by omega,show ¬(k+1)*3+1<0+1+1+1 by omega,show ¬(k+1)*3+2<0+1+1+1 by omega,if_false,show(k+1)*3 - (0+1+1+1)=k*3 by omega,show(k+1)*3+1 - (0+1+1+1)=k*3+1 by omega,show(k+1)*3+2 - (0+1+1+1)=k*3+2 by omega]
  simpa using ih
theorem infoLk:(Try.prog.info? 88).map (fun i=>(i.zero,i.size,i.bytes))=some (some (.agg #[.int .i64 0,.int .i64 0,.int .i64 0]),3,24):=by kernel_rfl
theorem Rw.net {w:World} {v:Value} {ls:List Lk} (h:Rw w 88 3 v ls.length (lcs ls)):∃ao cap,v=.slice ao ls.length cap∧NetAt w ao ls:=by
 obtain⟨ao,cap,hv⟩:=h.form
 refine⟨ao,cap,hv,?_⟩
 by_cases h0:ls=[]
 ·exact Or.inl h0
 ·obtain⟨g,off,cap',hv',hg,_,_,hc⟩:=h.cells (List.length_pos_iff.2 h0)
  rw[hv] at hv'
  cases hv'
  refine Or.inr ⟨g,off,rfl,hg,fun k hk=>?_⟩
  obtain⟨a0,a1,a2⟩:=lcs_at ls k hk
  exact⟨by rw[hc _ (by omega)];exact a0,by rw[Nat.add_assoc,hc _ (by omega)];exact a1,by rw[Nat.add_assoc,hc _ (by omega)];exact a2⟩
theorem one3 (a b c:Int):∀u∈[Value.int .i64 a,.int .i64 b,.int .i64 c],u.oneCell'=true:=by
 intro u hu
 simp at hu
 rcases hu with rfl | rfl | rfl <;> rfl
structure LSt (w wd:World) (n:Nat) (v:Value) (i:Nat):Prop where
 z:wd.heap[w.heap.size]? =some (.cells #[.int .i64 0,.slice none 0 0] 24 (0,0))
 b:wd.heap[w.heap.size+1]? =some (.cells #[.int .i64 n,v] 24 (0,0))
 r:Rw wd 88 3 v i (lcs (lnk i))
 o:∀k,v.ownBlock=some k→w.heap.size+2≤k
 e:Ext w wd
theorem LSt.start (w:World) (n:Nat):LSt w ((w.alloc (.cells #[.int .i64 0,.slice none 0 0] 24)).alloc (.cells #[.int .i64 n,.slice none 0 0] 24)) n (.slice none 0 0) 0:=
 ⟨(blk_alloc_lt _ _ _ (by simp)).trans (blk_alloc_new _ _),new_at (by simp),Rw.nil _ _ _,fun k hk=>by simp[Value.ownBlock] at hk,((Ext.refl w).alloc _).alloc _⟩
theorem set_snd {w:World} {b:Nat} {x y v:Value} {T:TypeId} (h:w.heap[b]? =some (.cells #[x,y] T (0,0))):(w.setCell ⟨b,1,none⟩ v).heap[b]? =some (.cells #[x,v] T (0,0)):=by
 simp[World.setCell,Array.getElem?_modify,h]
theorem LSt.push {w wd w7:World} {n:Nat} {v:Value} {i g off cap:Nat} (h:LSt w wd n v i) {o:Obj}
 (hr:Rw w7 88 3 (.slice (some ⟨g,off,none⟩) (i+1) cap) (i+1) (lcs (lnk i)++[.int .i64 (i:Int),.int .i64 ((i:Int)+1),.int .i64 1])) (hg:(wd.alloc o).grownBy w7 v.ownBlock) (hat:v.ownBlock=some g∨g=wd.heap.size+1):
 LSt w (w7.setCell ⟨w.heap.size+1,1,none⟩ (.slice (some ⟨g,off,none⟩) (i+1) cap)) n (.slice (some ⟨g,off,none⟩) (i+1) cap) (i+1):=by
 have hlt:w.heap.size+1<wd.heap.size:=(Array.getElem?_eq_some_iff.1 h.b).1
 have hgg:w.heap.size+2≤g:=by
  rcases hat with e | e
  ·exact h.o g e
  ·omega
 have hk:∀b,b<w.heap.size+2→w7.heap[b]? =wd.heap[b]?:=fun b hb=>by
  rw[hg.block b (by simp;omega) (fun e=>by have:=h.o b e.symm;omega),blk_alloc_lt _ _ _ (by omega)]
 refine⟨?_,set_snd ((hk _ (by omega)).trans h.b),?_,fun k hk=>by simp[Value.ownBlock] at hk;omega,?_⟩
 ·rw[blk_setCell_other _ _ _ _ (by simp),hk _ (by omega)];exact h.z
 ·rw[lnk_succ,lcs_append]
  exact hr.keep (fun k hk=>by simp[Value.ownBlock] at hk;subst hk;exact blk_setCell_other _ _ _ _ (by simp;omega))
 ·exact(Below.grown (h.e.alloc o) hg (h.e.alloc o).size (fun k hk=>by have:=h.o k hk;omega)).setCell (by simp) _
def LnOut (w w':World) (e:Ending) (n:Nat):Prop:=∃ao cap,e=.returned (.agg #[.int .i64 n,.slice ao (n - 1) cap])∧Ext w w'∧Hid (Rw w' 88 3 (.slice ao (n - 1) cap) (n - 1) (lcs (lnk (n - 1)))∧(∀k,(Value.slice ao (n - 1) cap).ownBlock=some k→w.heap.size≤k)∧NetAt w' ao (lnk (n - 1)))
set_option maxRecDepth 100000 in
set_option maxHeartbeats 2000000 in
theorem line_any (n:Nat) (w:World) (hn:n≤100):Calls Try.prog 33 #[.int .i64 n] w fun e w'=>LnOut w w' e n:=by
 obtain⟨i0,hi0,hz00,hz01,hz02⟩:=info_parts infoLk
 obtain⟨w2,hw2⟩:∃w2,w2=(w.alloc (.cells #[.int .i64 0,.slice none 0 0] 24)).alloc (.cells #[.int .i64 n,.slice none 0 0] 24):=⟨_,rfl⟩
 have HST:Hid (LSt w w2 n (.slice none 0 0) 0):=by rw[hw2];exact LSt.start w n
 go_enter Try.func33,Try.ntmps33
 go_wp2
 rw[←hw2]
 clear hw2
 go_loopw [4] (fun iv wd=>∃(i:Nat) (v:Value),i≤n - 1∧iv=.int .i64 i∧Hid (LSt w wd n v i)) (fun iv _=>n - (intOf iv).toNat)
 case atStart=>exact⟨0,_,Nat.zero_le _,rfl,HST.out⟩
 case round=>
  obtain⟨i,v,hi,rfl,HI⟩:=hrel
  have hwr:IntKind.i64.wrap ((i:Int)+1)=(i:Int)+1:=by rw[IntKind.wrap_i64];omega
  obtain⟨ao,cap,hv⟩:=HI.out.r.form
  have b0:=box_cell HI.out.b 0
  have b1:=box_cell HI.out.b 1
  simp only[List.getElem?_toArray,List.getElem?_cons_zero,List.getElem?_cons_succ] at b0 b1
  have bf:=box_frozen HI.out.b
  have hlt:w.heap.size+1<wr.heap.size:=(Array.getElem?_eq_some_iff.1 HI.out.b).1
  subst hv
  by_cases hin:i+1<n
  ·have i1:(i:Int)+1<(n:Int):=by omega
   have HR:Hid (Rw (wr.alloc (.cells #[.int .i64 (i:Int),.int .i64 ((i:Int)+1),.int .i64 1] 88)) 88 3 (.slice ao i cap) i (lcs (lnk i))):=HI.out.r.keep (fun k hk=>blk_alloc_lt _ _ _ (HI.out.r.lt k hk))
   go_wp2_with (first | (at_builtin;refine wpList_append_rw _ rfl _ _ 22 rfl 88 i0 _ 3 24 Try.underlying22 hi0 hz00 hz01 hz02 rfl (by decide) _ i (lcs (lnk i)) rfl HR.out ⟨wr.heap.size,0,none⟩ 1 [.int .i64 (i:Int),.int .i64 ((i:Int)+1),.int .i64 1] rfl rfl (cells3n rfl _ _ _ _) (one3 _ _ _) (by unfold maxLen;omega) (by omega) ?_) | fail)
   intro g off cp w7 hr7 hg7 hat7
   have HP:=hidp (HI.out.push hr7 hg7 hat7)
   have hk:w7.heap[w.heap.size+1]? =some (.cells #[.int .i64 n,.slice ao i cap] 24 (0,0)):=(hg7.block _ (by simp;omega) (fun e=>by have:=HI.out.o _ e.symm;omega)).trans ((blk_alloc_lt _ _ _ hlt).trans HI.out.b)
   have d0:=box_cell hk 0
   have d1:=box_cell hk 1
   simp only[List.getElem?_toArray,List.getElem?_cons_zero,List.getElem?_cons_succ] at d0 d1
   have df:=box_frozen hk
   have dl:w.heap.size+1<w7.heap.size:=(Array.getElem?_eq_some_iff.1 hk).1
   clear b0 b1 bf hk hr7 hg7 hat7
   go_wp2
   refine⟨⟨i+1,_,by omega,by go_num,HP.out⟩,by simp[intOf];omega⟩
  ·have i1:¬(i:Int)+1<(n:Int):=by omega
   have hin:i=n - 1:=by omega
   have z0:=box_cell HI.out.z 0
   have z1:=box_cell HI.out.z 1
   simp only[List.getElem?_toArray,List.getElem?_cons_zero,List.getElem?_cons_succ] at z0 z1
   have zf:=box_frozen HI.out.z
   have zl:w.heap.size<wr.heap.size:=by omega
   have HIN:=hidp hin
   clear hin
   go_wp2
   refine bodyPost_ret (v:=.agg #[.int .i64 n,.slice ao i cap]) (by simp[results,Try.results33,go_sem,z0,z1]) rfl ?_
   have hin:=HIN.out
   have h1:=HI.out
   subst hin
   have hkp:∀k,(Value.slice ao (n - 1) cap).ownBlock=some k→((wr.setCell ⟨w.heap.size,0,none⟩ (.int .i64 n)).setCell ⟨w.heap.size,1,none⟩ (.slice ao (n - 1) cap)).heap[k]? =wr.heap[k]?:=fun k hk=>by
    have:=h1.o k hk
    rw[blk_setCell_other _ _ _ _ (by simp;omega),blk_setCell_other _ _ _ _ (by simp;omega)]
   have hrw:=h1.r.keep hkp
   refine⟨ao,cap,rfl,(h1.e.setCell (by simp) _).setCell (by simp) _,hrw,fun k hk=>by have:=h1.o k hk;omega,?_⟩
   have hl:=lnk_len (n - 1)
   have hrw2:Rw ((wr.setCell ⟨w.heap.size,0,none⟩ (.int .i64 n)).setCell ⟨w.heap.size,1,none⟩ (.slice ao (n - 1) cap)) 88 3 (.slice ao (n - 1) cap) (lnk (n - 1)).length (lcs (lnk (n - 1))):=by rw[hl];exact hrw
   obtain⟨ao',cap',e,hn⟩:=hrw2.net
   simp only[Value.slice.injEq] at e
   rw[←e.1] at hn
   exact hn
end Go.Proofs.Ytolclgbpjiokfaa.Rm
namespace Go.Proofs.Ytolclgbpjiokfaa.Rm
open Go.RowKit Go.Deep Stw Stp Tb Rul Ct
def fA:List Stf.Fl:=[⟨0,2,[],[]⟩]
def dA:List Dd:=[⟨1,0,fA⟩]
theorem dA_f:plyF 3 (lnk 2) (drn 3 (lnk 2) 10 dA)=(0,0):=by decide+kernel
theorem dA_s:(plyW 3 (lnk 2) (drn 3 (lnk 2) 10 dA)).1.co.st=3:=by decide+kernel
theorem dA_w:(plyW 3 (lnk 2) (drn 3 (lnk 2) 10 dA)).1.sw.length=3:=by decide+kernel
theorem dA_r:((plyW 3 (lnk 2) (drn 3 (lnk 2) 10 dA)).1.sw.getD 1 Agt.sw0).rs.length=1:=by decide+kernel
theorem flow_in {W:World} {b:Nat} {a t:Int} (h:W.heap.size=b):Fw.FlowsAt (W.alloc (.cells #[.int .i64 a,.int .i64 t,.slice none 0 0,.slice none 0 0] 55)) (some ⟨b,0,none⟩) [⟨a,t,[],[]⟩]:=by
 subst h
 refine Or.inr ⟨_,0,rfl,by simp,fun k hk=>?_⟩
 have hk1:k<1:=hk
 match k,hk1 with
 | 0,_=>exact⟨.slice none 0 0,.slice none 0 0,by simp,by simp,by simp,by simp,⟨none,0,rfl,Or.inl rfl,Nat.le_refl _⟩,⟨none,0,rfl,Or.inl rfl,Nat.le_refl _⟩⟩
theorem flow_sm (a t:Int):Fw.Sm [⟨a,t,[],[]⟩]:=fun k h=>by
 have hk1:k<1:=h
 match k,hk1 with
 | 0,_=>simp
theorem ask_row {z W:World} {b:Nat} {fs:List Stf.Fl} {fo:Option Addr} {fc:Nat} (h:W.heap.size=b) (hE:Ext z W) (hf:Fw.FlowsAt z fo fs):DO z (W.alloc (.cells #[.int .i64 1,.int .i64 0,.slice fo fs.length fc] 66)) (.slice (some ⟨b,0,none⟩) 1 1) [⟨1,0,fs⟩]:=by
 have hz:=hE.size
 subst h
 exact DO.new (ds:=[⟨1,0,fs⟩]) hz (new_at rfl) (by simp) (by simp) (fun k hk=>by
  have hk1:k<1:=hk
  match k,hk1 with
  | 0,_=>exact⟨fo,fc,by simp,by simp,by simp,hf⟩)
theorem line_lit (n:Nat) (N:Int) (w:World) (hN:N=(n:Int)) (hn:n≤100):Calls Try.prog 33 #[.int .i64 N] w fun e w'=>∃ao cap,e=.returned (.agg #[.int .i64 N,.slice ao (n - 1) cap])∧Ext w w'∧Hid (NetAt w' ao (lnk (n - 1))):=by
 subst hN
 exact(line_any n w hn).mono (fun e w' ⟨ao,cap,h1,h2,h3⟩=>⟨ao,cap,h1,h2,h3.out.2.2⟩)
theorem dA_sm:DsSm dA:=fun d hd=>by
 simp only[dA,List.mem_singleton] at hd
 subst hd
 exact⟨flow_sm 0 2,by decide⟩
set_option maxRecDepth 100000 in
set_option maxHeartbeats 4000000 in
theorem t_alive_any (w:World):Calls Try.prog 28 #[] w fun e w'=>e=.returned (.bool true)∧Ext w w':=by
 go_enter Try.func28,Try.ntmps28
 go_wp2_with fail
 refine(line_lit 3 3 w rfl (by omega)).mono ?_
 rintro e w1 ⟨ao,cap,rfl,E1,HL⟩
 obtain⟨z1,hz1⟩:∃z1,z1=w1.alloc (.cells #[.int .i64 0,.int .i64 2,.slice none 0 0,.slice none 0 0] 55):=⟨_,rfl⟩
 have Ez:Ext w1 z1:=by rw[hz1];exact(Ext.refl w1).alloc _
 have hzs:z1.heap.size=w1.heap.size+1:=by rw[hz1];simp
 have hfa:Fw.FlowsAt z1 (some ⟨w1.heap.size,0,none⟩) fA:=by rw[hz1];exact flow_in rfl
 have HRW:Hid (DO z1 (z1.alloc (.cells #[.int .i64 1,.int .i64 0,.slice (some ⟨w1.heap.size,0,none⟩) 1 1] 66)) (.slice (some ⟨w1.heap.size+1,0,none⟩) 1 1) dA):=ask_row hzs (Ext.refl z1) hfa
 have HDR:=hidp (t_drain_any 3 ao 2 cap (lnk 2) (.slice (some ⟨w1.heap.size+1,0,none⟩) 1 1) dA z1 _ rfl (HL.out.ext Ez) (by omega) HRW.out ((Ext.refl z1).alloc _) dA_sm (by decide))
 have HE:=hidp (E1.trans Ez)
 clear hfa HRW hzs HL E1
 go_wp2_with fail
 rw[←hz1]
 clear hz1
 refine Calls.mono HDR.out ?_
 rintro e w3 ⟨v3,rfl,H3⟩
 obtain⟨lo,lc,hv3,hDI,_⟩:=H3.out.row.form
 have E3:Ext z1 w3:=H3.out.ext
 have HDA:=hidp (hDI.dos E3)
 subst hv3
 clear hDI HDR
 go_wp2_with fail
 refine(line_lit 3 3 w3 rfl (by omega)).mono ?_
 rintro e w4 ⟨ao4,cap4,rfl,E4,HL4⟩
 have HPL:=hidp (Play_any 3 ao4 2 cap4 (lnk 2) lo lc (drn 3 (lnk 2) 10 dA) w4 rfl HL4.out (by omega) (HDA.out.ext E4) (drn_small 10 dA_sm (by decide)).1 (by have:=(drn_small (N:=3) (ls:=lnk 2) 10 dA_sm (by decide)).2;omega))
 have hs:=dA_s
 have hw:=dA_w
 have hr:=dA_r
 rw[dA_f] at HPL
 have HE4:=hidp (HE.out.trans (E3.trans E4))
 generalize plyW 3 (lnk 2) (drn 3 (lnk 2) 10 dA)=q at HPL hs hw hr
 clear HL4 E4 E3 HDA H3
 go_wp2_with fail
 refine Calls.mono HPL.out ?_
 obtain⟨W,came⟩:=q
 rintro e w5 ⟨A,co,cc,rfl,E5,HP⟩
 simp only at hs hw hr HP
 unfold wvl
 obtain⟨g,off,ro,rc,so,sc,hso,hg,c0,_,_⟩:=HP.out.1.sw_get (s:=1) (by omega)
 rw[hr] at c0
 rw[hs,hw,hso]
 have HE5:=hidp (HE4.out.trans E5)
 have c0':w5.cell? ⟨g,off+2,none⟩=some (.slice ro 1 rc):=by simpa using c0
 clear c0 hs hw hr hso HPL HP E5
 go_wp2
 go_ret
 exact⟨rfl,(HE5.out.alloc _).alloc _⟩
end Go.Proofs.Ytolclgbpjiokfaa.Rm
