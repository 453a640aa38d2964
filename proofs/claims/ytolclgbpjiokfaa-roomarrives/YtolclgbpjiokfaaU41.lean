/- drain: all orders and answers come, round by round. -/
import Derived.Test.YtolclgbpjiokfaaU38
namespace Go.Proofs.Ytolclgbpjiokfaa.Rm
open Go.RowKit Go.Deep Stw Stp Tb Rul Ct
set_option maxRecDepth 100000 in
set_option maxHeartbeats 4000000 in
theorem drain_any (N:Int) (ao:Option Addr) (len cap:Nat) (ls:List Lk) (v0:Value) (ds:List Dd) (z w:World) (hlen:ls.length=len) (hl:NetAt z ao ls) (hx:len≤9223372036854775807) (hrow:DO z w v0 ds) (hE:Ext z w) (hS:DsSm ds) (hdl:ds.length≤1000):
 Calls Try.prog 23 #[.agg #[.int .i64 N,.slice ao len cap],v0] w fun e w'=>∃v',e=.returned v'∧Hid (RS z w v0.ownBlock w' v' (drn N ls 10 ds)):=by
 obtain⟨g,hg⟩:∃g,g=v0.ownBlock:=⟨_,rfl⟩
 have HG:Hid (∀k,g=some k→z.heap.size≤k∧k<w.heap.size):=fun k hk=>hrow.lt k (by rw[←hg];exact hk)
 obtain⟨lo0,lc0,hv0,_⟩:=hrow.form
 obtain⟨w1,hw1⟩:∃w1,w1=w.alloc (.cells #[.int .i64 N,.slice ao len cap] 24):=⟨_,rfl⟩
 have E1:Ext w w1:=by rw[hw1];exact(Ext.refl w).alloc _
 have hz1:w1.heap.size=w.heap.size+1:=by rw[hw1];simp
 have HST:Hid (RS z w1 g w1 v0 ds):=⟨hrow.ext E1,hE.trans E1,Gb.refl _ _,fun k hk=>Or.inl (by rw[hg];exact hk)⟩
 have HT:Hid (∀V,w1.grownBy V g→V.cell? ⟨w.heap.size,0,none⟩=some (.int .i64 N)∧V.cell? ⟨w.heap.size,1,none⟩=some (.slice ao len cap)∧w.heap.size<V.heap.size):=fun V hV=>by
  have hne:some w.heap.size≠g:=fun e=>by have:=(HG.out _ e.symm).2;omega
  refine⟨hV.cell (by rw[hw1];simp) hne,hV.cell (by rw[hw1];simp) hne,?_⟩
  have:=hV.size
  omega
 have HE1:=hidp E1
 have HNT:=hidp hl
 have HS:=hidp (And.intro hS hdl)
 rw[←hg]
 clear hg hrow hE hl hS hdl E1
 subst hv0
 go_enter Try.func23,Try.ntmps23
 go_wp2
 rw[←hw1]
 clear hw1
 go_loopw [1,10] (fun lv iv wd=>∃(r:Nat) (v:Value) (es:List Dd),r≤10∧iv=.int .i64 r∧lv=v∧Hid (RS z w1 g wd v es∧drn N ls (10 - r) es=drn N ls 10 ds∧DsSm es∧es.length≤1000)) (fun _ iv _=>10 - (intOf iv).toNat)
 case atStart=>exact⟨0,_,ds,by omega,rfl,rfl,HST.out,rfl,HS.out.1,HS.out.2⟩
 case round=>
  obtain⟨r,v,es,hr,rfl,hlv,HI⟩:=hrel
  obtain rfl:=hlv.symm
  by_cases hlt:r<10
  ·have i1:(r:Int)<10:=by omega
   obtain⟨t0,t1,tl⟩:=HT.out wr HI.out.1.gr
   obtain⟨lo,lc,hv,hDI,_⟩:=HI.out.1.row.form
   have HPL:Hid (Calls Try.prog 18 #[.agg #[.int .i64 N,.slice ao len cap],.slice lo es.length lc] wr fun e w'=>PlyAll z wr (plyW N ls es).1 (plyW N ls es).2 (plyF N ls es) e w'):=Play_in N ao len cap ls lo lc es z wr HI.out.1.ext hlen HNT.out hx hDI HI.out.2.2.1 (by have:=HI.out.2.2.2;omega)
   have HSM:=hidp (ply_small (N:=N) (ls:=ls) (es:=es))
   have HDR:Hid (drn N ls (10 - r) es=if drn1 (plyW N ls es).1=[] then es else drn N ls (10 - (r+1)) (es++drn1 (plyW N ls es).1)):=by
    show _=_
    rw[show 10 - r=(10 - (r+1))+1 by omega,drn]
   have HDL:=hidp (drn1_le (N:=N) (ls:=ls) (es:=es))
   generalize plyW N ls es=q at HPL HSM HDR HDL
   generalize plyF N ls es=f at HPL
   obtain⟨W,came⟩:=q
   obtain⟨f0,f1⟩:=f
   simp only at HPL HSM HDR HDL
   obtain⟨g5,hg5⟩:∃g5,g5=v.ownBlock:=⟨_,rfl⟩
   have HG5:Hid (∀k,g5=some k→z.heap.size≤k∧k<wr.heap.size):=fun k hk=>HI.out.1.row.lt k (by rw[←hg5];exact hk)
   have HGE:=hidp hg5
   clear hg5 hDI
   subst hv
   go_wp2_with fail
   refine Calls.mono HPL.out ?_
   rintro e w4 ⟨A,co,cc,rfl,E4,HP⟩
   unfold wvl
   have hs4:w.heap.size<w4.heap.size:=by have:=E4.size;omega
   clear t0 t1
   go_upto_region 5 with fail
   obtain⟨w5,hw5⟩:∃w5,w5=(w4.alloc (.cells #[.int .i64 W.co.st,.int .i64 W.co.now.v,.slice A.ca.n.fo W.co.now.fs.length A.ca.n.fc,.slice A.ca.n.qo W.co.now.ps.length A.ca.n.qc,.int .i64 W.co.nxt.v,.slice A.ca.x.fo W.co.nxt.fs.length A.ca.x.fc,.slice A.ca.x.qo W.co.nxt.ps.length A.ca.x.qc,.int .i64 W.co.num,.slice A.ca.wo W.co.wts.length A.ca.wc,.slice A.so W.sw.length A.sc,.slice A.oo W.od.length A.oc,.slice A.bo W.bk.length A.bc,.slice A.ko W.pk.length A.kc,.slice A.lo W.pn.length A.lc] 40)).alloc (.cells #[.int .i64 f0,.int .i64 f1] 44):=⟨_,rfl⟩
   rw[←hw5]
   have E45:Ext w4 w5:=by rw[hw5];exact((Ext.refl w4).alloc _).alloc _
   have hz5:w5.heap.size=w4.heap.size+1+1:=by rw[hw5];simp
   have H5:Hid (RS z w1 g w5 (.slice lo es.length lc) es):=HI.out.1.toExt (E4.trans E45)
   have HBX:Hid (∀V,w5.grownBy V g5→Ext z V→(V.cell? ⟨w4.heap.size,9,none⟩=some (.slice A.so W.sw.length A.sc)∧V.cell? ⟨w4.heap.size,10,none⟩=some (.slice A.oo W.od.length A.oc)∧V.cell? ⟨w4.heap.size,11,none⟩=some (.slice A.bo W.bk.length A.bc)∧w4.heap.size<V.heap.size)∧WoAt V W A):=fun V hV hEV=>by
    have hne:∀b,wr.heap.size≤b→some b≠g5:=fun b hb e=>by have:=(HG5.out _ e.symm).2;omega
    have h4:=E4.size
    have hsV:=hV.size
    refine⟨⟨hV.cell (by rw[hw5];simp) (hne _ h4),hV.cell (by rw[hw5];simp) (hne _ h4),hV.cell (by rw[hw5];simp) (hne _ h4),by omega⟩,?_⟩
    refine(HP.out V (by omega) hEV (fun b hb hnb=>?_)).1
    rw[hV.block b (by omega) (fun e=>by have:=HG5.out b e.symm;omega)]
    exact E45.block b hb
   have H50:Hid (RS z w5 g5 w5 (.slice lo es.length lc) es):=by
    have:=RS.start H5.out.row H5.out.ext
    rw[←HGE.out] at this
    exact this
   obtain⟨⟨p9,_,_,pl⟩,_⟩:=HBX.out w5 (Gb.refl _ _) H5.out.ext
   clear hw5 E45 HP E4 HPL HG5
   go_wp2
   go_loopw [1,8,22] (fun lv bv iv wd=>∃(s:Nat) (v:Value) (β:Bool) (cu:List Dd),s≤W.sw.length∧iv=.int .i64 s∧lv=v∧bv=.bool β∧Hid (RS z w5 g5 wd v cu∧cu=es++(List.range s).flatMap (acts W)∧β=decide (es.length<cu.length)∧cu.length≤es.length+3*s)) (fun _ _ iv _=>W.sw.length - (intOf iv).toNat)
   case atStart=>exact⟨0,_,false,es,Nat.zero_le _,rfl,rfl,rfl,H50.out,by simp,by simp,by omega⟩
   case round=>
    obtain⟨s,v,β,cu,hs,rfl,hlv,rfl,HC⟩:=hrel
    obtain rfl:=hlv.symm
    clear p9 pl
    by_cases hst:s<W.sw.length
    ·have j1:(s:Int)<(W.sw.length:Int):=by omega
     obtain⟨e200,n8,eod,ebk,e1⟩:=HSM.out.resolve_left (by omega)
     obtain⟨o1,b1⟩:=e1 s hst
     obtain⟨⟨_,p10,_,pl⟩,hWo⟩:=HBX.out wr HC.out.1.gr HC.out.1.ext
     obtain⟨og,ooff,hoo,hog,hoc⟩:=hWo.od.resolve_left (fun e=>by rw[e] at eod;simp at eod;omega)
     obtain⟨ov,o0,oO,oC,hov,_⟩:=hoc s (by omega)
     subst hov
     rw[hoo,eod] at p10
     have HAE:=hidp (acts_eq W s)
     generalize (W.od.getD s []).length=ol at o0 o1 HAE
     obtain⟨bl,hbl⟩:∃bl,bl=(W.bk.getD s []).length:=⟨_,rfl⟩
     have HBL:=hidp hbl
     rw[←hbl] at b1 HAE
     clear hbl
     have HOO:=hidp (And.intro hoo (And.intro eod ebk))
     clear hoc hWo hoo eod ebk e1
     go_wp2
     go_loopw [1,8,31] (fun lv bv iv wd=>∃(j:Nat) (v:Value) (β:Bool) (cx:List Dd),j≤ol∧iv=.int .i64 j∧lv=v∧bv=.bool β∧Hid (RS z w5 g5 wd v cx∧cx=cu++act2 s j∧β=decide (es.length<cx.length)∧cx.length=cu.length+2*j)) (fun _ _ iv _=>ol - (intOf iv).toNat)
     case atStart=>exact⟨0,_,β,cu,Nat.zero_le _,rfl,rfl,rfl,HC.out.1,by simp[act2],HC.out.2.2.1,by omega⟩
     case round=>
      obtain⟨j,v,β,cx,hj,rfl,hlv,rfl,HX⟩:=hrel
      obtain rfl:=hlv.symm
      clear p10 pl o0 hog
      by_cases hjo:j<ol
      ·have j2:(j:Int)<(ol:Int):=by omega
       obtain⟨lo2,lc2,hv2,_⟩:=HX.out.1.row.form
       have HLL:Hid (es.length<cx.length+2∧cx.length+2≤1000000):=by
        have h1:=HC.out.2.1
        have h2:=HX.out.2.2.2
        have h3:=HC.out.2.2.2
        have h4:es.length≤cu.length:=by rw[h1,List.length_append];omega
        exact⟨by omega,by omega⟩
       have HR2:Hid (RS z w5 g5 ((doW (doW wr 2 s) 3 s).alloc (.cells #[.int .i64 2,.int .i64 s,.slice none 0 0,.int .i64 3,.int .i64 s,.slice none 0 0] 66)) v cx):=HX.out.1.toExt (((doW_ext (doW_ext (Ext.refl wr)))).alloc _)
       have HD2:Hid (DosIn z ((doW (doW wr 2 s) 3 s).alloc (.cells #[.int .i64 2,.int .i64 s,.slice none 0 0,.int .i64 3,.int .i64 s,.slice none 0 0] 66)) (some ⟨wr.heap.size+1+1,0,none⟩) [⟨2,s,[]⟩,⟨3,s,[]⟩]):=two_in (by simp[doW])
       subst hv2
       go_wp2_with fail
       refine(do_any _ _ _).mono ?_
       rintro e _ ⟨rfl,rfl⟩
       go_wp2_with fail
       refine(do_any _ _ _).mono ?_
       rintro e _ ⟨rfl,rfl⟩
       have hdw:(doW (doW wr 2 s) 3 s).heap.size=wr.heap.size+1+1:=by simp[doW]
       go_wp2_with (first | (at_builtin;refine wpList_append_rs rfl _ _ rfl rfl rfl HR2.out rfl (by decide) HD2.out HLL.out.2 ?_) | fail)
       intro bb off cp W7 h7
       have H7:=hidp h7
       clear h7 HR2 HD2 hdw
       go_wp2
       refine⟨⟨j+1,_,true,cx++[⟨2,s,[]⟩,⟨3,s,[]⟩],by omega,by go_num,rfl,rfl,H7.out,?_,?_,?_⟩,by simp[intOf];omega⟩
       ·rw[HX.out.2.1,act2_succ,List.append_assoc]
       ·rw[eq_comm,decide_eq_true_iff,List.length_append];exact HLL.out.1
       ·rw[List.length_append,HX.out.2.2.2];simp;omega
      ·have j2:¬(j:Int)<(ol:Int):=by omega
       have hjl:j=ol:=by omega
       obtain⟨⟨_,_,p11,pl⟩,hWo⟩:=HBX.out wr HX.out.1.gr HX.out.1.ext
       obtain⟨bg,boff,hbo,hbg,hbc⟩:=hWo.bk.resolve_left (fun e=>by have:=HOO.out.2.2;rw[e] at this;simp at this;omega)
       obtain⟨bO,bC,b0,_⟩:=hbc s (by rw[HOO.out.2.2];exact hst)
       rw[hbo,HOO.out.2.2] at p11
       rw[←HBL.out] at b0
       have HJL:=hidp hjl
       clear hWo hbc hjl hbo
       go_wp2
       go_loopw [1,8,47] (fun lv bv iv wd=>∃(k:Nat) (v:Value) (β:Bool) (cy:List Dd),k≤bl∧iv=.int .i64 k∧lv=v∧bv=.bool β∧Hid (RS z w5 g5 wd v cy∧cy=cx++act1 s k∧β=decide (es.length<cy.length)∧cy.length=cx.length+k)) (fun _ _ iv _=>bl - (intOf iv).toNat)
       case atStart=>exact⟨0,_,β,cx,Nat.zero_le _,rfl,rfl,rfl,HX.out.1,by simp[act1],HX.out.2.2.1,by omega⟩
       case round=>
        obtain⟨k,v,β,cy,hk,rfl,hlv,rfl,HY⟩:=hrel
        obtain rfl:=hlv.symm
        clear p11 pl b0 hbg
        by_cases hkb:k<bl
        ·have j3:(k:Int)<(bl:Int):=by omega
         obtain⟨lo2,lc2,hv2,_⟩:=HY.out.1.row.form
         have HLL:Hid (es.length<cy.length+1∧cy.length+1≤1000000):=by
          have h1:=HC.out.2.1
          have h2:=HX.out.2.2.2
          have h3:=HC.out.2.2.2
          have h5:=HY.out.2.2.2
          have h4:es.length≤cu.length:=by rw[h1,List.length_append];omega
          exact⟨by omega,by omega⟩
         have HR2:Hid (RS z w5 g5 ((doW wr 3 s).alloc (.cells #[.int .i64 3,.int .i64 s,.slice none 0 0] 66)) v cy):=HY.out.1.toExt ((doW_ext (Ext.refl wr)).alloc _)
         have HD2:Hid (DosIn z ((doW wr 3 s).alloc (.cells #[.int .i64 3,.int .i64 s,.slice none 0 0] 66)) (some ⟨wr.heap.size+1,0,none⟩) [⟨3,s,[]⟩]):=one_in (d:=⟨3,s,[]⟩) (by simp[doW]) (Or.inl rfl)
         subst hv2
         go_wp2_with fail
         refine(do_any _ _ _).mono ?_
         rintro e _ ⟨rfl,rfl⟩
         have hdw:(doW wr 3 s).heap.size=wr.heap.size+1:=by simp[doW]
         go_wp2_with (first | (at_builtin;refine wpList_append_rs rfl _ _ rfl rfl rfl HR2.out rfl (by decide) HD2.out HLL.out.2 ?_) | fail)
         intro bb off cp W7 h7
         have H7:=hidp h7
         clear h7 HR2 HD2 hdw
         go_wp2
         refine⟨⟨k+1,_,true,cy++[⟨3,s,[]⟩],by omega,by go_num,rfl,rfl,H7.out,?_,?_,?_⟩,by simp[intOf];omega⟩
         ·rw[HY.out.2.1,act1_succ,List.append_assoc]
         ·rw[eq_comm,decide_eq_true_iff,List.length_append];exact HLL.out.1
         ·rw[List.length_append,HY.out.2.2.2];simp;omega
        ·have j3:¬(k:Int)<(bl:Int):=by omega
         have hkl:k=bl:=by omega
         have HKL:=hidp hkl
         clear hkl
         go_wp2
         refine⟨⟨s+1,_,β,cy,by omega,by go_num,rfl,rfl,HY.out.1,?_,HY.out.2.2.1,?_⟩,by simp[intOf];omega⟩
         ·rw[HY.out.2.1,HX.out.2.1,HC.out.2.1,HJL.out,HKL.out,List.range_succ,List.flatMap_append,List.append_assoc,List.append_assoc]
          simp[HAE.out]
         ·have h1:=HY.out.2.2.2
          have h2:=HX.out.2.2.2
          have h3:=HC.out.2.2.2
          omega
    ·have j1:¬(s:Int)<(W.sw.length:Int):=by omega
     have HFI:Hid (cu=es++drn1 W):=by
      have:s=W.sw.length:=by omega
      have h:=HC.out.2.1
      rw[this] at h
      exact h
     have HRT:Hid (RS z w1 g wr v cu):=by
      have h:=HC.out.1
      rw[HGE.out] at h
      exact H5.out.trans h
     cases β with
     | false=>
      have HDN:Hid (drn1 W=[]):=by
       have h:=HC.out.2.2.1
       rw[eq_comm,decide_eq_false_iff_not,HFI.out,List.length_append] at h
       exact List.eq_nil_of_length_eq_zero (by omega)
      go_wp2
      go_ret
      refine⟨_,rfl,?_⟩
      have h:=HRT.out.low HE1.out
      rw[←HI.out.2.1,HDR.out,if_pos HDN.out]
      rw[HFI.out,HDN.out,List.append_nil] at h
      exact h
     | true=>
      have HDN:Hid (drn1 W≠[]):=fun e=>by
       have h:=HC.out.2.2.1
       rw[eq_comm,decide_eq_true_iff,HFI.out,e] at h
       simp at h
      go_wp2
      refine⟨⟨r+1,_,cu,by omega,by go_num,rfl,HRT.out,?_,?_,?_⟩,by simp[intOf];omega⟩
      ·rw[←HI.out.2.1,HDR.out,if_neg HDN.out,HFI.out]
      ·rw[HFI.out];exact HI.out.2.2.1.append (DsSm.of_nil fun d hd=>drn1_fs hd)
      ·rw[HFI.out,List.length_append]
       have h1:=HDL.out.1
       have h2:es.length≤200:=by
        by_cases h3:200<es.length
        ·exact absurd (HDL.out.2 h3) HDN.out
        ·omega
       omega
  ·have i1:¬(r:Int)<10:=by omega
   have hr10:r=10:=by omega
   have HR10:=hidp hr10
   clear hr10
   go_wp2
   go_ret
   refine⟨_,rfl,?_⟩
   have h:=HI.out.1.low HE1.out
   have e:=HI.out.2.1
   rw[HR10.out] at e
   rw[←e]
   exact h
end Go.Proofs.Ytolclgbpjiokfaa.Rm
