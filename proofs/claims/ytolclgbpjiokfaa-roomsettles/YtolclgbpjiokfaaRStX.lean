/- RoomSettles: where all orders and answers come a change is as far as it may be; dropped, and come, each switch has just the rules, and the stamps, of the one plan that there is; for every input. -/
import Derived.Test.YtolclgbpjiokfaaU24
import Derived.Test.YtolclgbpjiokfaaU38
import Derived.Test.YtolclgbpjiokfaaU20
import Derived.Test.YtolclgbpjiokfaaU36
import Derived.Test.YtolclgbpjiokfaaU41
import Derived.Test.YtolclgbpjiokfaaU30
namespace Go.Proofs.Ytolclgbpjiokfaa
open Go.ChangeShapes Go.WideShapes Go.ChangeAt Go.RowKit Go.Deep Go.Joins Stw
theorem dos_nil {H:Type} {enc:TypeId×Value→H} {W:World} {fuel:Nat} {cs:List Value} {x:DataW H×List MemPlace} (h:DataW.trod enc Try.prog W 0 (fun _=>true) true fuel 25 cs=some x) {len cap:Nat} (e:cs=[.slice none len cap]):len=0∧cap=0:=by
 rcases open_slice Try.underlying25 h with⟨hcs,_⟩ | ⟨a,len,cap,m,n,D,Pl,hcs,_⟩
 ·rw[hcs] at e;simp at e;omega
 ·rw[hcs] at e;simp at e
end Go.Proofs.Ytolclgbpjiokfaa
namespace Go.Proofs.Ytolclgbpjiokfaa.Rm
open Go.RowKit Go.Deep Stw Stp Tb Rul Ct
theorem step_append_rs {ops:Array Oper} {o:Oper} {a:Act} {W:World} {K:Act→World→Prop} {Q:Exit→Act→World→Prop} {E:Prop} (hgd:o.guard=none) (s x:Operand)
 (ho:o.op=.call {callee:=.builtin .append,args:=#[s,x],argTypes:=#[25,25]}) {z y:World} {g:Option Nat} {v:Value} {ds es:List Dd} {ad:Addr} {lb cb:Nat}
 (hs:a.eval s=v) (hx:a.eval x=.slice (some ad) lb cb) (h:RS z y g W v ds) (hlen:es.length=lb) (h0:0<lb) (hb:DosIn z W (some ad) es) (hn:ds.length+lb≤1000000)
 (hK:∀b off cap W',RS z y g W' (.slice (some ⟨b,off,none⟩) (ds.length+lb) cap) (ds++es)→K (a.put o.dst (.slice (some ⟨b,off,none⟩) (ds.length+lb) cap)) W'):
 if Region.wanted o (yielded ops a.tmps)=true then Oper.wp Try.prog o a W K Q else E:=by
 have hw:Region.wanted o (yielded ops a.tmps)=true:=by simp[Region.wanted,hgd]
 rw[if_pos hw]
 obtain⟨b,off,cap,W',hr,h2⟩:=h.append (cb:=cb) hlen h0 hb hn
 unfold Oper.wp execOp
 simp only[ho,resolve,invoke,builtin,Sem.run_bind,Sem.run_pure,Result.andThen_ok,List.map_toArray,List.map_cons,List.map_nil,hs,hx,hr]
 exact hK b off cap W' h2
theorem step_copy_dos {ops:Array Oper} {o:Oper} {a:Act} {W:World} {K:Act→World→Prop} {Q:Exit→Act→World→Prop} {E:Prop} (hgd:o.guard=none) (s x:Operand)
 (ho:o.op=.call {callee:=.builtin .append,args:=#[s,x],argTypes:=#[25,25]}) {z:World} {g:Nat} {es:List Dd} {bo:Option Addr} {lb cb:Nat}
 (hs:a.eval s=.slice (some ⟨g,0,none⟩) 0 0) (hx:a.eval x=.slice bo lb cb) (hg:W.heap[g]? =some (.cells #[] 66 (0,0))) (hz:z.heap.size≤g) (hlen:es.length=lb) (hb:DosIn z W bo es) (hnil:bo=none→lb=0∧cb=0) (hn:lb≤1000000)
 (hK:∀ao cap W',DO z W' (.slice ao lb cap) es→W.grownBy W' (some g)→(∀k,(Value.slice ao lb cap).ownBlock=some k→g≤k)→K (a.put o.dst (.slice ao lb cap)) W'):
 if Region.wanted o (yielded ops a.tmps)=true then Oper.wp Try.prog o a W K Q else E:=by
 have hw:Region.wanted o (yielded ops a.tmps)=true:=by simp[Region.wanted,hgd]
 rw[if_pos hw]
 obtain⟨ao,cap,W',hr,h1,h2,h3⟩:=copy_dos (cb:=cb) hg hz hlen hb hnil hn
 unfold Oper.wp execOp
 simp only[ho,resolve,invoke,builtin,Sem.run_bind,Sem.run_pure,Result.andThen_ok,List.map_toArray,List.map_cons,List.map_nil,hs,hx,hr]
 exact hK ao cap W' h1 h2 h3
end Go.Proofs.Ytolclgbpjiokfaa.Rm
namespace Go.Proofs.Ytolclgbpjiokfaa.Rm
open Go.RowKit Go.Deep Stw Stp Tb Rul Ct
theorem hap_drop {n:Nat} {ls:List Lk} {W:Wd}:hap n ls W ⟨6,0,[]⟩=hapD n ls W:=by
 unfold hap
 simp only[show((6:Int)=1)=False by simp,show((6:Int)=2)=False by simp,show((6:Int)=3)=False by simp,show((6:Int)=4)=False by simp,show((6:Int)=5)=False by simp,if_false,if_true]
theorem run_snoc {n:Nat} {ls:List Lk} {ds:List Dd} {d:Dd}:run n ls (ds++[d])=((hap n ls (run n ls ds).1 d).1,(run n ls ds).2++[(hap n ls (run n ls ds).1 d).2]):=by
 rw[run_append];rfl
theorem rk_le (st:Int):rk st≤2:=by unfold rk;split;· omega
                                   split <;> omega
theorem drop_rest {n:Nat} {ls:List Lk} {t:Nat} {W:Wd} (h:Inv n ls t W) (hs:W.co.st=0∨W.co.st=3):((hapD n ls W).1.co.st=0∨(hapD n ls W).1.co.st=4)∧(hapD n ls W).1.pn=W.pn∧(hapD n ls W).1.pk=W.pk:=by
 rcases hs with e | e
 ·have h1:(dropS W.co n ls).2≠0:=by
   unfold dropS
   rw[if_neg (by simpa using h.wr),if_pos (by omega)]
   simp
  unfold hapD
  rw[if_pos h1]
  exact⟨Or.inl e,rfl,rfl⟩
 ·have h1:=drop_calm (n:=n) (ls:=ls) h.wr e
  have h2:=drop_B (n:=n) (ls:=ls) h.wr e
  unfold hapD
  rw[if_neg (by rw[h1];simp)]
  refine⟨?_,rfl,rfl⟩
  rcases h2 with⟨e1,_⟩ | ⟨e1,_⟩
  ·exact Or.inr e1
  ·exact Or.inl e1
theorem settle2 {n:Nat} {ls:List Lk} (hw:(wrong n ls).1=0) {ds:List Dd} (hl:ds.length≤200):
 ∃z1 z2,drn n ls 10 ds=ds++z1∧drn n ls 10 (ds++z1++[(⟨6,0,[]⟩:Dd)])=ds++z1++[(⟨6,0,[]⟩:Dd)]++z2∧z1.length≤32∧z2.length≤16∧
  ((ds++z1).length≤200→Settled (run n ls ds).1 (run n ls (ds++z1)).1∧∃c,(run n ls (ds++z1)).2=(run n ls ds).2++c∧∀e∈c,e=0)∧
  ((ds++z1++[(⟨6,0,[]⟩:Dd)]++z2).length≤200→(run n ls (ds++z1++[(⟨6,0,[]⟩:Dd)]++z2)).1.co.st=0∧(run n ls (ds++z1++[(⟨6,0,[]⟩:Dd)]++z2)).1.co.wts=[]∧(run n ls (ds++z1++[(⟨6,0,[]⟩:Dd)]++z2)).1.pn=(run n ls ds).1.pn∧(run n ls (ds++z1++[(⟨6,0,[]⟩:Dd)]++z2)).1.pk=(run n ls ds).1.pk):=by
 have hI:=run_inv (n:=n) (ls:=ls) hw (show ds.length≤1000 by omega)
 have hn:=hI.n8.2
 obtain⟨z1,a1,a2,a3⟩:=drn_ok (n:=n) (ls:=ls) hw 10 ds hl (by have:=rk_le (run n ls ds).1.co.st;omega)
 have b1:z1.length≤32:=by
  have h1:2*n*rk (run n ls ds).1.co.st≤16*2:=Nat.mul_le_mul (by omega) (rk_le _)
  omega
 by_cases hlong:200<(ds++z1++[(⟨6,0,[]⟩:Dd)]).length
 ·refine⟨z1,[],a1,?_,b1,by simp,a3,fun h=>?_⟩
  ·rw[drn_long hlong,List.append_nil]
  ·rw[List.append_nil] at h;omega
 ·have hm1:(ds++z1).length≤200:=by simp only[List.length_append,List.length_cons,List.length_nil] at hlong ⊢;omega
  obtain⟨hset,hc⟩:=a3 hm1
  have hI1:=run_inv (n:=n) (ls:=ls) hw (show(ds++z1).length≤1000 by omega)
  have hs1:(run n ls (ds++z1)).1.co.st=0∨(run n ls (ds++z1)).1.co.st=3:=by
   obtain⟨_,_,_,s4,s5,s6⟩:=hset
   rcases hI.sts with e | e | e | e | e
   ·exact Or.inl (s4 e).1
   ·exact Or.inr (s6 (Or.inl e)).1
   ·exact Or.inr (s6 (Or.inr (Or.inl e))).1
   ·exact Or.inr (s6 (Or.inr (Or.inr e))).1
   ·exact Or.inl (s5 e).1
  obtain⟨d1,d2,d3⟩:=drop_rest hI1 hs1
  have er:(run n ls (ds++z1++[(⟨6,0,[]⟩:Dd)])).1=(hapD n ls (run n ls (ds++z1)).1).1:=by rw[run_snoc,hap_drop]
  have hrk:rk (run n ls (ds++z1++[(⟨6,0,[]⟩:Dd)])).1.co.st≤1:=by
   rw[er]
   rcases d1 with e | e <;> rw[e] <;> decide
  obtain⟨z2,c1,c2,c3⟩:=drn_ok (n:=n) (ls:=ls) hw 10 (ds++z1++[(⟨6,0,[]⟩:Dd)]) (by omega) (by omega)
  refine⟨z1,z2,a1,c1,b1,?_,a3,fun h=>?_⟩
  ·have h1:2*n*rk (run n ls (ds++z1++[(⟨6,0,[]⟩:Dd)])).1.co.st≤16*1:=Nat.mul_le_mul (by omega) hrk
   omega
  ·obtain⟨⟨s1,s2,s3,s4,s5,s6⟩,_⟩:=c3 h
   rw[er] at s2 s3 s4 s5
   refine⟨?_,s1,s3.trans (d2.trans hset.2.2.1),s2.trans (d3.trans hset.2.1)⟩
   rcases d1 with e | e
   ·exact(s4 e).1
   ·exact(s5 e).1
theorem Inv.rest {n:Nat} {ls:List Lk} {t:Nat} {W:Wd} (h:Inv n ls t W) (hs:W.co.st=0) (hw:W.co.wts=[]):W.co.now=lp W.pn W.pn.length∧W.co.nxt=pl0∧W.co.now.v=W.pn.length∧∀s,s<n→W.sw.getD s Agt.sw0=⟨rls W.co.now s,stOf W.co.now s⟩:=by
 rcases h.dyn.stg with⟨_,h2,h3⟩ | ⟨h1,_⟩
 ·refine⟨h3,h2,by rw[h3];exact(h.pls.lp (Nat.le_refl _)).1,fun s hsn=>?_⟩
  rw[(h.dyn.core.quiet hw).2 s hsn]
  unfold aft
  rw[if_pos hs]
 ·omega
theorem ver_at {p:Pl} {s i:Nat} (hi:i<p.fs.length):Agt.ver (stOf p s) i=if(p.fs.getD i Fw.f0).fr=(s:Int) then p.v else 0:=by
 unfold stOf
 by_cases h:(p.fs.getD i Fw.f0).fr=(s:Int)
 ·rw[if_pos h]
  exact ver_stamps_of (mem_beg.2 ⟨i,hi,rfl,h⟩)
 ·rw[if_neg h]
  cases e:decide (Agt.ver (Agt.stamps p.v (beg s p.fs p.fs.length)) i=0) with
  | true=>exact of_decide_eq_true e
  | false=>
   exfalso
   obtain⟨k,_,k2,k3⟩:=mem_beg.1 (ver_stamps (of_decide_eq_false e)).1
   have:k=i:=by omega
   subst this
   exact h k3
end Go.Proofs.Ytolclgbpjiokfaa.Rm
namespace Go.Proofs.Ytolclgbpjiokfaa.Ag
open Go.RowKit Go.Deep Tb Rul
set_option maxRecDepth 100000 in
set_option maxHeartbeats 800000 in
theorem refStamped_any (s:Agt.Sw) (ro so:Option Addr) (rc sc:Nat) (f:Int) (w:World) (h:SwAt w s ro so rc):
 Calls Try.prog 27 #[svl s ro so rc sc,.int .i64 f] w fun e w'=>e=.returned (.int .i64 (Agt.ver s.st f))∧Ext w w':=by
 obtain⟨rs,st⟩:=s
 unfold svl
 have hsl:st.length*16≤140737488351232:=h.sl
 have HS:Hid (StAt w so st):=h.hs
 have hw0:Agt.ver st f=Agt.ver (st.drop 0) f:=by rw[List.drop_zero]
 show Calls _ _ _ _ fun e w'=>e=.returned (.int .i64 (Agt.ver st f))∧Ext w w'
 rw[hw0]
 clear h hw0
 go_enter Try.func27,Try.ntmps27
 go_wp2
 go_loopw [10] (fun iv wd=>∃k:Nat,k≤st.length∧iv=.int .i64 k∧Hid (Agt.ver (st.drop 0) f=Agt.ver (st.drop k) f)∧Ext w wd) (fun iv _=>st.length - (intOf iv).toNat)
 case atStart=>exact⟨0,Nat.zero_le _,rfl,rfl,(Ext.refl w).alloc _⟩
 case round=>
  obtain⟨k,hk,rfl,HW,hE⟩:=hrel
  by_cases hlt:k<st.length
  ·obtain⟨g,off,rfl,hg,hcs⟩:=(StAt.ext HS.out hE).get hlt
   have i1:(k:Int)<(st.length:Int):=by omega
   have HST:Hid _:=ver_step (st:=st) (f:=f) (k:=k) hlt
   obtain⟨c0,c1⟩:=hcs k hlt
   obtain⟨x,hx⟩:∃x,st.getD k s0=x:=⟨_,rfl⟩
   rw[hx] at c0 c1 HST
   clear hx hcs
   by_cases h1:x.1=f
   ·have HF:Hid (Agt.ver (st.drop 0) f=x.2):=by show _=_;rw[HW.out,HST.out,if_pos h1]
    have b1:(x.1 == f)=true:=by simpa using h1
    clear h1
    go_wp2
    go_ret
    exact⟨by rw[HF.out];first | done | rfl,hE.alloc _⟩
   ·have HW2:Hid (Agt.ver (st.drop 0) f=Agt.ver (st.drop (k+1)) f):=by show _=_;rw[HW.out,HST.out,if_neg h1]
    have b1:(x.1 == f)=false:=by simpa using h1
    clear h1
    go_wp2
    exact⟨⟨k+1,by omega,by go_num,HW2,hE.alloc _⟩,by simp[intOf];omega⟩
  ·have HF:Hid (Agt.ver (st.drop 0) f=0):=by show _=_;rw[HW.out,List.drop_eq_nil_of_le (by omega)];rfl
   go_wp2
   go_ret
   exact⟨by rw[HF.out];first | done | rfl,hE⟩
end Go.Proofs.Ytolclgbpjiokfaa.Ag
namespace Go.Proofs.Ytolclgbpjiokfaa.Rm
open Go.RowKit Go.Deep Stw Stp Tb Rul Ct
theorem RS.extLow {z y x V:World} {g:Option Nat} {v:Value} {ds:List Dd} (h:RS z y g V v ds) (E:Ext x y) (hg:∀k,g=some k→x.heap.size≤k):Ext x V:=Below.grown E h.gr E.size hg
theorem set2 {w:World} {b:Nat} {x y u v:Value} {T:TypeId} (h:w.heap[b]? =some (.cells #[x,y] T (0,0))):((w.setCell ⟨b,0,none⟩ u).setCell ⟨b,1,none⟩ v).heap[b]? =some (.cells #[u,v] T (0,0)):=by
 have h1:(w.setCell ⟨b,0,none⟩ u).heap[b]? =some (.cells #[u,y] T (0,0)):=by simp[World.setCell,Array.getElem?_modify,h]
 generalize w.setCell ⟨b,0,none⟩ u=w1 at h1
 simp[World.setCell,Array.getElem?_modify,h1]
set_option maxRecDepth 100000 in
set_option maxHeartbeats 4000000 in
theorem roomSettles_any (N:Int) (ao:Option Addr) (len cap:Nat) (ls:List Lk) (lo:Option Addr) (lc:Nat) (ds:List Dd) (w:World) (hlen:ls.length=len) (hl:NetAt w ao ls) (hx:len≤9223372036854775807) (hd:DosAt w lo ds) (hS:DsSm ds) (hdl:ds.length≤9223372036854775807) (hnl:lo=none→ds.length=0∧lc=0):
 Calls Try.prog 6 #[.agg #[.int .i64 N,.slice ao len cap],.slice lo ds.length lc] w fun e w'=>e=.returned (.bool true)∧Ext w w':=by
 have hE0:=(Ext.refl w).alloc (.cells #[.int .i64 N,.slice ao len cap] 24)
 go_enter Try.func6,Try.ntmps6
 go_wp2_with fail
 refine(alive_any _).mono ?_
 rintro e w1 ⟨rfl,E1⟩
 have n0:w1.cell? ⟨w.heap.size,0,none⟩=some (.int .i64 N):=(E1.cells.1 _ _ (by simp)).trans (by simp)
 have n1:w1.cell? ⟨w.heap.size,1,none⟩=some (.slice ao len cap):=(E1.cells.1 _ _ (by simp)).trans (by simp)
 have hs1:w.heap.size<w1.heap.size:=by have:=E1.size;simp at this;omega
 have E01:=hE0.trans E1
 clear hE0 E1
 by_cases ha:(60:Int)<(ds.length:Int)
 ·go_wp2
  go_ret
  exact⟨rfl,E01⟩
 ·have h60:ds.length≤60:=by omega
  go_wp2_with fail
  refine(Play_any N ao len cap ls lo lc ds w1 hlen (hl.ext E01) hx (hd.ext E01) hS hdl).mono ?_
  intro e w4 hP
  have HW:Hid ((plyF N ls ds).1=0→∃n:Nat,N=(n:Int)∧(wrong n ls).1=0∧ds.length≤200∧plyW N ls ds=run n ls ds):=fun h=>by
   obtain⟨n,h1,_,h3,h4,_,h6⟩:=plyN h
   exact⟨n,h1,h3,h4,h6⟩
  generalize plyF N ls ds=f at hP HW
  generalize plyW N ls ds=q at hP HW
  obtain⟨W,came⟩:=q
  obtain⟨A,co,cc,rfl,E4,HP⟩:=hP
  obtain⟨f0,f1⟩:=f
  unfold wvl
  simp only at HW HP ⊢
  have E04:=E01.trans E4
  have m0:=(E4.cells.1 _ _ hs1).trans n0
  have m1:=(E4.cells.1 _ _ hs1).trans n1
  have hs4:w.heap.size<w4.heap.size:=by have:=E4.size;omega
  have HNT:=hidp (hl.ext E04)
  have HDS:=hidp (hd.ext E04)
  have HSM:=hidp hS
  have HE4:=hidp E04
  clear n0 n1 hl hd hS
  go_upto_region 6 with fail
  obtain⟨w5,hw5⟩:∃w5,w5=(w4.alloc (.cells #[.int .i64 W.co.st,.int .i64 W.co.now.v,.slice A.ca.n.fo W.co.now.fs.length A.ca.n.fc,.slice A.ca.n.qo W.co.now.ps.length A.ca.n.qc,.int .i64 W.co.nxt.v,.slice A.ca.x.fo W.co.nxt.fs.length A.ca.x.fc,.slice A.ca.x.qo W.co.nxt.ps.length A.ca.x.qc,.int .i64 W.co.num,.slice A.ca.wo W.co.wts.length A.ca.wc,.slice A.so W.sw.length A.sc,.slice A.oo W.od.length A.oc,.slice A.bo W.bk.length A.bc,.slice A.ko W.pk.length A.kc,.slice A.lo W.pn.length A.lc] 40)).alloc (.cells #[.int .i64 f0,.int .i64 f1] 44):=⟨_,rfl⟩
  rw[←hw5]
  have E45:Ext w4 w5:=by rw[hw5];exact((Ext.refl w4).alloc _).alloc _
  have hz5:w5.heap.size=w4.heap.size+1+1:=by rw[hw5];simp
  have HE5:=hidp (E04.trans E45)
  have HE45:=hidp E45
  have HSZ:=hidp hz5
  have HS:Hid (∀V,Ext w5 V→V.cell? ⟨w.heap.size,0,none⟩=some (.int .i64 N)∧V.cell? ⟨w.heap.size,1,none⟩=some (.slice ao len cap)):=fun V hV=>⟨((E45.trans hV).cells.1 _ _ hs4).trans m0,((E45.trans hV).cells.1 _ _ hs4).trans m1⟩
  have HBX:Hid (∀V,Ext w5 V→(V.cell? ⟨w4.heap.size,13,none⟩=some (.slice A.lo W.pn.length A.lc)∧w4.heap.size<V.heap.size)∧(V.cell? ⟨w4.heap.size+1,0,none⟩=some (.int .i64 f0)∧V.cell? ⟨w4.heap.size+1,1,none⟩=some (.int .i64 f1)∧w4.heap.size+1<V.heap.size)∧(∀i,V.frozen? ⟨w4.heap.size+1,i,none⟩=false)∧V.heap[w4.heap.size+1]? =some (.cells #[.int .i64 f0,.int .i64 f1] 44 (0,0))):=fun V hV=>by
   have hb:V.heap[w4.heap.size+1]? =some (.cells #[.int .i64 f0,.int .i64 f1] 44 (0,0)):=(Below.block hV _ (by omega)).trans (by rw[hw5];exact new_at (by simp))
   exact⟨⟨(hV.cells.1 _ _ (by omega)).trans (by rw[hw5];simp),by have:=hV.size;omega⟩,⟨box_cell hb 0,box_cell hb 1,by have:=hV.size;omega⟩,fun i=>box_frozen hb i,hb⟩
  obtain⟨_,⟨p1,_,pl1⟩,_⟩:=HBX.out w5 (Ext.refl w5)
  have HNA:Hid (NetAt w4 ao ls):=HNT.out
  have HD5:Hid (DosIn w4 (w5.alloc (.cells #[] 66)).drew lo ds):=((DosAt.isIn HDS.out).ext E45).ext ((Ext.refl w5).alloc _).drew
  clear m0 m1 E45 hw5 HP E04 E4 E01 HNT HDS hz5
  by_cases hf:f0=0
  ·obtain⟨n,rfl,hw,hl2,hq⟩:=HW.out hf
   subst hf
   have HWR:=hidp hw
   have HQ:=hidp hq
   have HDRN:Hid (∀v (es:List Dd) V,DO w4 V v es→Ext w4 V→DsSm es→es.length≤1000→Calls Try.prog 23 #[.agg #[.int .i64 n,.slice ao len cap],v] V fun e w'=>∃v',e=.returned v'∧Hid (RS w4 V v.ownBlock w' v' (drn n ls 10 es))):=fun v es V h1 h2 h3 h4=>drain_any n ao len cap ls v es w4 V hlen HNA.out hx h1 h2 h3 h4
   clear hw hq HW hl2
   go_upto_region 8 with fail
   clear p1
   have hr0:Ext w5 w5:=Ext.refl w5
   have hd0:Ext w5 w5.drew:=hr0.drew
   go_region_held3 (fun V=>V.cell? ⟨w.heap.size,0,none⟩=some (.int .i64 n)∧V.cell? ⟨w.heap.size,1,none⟩=some (.slice ao len cap))
    (first | (with_reducible exact HS.out _ hd0) | (with_reducible exact HS.out _ (hr0.alloc _).drew) | (with_reducible exact HS.out _ mk3) | (with_reducible exact HS.out _ mk2) | fail)
    (first
    | (go_at_call 23
       with_reducible refine(HDRN.out _ ds _ hDO mkE HSM.out (by omega)).mono ?_
       rintro e w7 ⟨v7,rfl,h7⟩
       have h7':=H2.trans h7.out
       have mk3:Ext w5 w7:=h7'.extLow mk2 hG2
       obtain⟨lo7,lc7,hv7,_⟩:=h7'.row.form
       subst hv7
       have H7:=hidp h7'
       clear h7 h7' H2)
    | (refine step_copy_dos (z:=w4) (es:=ds) (g:=w5.heap.size) rfl (.tmp 32) (.tmp 33) rfl rfl rfl (new_at rfl) (HE45.out.size) rfl HD5.out hnl (by omega) ?_
       intro ao2 cap2 W2 hDO hgr hown
       have mk2:Ext w5 W2:=Below.grown (hr0.alloc _).drew hgr (by simp) (fun k hk=>by cases hk;exact Nat.le_refl _)
       have mkE:Ext w4 W2:=HE45.out.trans mk2
       have H2:=RS.start hDO mkE
       have hG2:∀k,(Value.slice ao2 ds.length cap2).ownBlock=some k→w5.heap.size≤k:=hown
       clear hgr hown))
   generalize (Value.slice ao2 ds.length cap2).ownBlock=g2 at H7 hG2
   obtain⟨z1,z2,s1,s2,s3,s4,_,s6⟩:=settle2 (n:=n) (ls:=ls) HWR.out (ds:=ds) (by omega)
   rw[←s1] at s2 s6
   obtain⟨c1,hc1⟩:∃c1,c1=drn n ls 10 ds:=⟨_,rfl⟩
   have HC1:Hid (c1.length≤92∧DsSm c1):=⟨by rw[hc1,s1,List.length_append];omega,by rw[hc1];exact(drn_small 10 HSM.out (by omega)).1⟩
   rw[←hc1] at H7 s2 s6 ⊢
   have HC2:Hid (DsSm (c1++[⟨6,0,[]⟩])∧(c1++[(⟨6,0,[]⟩:Dd)]).length≤1000):=⟨HC1.out.2.append (DsSm.of_nil (fun d hd=>by simp at hd;rw[hd])),by have:=HC1.out.1;simp;omega⟩
   obtain⟨c2,hc2⟩:∃c2,c2=drn n ls 10 (c1++[⟨6,0,[]⟩]):=⟨_,rfl⟩
   have HC3:Hid (DsSm c2∧c2.length≤1000):=by rw[hc2];exact drn_small 10 HC2.out.1 HC2.out.2
   rw[←s2, ←hc2] at s6
   have HX:=hidp s6
   have HC2E:=hidp hc2
   have hE7:=mk3
   have hM2:=mk2
   clear s1 s2 s3 s4 s6 hc1 hc2 hDO mkE mk2 mk3 hd0 hr0 HD5
   go_upto_region 9 with fail
   have hd7:Ext w5 w7.drew:=hE7.drew
   have HR9:Hid (RS w4 W2 g2 ((doW w7.drew 6 0).alloc (.cells #[.int .i64 6,.int .i64 0,.slice none 0 0] 66)) (.slice lo7 c1.length lc7) c1):=H7.out.toExt ((doW_ext (Ext.refl w7).drew).alloc _)
   have HD9:Hid (DosIn w4 ((doW w7.drew 6 0).alloc (.cells #[.int .i64 6,.int .i64 0,.slice none 0 0] 66)) (some ⟨w7.heap.size+1,0,none⟩) [⟨6,0,[]⟩]):=one_in (d:=⟨6,0,[]⟩) (by simp[doW]) (Or.inl rfl)
   have hdw:(doW w7.drew 6 0).heap.size=w7.heap.size+1:=by simp[doW]
   have HL9:Hid (c1.length+1≤1000000):=by have:=HC1.out.1;show _≤_;omega
   clear H7
   go_region_held3 (fun V=>V.cell? ⟨w.heap.size,0,none⟩=some (.int .i64 n)∧V.cell? ⟨w.heap.size,1,none⟩=some (.slice ao len cap))
    (first | (with_reducible exact HS.out _ hd7) | (with_reducible exact HS.out _ (doW_ext hd7)) | (with_reducible exact HS.out _ ((doW_ext hd7).alloc _)) | (with_reducible exact HS.out _ mk9) | (with_reducible exact HS.out _ mk8) | fail)
    (first
    | (go_at_call 23
       with_reducible refine(HDRN.out _ (c1++[⟨6,0,[]⟩]) _ h9.row h9.ext HC2.out.1 HC2.out.2).mono ?_
       rw[←HC2E.out]
       rintro e w8 ⟨v8,rfl,h8⟩
       have h8':=h9.trans h8.out
       have mk9:Ext w5 w8:=h8'.extLow hM2 hG2
       obtain⟨lo8,lc8,hv8,_⟩:=h8'.row.form
       subst hv8
       have H8:=hidp h8'
       clear h8 h8' h9)
    | (go_at_call 24
       refine(do_any _ _ _).mono ?_
       rintro e _ ⟨rfl,rfl⟩)
    | (refine step_append_rs (z:=w4) (y:=W2) (g:=g2) (ds:=c1) (es:=[⟨6,0,[]⟩]) rfl (.tmp 37) (.tmp 39) rfl rfl rfl HR9.out rfl (by decide) HD9.out HL9.out ?_
       intro b9 off9 cp9 w9 h9
       have mk8:Ext w5 w9:=h9.extLow hM2 hG2))
   have hE8:=mk9
   clear mk9 mk8 hd7 HR9 HD9 hdw HL9 hM2 hG2 hE7
   by_cases hc:(200:Int)<(c2.length:Int)
   ·go_wp2
    go_ret
    exact⟨rfl,HE5.out.trans hE8⟩
   ·have h200:c2.length≤200:=by omega
    obtain⟨x1,x2,x3,_⟩:=HX.out h200
    have hpl:=plyF_of (n:=(n:Int)) (ds:=c2) HWR.out h200
    have hrn:plyW n ls c2=run n ls c2:=hpl.2
    have hI2:=run_inv (n:=n) (ls:=ls) (ds:=c2) HWR.out (by omega)
    obtain⟨lo9,lc9,hv9,hDI,_⟩:=H8.out.row.form
    cases hv9
    have HPL:=hidp (Play_in n ao len cap ls lo8 lc8 c2 w4 w8 H8.out.ext hlen HNA.out hx hDI HC3.out.1 (by omega))
    have eW:(run n ls ds).1=W:=by rw[←HQ.out]
    rw[eW] at x3
    rw[hrn,hpl.1] at HPL
    generalize run n ls c2=q at HPL hI2 x1 x2 x3
    obtain⟨X,dame⟩:=q
    simp only at HPL hI2 x1 x2 x3
    have HI2:=hidp hI2
    have HXX:=hidp (And.intro x1 (And.intro x2 x3))
    obtain⟨t0,t1⟩:=HS.out w8 hE8
    clear hDI hpl hrn hI2 x1 x2 x3 eW HX HC3 HC2 HC2E HC1 HDRN HQ
    go_wp2_with fail
    refine Calls.mono HPL.out ?_
    rintro e w6 ⟨B,bo,bc,rfl,E6,HB⟩
    unfold wvl
    obtain⟨⟨_,l4⟩,⟨q0,q1,q2⟩,q3,_⟩:=HBX.out w6 (hE8.trans E6)
    clear HPL t0 t1
    go_upto_region 13 with fail
    obtain⟨wu,hwu⟩:∃wu,wu=((w6.setCell ⟨w4.heap.size+1,0,none⟩ (.int .i64 0)).setCell ⟨w4.heap.size+1,1,none⟩ (.int .i64 0)).alloc (.cells #[.int .i64 X.co.st,.int .i64 X.co.now.v,.slice B.ca.n.fo X.co.now.fs.length B.ca.n.fc,.slice B.ca.n.qo X.co.now.ps.length B.ca.n.qc,.int .i64 X.co.nxt.v,.slice B.ca.x.fo X.co.nxt.fs.length B.ca.x.fc,.slice B.ca.x.qo X.co.nxt.ps.length B.ca.x.qc,.int .i64 X.co.num,.slice B.ca.wo X.co.wts.length B.ca.wc,.slice B.so X.sw.length B.sc,.slice B.oo X.od.length B.oc,.slice B.bo X.bk.length B.bc,.slice B.ko X.pk.length B.kc,.slice B.lo X.pn.length B.lc] 40):=⟨_,rfl⟩
    rw[←hwu]
    have hzu:wu.heap.size=w6.heap.size+1:=by rw[hwu];simp
    have hE6:Ext w4 w6:=HE45.out.trans (hE8.trans E6)
    have HE4u:Hid (Ext w4 wu):=by
     show Ext w4 wu
     rw[hwu]
     exact(((hE6.setCell (by simp) _).setCell (by simp) _)).alloc _
    have hl8:w4.heap.size+1<w8.heap.size:=(HBX.out w8 hE8).2.1.2.2
    have hbu:∀b,b<w6.heap.size→b≠w4.heap.size+1→wu.heap[b]? =w6.heap[b]?:=fun b hb hne=>by
     rw[hwu,blk_alloc_lt _ _ _ (by simpa using hb),blk_setCell_other _ _ _ _ (by simpa using hne),blk_setCell_other _ _ _ _ (by simpa using hne)]
    have HWO:Hid (∀V,Ext wu V→WoAt V X B):=fun V hV=>(HB.out wu (by omega) HE4u.out (fun b hb hnb=>hbu b hb (by omega))).1.ext hV
    have HBK:Hid (∀V,Ext wu V→V.heap[w6.heap.size]? =some (.cells #[.int .i64 X.co.st,.int .i64 X.co.now.v,.slice B.ca.n.fo X.co.now.fs.length B.ca.n.fc,.slice B.ca.n.qo X.co.now.ps.length B.ca.n.qc,.int .i64 X.co.nxt.v,.slice B.ca.x.fo X.co.nxt.fs.length B.ca.x.fc,.slice B.ca.x.qo X.co.nxt.ps.length B.ca.x.qc,.int .i64 X.co.num,.slice B.ca.wo X.co.wts.length B.ca.wc,.slice B.so X.sw.length B.sc,.slice B.oo X.od.length B.oc,.slice B.bo X.bk.length B.bc,.slice B.ko X.pk.length B.kc,.slice B.lo X.pn.length B.lc] 40 (0,0))∧w6.heap.size<V.heap.size):=fun V hV=>
     ⟨(Below.block hV _ (by omega)).trans (by rw[hwu];exact new_at (by simp)),by have:=hV.size;omega⟩
    have hb6:=set2 (u:=.int .i64 0) (v:=.int .i64 0) (HBX.out w6 (hE8.trans E6)).2.2.2
    have g0:wu.cell? ⟨w4.heap.size+1,0,none⟩=some (.int .i64 0):=box_cell (show wu.heap[w4.heap.size+1]? =some (.cells #[.int .i64 0,.int .i64 0] 44 (0,0)) by rw[hwu,blk_alloc_lt _ _ _ (by simpa using q2)];exact hb6) 0
    have g13:wu.cell? ⟨w4.heap.size,13,none⟩=some (.slice A.lo W.pn.length A.lc):=(World.cell?_of_block (hbu _ l4 (by simp))).trans (HBX.out w6 (hE8.trans E6)).1.1
    have gt0:wu.cell? ⟨w.heap.size,0,none⟩=some (.int .i64 n):=(World.cell?_of_block (hbu w.heap.size (by omega) (by omega))).trans (HS.out w6 (hE8.trans E6)).1
    obtain⟨hbk,hbl⟩:=HBK.out wu (Ext.refl wu)
    have HVB:Hid (∀V,Ext wu V→(V.cell? ⟨w6.heap.size,0,none⟩=some (.int .i64 0)∧V.cell? ⟨w6.heap.size,1,none⟩=some (.int .i64 X.co.now.v)∧V.cell? ⟨w6.heap.size,2,none⟩=some (.slice B.ca.n.fo X.co.now.fs.length B.ca.n.fc)∧V.cell? ⟨w6.heap.size,3,none⟩=some (.slice B.ca.n.qo X.co.now.ps.length B.ca.n.qc)∧V.cell? ⟨w6.heap.size,8,none⟩=some (.slice B.ca.wo 0 B.ca.wc)∧V.cell? ⟨w6.heap.size,9,none⟩=some (.slice B.so n B.sc)∧V.cell? ⟨w6.heap.size,13,none⟩=some (.slice B.lo W.pn.length B.lc))∧w6.heap.size<V.heap.size):=fun V hV=>by
     obtain⟨hb,hl⟩:=HBK.out V hV
     obtain⟨x1,x2,x3⟩:=HXX.out
     have v0:=box_cell hb 0
     have v1:=box_cell hb 1
     have v2:=box_cell hb 2
     have v3:=box_cell hb 3
     have v8:=box_cell hb 8
     have v9:=box_cell hb 9
     have v13:=box_cell hb 13
     simp only[List.getElem?_toArray,List.getElem?_cons_zero,List.getElem?_cons_succ] at v0 v1 v2 v3 v8 v9 v13
     rw[x1] at v0
     rw[x2] at v8
     rw[x3] at v13
     rw[HI2.out.lsw] at v9
     exact⟨⟨v0,v1,v2,v3,v8,v9,v13⟩,hl⟩
    obtain⟨⟨v0,v1,v2,v3,v8,v9,v13⟩,_⟩:=HVB.out wu (Ext.refl wu)
    have hl4u:w4.heap.size<wu.heap.size:=by omega
    have hl41u:w4.heap.size+1<wu.heap.size:=by omega
    have hlwu:w.heap.size<wu.heap.size:=by omega
    have HRE:=hidp (HI2.out.rest HXX.out.1 HXX.out.2.1)
    have hok:PlOk X.co.now:=(HI2.out.small (by omega)).n
    have HPN:=hidp (HWO.out wu (Ext.refl wu)).co.hn
    have htt:tot X.co.now.ps X.co.now.ps.length*24≤140737488351232:=by rw[tot_sum];have:=hok.tt;omega
    have hql:X.co.now.ps.length≤16777216:=hok.ql
    have hfl:X.co.now.fs.length≤16777216:=hok.fl
    have hn8:n≤8:=HI2.out.n8.2
    have hpn:W.pn.length≤200:=by have:=HI2.out.pl;rw[HXX.out.2.2] at this;omega
    have HRW:=hidp (rls_len hok)
    have HOF:=hidp (Of_any X.co.now.v B.ca.n.fo B.ca.n.qo X.co.now.fs.length B.ca.n.fc X.co.now.ps.length B.ca.n.qc n X.co.now.ps wu rfl (pths_ps HPN.out.hq) (by omega) htt (by omega))
    have HEU:=hidp (HE4.out.trans HE4u.out)
    have HNV:Hid (X.co.now.v=(W.pn.length:Int)):=by show _=_;rw[HRE.out.2.2.1,HXX.out.2.2]
    clear hb6 hbk hwu hzu hE6 hbu q0 q1 q2 q3 HB E6 hE8 H8 htt hok
    go_wp2_with fail
    refine Calls.mono HOF.out ?_
    rintro e w3 ⟨vs,rfl,hTB,E3⟩
    have HTB:=hidp hTB
    have HEV:=hidp (HEU.out.trans E3)
    have HE3:=hidp E3
    obtain⟨⟨_,_,u2,_,_,u9,u13⟩,ul⟩:=HVB.out w3 E3
    clear hTB g0 g13 gt0 v0 v1 v2 v3 v8 v9 v13 HOF hl4u hl41u hlwu E3
    go_wp2
    go_loopw [86] (fun iv wd=>∃s:Nat,s≤n∧iv=.int .i64 s∧Ext w3 wd) (fun iv _=>n - (intOf iv).toNat)
    case atStart=>exact⟨0,Nat.zero_le _,rfl,Ext.refl _⟩
    case round=>
     obtain⟨s,hs,rfl,hEs⟩:=hrel
     clear u2 u9 ul
     by_cases hst:s<n
     ·have i1:(s:Int)<(n:Int):=by omega
      obtain⟨sg,soff,ro,rc,so,sc,hso,hsg,c0,c1,hSw⟩:=(HWO.out wr (HE3.out.trans hEs)).sw_get (s:=s) (by rw[HI2.out.lsw];exact hst)
      rw[HRE.out.2.2.2 s hst] at c0 c1 hSw
      simp only at c0 c1
      obtain⟨⟨_,u1,u2,_,_,u9,_⟩,ul⟩:=HVB.out wr (HE3.out.trans hEs)
      rw[hso] at u9
      have tb:=HTB.out.ext hEs
      obtain⟨o1,p1,e1,hRA,_⟩:=RO.form (tb.own s hst)
      have d0:=tb.row.cell (i:=s) hst
      have hdl:=tb.row.lt
      rw[e1] at d0
      have hrl:(rls X.co.now s).length≤16777216:=HRW.out s
      obtain⟨R,hR⟩:∃R,R=rls X.co.now s:=⟨_,rfl⟩
      have hR2:R=rof X.co.now.v s X.co.now.ps X.co.now.ps.length:=hR
      rw[←hR2] at d0 hRA
      rw[←hR] at c0 hrl hSw
      have HSR:Hid (∀V,Ext wr V→Calls Try.prog 26 #[.slice ro R.length rc,.slice o1 R.length p1] V fun e w'=>e=.returned (.bool true)∧Ext V w'):=fun V hV=>SameRules_same ro o1 R.length rc p1 R V rfl (hSw.hr.hat.ext hV) (hRA.ext hV) (by omega)
      have HSW:=hidp hSw
      have HSS:Hid (∀V,Ext wr V→V.cell? ⟨w6.heap.size,9,none⟩=some (.slice (some ⟨sg,soff,none⟩) n B.sc)∧V.cell? ⟨sg,soff+s*2,none⟩=some (.slice ro R.length rc)∧V.cell? ⟨wu.heap.size+1,s,none⟩=some (.slice o1 R.length p1)):=fun V hV=>⟨(hV.cells.1 _ _ ul).trans u9,(hV.cells.1 _ _ hsg).trans c0,(hV.cells.1 _ _ hdl).trans d0⟩
      have HC1:Hid (∀V,Ext wr V→(V.cell? ⟨w6.heap.size,1,none⟩=some (.int .i64 X.co.now.v)∧V.cell? ⟨w6.heap.size,2,none⟩=some (.slice B.ca.n.fo X.co.now.fs.length B.ca.n.fc)∧V.cell? ⟨w6.heap.size,9,none⟩=some (.slice (some ⟨sg,soff,none⟩) n B.sc)∧w6.heap.size<V.heap.size)∧V.cell? ⟨sg,soff+s*2,none⟩=some (.slice ro R.length rc)∧V.cell? ⟨sg,soff+s*2+1,none⟩=some (.slice so (stOf X.co.now s).length sc)∧sg<V.heap.size):=fun V hV=>⟨⟨(hV.cells.1 _ _ ul).trans u1,(hV.cells.1 _ _ ul).trans u2,(hV.cells.1 _ _ ul).trans u9,by have:=hV.size;omega⟩,(hV.cells.1 _ _ hsg).trans c0,(hV.cells.1 _ _ hsg).trans c1,by have:=hV.size;omega⟩
      clear tb e1 hRA hSw hR hR2 hso c0 c1 d0 u1 u2 u9
      go_upto_region 19 with fail
      have hd:Ext wr wr.drew:=(Ext.refl wr).drew
      go_region_held3 (fun V=>V.cell? ⟨w6.heap.size,9,none⟩=some (.slice (some ⟨sg,soff,none⟩) n B.sc)∧V.cell? ⟨sg,soff+s*2,none⟩=some (.slice ro R.length rc)∧V.cell? ⟨wu.heap.size+1,s,none⟩=some (.slice o1 R.length p1))
       (first | (with_reducible exact HSS.out _ hd) | (with_reducible exact HSS.out _ mk1) | fail)
       (first
       | (go_at_call 26
          with_reducible refine(HSR.out _ hd).mono ?_
          rintro e w2 ⟨rfl,E2⟩
          have mk1:=hd.trans E2))
      have hE2:=mk1
      obtain⟨⟨_,u2,_,ul2⟩,_⟩:=HC1.out w2 hE2
      clear mk1 E2 hd HSR HSS
      have HSW2:Hid (∀V,Ext wr V→Ag.SwAt V ⟨R,stOf X.co.now s⟩ ro so rc):=fun V hV=>HSW.out.ext hV
      have HFL:Hid (∀V,Ext wr V→Fw.FlowsAt V B.ca.n.fo X.co.now.fs):=fun V hV=>(HWO.out V (HE3.out.trans (hEs.trans hV))).co.hn.hf
      have hE32:Ext w3 w2:=hEs.trans hE2
      have HEE:=hidp (And.intro hE2 hE32)
      clear HSW hE32 hE2
      go_wp2
      go_loopw [106] (fun iv wd=>∃i:Nat,i≤X.co.now.fs.length∧iv=.int .i64 i∧Ext w2 wd) (fun iv _=>X.co.now.fs.length - (intOf iv).toNat)
      case atStart=>exact⟨0,Nat.zero_le _,rfl,Ext.refl _⟩
      case round=>
       obtain⟨i,hi,rfl,hEi⟩:=hrel
       clear u2 ul2
       by_cases hil:i<X.co.now.fs.length
       ·have i2:(i:Int)<(X.co.now.fs.length:Int):=by omega
        obtain⟨fb,foff,vo,vc,no,nc,fa,ft,fX,fY,hfo,hfb,hfe,k0,k1,k2,k3,_,_⟩:=(HFL.out wr (HEE.out.1.trans hEi)).get hil
        obtain⟨⟨u1,_,u9,ul2⟩,y0,y1,yl⟩:=HC1.out wr (HEE.out.1.trans hEi)
        have HVA:=hidp (ver_at (p:=X.co.now) (s:=s) hil)
        rw[hfe] at HVA
        simp only at HVA
        have HSD:Hid (∀V,Ext wr V→Calls Try.prog 27 #[.agg #[.slice ro R.length rc,.slice so (stOf X.co.now s).length sc],.int .i64 i] V fun e w'=>e=.returned (.int .i64 (Agt.ver (stOf X.co.now s) i))∧Ext V w'):=fun V hV=>Ag.refStamped_any ⟨R,stOf X.co.now s⟩ ro so rc sc i V (HSW2.out V (HEE.out.1.trans (hEi.trans hV)))
        rw[hfo]
        clear hfo hfe
        by_cases hfs:fa=(s:Int)
        ·rw[if_pos hfs] at HVA
         rw[HVA.out] at HSD
         have b1:(fa == (s:Int))=true:=by simpa using hfs
         clear hfs
         go_wp2_with fail
         refine Calls.mono (HSD.out _ ((Ext.refl wr).alloc _)) ?_
         rintro e w9 ⟨rfl,E9⟩
         have hE9:=hEi.trans (((Ext.refl wr).alloc _).trans E9)
         clear E9 HSD
         go_wp2
         refine⟨⟨i+1,by omega,by go_num,hE9⟩,by simp[intOf];omega⟩
        ·rw[if_neg hfs] at HVA
         rw[HVA.out] at HSD
         have b1:(fa == (s:Int))=false:=by simpa using hfs
         clear hfs
         go_wp2_with fail
         refine Calls.mono (HSD.out _ ((Ext.refl wr).alloc _)) ?_
         rintro e w9 ⟨rfl,E9⟩
         have hE9:=hEi.trans (((Ext.refl wr).alloc _).trans E9)
         clear E9 HSD
         go_wp2
         refine⟨⟨i+1,by omega,by go_num,hE9⟩,by simp[intOf];omega⟩
       ·have i2:¬(i:Int)<(X.co.now.fs.length:Int):=by omega
        go_wp2
        refine⟨⟨s+1,by omega,by go_num,HEE.out.2.trans hEi⟩,by simp[intOf];omega⟩
     ·have i1:¬(s:Int)<(n:Int):=by omega
      obtain⟨⟨_,u1,_,_,_,_,u13'⟩,ul⟩:=HVB.out wr (HE3.out.trans hEs)
      rw[HNV.out] at u1
      by_cases h0:W.pn.length=0
      ·rw[h0] at u1 u13'
       go_wp2
       go_ret
       exact⟨rfl,HEV.out.trans hEs⟩
      ·have b2:((W.pn.length:Int) == 0)=false:=by simp;exact fun e=>h0 (by rw[e];rfl)
       go_wp2
       go_ret
       exact⟨rfl,HEV.out.trans hEs⟩
  ·have b0:(f0 != 0)=true:=by simpa using hf
   go_wp2
   go_ret
   exact⟨rfl,HE5.out⟩
end Go.Proofs.Ytolclgbpjiokfaa.Rm
namespace Go.Proofs.Ytolclgbpjiokfaa
open Go.ChangeShapes Go.WideShapes Go.ChangeAt Go.RowKit Go.Deep Go.Joins Stw
set_option maxRecDepth 100000 in
theorem roomSettles_lifted (os:Os) (started:os.Started) (H:Type) (enc:TypeId×Value→H):
 ReturnsInHanded {} Try.checked os 6 .any (Rows.roomSettlesSpec.pre6 enc Try.prog Try.f6 Rows.roomSettlesRow.domain false) (Rows.roomSettlesSpec.post enc Try.prog Try.f6 false true false false):=by
 refine returnsInHanded_of_change_sized (C:=Try.checked) Try.own started (by kernel_rfl) Try.func6
  (ChangeSpec.witness6 (enc:=enc) (C:=Try.checked) false ⟨#[],#[.agg #[.int .i64 0,.slice none 0 0],.slice none 0 0],[]⟩ 8 (by kernel_rfl) (by kernel_rfl) (by kernel_rfl) (by kernel_rfl)) ?_
 intro W base args ds gs before hval0 hW hcnd hsz0 _
 have hval:∀(j:Nat) t v,Try.f6.params[j]? =some t→args[j]? =some v→Value.okWide Try.prog W .any base t v:=hval0
 have hsz:(DataW.weightsEach Try.prog (Try.f6.params.toList++Rows.roomSettlesSpec.plain.varTypes Try.prog) (ds++gs)).all (· ≤reachBytes)=true:=hsz0
 have hW':=hW
 obtain⟨p,q,hA0,hV,rfl,hfz,hnd⟩:=hW
 have hA:DataW.TrodAll enc Try.prog W 0 (fun _=>true) true Try.f6.params.toList args.toList ds p:=hA0
 rw[Try.params6] at hA hval hsz
 obtain⟨v0,vs0,d0,dt0,p0,q0,hargs,rfl,rfl,h0,r0⟩:=trodAll_cons hA
 obtain⟨v1,vs1,d1,dt1,p1,q1,rfl,rfl,rfl,h1,r1⟩:=trodAll_cons r0
 obtain⟨rfl,rfl,rfl⟩:=trodAll_nil r1
 obtain rfl:args=#[v0,v1]:=by cases args;simp_all
 obtain⟨rfl,rfl⟩:=trodVars_none hV
 have k0:=h0
 have lt0:∀x∈p0,x.block<W.heap.size:=by obtain⟨m,hm⟩:=k0;exact DataW.trod_lt m _ _ _ hm
 have k1:=h1
 have lt1:∀x∈p1,x.block<W.heap.size:=by obtain⟨m,hm⟩:=k1;exact DataW.trod_lt m _ _ _ hm
 obtain⟨n0,ao0,len0,cap0,ls0,rfl,hn0,hlen0,hnet0,hlw0,hreach0,hcap0,hcm0⟩:=open_topo (hval 0 24 v0 rfl rfl) h0 (weights_arg hsz (j:=0) rfl rfl)
 obtain⟨po1,pl1,pc1,rfl⟩:=okWide_slice Try.underlying25 (hval 1 25 v1 rfl rfl)
 obtain⟨fuel1,hf1⟩:=h1
 obtain⟨po1',pl1',pc1',ds1,ecs1,hdl1,hda1,hdx1,hds1,hdc1,hdm1⟩:=open_dos hf1 (weights_arg hsz (j:=1) rfl rfl)
 have hdn1:po1=none→pl1=0∧pc1=0:=fun e=>dos_nil hf1 (by subst e;rfl)
 simp[Value.cells] at ecs1
 obtain⟨rfl,rfl,rfl⟩:=ecs1
 subst hdl1
 clear hA0 hval0 hsz0
 refine(Rm.roomSettles_any n0 ao0 len0 cap0 ls0 po1 pc1 ds1 W hlen0 hnet0 (by omega) hda1 hds1 hdx1 hdn1).mono fun e W' ⟨he,bel0⟩=>?_
 subst he
 have bel:Below W.heap.size W W':=bel0
 exact⟨_,rfl,_,_,_,[],_,[],hW',trodAll_mk1 (shut_bool Try.underlying4 _),(trodAll_cons_mk (Below.trod Try.laidOut (by kernel_rfl) (of_decide_eq_true (by kernel_rfl)) k0 bel lt0) (trodAll_cons_mk (Below.trod Try.laidOut (by kernel_rfl) (of_decide_eq_true (by kernel_rfl)) k1 bel lt1) trodAll_mk0)),rfl,bel.frame _,fun h=>by cases h⟩
theorem roomSettles_holds:Rows.RoomSettlesSaid:=
 OpenClaim.holds_of_wide 6 Try.f6 rfl rfl rfl rfl rfl rfl rfl ⟨rfl,rfl,rfl,rfl,rfl⟩ rfl rfl rfl rfl rfl (by kernel_rfl) Try.func6 (by kernel_rfl)
  (of_decide_eq_true (by kernel_rfl)) (by unfold Func.isWrapper;first | (rw[if_pos (by decide+kernel)];kernel_rfl) | (rw[if_neg (by decide+kernel)];exact⟨rfl,rfl⟩))
  (fun os started H enc _=>roomSettles_lifted os started H enc)
#print axioms roomSettles_holds
end Go.Proofs.Ytolclgbpjiokfaa
