import Derived.Test.YthkpbefnkmmaiaaGreate23
set_option maxRecDepth 100000
set_option maxHeartbeats 4000000
namespace Go.Proofs.YthkpbefnkmmaiaaGreat
open Go.Proofs.Tryz
namespace Rm
open Go.RowKit Go.Deep Stw Stp Tb Rul Ct
variable {s:Nat} {r:List Int}
theorem z0j{n:Nat}{ls:List Lk}{t:Nat}{W:Wd}{k:Int}(h:Inv n ls t W)(ht:t<=1000)(hs:s<n)(hb:W.bk.getD s []=k::r):(∀x∈(Qw W.co n ls k).1.out,x.1<n)/\(Qw W.co n ls k).1.out.length<=1000:=by
 obtain⟨_,_,hk,_,_⟩:=q5x h hs hb
 have hnum:=h.num
 have h1:=back_told (c:=W.co) h.wr h.n8.2 hk (fun e=>(h.ok.Qd (by omega)).1) h.dyn.n0 (by omega)
 have h2:=back_few (c:=W.co) h.wr h.n8.2 hk
 exact⟨fun x hx=>(h1.ok x hx).1,by omega⟩
variable {ls:List Lk} {W:Wd}
theorem hapK_out{n:Nat}{i:Int}(h:¬(0<=i/\i<(n:Int))):hapK n ls W i=(W,6):=by unfold hapK;rw[if_pos h]
theorem hapK_nil{n:Nat}(h:W.bk.getD s []=[]):hapK n ls W s=(W,6):=by
 unfold hapK
 split
 ·rfl
 ·simp only[Int.toNat_natCast,h]
variable {k:Int}
theorem hapK_no{n:Nat}(hs:s<n)(hb:W.bk.getD s []=k::r)(h:(Qw W.co n ls k).2≠0):hapK n ls W s=(W,(Qw W.co n ls k).2):=by
 unfold hapK
 rw[if_neg (by omega)]
 simp only[Int.toNat_natCast,hb]
 rw[if_pos h]
theorem hapK_yes{n:Nat}(hs:s<n)(hb:W.bk.getD s []=k::r)(h:(Qw W.co n ls k).2=0):hapK n ls W s=(⟨(Qw W.co n ls k).1.c,W.sw,Zh W.od (Qw W.co n ls k).1.out,W.bk.set s r,W.pk,W.pn⟩,0):=by
 unfold hapK
 rw[if_neg (by omega)]
 simp only[Int.toNat_natCast,hb]
 rw[if_neg (by simpa using h)]
theorem back_out(tl:List Value)(n:Nat)(ls:List Lk)(w0:World)(P:Nat)(tg:Nat->Nat)(w:World)(W:Wd)(a:CA)(sb ob bb:Nat)(kv lv:Value)(i:Int)(h:Q0 56 tl w0 P n tg w W a sb ob bb kv lv)(hi:¬(0<=i/\i<(n:Int))):
 Calls prog 24 #[.pointer (some ⟨P,0,none⟩),.int .i64 i] w fun e w'=>MOut tl w0 P n tg w sb ob bb (hapK n ls W i) e w':=by
 have HW:=Qa h
 have HD:=Qa (hapK_out (ls:=ls) (W:=W) hi)
 have c11:w.cell? ⟨P,11,none⟩=some (.slice (some ⟨bb,0,none⟩) n n):=h.row.cell (i:=11) (by omega)
 clear h
 go_enter func24,ntmps24
 go_wp2_with fail
 refine(isAnyB_out bb n i w hi).mono ?_
 rintro e w1 ⟨rfl,rfl⟩
 clear hi
 go_wp2
 go_ret
 rw[HD.out]
 exact⟨rfl,tg,a,kv,lv,HW.out,Qf.refl _ _ _⟩
theorem back_nil(tl:List Value)(n:Nat)(ls:List Lk)(w0:World)(P:Nat)(tg:Nat->Nat)(w:World)(W:Wd)(a:CA)(sb ob bb:Nat)(kv lv:Value)(s:Nat)(h:Q0 56 tl w0 P n tg w W a sb ob bb kv lv)(hs:s<n)(hb:W.bk.getD s []=[]):
 Calls prog 24 #[.pointer (some ⟨P,0,none⟩),.int .i64 s] w fun e w'=>MOut tl w0 P n tg w sb ob bb (hapK n ls W s) e w':=by
 have HW:=Qa h
 have HD:=Qa (hapK_nil (n:=n) (ls:=ls) hb)
 have c11:w.cell? ⟨P,11,none⟩=some (.slice (some ⟨bb,0,none⟩) n n):=h.row.cell (i:=11) (by omega)
 obtain⟨v,cv,_,_,hv⟩:=h.bks.get hs
 obtain⟨ao,cap,rfl,_⟩:=hv.list
 rw[hb] at cv
 clear h hv
 go_enter func24,ntmps24
 go_wp2_with fail
 refine(z4s bb n s _ cap ao w hs cv).mono ?_
 rintro e w1 ⟨rfl,rfl⟩
 clear cv
 go_wp2
 go_ret
 rw[HD.out]
 exact⟨rfl,tg,a,kv,lv,HW.out,Qf.refl _ _ _⟩
theorem back_some(n len cap s:Nat)(k:Int)(r:List Int)(ls:List Lk)(ao:Option Addr)(t:Nat)(w0:World)(P:Nat)(tg:Nat->Nat)(w:World)(W:Wd)(a:CA)(sb ob bb:Nat)(kv lv:Value)(h:Q0 56 [.int .i64 n,.slice ao len cap] w0 P n tg w W a sb ob bb kv lv)(hI:Inv n ls t W)(ht:t<=900)(hlen:ls.length=len)(hnet:Zg w0 ao ls)(hx:len<=9223372036854775807)(hs:s<n)(hb:W.bk.getD s []=k::r):
 Calls prog 24 #[.pointer (some ⟨P,0,none⟩),.int .i64 s] w fun e w'=>MOut [.int .i64 n,.slice ao len cap] w0 P n tg w sb ob bb (hapK n ls W s) e w':=by
 have HW:=Qa h
 have HI:=Qa hI
 have hP:=h.row.lt
 obtain⟨v,cv,fv,hbl,hv⟩:=h.bks.get hs
 rw[hb] at hv
 obtain⟨g,off,rc,rfl,hgl,hrc,hcells⟩:=hv.last (by simp)
 have cg:=hcells 0 (by simp)
 simp only[Nat.add_zero,List.getD_cons_zero,List.length_cons] at cg cv hrc
 have HV:=Qa hv
 have HFV:=Qa fv
 have hln:r.length=0:=by rw[(q5x HI.out hs hb).1];rfl
 have j1:(0:Int)<=(s:Int):=by omega
 have j2:(s:Int)<(n:Int):=by omega
 have c11:w.cell? ⟨P,11,none⟩=some (.slice (some ⟨bb,0,none⟩) n n):=h.row.cell (i:=11) (by simp)
 have HS:Hid (∀V,Ext w V->cl V P 0 (.int .i64 W.co.st)/\cl V P 1 (.int .i64 W.co.now.v)/\cl V P 2 (.slice a.n.fo W.co.now.fs.length a.n.fc)/\cl V P 3 (.slice a.n.qo W.co.now.ps.length a.n.qc)/\cl V P 4 (.int .i64 W.co.Qd.v)/\cl V P 5 (.slice a.x.fo W.co.Qd.fs.length a.x.fc)/\cl V P 6 (.slice a.x.qo W.co.Qd.ps.length a.x.qc)/\cl V P 7 (.int .i64 W.co.num)/\cl V P 8 (.slice a.wo W.co.Qg.length a.wc)/\cl V P 14 (.int .i64 n)/\cl V P 15 (.slice ao len cap)/\cl V P 11 (.slice (some ⟨bb,0,none⟩) n n)/\cl V bb s (.slice (some ⟨g,off,none⟩) (r.length+1) rc)/\cl V g off (.int .i64 k)):=fun V hV=>by
  have hr:=HW.out.row.of_block (Below.block hV P hP)
  exact⟨hr.cell (i:=0) (by simp),hr.cell (i:=1) (by simp),hr.cell (i:=2) (by simp),hr.cell (i:=3) (by simp),hr.cell (i:=4) (by simp),hr.cell (i:=5) (by simp),hr.cell (i:=6) (by simp),hr.cell (i:=7) (by simp),hr.cell (i:=8) (by simp),hr.cell (i:=14) (by simp),hr.cell (i:=15) (by simp),hr.cell (i:=11) (by simp),(hV.cells.1 _ _ hbl).trans cv,(hV.cells.1 _ _ hgl).trans cg⟩
 have HCA:Hid (∀V,Ext w V->Calls prog 46 #[cvl W.co a,.agg #[.int .i64 n,.slice ao len cap],.int .i64 k] V fun e w'=>q8y V.heap.size V (Qw W.co n ls k).1 (Qw W.co n ls k).2 e w'):=fun V hV=>Back_any W.co a n k ao len cap ls V ((HW.out.Qm hV).co.at) (HI.out.small (by omega)) hlen (hnet.ext (HW.out.ext.trans hV)) hx
 clear h hI hlen hnet hx hv hcells fv
 unfold cvl at HCA
 go_enter func24,ntmps24
 go_wp2_with fail
 refine(z4s bb n s _ rc _ w hs cv).mono ?_
 rintro e w1 ⟨rfl,hw1⟩
 have hw1:=hw1.symm
 subst hw1
 have b1:decide (0<r.length+1)=true:=by simp
 go_wp2_with fail
 have hd:Ext w w.drew:=(Ext.refl w).drew
 have hda:Ext w (w.alloc (.cells #[.int .i64 0,.int .i64 0,.slice none 0 0,.slice none 0 0,.int .i64 0,.slice none 0 0,.slice none 0 0,.int .i64 0,.slice none 0 0] 32)).drew:=((Ext.refl w).alloc _).drew
 go_region_held3 (fun V=>cl V P 0 (.int .i64 W.co.st)/\cl V P 1 (.int .i64 W.co.now.v)/\cl V P 2 (.slice a.n.fo W.co.now.fs.length a.n.fc)/\cl V P 3 (.slice a.n.qo W.co.now.ps.length a.n.qc)/\cl V P 4 (.int .i64 W.co.Qd.v)/\cl V P 5 (.slice a.x.fo W.co.Qd.fs.length a.x.fc)/\cl V P 6 (.slice a.x.qo W.co.Qd.ps.length a.x.qc)/\cl V P 7 (.int .i64 W.co.num)/\cl V P 8 (.slice a.wo W.co.Qg.length a.wc)/\cl V P 14 (.int .i64 n)/\cl V P 15 (.slice ao len cap)/\cl V P 11 (.slice (some ⟨bb,0,none⟩) n n)/\cl V bb s (.slice (some ⟨g,off,none⟩) (r.length+1) rc)/\cl V g off (.int .i64 k))
  (first | (with_reducible exact HS.out _ hd) | (with_reducible exact HS.out _ hda) | (with_reducible exact HS.out _ mk1) | (with_reducible exact HS.out _ mk2) | (with_reducible exact HS.out _ (mk1.alloc _)) | (with_reducible exact HS.out _ mk3) | fail)
  (first
  | (go_at_call 46
     with_reducible refine(HCA.out _ hd).mono ?_
     intro e w3 hG
     obtain⟨k0,k1,o2,l2,q2,o3,l3,q3,k4,o5,l5,q5,o6,l6,q6,k7,o8,l8,q8,tO,l9,tc,rfl,E9,HF⟩:=hG.q1e
     have mk1:=hd.trans E9)
  | (go_at_call 46
     with_reducible refine(HCA.out _ hda).mono ?_
     intro e w3 hG
     obtain⟨k0,k1,o2,l2,q2,o3,l3,q3,k4,o5,l5,q5,o6,l6,q6,k7,o8,l8,q8,tO,l9,tc,rfl,E9,HF⟩:=hG.q1e
     have mk2:=hda.trans E9
     have mk3:=q0g mk2 (Ql w.heap.size) (x0:=.int .i64 k0) (x1:=.int .i64 k1) (x2:=.slice o2 l2 q2) (x3:=.slice o3 l3 q3) (x4:=.int .i64 k4) (x5:=.slice o5 l5 q5) (x6:=.slice o6 l6 q6) (x7:=.int .i64 k7) (x8:=.slice o8 l8 q8)
     unfold W9 at mk3
     have HB:w3.rowIs w.heap.size 32 9 _:=(q0k (T:=32) (show w.heap.size=w.heap.size from rfl) _ _ _ _ _ _ _ _ _).of_block (Below.block E9 _ (by simp))
     obtain⟨u0,u1,u2,u3,u4,u5,u6,u7,u8⟩:=q2p HB
     have uz:=HB.frozen
     have HHB:=Qa HB
     clear HB))
 focus
  have _t:=mk1
  obtain⟨w4,hw4⟩:=Qy (w3.alloc (.cells #[.int .i64 k0,.int .i64 k1,.slice o2 l2 q2,.slice o3 l3 q3,.int .i64 k4,.slice o5 l5 q5,.slice o6 l6 q6,.int .i64 k7,.slice o8 l8 q8] 32))
  have R4:w4.rowIs w3.heap.size 32 9 (fun j=>[.int .i64 k0,.int .i64 k1,.slice o2 l2 q2,.slice o3 l3 q3,.int .i64 k4,.slice o5 l5 q5,.slice o6 l6 q6,.int .i64 k7,.slice o8 l8 q8].getD j vd):=by rw[hw4];exact q0k rfl _ _ _ _ _ _ _ _ _
  have E4:Ext w w4:=by rw[hw4];exact mk1.alloc _
  have HST:Hid (∃a',Value.agg #[.int .i64 k0,.int .i64 k1,.slice o2 l2 q2,.slice o3 l3 q3,.int .i64 k4,.slice o5 l5 q5,.slice o6 l6 q6,.int .i64 k7,.slice o8 l8 q8]=cvl (Qw W.co n ls k).1.c a'/\l9=(Qw W.co n ls k).1.out.length/\Stb (fun b=>tg b=0) w4 (fun U=>Zr U (Qw W.co n ls k).1.c a'/\Zw U tO (Qw W.co n ls k).1.out)):=by
   obtain⟨a',ea,el,hU⟩:=HF.out
   exact⟨a',ea,el,(HW.out.fresh hU).ext (by rw[hw4];exact(Ext.refl w3).alloc _)⟩
  have hXw:=mk1.size
  rw[<-hw4]
  clear hw4 E9 hG HF _t
  generalize w3.heap.size=X at R4 hXw ⊢
  clear mk1
 rotate_left
 focus
  have _t:=mk2
  obtain⟨w4,hw4⟩:=Qy (W9 w3 w.heap.size (.int .i64 k0) (.int .i64 k1) (.slice o2 l2 q2) (.slice o3 l3 q3) (.int .i64 k4) (.slice o5 l5 q5) (.slice o6 l6 q6) (.int .i64 k7) (.slice o8 l8 q8))
  have R4:w4.rowIs w.heap.size 32 9 (fun j=>[.int .i64 k0,.int .i64 k1,.slice o2 l2 q2,.slice o3 l3 q3,.int .i64 k4,.slice o5 l5 q5,.slice o6 l6 q6,.int .i64 k7,.slice o8 l8 q8].getD j vd):=by rw[hw4];exact q9p HHB.out
  have E4:Ext w w4:=by rw[hw4];exact q0g mk2 (Ql _)
  have HST:Hid (∃a',Value.agg #[.int .i64 k0,.int .i64 k1,.slice o2 l2 q2,.slice o3 l3 q3,.int .i64 k4,.slice o5 l5 q5,.slice o6 l6 q6,.int .i64 k7,.slice o8 l8 q8]=cvl (Qw W.co n ls k).1.c a'/\l9=(Qw W.co n ls k).1.out.length/\Stb (fun b=>tg b=0) w4 (fun U=>Zr U (Qw W.co n ls k).1.c a'/\Zw U tO (Qw W.co n ls k).1.out)):=by
   obtain⟨a',ea,el,hU⟩:=HF.out
   refine⟨a',ea,el,?_⟩
   rw[hw4]
   exact HW.out.fresh1 (fun U h1 h2=>hU U h1 (fun b hb h3=>h2 b (by simpa using hb) h3)) q1n q0z
  unfold W9 at hw4
  rw[<-hw4]
  obtain⟨X,hX⟩:=Qy (w.heap.size)
  rw[<-hX] at R4 ⊢
  have hXw:w.heap.size<=X:=by omega
  clear hX hda
  clear hw4 mk2 mk3 E9 hG HF _t u0 u1 u2 u3 u4 u5 u6 u7 u8 uz HHB
 rotate_left
 all_goals(
  obtain⟨x0,x1,x2,x3,x4,x5,x6,x7,x8⟩:=q2p R4
  simp only[List.getD_cons_zero,List.getD_cons_succ] at x0 x1 x2 x3 x4 x5 x6 x7 x8
  have hXl:=R4.lt
  clear R4
  by_cases h0:(Qw W.co n ls k).2=0
  ·have HD:=Qa (hapK_yes hs hb h0)
   have HDW:=Qa (z0j HI.out (by omega) hs hb)
   rw[h0]
   clear h0
   go_wp2_with fail
   have m11:w4.cell? ⟨P,11,none⟩=some (.slice (some ⟨bb,0,none⟩) n n):=(E4.cells.1 _ _ hP).trans c11
   have mbb:w4.cell? ⟨bb,s,none⟩=some (.slice (some ⟨g,off,none⟩) (r.length+1) rc):=(E4.cells.1 _ _ hbl).trans cv
   have fbb:w4.frozen? ⟨bb,s,none⟩=false:=(E4.cells.2 _ _ hbl).trans HFV.out
   obtain⟨ao',hao⟩:=Qy ((if rc=1 then some (⟨g,off,none⟩:Addr) else some ⟨g,off+1,none⟩))
   have HAO:=Qa hao
   clear hao
   have HCUT:=Qa ((HW.out.Qm E4).cutB hs HI.out.lbk (v':=.slice ao' 0 (rc - 1)) (ns':=r) (by rw[HAO.out];exact(HV.out.Qh (Qf.ext (S:=fun _=>True) E4) trivial).tail1 hln))
   refine Last.LH.start (m:=16) (S:=fun V=>cl V P 11 (.slice (some ⟨bb,0,none⟩) n n)/\cl V bb s (.slice (some ⟨g,off,none⟩) (r.length+1) rc)) (by kernel_rfl) ?_
   have Qe:(fun V:World=>cl V P 11 (.slice (some ⟨bb,0,none⟩) n n)/\cl V bb s (.slice (some ⟨g,off,none⟩) (r.length+1) rc)) w4.drew:=⟨m11,mbb⟩
   refine ltk 0 Qe ?_
   refine ltk 1 Qe ?_
   refine ltk 2 Qe ?_
   refine ltk 3 Qe ?_
   refine ltk 4 Qe ?_
   refine ltk 5 Qe ?_
   refine ltk 6 Qe ?_
   refine ltk 7 Qe ?_
   refine ltk 8 Qe ?_
   refine ltk 9 Qe ?_
   refine ltk 10 Qe ?_
   refine ltk 11 Qe ?_
   refine ltk 12 Qe ?_
   refine ltk 13 Qe ?_
   refine ltk (v:=.slice ao' 0 (rc - 1)) 14 Qe ?_ (hy:=by intro W hSW;(try dsimp only at hSW);go_simp;rw[HAO.out])
   refine ltk 15 Qe ?_
   refine lon 16 (fun K hK=>?_)
   go_simp
   refine hK _ _ (fun h=>absurd rfl h) ?_
   clear hK K Qe
   refine ldn ?_
   have hbb1:bb<w4.heap.size:=Q5 hbl E4.size
   obtain⟨w5,hw5⟩:=Qy ((w4.setCell ⟨bb,s,none⟩ (.slice ao' 0 (rc - 1))).drew)
   have HW5:Hid (Q0 56 [.int .i64 n,.slice ao len cap] w0 P n tg w5 ⟨W.co,W.sw,W.od,W.bk.set s r,W.pk,W.pn⟩ a sb ob bb kv lv/\Zv tg tg w4 w5):=by
    rw[hw5]
    exact⟨HCUT.out.1.Qm (Ext.refl _).drew,HCUT.out.2.trans (Zv.ext (Ext.refl _).drew)⟩
   have hyc:∀j,w5.cell? ⟨X,j,none⟩=w4.cell? ⟨X,j,none⟩:=fun j=>by
    rw[hw5]
    exact cob (w:=w4) (a:=⟨X,j,none⟩) (Zm _ _ _ _ (by simp only;omega))
   have y0:=(hyc 0).trans x0
   have y1:=(hyc 1).trans x1
   have y2:=(hyc 2).trans x2
   have y3:=(hyc 3).trans x3
   have y4:=(hyc 4).trans x4
   have y5:=(hyc 5).trans x5
   have y6:=(hyc 6).trans x6
   have y7:=(hyc 7).trans x7
   have y8:=(hyc 8).trans x8
   have hX5:X<w5.heap.size:=Q5 hXl HW5.out.2.size
   rw[<-hw5]
   clear hw5 hyc x0 x1 x2 x3 x4 x5 x6 x7 x8 m11 mbb fbb HCUT
   go_wp2_with fail
   have HT:Hid (Calls prog 41 #[.pointer (some ⟨P,0,none⟩),.agg #[.int .i64 k0,.int .i64 k1,.slice o2 l2 q2,.slice o3 l3 q3,.int .i64 k4,.slice o5 l5 q5,.slice o6 l6 q6,.int .i64 k7,.slice o8 l8 q8],.slice tO l9 tc] w5 fun e w'=>e=.returned (.tuple #[])/\∃tg' a',Q0 56 [.int .i64 n,.slice ao len cap] w0 P n tg' w' ⟨(Qw W.co n ls k).1.c,W.sw,Zh W.od (Qw W.co n ls k).1.out,W.bk.set s r,W.pk,W.pn⟩ a' sb ob bb kv lv/\Zv tg tg' w5 w'):=by
    obtain⟨a',ea,el,hS⟩:=HST.out
    show Calls _ _ _ _ _
    rw[ea,el]
    exact(z0t _ w0 P n tg w5 ⟨W.co,W.sw,W.od,W.bk.set s r,W.pk,W.pn⟩ a sb ob bb kv lv _ a' _ tO tc HW5.out.1 HI.out.lod (hS.Qh HW5.out.2 (Or.inl rfl)) HDW.out.1 HDW.out.2 (fun j=>ltr (HI.out.rows j).1 (by decide))).mono (fun e w' ⟨h1,tg',h2,h3⟩=>⟨h1,tg',a',h2,h3⟩)
   refine Calls.mono HT.out ?_
   rintro e w6 ⟨rfl,tg5,a5,hW5,hK5⟩
   have HW6:=Qa hW5
   have HK5:=Qa hK5
   clear hW5 hK5 HT y0 y1 y2 y3 y4 y5 y6 y7 y8
   go_wp2
   go_ret
   rw[HD.out]
   exact⟨rfl,tg5,a5,kv,lv,HW6.out,((Zv.ext E4).trans HW5.out.2).trans HK5.out⟩
  ·have HD:=Qa (hapK_no hs hb h0)
   have b0:((Qw W.co n ls k).2 != 0)=true:=by simpa using h0
   clear h0
   go_wp2
   go_ret
   rw[HD.out]
   exact⟨rfl,tg,a,kv,lv,HW.out.Qm E4,Zv.ext E4⟩)
end Rm
namespace Ag
open Go.RowKit Go.Deep Tb Rul
def lsS (st:List (Int×Int)):Nat->Int
 | 0=> -1
 | k+1=>(st.getD k s0).1
def pvS (st:List (Int×Int)):Nat->Option Int
 | 0=>none
 | k+1=>some (st.getD k s0).1
variable {k:Nat}
theorem pvS_pos{st:List (Int×Int)}(h:k≠0):pvS st k=some (lsS st k):=by
 cases k with
 | zero=>exact absurd rfl h
 | succ k=>rfl
variable {p:Option Int}
theorem wst_step{st:List (Int×Int)}(hk:k<st.length):Agt.wst p (st.drop k)=if Agt.badS (st.getD k s0)=true then 3 else if p.any (fun q=>decide ((st.getD k s0).1<=q))=true then 2 else Agt.wst (some (st.getD k s0).1) (st.drop (k+1)):=by
 have e:st.getD k s0=st[k]:=by simp[hk]
 rw[List.drop_eq_getElem_cons hk,Agt.wst,e]
theorem wst_end{st:List (Int×Int)}(hk:st.length<=k):Agt.wst p (st.drop k)=0:=by
 rw[List.drop_eq_nil_of_le hk];cases p <;> rfl
end Ag
namespace Tb
open Go.RowKit Go.Deep Rul
def c3 (x y:Int):Int:=if x<y then -1 else if y<x then 1 else 0
def cf (x y:Ru):Int:=if c3 x.1 y.1=0 then c3 x.2.1 y.2.1 else c3 x.1 y.1
theorem c3_zero{x y:Int}:c3 x y=0↔x=y:=by
 unfold c3
 split
 ·omega
 ·split <;> omega
theorem c3_neg{x y:Int}:c3 x y<0↔x<y:=by
 unfold c3
 split
 ·omega
 ·split <;> omega
variable {x y:Ru}
theorem cf_lt:cf x y<0↔lt x y=true:=by
 rw[q2v];unfold cf
 have h1:=@c3_zero x.1 y.1
 have h2:=@c3_neg x.1 y.1
 have h3:=@c3_neg x.2.1 y.2.1
 split <;> omega
theorem cf_ge:cf x y>=0↔lt x y=false:=by
 have:=cf_lt (x:=x) (y:=y)
 cases h:lt x y with
 | true=>rw[h] at this;simp at this ⊢;exact this
 | false=>rw[h] at this;simp at this ⊢;exact this
theorem z4q(x:Int)(w:World):Calls prog 131 #[.int .i64 x] w fun e w'=>e=.returned (.bool false)/\w'=w:=by
 go_enter func131,ntmps131
 go_wp2
 go_ret
 exact⟨by simp,rfl⟩
theorem z8m(x y:Int)(w:World):Calls prog 127 #[.int .i64 x,.int .i64 y] w fun e w'=>e=.returned (.int .i64 (c3 x y))/\w'=w:=by
 go_enter func127,ntmps127
 go_wp2_with fail
 refine(z4q x _).mono ?_
 rintro e w1 ⟨rfl,rfl⟩
 go_wp2_with fail
 refine(z4q y _).mono ?_
 rintro e w2 ⟨rfl,rfl⟩
 rcases Int.lt_trichotomy x y with h | h | h
 ·go_wp2
  go_ret
  exact⟨by simp[c3,h],rfl⟩
 ·subst h
  go_wp2
  go_ret
  exact⟨by simp[c3],rfl⟩
 ·have h':¬x<y:=by omega
  go_wp2
  go_ret
  exact⟨by simp[c3,h,h'],rfl⟩
end Tb
namespace Tb
open Go.RowKit Go.Deep Rul Go.Sort
theorem Gb.trans{a b c:World}{r:Option Nat}(h:a.grownBy b r)(k:b.grownBy c r):a.grownBy c r:=
 ⟨k.os.trans h.os,k.tape.trans h.tape,k.output.trans h.output,ltr h.size k.size,fun i hi hr=>(k.block i (Q5 hi h.size) hr).trans (h.block i hi hr)⟩
theorem Gb.set{a b:World}{g:Nat}(h:a.grownBy b (some g))(o:Nat)(v:Value):a.grownBy (b.setCell ⟨g,o,none⟩ v) (some g):=
 ⟨h.os,h.tape,h.output,by simpa using h.size,fun i hi hr=>by rw[Zm _ _ _ _ (by intro e;exact hr (by rw[e]))];exact h.block i hi hr⟩
theorem Gb.drew{a b:World}{r:Option Nat}(h:a.grownBy b r):a.grownBy b.drew r:=⟨h.os,h.tape,h.output,h.size,h.block⟩
structure RW (w:World) (b N:Nat) (d:Array Ru):Prop where
 fit:d.size*3<=N
 row:∃F,w.rowIs b 132 N F/\∀j,j<d.size->F (j*3)=.int .i64 (d[j]!).1/\F (j*3+1)=.int .i64 (d[j]!).2.1/\F (j*3+2)=.int .i64 (d[j]!).2.2
section
variable {w:World} {b N:Nat} {d:Array Ru}
theorem RW.lt(h:RW w b N d):b<w.heap.size:=by obtain⟨F,h1,_⟩:=h.row;exact h1.lt
theorem RW.cells(h:RW w b N d){j:Nat}(hj:j<d.size){r:Ru}(e:d[j]! =r):w.cell? ⟨b,j*3,none⟩=some (.int .i64 r.1)/\w.cell? ⟨b,j*3+1,none⟩=some (.int .i64 r.2.1)/\w.cell? ⟨b,j*3+2,none⟩=some (.int .i64 r.2.2):=by
 obtain⟨F,h1,h2⟩:=h.row
 have hf:=h.fit
 obtain⟨e0,e1,e2⟩:=h2 j hj
 rw[h1.cell (by omega),h1.cell (by omega),h1.cell (by omega),e0,e1,e2,e]
 exact⟨rfl,rfl,rfl⟩
theorem RW.frozen(h:RW w b N d)(o:Nat):w.frozen? ⟨b,o,none⟩=false:=by obtain⟨F,h1,_⟩:=h.row;exact h1.frozen o
theorem RW.of_block{w':World}(h:RW w b N d)(e:w'.heap[b]? =w.heap[b]?):RW w' b N d:=by
 obtain⟨F,h1,h2⟩:=h.row
 exact⟨h.fit,F,h1.of_block e,h2⟩
theorem RW.ext{w':World}(h:RW w b N d)(e:Ext w w'):RW w' b N d:=h.of_block (Below.block e _ h.lt)
theorem RW.drew(h:RW w b N d):RW w.drew b N d:=h.of_block rfl
theorem RW.put(h:RW w b N d){i:Nat}(hi:i<d.size)(r:Ru):RW (((w.setCell ⟨b,i*3,none⟩ (.int .i64 r.1)).setCell ⟨b,i*3+1,none⟩ (.int .i64 r.2.1)).setCell ⟨b,i*3+2,none⟩ (.int .i64 r.2.2)) b N (d.setIfInBounds i r):=by
 obtain⟨F,h1,h2⟩:=h.row
 refine⟨by simpa using h.fit,_,((h1.set _ _).set _ _).set _ _,fun j hj=>?_⟩
 have hj':j<d.size:=by simpa using hj
 by_cases e:j=i
 ·subst e
  have:(d.setIfInBounds j r)[j]! =r:=by simp[hj']
  rw[this]
  simp
 ·have:(d.setIfInBounds i r)[j]! =d[j]!:=by
   rw[getElem!_pos _ j hj,getElem!_pos d j hj',Array.getElem_setIfInBounds_ne (hj:=hj') (h:=fun h=>e h.symm)]
  obtain⟨e0,e1,e2⟩:=h2 j hj'
  rw[this, <-e0, <-e1, <-e2]
  refine⟨?_,?_,?_⟩
  ·rw[if_neg (by omega),if_neg (by omega),if_neg (by omega)]
  ·rw[if_neg (by omega),if_neg (by omega),if_neg (by omega)]
  ·rw[if_neg (by omega),if_neg (by omega),if_neg (by omega)]
theorem RW.swap(h:RW w b N d){i j:Nat}(hi:i<d.size)(hj:j<d.size):RW ((((((w.setCell ⟨b,i*3,none⟩ (.int .i64 (d[j]!).1)).setCell ⟨b,i*3+1,none⟩ (.int .i64 (d[j]!).2.1)).setCell ⟨b,i*3+2,none⟩ (.int .i64 (d[j]!).2.2)).setCell ⟨b,j*3,none⟩ (.int .i64 (d[i]!).1)).setCell ⟨b,j*3+1,none⟩ (.int .i64 (d[i]!).2.1)).setCell ⟨b,j*3+2,none⟩ (.int .i64 (d[i]!).2.2)) b N (swp d i j):=
 (h.put hi d[j]!).put (by simpa using hj) d[i]!
theorem Gb.swap{a:World}(h:a.grownBy w (some b))(i j:Nat)(v0 v1 v2 u0 u1 u2:Value):a.grownBy ((((((w.setCell ⟨b,i*3,none⟩ v0).setCell ⟨b,i*3+1,none⟩ v1).setCell ⟨b,i*3+2,none⟩ v2).setCell ⟨b,j*3,none⟩ u0).setCell ⟨b,j*3+1,none⟩ u1).setCell ⟨b,j*3+2,none⟩ u2) (some b):=
 Gb.set (Gb.set (Gb.set (Gb.set (Gb.set (Gb.set h _ _) _ _) _ _) _ _) _ _) _ _
end
theorem q2r(cb:Value)(b N cap a c n:Nat)(d:Array Ru)(w:World)(h:RW w b N d)(hac:a+n<=c)(hcn:c+n<=d.size)(hsz:d.size<=1152921504606846976):
 Calls prog 135 #[.slice (some ⟨b,0,none⟩) d.size cap,.int .i64 a,.int .i64 c,.int .i64 n,cb] w fun e w'=>e=.returned (.tuple #[])/\∃d',Swr a c n d d'/\RW w' b N d'/\w.grownBy w' (some b):=by
 go_enter func135,ntmps135
 go_wp2
 go_loopw [10] (fun iv wr=>∃(i:Nat) (d1:Array Ru),i<=n/\iv=.int .i64 i/\Swr a c i d d1/\RW wr b N d1/\w.grownBy wr (some b)) (fun iv _=>n - (intOf iv).toNat)
 case atStart=>exact⟨0,d,Zu _,rfl,Swr.zero _ _ _,h,Gb.refl _ _⟩
 case round=>
  obtain⟨i,d1,hi,rfl,hs,hr,hg⟩:=hrel
  by_cases hlt:i<n
  ·have i1:(i:Int)<(n:Int):=by omega
   have hsz1:d1.size=d.size:=hs.size
   obtain⟨x,hx⟩:∃x,d1[a+i]! =x:=⟨_,rfl⟩
   obtain⟨y,hy⟩:∃x,d1[c+i]! =x:=⟨_,rfl⟩
   obtain⟨x0,x1,x2⟩:=hr.cells (j:=a+i) (by omega) hx
   obtain⟨y0,y1,y2⟩:=hr.cells (j:=c+i) (by omega) hy
   have fz:=hr.frozen
   have wa:IntKind.i64.wrap ((a:Int)+i)=((a+i:Nat):Int):=by rw[IntKind.wrap_i64];omega
   have wc:IntKind.i64.wrap ((c:Int)+i)=((c+i:Nat):Int):=by rw[IntKind.wrap_i64];omega
   have ba:((a+i:Nat):Int)<(d.size:Int):=by omega
   have bc:((c+i:Nat):Int)<(d.size:Int):=by omega
   have HR:Hid (RW wr b N d1):=hr
   have HG:Hid (w.grownBy wr (some b)):=hg
   clear hr hg h
   go_wp2_with fail
   go_region
   go_wp2
   refine⟨⟨i+1,swp d1 (a+i) (c+i),by omega,by go_num,hs.succ (by omega) (by omega),?_,?_⟩,by simp[intOf];omega⟩
   ·have:=(HR.out.swap (i:=a+i) (j:=c+i) (by omega) (by omega)).drew
    rw[hx,hy] at this
    exact this
   ·exact Gb.drew (Gb.swap HG.out _ _ _ _ _ _ _ _)
  ·have i1:¬(i:Int)<(n:Int):=by omega
   go_wp2
   go_end0
   have:i=n:=by omega
   subst this
   exact⟨rfl,d1,hs,hr,hg⟩
end Tb
end Go.Proofs.YthkpbefnkmmaiaaGreat
