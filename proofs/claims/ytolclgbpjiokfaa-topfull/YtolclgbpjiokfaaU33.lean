/- What order makes of a world. -/
import Derived.Test.YtolclgbpjiokfaaU26
import Derived.Test.YtolclgbpjiokfaaU32
namespace Go.Proofs.Ytolclgbpjiokfaa.Rm
open Go.RowKit Go.Deep Stw Stp Tb Rul Ct
theorem BrwAt.row {tg:Nat→Nat} {t:Nat} {w:World} {ns:List Int} {v:Value} (h:BrwAt tg t w ns v):Rw w 3 1 v ns.length (ns.map (Value.int .i64)):=RwT.rw h
theorem order_is {n:Nat} {ls:List Lk} {t:Nat} {W:Wd} {s:Nat} {o:Wir.Od} {r:List Wir.Od} (h:Inv n ls t W) (ht:t≤1000) (hs:s<n) (ho:W.od.getD s []=o::r):(1≤o.k∧o.k≤3)∧(o.k=1→o.rs≠[]):=by
 obtain⟨_,_,hd,_⟩:=order_done h ht hs ho
 refine⟨?_,fun hk=>?_⟩
 ·obtain⟨_,_,hc⟩:=Agt.do_cases (s:=W.sw.getD s Agt.sw0) (o:=o) (by rw[hd])
  rcases hc with⟨hk,_⟩ | ⟨hk,_⟩ | ⟨hk,_⟩ <;> omega
 ·rcases h.dyn.core.sws s hs with⟨e,_,_⟩ | ⟨o',k,e1,e2,_,_⟩ | ⟨k,e,_,_⟩
  ·rw[ho] at e;cases e
  ·rw[ho] at e2
   injection e2 with e2 _
   subst e2
   unfold ordC at e1
   split at e1
   ·unfold addO at e1
    split at e1
    ·cases e1
    ·rename_i hne;cases e1;exact hne
   ·split at e1
    ·have:=stpO_k e1;simp only[nmb] at hk;omega
    ·split at e1
     ·unfold drpO at e1
      split at e1
      ·cases e1
      ·cases e1;simp[nmb] at hk
     ·cases e1
  ·rw[ho] at e;cases e
theorem hapO_out {n:Nat} {W:Wd} {i:Int} (h:¬(0≤i∧i<(n:Int))):hapO n W i=(W,6):=by unfold hapO;rw[if_pos h]
theorem hapO_nil {n:Nat} {W:Wd} {s:Nat} (h:W.od.getD s []=[]):hapO n W s=(W,6):=by
 unfold hapO
 split
 ·rfl
 ·simp only[Int.toNat_natCast,h]
theorem hapO_yes {n:Nat} {ls:List Lk} {t:Nat} {W:Wd} {s:Nat} {o:Wir.Od} {r:List Wir.Od} (h:Inv n ls t W) (ht:t≤1000) (hs:s<n) (ho:W.od.getD s []=o::r):hapO n W s=(⟨W.co,W.sw.set s (aft W.co s),W.od.set s r,W.bk.set s (W.bk.getD s []++[o.n]),W.pk,W.pn⟩,0):=by
 obtain⟨_,_,hd,_⟩:=order_done h ht hs ho
 unfold hapO
 rw[if_neg (by omega)]
 simp only[Int.toNat_natCast,ho,hd]
 simp
theorem sw_stb {w3:World} {x:Agt.Sw} {ao bo:Option Addr} {ac B:Nat} (h:Ag.SwAt w3 x ao bo ac) (h1:NwA B ao) (h2:NwA B bo):∀U:World,w3.heap.size≤U.heap.size→(∀b,B≤b→b<w3.heap.size→U.heap[b]? =w3.heap[b]?)→Ag.SwAt U x ao bo ac:=fun U hU kU=>by
 refine⟨⟨h.hr.hlen,?_,h.hr.hnil⟩,?_,h.rl,h.sl,h.rq⟩
 ·rcases h.hr.hat with e | ⟨g,off,e,hg,hc⟩
  ·exact Or.inl e
  ·have hk:=kU g (h1 _ e) hg
   exact Or.inr ⟨g,off,e,by omega,fun k hk'=>⟨(World.cell?_of_block (a:=⟨g,off+k*3,none⟩) hk).trans (hc k hk').1,(World.cell?_of_block (a:=⟨g,off+k*3+1,none⟩) hk).trans (hc k hk').2.1,(World.cell?_of_block (a:=⟨g,off+k*3+2,none⟩) hk).trans (hc k hk').2.2⟩⟩
 ·rcases h.hs with e | ⟨g,off,e,hg,hc⟩
  ·exact Or.inl e
  ·have hk:=kU g (h2 _ e) hg
   exact Or.inr ⟨g,off,e,by omega,fun k hk'=>⟨(World.cell?_of_block (a:=⟨g,off+k*2,none⟩) hk).trans (hc k hk').1,(World.cell?_of_block (a:=⟨g,off+k*2+1,none⟩) hk).trans (hc k hk').2⟩⟩
theorem WSt.fresh2 {T:TypeId} {tl:List Value} {w0 w w3 w4:World} {P n B:Nat} {tg:Nat→Nat} {W:Wd} {a:CA} {sb ob bb:Nat} {kv lv:Value} {D:World→Prop} (h:WSt T tl w0 P n tg w W a sb ob bb kv lv) (hB:w.heap.size≤B) (hD:∀U:World,w3.heap.size≤U.heap.size→(∀b,B≤b→b<w3.heap.size→U.heap[b]? =w3.heap[b]?)→D U) (hs:w3.heap.size≤w4.heap.size) (hb:∀b,B≤b→b<w3.heap.size→w4.heap[b]? =w3.heap[b]?):Stb (fun b=>tg b=0) w4 D:=
 fun U hU kU=>hD U (by omega) (fun b h1 h2=>(kU b (h.nw b (by omega)) (by omega)).trans (hb b h1 h2))
theorem infoInt:(Try.prog.info? 3).map (fun i=>(i.zero,i.size,i.bytes))=some (some (.int .i64 0),1,8):=by kernel_rfl
theorem news1 {w W:World} {H:Nat} (hH:w.heap.size=H) {a:Value} {T:TypeId} (E:Ext (w.alloc (.cells #[a] T)) W):∀(j:Nat) (u:Value),[a][j]? =some u→W.cell? ((⟨H,0,none⟩:Addr).add j)=some u:=fun j u hu=>by
 have hb:(w.alloc (.cells #[a] T)).heap[H]? =some (.cells #[a] T (0,0)):=by rw[←hH];exact blk_alloc_new _ _
 have hb2:W.heap[H]? =some (.cells #[a] T (0,0)):=(Below.block E H (by simp;omega)).trans hb
 have hadd:(⟨H,0,none⟩:Addr).add j=⟨H,j,none⟩:=by unfold Addr.add;split <;> simp_all
 rw[hadd,cell_of_row _ _ _ _ _ _ hb2]
 have:j<1:=(List.getElem?_eq_some_iff.1 hu).1
 obtain rfl:j=0:=by omega
 exact hu
set_option maxHeartbeats 800000 in
theorem order_out (tl:List Value) (n:Nat) (w0:World) (P:Nat) (tg:Nat→Nat) (w:World) (W:Wd) (a:CA) (sb ob bb:Nat) (kv lv:Value) (i:Int) (h:WSt 95 tl w0 P n tg w W a sb ob bb kv lv) (hi:¬(0≤i∧i<(n:Int))):
 Calls Try.prog 52 #[.pointer (some ⟨P,0,none⟩),.int .i64 i] w fun e w'=>MOut tl w0 P n tg w sb ob bb (hapO n W i) e w':=by
 have HW:=hidp h
 have HD:=hidp (hapO_out (W:=W) hi)
 have c10:w.cell? ⟨P,10,none⟩=some (.slice (some ⟨ob,0,none⟩) n n):=h.row.cell (i:=10) (by omega)
 clear h
 go_enter Try.func52,Try.ntmps52
 go_wp2_with fail
 refine(isAnyO_out ob n i w hi).mono ?_
 rintro e w1 ⟨rfl,rfl⟩
 clear hi
 go_wp2
 go_ret
 rw[HD.out]
 exact⟨rfl,tg,a,kv,lv,HW.out,KeepP.refl _ _ _⟩
set_option maxHeartbeats 800000 in
theorem order_nil (tl:List Value) (n:Nat) (w0:World) (P:Nat) (tg:Nat→Nat) (w:World) (W:Wd) (a:CA) (sb ob bb:Nat) (kv lv:Value) (s:Nat) (h:WSt 95 tl w0 P n tg w W a sb ob bb kv lv) (hs:s<n) (hb:W.od.getD s []=[]):
 Calls Try.prog 52 #[.pointer (some ⟨P,0,none⟩),.int .i64 (s:Int)] w fun e w'=>MOut tl w0 P n tg w sb ob bb (hapO n W s) e w':=by
 have HW:=hidp h
 have HD:=hidp (hapO_nil (n:=n) hb)
 have c10:w.cell? ⟨P,10,none⟩=some (.slice (some ⟨ob,0,none⟩) n n):=h.row.cell (i:=10) (by omega)
 obtain⟨v,cv,_,_,xs,hv,_⟩:=h.ors.get hs
 obtain⟨ao,cap,rfl⟩:=hv.rw.form
 rw[hb] at cv
 clear h hv
 go_enter Try.func52,Try.ntmps52
 go_wp2_with fail
 refine(isAnyO_in ob n s _ cap ao w hs cv).mono ?_
 rintro e w1 ⟨rfl,rfl⟩
 clear cv
 go_wp2
 go_ret
 rw[HD.out]
 exact⟨rfl,tg,a,kv,lv,HW.out,KeepP.refl _ _ _⟩
set_option maxRecDepth 100000 in
set_option maxHeartbeats 4000000 in
theorem order_some (tl:List Value) (n s:Nat) (ls:List Lk) (o:Wir.Od) (r:List Wir.Od) (t:Nat) (w0:World) (P:Nat) (tg:Nat→Nat) (w:World) (W:Wd) (a:CA) (sb ob bb:Nat) (kv lv:Value) (h:WSt 95 tl w0 P n tg w W a sb ob bb kv lv) (hI:Inv n ls t W) (ht:t≤900) (hs:s<n) (ho:W.od.getD s []=o::r):
 Calls Try.prog 52 #[.pointer (some ⟨P,0,none⟩),.int .i64 (s:Int)] w fun e w'=>MOut tl w0 P n tg w sb ob bb (hapO n W s) e w':=by
 obtain⟨i0,hi0,hz00,hz01,hz02⟩:=info_parts infoInt
 have HW:=hidp h
 have HI:=hidp hI
 have hP:=h.row.lt
 have HD:=hidp (hapO_yes hI (by omega) hs ho)
 obtain⟨hr0,hbk,hdo,hrs,hfs,_⟩:=order_done hI (by omega) hs ho
 have HIS:=hidp (order_is hI (by omega) hs ho)
 have hln:r.length=0:=by rw[hr0];rfl
 obtain⟨v,cv,fv,hol,hv⟩:=h.ors.get hs
 rw[ho] at hv
 obtain⟨g,off,oc,po,pc,fo,fc,rfl,hgl,hoc,g0,g1,g2,g3,g4,hst⟩:=hv.first
 obtain⟨ro,rc,so,sc,s0,s1,sz,hsl,hsw⟩:=h.sws.get hs
 have HV:=hidp hv
 have HFV:=hidp fv
 have HST:=hidp hst
 have HSW:=hidp hsw
 have HSZ:=hidp sz
 have HBK:=hidp hbk
 have j1:(0:Int)≤(s:Int):=by omega
 have j2:(s:Int)<(n:Int):=by omega
 have hsn:s*2+1<n*2:=by omega
 have c10:w.cell? ⟨P,10,none⟩=some (.slice (some ⟨ob,0,none⟩) n n):=h.row.cell (i:=10) (by omega)
 have c9:w.cell? ⟨P,9,none⟩=some (.slice (some ⟨sb,0,none⟩) n n):=h.row.cell (i:=9) (by omega)
 obtain⟨x,hx⟩:∃x,x=aft W.co s:=⟨_,rfl⟩
 have HXE:=hidp hx
 obtain⟨y,hy⟩:∃y,y=W.sw.getD s Agt.sw0:=⟨_,rfl⟩
 rw[←hy] at s0 s1 HSW
 have HCA:Hid (∀V,Ext w V→Calls Try.prog 69 #[Ag.svl y ro so rc sc,Wi.ovl o po fo pc fc] V fun e w'=>Ag.SwOut V (x,0) e w'):=fun V hV=>by
  have h1:=Ag.Do_any y o ro so po fo rc sc pc fc V ((HSW.out.keep (KeepP.ext (S:=fun _=>True) hV) trivial).at) ⟨(HST.out.keep (KeepP.ext (S:=fun _=>True) hV) trivial).at.1,(HST.out.keep (KeepP.ext (S:=fun _=>True) hV) trivial).at.2,i64_small (by have:=HIS.out.1;omega) (by have:=HIS.out.1;omega),by omega,by omega⟩ (fun hk hn=>by
   rcases(HST.out.keep (KeepP.ext (S:=fun _=>True) hV) trivial).at.1 with e | ⟨_,_,e,_⟩
   ·exact absurd e (HIS.out.2 hk)
   ·rw[hn] at e;cases e)
  rw[hy,hdo, ←hx] at h1
  rw[hy]
  exact h1
 obtain⟨R,S⟩:=y
 unfold Ag.svl Wi.ovl at HCA
 simp only at s0 s1 HCA
 have HS:Hid (∀V,Ext (w.alloc (.cells #[.int .i64 o.k,.int .i64 o.n,.int .i64 o.v,.slice po o.rs.length pc,.slice fo o.fs.length fc] 135)) V→V.cell? ⟨P,9,none⟩=some (.slice (some ⟨sb,0,none⟩) n n)∧V.cell? ⟨sb,s*2,none⟩=some (.slice ro R.length rc)∧V.cell? ⟨sb,s*2+1,none⟩=some (.slice so S.length sc)∧V.cell? ⟨w.heap.size,0,none⟩=some (.int .i64 o.k)∧V.cell? ⟨w.heap.size,1,none⟩=some (.int .i64 o.n)∧V.cell? ⟨w.heap.size,2,none⟩=some (.int .i64 o.v)∧V.cell? ⟨w.heap.size,3,none⟩=some (.slice po o.rs.length pc)∧V.cell? ⟨w.heap.size,4,none⟩=some (.slice fo o.fs.length fc)):=fun V hV=>by
  have l0:w.heap.size<(w.alloc (.cells #[.int .i64 o.k,.int .i64 o.n,.int .i64 o.v,.slice po o.rs.length pc,.slice fo o.fs.length fc] 135)).heap.size:=by simp
  have E0:Ext w V:=((Ext.refl w).alloc _).trans hV
  exact⟨(E0.cells.1 _ _ hP).trans c9,(E0.cells.1 _ _ hsl).trans s0,(E0.cells.1 _ _ hsl).trans s1,(hV.cells.1 _ _ l0).trans (by simp),(hV.cells.1 _ _ l0).trans (by simp),(hV.cells.1 _ _ l0).trans (by simp),(hV.cells.1 _ _ l0).trans (by simp),(hV.cells.1 _ _ l0).trans (by simp)⟩
 clear h hI hv fv hst hsw sz hx hdo hy hbk
 go_enter Try.func52,Try.ntmps52
 go_wp2_with fail
 refine(isAnyO_in ob n s _ oc _ w hs cv).mono ?_
 rintro e w1 ⟨rfl,hw1⟩
 have hw1:=hw1.symm
 subst hw1
 have b1:decide (0<r.length+1)=true:=by simp
 go_wp2_with fail
 obtain⟨wa,hwa⟩:∃wa,wa=w.alloc (.cells #[.int .i64 o.k,.int .i64 o.n,.int .i64 o.v,.slice po o.rs.length pc,.slice fo o.fs.length fc] 135):=⟨_,rfl⟩
 have EA:Ext w wa:=by rw[hwa];exact(Ext.refl w).alloc _
 have HAS:Hid (wa.heap.size=w.heap.size+1):=by show _=_;rw[hwa];simp
 rw[←hwa] at HS ⊢
 clear hwa
 have hd:Ext wa wa.drew:=(Ext.refl wa).drew
 have hda:Ext wa (wa.alloc (.cells #[.slice none 0 0,.slice none 0 0] 60)).drew:=((Ext.refl wa).alloc _).drew
 go_region_held3 (fun V=>V.cell? ⟨P,9,none⟩=some (.slice (some ⟨sb,0,none⟩) n n)∧V.cell? ⟨sb,s*2,none⟩=some (.slice ro R.length rc)∧V.cell? ⟨sb,s*2+1,none⟩=some (.slice so S.length sc)∧V.cell? ⟨w.heap.size,0,none⟩=some (.int .i64 o.k)∧V.cell? ⟨w.heap.size,1,none⟩=some (.int .i64 o.n)∧V.cell? ⟨w.heap.size,2,none⟩=some (.int .i64 o.v)∧V.cell? ⟨w.heap.size,3,none⟩=some (.slice po o.rs.length pc)∧V.cell? ⟨w.heap.size,4,none⟩=some (.slice fo o.fs.length fc))
  (first | (with_reducible exact HS.out _ hd) | (with_reducible exact HS.out _ hda) | (with_reducible exact HS.out _ mk1) | (with_reducible exact HS.out _ mk2) | (with_reducible exact HS.out _ (mk1.alloc _)) | (with_reducible exact HS.out _ mk3) | fail)
  (first
  | (go_at_call 69
     with_reducible refine(HCA.out _ (EA.trans hd)).mono ?_
     rintro e w3 ⟨ao,bo,ac,bc,he,hx3,E9,hn1,hn2⟩
     have he':e=.returned (.tuple #[.agg #[.slice ao x.rs.length ac,.slice bo x.st.length bc],.int .i64 0]):=he
     subst he'
     clear he
     have HX3:=hidp (And.intro hx3 (And.intro hn1 hn2))
     clear hx3 hn1 hn2
     have mk1:=hd.trans E9)
  | (go_at_call 69
     with_reducible refine(HCA.out _ (EA.trans hda)).mono ?_
     rintro e w3 ⟨ao,bo,ac,bc,he,hx3,E9,hn1,hn2⟩
     have he':e=.returned (.tuple #[.agg #[.slice ao x.rs.length ac,.slice bo x.st.length bc],.int .i64 0]):=he
     subst he'
     clear he
     have HX3:=hidp (And.intro hx3 (And.intro hn1 hn2))
     clear hx3 hn1 hn2
     have mk2:=hda.trans E9
     have mk3:=(mk2.setCell (p:=⟨wa.heap.size,0,none⟩) (Nat.le_refl _) (.slice ao x.rs.length ac)).setCell (p:=⟨wa.heap.size,1,none⟩) (Nat.le_refl _) (.slice bo x.st.length bc)
     have HB:w3.heap[wa.heap.size]? =some (.cells #[.slice none 0 0,.slice none 0 0] 60 (0,0)):=(Below.block E9 _ (by simp)).trans (blk_alloc_new wa _)
     have u0:=box_cell HB 0
     have u1:=box_cell HB 1
     have uz:=box_frozen HB
     have hwl:wa.heap.size<w3.heap.size:=(Array.getElem?_eq_some_iff.1 HB).1
     have HHB:=hidp HB
     clear HB))
 ·obtain⟨w4,hw4⟩:∃w4,w4=w3.alloc (.cells #[.slice ao x.rs.length ac,.slice bo x.st.length bc] 60):=⟨_,rfl⟩
  have hXw:=mk1.size
  have E4a:Ext wa w4:=by rw[hw4];exact mk1.alloc _
  have HSW4:Hid (Stb (fun b=>tg b=0) w4 (fun U=>Ag.SwAt U x ao bo ac)):=by
   rw[hw4]
   exact HW.out.fresh2 EA.size (sw_stb HX3.out.1 (HX3.out.2.1.mono (by simp)) (HX3.out.2.2.mono (by simp))) (by simp) (fun b _ h2=>blk_alloc_lt _ _ _ h2)
  have q0:w4.cell? ⟨w3.heap.size,0,none⟩=some (.slice ao x.rs.length ac):=by rw[hw4];simp
  have q1:w4.cell? ⟨w3.heap.size,1,none⟩=some (.slice bo x.st.length bc):=by rw[hw4];simp
  have hXl:w3.heap.size<w4.heap.size:=by rw[hw4];simp
  rw[←hw4]
  clear hw4 E9 HX3
  generalize w3.heap.size=X at q0 q1 hXw hXl ⊢
  clear mk1
  have E4:Ext w w4:=EA.trans E4a
  have HW4:=hidp (HW.out.toExt E4)
  have n9:w4.cell? ⟨P,9,none⟩=some (.slice (some ⟨sb,0,none⟩) n n):=(E4.cells.1 _ _ hP).trans c9
  have t0:=(E4.cells.1 _ _ hsl).trans s0
  have t1:=(E4.cells.1 _ _ hsl).trans s1
  have z0:=(E4.cells.2 _ (s*2) hsl).trans (HSZ.out _)
  have z1:=(E4.cells.2 _ (s*2+1) hsl).trans (HSZ.out _)
  have hsl4:sb<w4.heap.size:=Nat.lt_of_lt_of_le hsl E4.size
  have HNUM:Hid (w4.cell? ⟨w.heap.size,1,none⟩=some (.int .i64 o.n)):=(HS.out _ E4a).2.2.2.2.1
  have HTW:Hid (tg w.heap.size=0):=HW.out.nw _ (Nat.le_refl _)
  have HWL:Hid (w.heap.size<w4.heap.size):=by show _<_;have:=HAS.out;omega
  clear c9 c10 s0 s1 g0 g1 g2 g3 g4 cv HS HCA
  go_wp2_with fail
  refine Last.LH.start (m:=8) (S:=fun V=>V.cell? ⟨P,9,none⟩=some (.slice (some ⟨sb,0,none⟩) n n)∧V.cell? ⟨X,0,none⟩=some (.slice ao x.rs.length ac)∧V.cell? ⟨X,1,none⟩=some (.slice bo x.st.length bc)) (by kernel_rfl) ?_
  have hHeld:(fun V:World=>V.cell? ⟨P,9,none⟩=some (.slice (some ⟨sb,0,none⟩) n n)∧V.cell? ⟨X,0,none⟩=some (.slice ao x.rs.length ac)∧V.cell? ⟨X,1,none⟩=some (.slice bo x.st.length bc)) w4.drew:=⟨n9,q0,q1⟩
  refine Last.LH.take (i:=0) (v:=?v7_0a) rfl (by kernel_rfl) (by kernel_rfl) (by kernel_rfl) (by kernel_rfl) (fun _ _ _ h=>h) (by rfl) ?hy7_0a hHeld ?rest7_0a
  case hy7_0a=>intro W hSW;(try dsimp only at hSW);go_simp;with_reducible rfl
  refine Last.LH.take (i:=1) (v:=?v7_1a) rfl (by kernel_rfl) (by kernel_rfl) (by kernel_rfl) (by kernel_rfl) (fun _ _ _ h=>h) (by rfl) ?hy7_1a hHeld ?rest7_1a
  case hy7_1a=>intro W hSW;(try dsimp only at hSW);go_simp;with_reducible rfl
  refine Last.LH.take (i:=2) (v:=?v7_2a) rfl (by kernel_rfl) (by kernel_rfl) (by kernel_rfl) (by kernel_rfl) (fun _ _ _ h=>h) (by rfl) ?hy7_2a hHeld ?rest7_2a
  case hy7_2a=>intro W hSW;(try dsimp only at hSW);go_simp;with_reducible rfl
  refine Last.LH.take (i:=3) (v:=?v7_3a) rfl (by kernel_rfl) (by kernel_rfl) (by kernel_rfl) (by kernel_rfl) (fun _ _ _ h=>h) (by rfl) ?hy7_3a hHeld ?rest7_3a
  case hy7_3a=>intro W hSW;(try dsimp only at hSW);go_simp;with_reducible rfl
  refine Last.LH.take (i:=4) (v:=?v7_4a) rfl (by kernel_rfl) (by kernel_rfl) (by kernel_rfl) (by kernel_rfl) (fun _ _ _ h=>h) (by rfl) ?hy7_4a hHeld ?rest7_4a
  case hy7_4a=>intro W hSW;(try dsimp only at hSW);go_simp;with_reducible rfl
  refine Last.LH.take (i:=5) (v:=?v7_5a) rfl (by kernel_rfl) (by kernel_rfl) (by kernel_rfl) (by kernel_rfl) (fun _ _ _ h=>h) (by rfl) ?hy7_5a hHeld ?rest7_5a
  case hy7_5a=>intro W hSW;(try dsimp only at hSW);go_simp;with_reducible rfl
  refine Last.LH.take (i:=6) (v:=?v7_6a) rfl (by kernel_rfl) (by kernel_rfl) (by kernel_rfl) (by kernel_rfl) (fun _ _ _ h=>h) (by rfl) ?hy7_6a hHeld ?rest7_6a
  case hy7_6a=>intro W hSW;(try dsimp only at hSW);go_simp;with_reducible rfl
  refine Last.LH.take (i:=7) (v:=?v7_7a) rfl (by kernel_rfl) (by kernel_rfl) (by kernel_rfl) (by kernel_rfl) (fun _ _ _ h=>h) (by rfl) ?hy7_7a hHeld ?rest7_7a
  case hy7_7a=>intro W hSW;(try dsimp only at hSW);go_simp;with_reducible rfl
  refine Last.LH.one (i:=8) (by kernel_rfl) rfl (fun K hK=>?_)
  go_simp
  refine hK _ _ (fun h=>absurd rfl h) ?_
  clear hK K hHeld
  refine Last.LH.done (by kernel_rfl) ?_
  obtain⟨w5,hw5⟩:∃w5,w5=((w4.setCell ⟨sb,s*2,none⟩ (.slice ao x.rs.length ac)).setCell ⟨sb,s*2+1,none⟩ (.slice bo x.st.length bc)).drew:=⟨_,rfl⟩
  have HW5:Hid (WSt 95 tl w0 P n tg w5 ⟨W.co,W.sw.set s x,W.od,W.bk,W.pk,W.pn⟩ a sb ob bb kv lv∧Kpt tg tg w4 w5):=by
   rw[hw5]
   have h1:=HW4.out.setSws (x:=x) (ro:=ao) (so:=bo) (rc:=ac) (sc:=bc) hs HI.out.lsw HSW4.out
   exact⟨h1.1.toExt (Ext.refl _).drew,h1.2.trans (Kpt.ext (Ext.refl _).drew)⟩
  rw[←hw5]
  clear hw5 n9 t0 t1 z0 z1 q0 q1 HSW4
  obtain⟨v2,cv2,fv2,hol2,hv2⟩:=HW5.out.1.ors.get hs
  have ho2:(⟨W.co,W.sw.set s x,W.od,W.bk,W.pk,W.pn⟩:Wd).od.getD s []=o::r:=ho
  rw[ho2] at hv2
  obtain⟨g2,off2,oc2,_,_,_,_,rfl,_,hoc2,_,_,_,_,_,_⟩:=hv2.first
  have n10:w5.cell? ⟨P,10,none⟩=some (.slice (some ⟨ob,0,none⟩) n n):=HW5.out.1.row.cell (i:=10) (by omega)
  have HV2:=hidp hv2
  clear hv2 ho2
  obtain⟨ao',hao⟩:∃x,x=(if oc2=1 then some (⟨g2,off2,none⟩:Addr) else some ⟨g2,off2+5,none⟩):=⟨_,rfl⟩
  have HAO:=hidp hao
  clear hao
  have HCUT:=hidp (HW5.out.1.cutO hs HI.out.lod (v':=.slice ao' 0 (oc2 - 1)) (os':=r) (by rw[HAO.out];exact HV2.out.tail1 hln))
  go_wp2_with fail
  refine Last.LH.start (m:=16) (S:=fun V=>V.cell? ⟨P,10,none⟩=some (.slice (some ⟨ob,0,none⟩) n n)∧V.cell? ⟨ob,s,none⟩=some (.slice (some ⟨g2,off2,none⟩) (r.length+1) oc2)) (by kernel_rfl) ?_
  have hHeld:(fun V:World=>V.cell? ⟨P,10,none⟩=some (.slice (some ⟨ob,0,none⟩) n n)∧V.cell? ⟨ob,s,none⟩=some (.slice (some ⟨g2,off2,none⟩) (r.length+1) oc2)) w5.drew:=⟨n10,cv2⟩
  refine Last.LH.take (i:=0) (v:=?v8_0a) rfl (by kernel_rfl) (by kernel_rfl) (by kernel_rfl) (by kernel_rfl) (fun _ _ _ h=>h) (by rfl) ?hy8_0a hHeld ?rest8_0a
  case hy8_0a=>intro W hSW;(try dsimp only at hSW);go_simp;with_reducible rfl
  refine Last.LH.take (i:=1) (v:=?v8_1a) rfl (by kernel_rfl) (by kernel_rfl) (by kernel_rfl) (by kernel_rfl) (fun _ _ _ h=>h) (by rfl) ?hy8_1a hHeld ?rest8_1a
  case hy8_1a=>intro W hSW;(try dsimp only at hSW);go_simp;with_reducible rfl
  refine Last.LH.take (i:=2) (v:=?v8_2a) rfl (by kernel_rfl) (by kernel_rfl) (by kernel_rfl) (by kernel_rfl) (fun _ _ _ h=>h) (by rfl) ?hy8_2a hHeld ?rest8_2a
  case hy8_2a=>intro W hSW;(try dsimp only at hSW);go_simp;with_reducible rfl
  refine Last.LH.take (i:=3) (v:=?v8_3a) rfl (by kernel_rfl) (by kernel_rfl) (by kernel_rfl) (by kernel_rfl) (fun _ _ _ h=>h) (by rfl) ?hy8_3a hHeld ?rest8_3a
  case hy8_3a=>intro W hSW;(try dsimp only at hSW);go_simp;with_reducible rfl
  refine Last.LH.take (i:=4) (v:=?v8_4a) rfl (by kernel_rfl) (by kernel_rfl) (by kernel_rfl) (by kernel_rfl) (fun _ _ _ h=>h) (by rfl) ?hy8_4a hHeld ?rest8_4a
  case hy8_4a=>intro W hSW;(try dsimp only at hSW);go_simp;with_reducible rfl
  refine Last.LH.take (i:=5) (v:=?v8_5a) rfl (by kernel_rfl) (by kernel_rfl) (by kernel_rfl) (by kernel_rfl) (fun _ _ _ h=>h) (by rfl) ?hy8_5a hHeld ?rest8_5a
  case hy8_5a=>intro W hSW;(try dsimp only at hSW);go_simp;with_reducible rfl
  refine Last.LH.take (i:=6) (v:=?v8_6a) rfl (by kernel_rfl) (by kernel_rfl) (by kernel_rfl) (by kernel_rfl) (fun _ _ _ h=>h) (by rfl) ?hy8_6a hHeld ?rest8_6a
  case hy8_6a=>intro W hSW;(try dsimp only at hSW);go_simp;with_reducible rfl
  refine Last.LH.take (i:=7) (v:=?v8_7a) rfl (by kernel_rfl) (by kernel_rfl) (by kernel_rfl) (by kernel_rfl) (fun _ _ _ h=>h) (by rfl) ?hy8_7a hHeld ?rest8_7a
  case hy8_7a=>intro W hSW;(try dsimp only at hSW);go_simp;with_reducible rfl
  refine Last.LH.take (i:=8) (v:=?v8_8a) rfl (by kernel_rfl) (by kernel_rfl) (by kernel_rfl) (by kernel_rfl) (fun _ _ _ h=>h) (by rfl) ?hy8_8a hHeld ?rest8_8a
  case hy8_8a=>intro W hSW;(try dsimp only at hSW);go_simp;with_reducible rfl
  refine Last.LH.take (i:=9) (v:=?v8_9a) rfl (by kernel_rfl) (by kernel_rfl) (by kernel_rfl) (by kernel_rfl) (fun _ _ _ h=>h) (by rfl) ?hy8_9a hHeld ?rest8_9a
  case hy8_9a=>intro W hSW;(try dsimp only at hSW);go_simp;with_reducible rfl
  refine Last.LH.take (i:=10) (v:=?v8_10a) rfl (by kernel_rfl) (by kernel_rfl) (by kernel_rfl) (by kernel_rfl) (fun _ _ _ h=>h) (by rfl) ?hy8_10a hHeld ?rest8_10a
  case hy8_10a=>intro W hSW;(try dsimp only at hSW);go_simp;with_reducible rfl
  refine Last.LH.take (i:=11) (v:=?v8_11a) rfl (by kernel_rfl) (by kernel_rfl) (by kernel_rfl) (by kernel_rfl) (fun _ _ _ h=>h) (by rfl) ?hy8_11a hHeld ?rest8_11a
  case hy8_11a=>intro W hSW;(try dsimp only at hSW);go_simp;with_reducible rfl
  refine Last.LH.take (i:=12) (v:=?v8_12a) rfl (by kernel_rfl) (by kernel_rfl) (by kernel_rfl) (by kernel_rfl) (fun _ _ _ h=>h) (by rfl) ?hy8_12a hHeld ?rest8_12a
  case hy8_12a=>intro W hSW;(try dsimp only at hSW);go_simp;with_reducible rfl
  refine Last.LH.take (i:=13) (v:=?v8_13a) rfl (by kernel_rfl) (by kernel_rfl) (by kernel_rfl) (by kernel_rfl) (fun _ _ _ h=>h) (by rfl) ?hy8_13a hHeld ?rest8_13a
  case hy8_13a=>intro W hSW;(try dsimp only at hSW);go_simp;with_reducible rfl
  refine Last.LH.take (i:=14) (v:=.slice ao' 0 (oc2 - 1)) rfl (by kernel_rfl) (by kernel_rfl) (by kernel_rfl) (by kernel_rfl) (fun _ _ _ h=>h) (by rfl) ?hy8_14a hHeld ?rest8_14a
  case hy8_14a=>intro W hSW;(try dsimp only at hSW);go_simp;rw[HAO.out]
  refine Last.LH.take (i:=15) (v:=?v8_15a) rfl (by kernel_rfl) (by kernel_rfl) (by kernel_rfl) (by kernel_rfl) (fun _ _ _ h=>h) (by rfl) ?hy8_15a hHeld ?rest8_15a
  case hy8_15a=>intro W hSW;(try dsimp only at hSW);go_simp;with_reducible rfl
  refine Last.LH.one (i:=16) (by kernel_rfl) rfl (fun K hK=>?_)
  go_simp
  refine hK _ _ (fun h=>absurd rfl h) ?_
  clear hK K hHeld
  refine Last.LH.done (by kernel_rfl) ?_
  obtain⟨w6,hw6⟩:∃w6,w6=(w5.setCell ⟨ob,s,none⟩ (.slice ao' 0 (oc2 - 1))).drew:=⟨_,rfl⟩
  have HW6:Hid (WSt 95 tl w0 P n tg w6 ⟨W.co,W.sw.set s x,W.od.set s r,W.bk,W.pk,W.pn⟩ a sb ob bb kv lv∧Kpt tg tg w4 w6):=by
   rw[hw6]
   exact⟨HCUT.out.1.toExt (Ext.refl _).drew,HW5.out.2.trans (HCUT.out.2.trans (Kpt.ext (Ext.refl _).drew))⟩
  rw[←hw6]
  clear hw6 n10 cv2 fv2 HCUT HV2 hoc2 hol2
  obtain⟨vb,cvb,fvb,hbl,hvb⟩:=HW6.out.1.bks.get hs
  have HVB:=hidp hvb
  have n11:w6.cell? ⟨P,11,none⟩=some (.slice (some ⟨bb,0,none⟩) n n):=HW6.out.1.row.cell (i:=11) (by omega)
  have num6:w6.cell? ⟨w.heap.size,1,none⟩=some (.int .i64 o.n):=(World.cell?_of_block (a:=⟨w.heap.size,1,none⟩) (HW6.out.2.blk w.heap.size HWL.out (Or.inl HTW.out)).2).trans HNUM.out
  have hwl6:w.heap.size<w6.heap.size:=Nat.lt_of_lt_of_le HWL.out HW6.out.2.size
  have hP6:=HW6.out.1.row.lt
  clear hvb
  have HSX:Hid (∀V,Ext w6 V→V.cell? ⟨P,11,none⟩=some (.slice (some ⟨bb,0,none⟩) n n)∧V.cell? ⟨bb,s,none⟩=some vb∧V.cell? ⟨w.heap.size,1,none⟩=some (.int .i64 o.n)):=fun V hV=>⟨(hV.cells.1 _ _ hP6).trans n11,(hV.cells.1 _ _ hbl).trans cvb,(hV.cells.1 _ _ hwl6).trans num6⟩
  go_wp2_with fail
  refine Last.LH.start (m:=19) (S:=fun V=>V.cell? ⟨P,11,none⟩=some (.slice (some ⟨bb,0,none⟩) n n)∧V.cell? ⟨bb,s,none⟩=some vb∧V.cell? ⟨w.heap.size,1,none⟩=some (.int .i64 o.n)) (by kernel_rfl) ?_
  have hHeld:(fun V:World=>V.cell? ⟨P,11,none⟩=some (.slice (some ⟨bb,0,none⟩) n n)∧V.cell? ⟨bb,s,none⟩=some vb∧V.cell? ⟨w.heap.size,1,none⟩=some (.int .i64 o.n)) w6.drew:=⟨n11,cvb,num6⟩
  refine Last.LH.take (i:=0) (v:=?v9_0a) rfl (by kernel_rfl) (by kernel_rfl) (by kernel_rfl) (by kernel_rfl) (fun _ _ _ h=>h) (by rfl) ?hy9_0a hHeld ?rest9_0a
  case hy9_0a=>intro W hSW;(try dsimp only at hSW);go_simp;with_reducible rfl
  refine Last.LH.take (i:=1) (v:=?v9_1a) rfl (by kernel_rfl) (by kernel_rfl) (by kernel_rfl) (by kernel_rfl) (fun _ _ _ h=>h) (by rfl) ?hy9_1a hHeld ?rest9_1a
  case hy9_1a=>intro W hSW;(try dsimp only at hSW);go_simp;with_reducible rfl
  refine Last.LH.take (i:=2) (v:=?v9_2a) rfl (by kernel_rfl) (by kernel_rfl) (by kernel_rfl) (by kernel_rfl) (fun _ _ _ h=>h) (by rfl) ?hy9_2a hHeld ?rest9_2a
  case hy9_2a=>intro W hSW;(try dsimp only at hSW);go_simp;with_reducible rfl
  refine Last.LH.take (i:=3) (v:=?v9_3a) rfl (by kernel_rfl) (by kernel_rfl) (by kernel_rfl) (by kernel_rfl) (fun _ _ _ h=>h) (by rfl) ?hy9_3a hHeld ?rest9_3a
  case hy9_3a=>intro W hSW;(try dsimp only at hSW);go_simp;with_reducible rfl
  refine Last.LH.take (i:=4) (v:=?v9_4a) rfl (by kernel_rfl) (by kernel_rfl) (by kernel_rfl) (by kernel_rfl) (fun _ _ _ h=>h) (by rfl) ?hy9_4a hHeld ?rest9_4a
  case hy9_4a=>intro W hSW;(try dsimp only at hSW);go_simp;with_reducible rfl
  refine Last.LH.take (i:=5) (v:=?v9_5a) rfl (by kernel_rfl) (by kernel_rfl) (by kernel_rfl) (by kernel_rfl) (fun _ _ _ h=>h) (by rfl) ?hy9_5a hHeld ?rest9_5a
  case hy9_5a=>intro W hSW;(try dsimp only at hSW);go_simp;with_reducible rfl
  refine Last.LH.take (i:=6) (v:=?v9_6a) rfl (by kernel_rfl) (by kernel_rfl) (by kernel_rfl) (by kernel_rfl) (fun _ _ _ h=>h) (by rfl) ?hy9_6a hHeld ?rest9_6a
  case hy9_6a=>intro W hSW;(try dsimp only at hSW);go_simp;with_reducible rfl
  refine Last.LH.take (i:=7) (v:=?v9_7a) rfl (by kernel_rfl) (by kernel_rfl) (by kernel_rfl) (by kernel_rfl) (fun _ _ _ h=>h) (by rfl) ?hy9_7a hHeld ?rest9_7a
  case hy9_7a=>intro W hSW;(try dsimp only at hSW);go_simp;with_reducible rfl
  refine Last.LH.take (i:=8) (v:=?v9_8a) rfl (by kernel_rfl) (by kernel_rfl) (by kernel_rfl) (by kernel_rfl) (fun _ _ _ h=>h) (by rfl) ?hy9_8a hHeld ?rest9_8a
  case hy9_8a=>intro W hSW;(try dsimp only at hSW);go_simp;with_reducible rfl
  refine Last.LH.take (i:=9) (v:=?v9_9a) rfl (by kernel_rfl) (by kernel_rfl) (by kernel_rfl) (by kernel_rfl) (fun _ _ _ h=>h) (by rfl) ?hy9_9a hHeld ?rest9_9a
  case hy9_9a=>intro W hSW;(try dsimp only at hSW);go_simp;with_reducible rfl
  refine Last.LH.take (i:=10) (v:=?v9_10a) rfl (by kernel_rfl) (by kernel_rfl) (by kernel_rfl) (by kernel_rfl) (fun _ _ _ h=>h) (by rfl) ?hy9_10a hHeld ?rest9_10a
  case hy9_10a=>intro W hSW;(try dsimp only at hSW);go_simp;with_reducible rfl
  refine Last.LH.take (i:=11) (v:=?v9_11a) rfl (by kernel_rfl) (by kernel_rfl) (by kernel_rfl) (by kernel_rfl) (fun _ _ _ h=>h) (by rfl) ?hy9_11a hHeld ?rest9_11a
  case hy9_11a=>intro W hSW;(try dsimp only at hSW);go_simp;with_reducible rfl
  refine Last.LH.take (i:=12) (v:=?v9_12a) rfl (by kernel_rfl) (by kernel_rfl) (by kernel_rfl) (by kernel_rfl) (fun _ _ _ h=>h) (by rfl) ?hy9_12a hHeld ?rest9_12a
  case hy9_12a=>intro W hSW;(try dsimp only at hSW);go_simp;with_reducible rfl
  refine Last.LH.take (i:=13) (v:=?v9_13a) rfl (by kernel_rfl) (by kernel_rfl) (by kernel_rfl) (by kernel_rfl) (fun _ _ _ h=>h) (by rfl) ?hy9_13a hHeld ?rest9_13a
  case hy9_13a=>intro W hSW;(try dsimp only at hSW);go_simp;with_reducible rfl
  refine Last.LH.take (i:=14) (v:=?v9_14a) rfl (by kernel_rfl) (by kernel_rfl) (by kernel_rfl) (by kernel_rfl) (fun _ _ _ h=>h) (by rfl) ?hy9_14a hHeld ?rest9_14a
  case hy9_14a=>intro W hSW;(try dsimp only at hSW);go_simp;with_reducible rfl
  refine Last.LH.take (i:=15) (v:=?v9_15a) rfl (by kernel_rfl) (by kernel_rfl) (by kernel_rfl) (by kernel_rfl) (fun _ _ _ h=>h) (by rfl) ?hy9_15a hHeld ?rest9_15a
  case hy9_15a=>intro W hSW;(try dsimp only at hSW);go_simp;with_reducible rfl
  refine Last.LH.one (i:=16) (by kernel_rfl) rfl (fun K hK=>?_)
  go_simp
  refine hK _ _ (fun _=>HSX.out _ ((Ext.refl _).alloc _).drew) ?_
  clear hK K hHeld
  have EB:Ext w6 (w6.alloc (.cells #[.int .i64 o.n] 3)).drew:=((Ext.refl w6).alloc _).drew
  refine Last.LH.one (i:=17) (by kernel_rfl) rfl (fun K hK=>?_)
  refine step_append_rw _ rfl (.tmp 79) (.tmp 82) 31 rfl 3 i0 _ 1 8 Try.underlying31 hi0 hz00 hz01 hz02 rfl (by decide) vb (W.bk.getD s []).length ((W.bk.getD s []).map (Value.int .i64)) rfl ?rw9a ⟨w6.heap.size,0,none⟩ 1 [.int .i64 o.n] rfl rfl ?news9a (one1i o.n) ?h639a ?hb9a ?_
  case rw9a=>with_reducible exact(HVB.out.keep (KeepP.ext (S:=fun _=>True) EB) trivial).row
  case news9a=>with_reducible exact news1 rfl (Ext.refl _).drew
  case h639a=>rw[HBK.out];decide
  case hb9a=>rw[HBK.out];decide
  intro g7 off7 cap7 w7 hr7 hg7 hat7
  have HPU:=hidp (WSt.pushB (x:=o.n) (HW6.out.1.toExt EB) hs HI.out.lbk (HVB.out.keep (KeepP.ext (S:=fun _=>True) EB) trivial) hr7 hg7 hat7)
  obtain⟨d11,dvb,dn⟩:=HSX.out _ EB
  have t1:=HW6.out.1.tP
  have t4:=HW6.out.1.bks.1
  have gP:=(grown_keep hg7 HVB.out.tg (b:=P) (by rw[t1];omega) (Nat.lt_of_lt_of_le hP6 EB.size)).1
  have gB:=grown_keep hg7 HVB.out.tg (b:=bb) (by rw[t4];omega) (Nat.lt_of_lt_of_le hbl EB.size)
  have gW:=(grown_keep hg7 HVB.out.tg (b:=w.heap.size) (by rw[HTW.out];omega) (Nat.lt_of_lt_of_le hwl6 EB.size)).1
  have fB7:w7.frozen? ⟨bb,s,none⟩=false:=(gB.2 s).trans ((EB.cells.2 _ _ hbl).trans fvb)
  have hB7:bb<w7.heap.size:=Nat.lt_of_lt_of_le (Nat.lt_of_lt_of_le hbl EB.size) hg7.size
  have hS7:=And.intro ((gP 11).trans d11) (And.intro ((gB.1 s).trans dvb) ((gW 1).trans dn))
  clear gP gB gW d11 dvb dn hr7 hg7 hat7 t1 t4
  have co7:=hS7.2.1
  refine hK _ _ (fun _=>hS7) ?_
  clear hK K
  refine Last.LH.take (i:=18) (v:=?v9_18a) rfl (by kernel_rfl) (by kernel_rfl) (by kernel_rfl) (by kernel_rfl) (fun _ _ _ h=>h) (by rfl) ?hy9_18a hS7 ?rest9_18a
  case hy9_18a=>intro W hSW;(try dsimp only at hSW);go_simp;with_reducible rfl
  refine Last.LH.one (i:=19) (by kernel_rfl) rfl (fun K hK=>?_)
  go_simp
  refine hK _ _ (fun h=>absurd rfl h) ?_
  clear hK K
  refine Last.LH.done (by kernel_rfl) ?_
  clear hS7 co7 fB7
  go_wp2
  go_ret
  rw[HD.out]
  have hWF:=HPU.out.1
  rw[HXE.out] at hWF
  exact⟨rfl,_,a,kv,lv,hWF,((Kpt.ext E4).trans HW6.out.2).trans ((Kpt.ext EB).trans HPU.out.2)⟩
 ·obtain⟨w4,hw4⟩:∃w4,w4=(w3.setCell ⟨wa.heap.size,0,none⟩ (.slice ao x.rs.length ac)).setCell ⟨wa.heap.size,1,none⟩ (.slice bo x.st.length bc):=⟨_,rfl⟩
  have E4a:Ext wa w4:=by rw[hw4];exact mk3
  have HSW4:Hid (Stb (fun b=>tg b=0) w4 (fun U=>Ag.SwAt U x ao bo ac)):=by
   rw[hw4]
   refine HW.out.fresh2 (B:=wa.heap.size+1) (Nat.le_trans EA.size (Nat.le_succ _)) (sw_stb HX3.out.1 (HX3.out.2.1.mono (by simp)) (HX3.out.2.2.mono (by simp))) (by simp) (fun b h1 _=>?_)
   rw[blk_setCell_other _ _ _ _ (by simp only;omega),blk_setCell_other _ _ _ _ (by simp only;omega)]
  have hrow:w3.rowIs wa.heap.size 60 2 (fun _=>.slice none 0 0):=⟨_,HHB.out,rfl,fun i hi=>by(obtain rfl | rfl:i=0∨i=1:=by omega) <;> rfl⟩
  have q0:w4.cell? ⟨wa.heap.size,0,none⟩=some (.slice ao x.rs.length ac):=by rw[hw4];exact((hrow.set 0 _).set 1 _).cell (i:=0) (by omega)
  have q1:w4.cell? ⟨wa.heap.size,1,none⟩=some (.slice bo x.st.length bc):=by rw[hw4];exact((hrow.set 0 _).set 1 _).cell (i:=1) (by omega)
  clear hrow
  have hXl:wa.heap.size<w4.heap.size:=by rw[hw4];simpa using hwl
  rw[←hw4]
  obtain⟨X,hX⟩:∃X,X=wa.heap.size:=⟨_,rfl⟩
  rw[←hX] at q0 q1 hXl ⊢
  have hXw:wa.heap.size≤X:=by omega
  clear hX hda
  clear hw4 mk2 mk3 E9 HX3 u0 u1 uz HHB hwl
  have E4:Ext w w4:=EA.trans E4a
  have HW4:=hidp (HW.out.toExt E4)
  have n9:w4.cell? ⟨P,9,none⟩=some (.slice (some ⟨sb,0,none⟩) n n):=(E4.cells.1 _ _ hP).trans c9
  have t0:=(E4.cells.1 _ _ hsl).trans s0
  have t1:=(E4.cells.1 _ _ hsl).trans s1
  have z0:=(E4.cells.2 _ (s*2) hsl).trans (HSZ.out _)
  have z1:=(E4.cells.2 _ (s*2+1) hsl).trans (HSZ.out _)
  have hsl4:sb<w4.heap.size:=Nat.lt_of_lt_of_le hsl E4.size
  have HNUM:Hid (w4.cell? ⟨w.heap.size,1,none⟩=some (.int .i64 o.n)):=(HS.out _ E4a).2.2.2.2.1
  have HTW:Hid (tg w.heap.size=0):=HW.out.nw _ (Nat.le_refl _)
  have HWL:Hid (w.heap.size<w4.heap.size):=by show _<_;have:=HAS.out;omega
  clear c9 c10 s0 s1 g0 g1 g2 g3 g4 cv HS HCA
  go_wp2_with fail
  refine Last.LH.start (m:=8) (S:=fun V=>V.cell? ⟨P,9,none⟩=some (.slice (some ⟨sb,0,none⟩) n n)∧V.cell? ⟨X,0,none⟩=some (.slice ao x.rs.length ac)∧V.cell? ⟨X,1,none⟩=some (.slice bo x.st.length bc)) (by kernel_rfl) ?_
  have hHeld:(fun V:World=>V.cell? ⟨P,9,none⟩=some (.slice (some ⟨sb,0,none⟩) n n)∧V.cell? ⟨X,0,none⟩=some (.slice ao x.rs.length ac)∧V.cell? ⟨X,1,none⟩=some (.slice bo x.st.length bc)) w4.drew:=⟨n9,q0,q1⟩
  refine Last.LH.take (i:=0) (v:=?v7_0b) rfl (by kernel_rfl) (by kernel_rfl) (by kernel_rfl) (by kernel_rfl) (fun _ _ _ h=>h) (by rfl) ?hy7_0b hHeld ?rest7_0b
  case hy7_0b=>intro W hSW;(try dsimp only at hSW);go_simp;with_reducible rfl
  refine Last.LH.take (i:=1) (v:=?v7_1b) rfl (by kernel_rfl) (by kernel_rfl) (by kernel_rfl) (by kernel_rfl) (fun _ _ _ h=>h) (by rfl) ?hy7_1b hHeld ?rest7_1b
  case hy7_1b=>intro W hSW;(try dsimp only at hSW);go_simp;with_reducible rfl
  refine Last.LH.take (i:=2) (v:=?v7_2b) rfl (by kernel_rfl) (by kernel_rfl) (by kernel_rfl) (by kernel_rfl) (fun _ _ _ h=>h) (by rfl) ?hy7_2b hHeld ?rest7_2b
  case hy7_2b=>intro W hSW;(try dsimp only at hSW);go_simp;with_reducible rfl
  refine Last.LH.take (i:=3) (v:=?v7_3b) rfl (by kernel_rfl) (by kernel_rfl) (by kernel_rfl) (by kernel_rfl) (fun _ _ _ h=>h) (by rfl) ?hy7_3b hHeld ?rest7_3b
  case hy7_3b=>intro W hSW;(try dsimp only at hSW);go_simp;with_reducible rfl
  refine Last.LH.take (i:=4) (v:=?v7_4b) rfl (by kernel_rfl) (by kernel_rfl) (by kernel_rfl) (by kernel_rfl) (fun _ _ _ h=>h) (by rfl) ?hy7_4b hHeld ?rest7_4b
  case hy7_4b=>intro W hSW;(try dsimp only at hSW);go_simp;with_reducible rfl
  refine Last.LH.take (i:=5) (v:=?v7_5b) rfl (by kernel_rfl) (by kernel_rfl) (by kernel_rfl) (by kernel_rfl) (fun _ _ _ h=>h) (by rfl) ?hy7_5b hHeld ?rest7_5b
  case hy7_5b=>intro W hSW;(try dsimp only at hSW);go_simp;with_reducible rfl
  refine Last.LH.take (i:=6) (v:=?v7_6b) rfl (by kernel_rfl) (by kernel_rfl) (by kernel_rfl) (by kernel_rfl) (fun _ _ _ h=>h) (by rfl) ?hy7_6b hHeld ?rest7_6b
  case hy7_6b=>intro W hSW;(try dsimp only at hSW);go_simp;with_reducible rfl
  refine Last.LH.take (i:=7) (v:=?v7_7b) rfl (by kernel_rfl) (by kernel_rfl) (by kernel_rfl) (by kernel_rfl) (fun _ _ _ h=>h) (by rfl) ?hy7_7b hHeld ?rest7_7b
  case hy7_7b=>intro W hSW;(try dsimp only at hSW);go_simp;with_reducible rfl
  refine Last.LH.one (i:=8) (by kernel_rfl) rfl (fun K hK=>?_)
  go_simp
  refine hK _ _ (fun h=>absurd rfl h) ?_
  clear hK K hHeld
  refine Last.LH.done (by kernel_rfl) ?_
  obtain⟨w5,hw5⟩:∃w5,w5=((w4.setCell ⟨sb,s*2,none⟩ (.slice ao x.rs.length ac)).setCell ⟨sb,s*2+1,none⟩ (.slice bo x.st.length bc)).drew:=⟨_,rfl⟩
  have HW5:Hid (WSt 95 tl w0 P n tg w5 ⟨W.co,W.sw.set s x,W.od,W.bk,W.pk,W.pn⟩ a sb ob bb kv lv∧Kpt tg tg w4 w5):=by
   rw[hw5]
   have h1:=HW4.out.setSws (x:=x) (ro:=ao) (so:=bo) (rc:=ac) (sc:=bc) hs HI.out.lsw HSW4.out
   exact⟨h1.1.toExt (Ext.refl _).drew,h1.2.trans (Kpt.ext (Ext.refl _).drew)⟩
  rw[←hw5]
  clear hw5 n9 t0 t1 z0 z1 q0 q1 HSW4
  obtain⟨v2,cv2,fv2,hol2,hv2⟩:=HW5.out.1.ors.get hs
  have ho2:(⟨W.co,W.sw.set s x,W.od,W.bk,W.pk,W.pn⟩:Wd).od.getD s []=o::r:=ho
  rw[ho2] at hv2
  obtain⟨g2,off2,oc2,_,_,_,_,rfl,_,hoc2,_,_,_,_,_,_⟩:=hv2.first
  have n10:w5.cell? ⟨P,10,none⟩=some (.slice (some ⟨ob,0,none⟩) n n):=HW5.out.1.row.cell (i:=10) (by omega)
  have HV2:=hidp hv2
  clear hv2 ho2
  obtain⟨ao',hao⟩:∃x,x=(if oc2=1 then some (⟨g2,off2,none⟩:Addr) else some ⟨g2,off2+5,none⟩):=⟨_,rfl⟩
  have HAO:=hidp hao
  clear hao
  have HCUT:=hidp (HW5.out.1.cutO hs HI.out.lod (v':=.slice ao' 0 (oc2 - 1)) (os':=r) (by rw[HAO.out];exact HV2.out.tail1 hln))
  go_wp2_with fail
  refine Last.LH.start (m:=16) (S:=fun V=>V.cell? ⟨P,10,none⟩=some (.slice (some ⟨ob,0,none⟩) n n)∧V.cell? ⟨ob,s,none⟩=some (.slice (some ⟨g2,off2,none⟩) (r.length+1) oc2)) (by kernel_rfl) ?_
  have hHeld:(fun V:World=>V.cell? ⟨P,10,none⟩=some (.slice (some ⟨ob,0,none⟩) n n)∧V.cell? ⟨ob,s,none⟩=some (.slice (some ⟨g2,off2,none⟩) (r.length+1) oc2)) w5.drew:=⟨n10,cv2⟩
  refine Last.LH.take (i:=0) (v:=?v8_0b) rfl (by kernel_rfl) (by kernel_rfl) (by kernel_rfl) (by kernel_rfl) (fun _ _ _ h=>h) (by rfl) ?hy8_0b hHeld ?rest8_0b
  case hy8_0b=>intro W hSW;(try dsimp only at hSW);go_simp;with_reducible rfl
  refine Last.LH.take (i:=1) (v:=?v8_1b) rfl (by kernel_rfl) (by kernel_rfl) (by kernel_rfl) (by kernel_rfl) (fun _ _ _ h=>h) (by rfl) ?hy8_1b hHeld ?rest8_1b
  case hy8_1b=>intro W hSW;(try dsimp only at hSW);go_simp;with_reducible rfl
  refine Last.LH.take (i:=2) (v:=?v8_2b) rfl (by kernel_rfl) (by kernel_rfl) (by kernel_rfl) (by kernel_rfl) (fun _ _ _ h=>h) (by rfl) ?hy8_2b hHeld ?rest8_2b
  case hy8_2b=>intro W hSW;(try dsimp only at hSW);go_simp;with_reducible rfl
  refine Last.LH.take (i:=3) (v:=?v8_3b) rfl (by kernel_rfl) (by kernel_rfl) (by kernel_rfl) (by kernel_rfl) (fun _ _ _ h=>h) (by rfl) ?hy8_3b hHeld ?rest8_3b
  case hy8_3b=>intro W hSW;(try dsimp only at hSW);go_simp;with_reducible rfl
  refine Last.LH.take (i:=4) (v:=?v8_4b) rfl (by kernel_rfl) (by kernel_rfl) (by kernel_rfl) (by kernel_rfl) (fun _ _ _ h=>h) (by rfl) ?hy8_4b hHeld ?rest8_4b
  case hy8_4b=>intro W hSW;(try dsimp only at hSW);go_simp;with_reducible rfl
  refine Last.LH.take (i:=5) (v:=?v8_5b) rfl (by kernel_rfl) (by kernel_rfl) (by kernel_rfl) (by kernel_rfl) (fun _ _ _ h=>h) (by rfl) ?hy8_5b hHeld ?rest8_5b
  case hy8_5b=>intro W hSW;(try dsimp only at hSW);go_simp;with_reducible rfl
  refine Last.LH.take (i:=6) (v:=?v8_6b) rfl (by kernel_rfl) (by kernel_rfl) (by kernel_rfl) (by kernel_rfl) (fun _ _ _ h=>h) (by rfl) ?hy8_6b hHeld ?rest8_6b
  case hy8_6b=>intro W hSW;(try dsimp only at hSW);go_simp;with_reducible rfl
  refine Last.LH.take (i:=7) (v:=?v8_7b) rfl (by kernel_rfl) (by kernel_rfl) (by kernel_rfl) (by kernel_rfl) (fun _ _ _ h=>h) (by rfl) ?hy8_7b hHeld ?rest8_7b
  case hy8_7b=>intro W hSW;(try dsimp only at hSW);go_simp;with_reducible rfl
  refine Last.LH.take (i:=8) (v:=?v8_8b) rfl (by kernel_rfl) (by kernel_rfl) (by kernel_rfl) (by kernel_rfl) (fun _ _ _ h=>h) (by rfl) ?hy8_8b hHeld ?rest8_8b
  case hy8_8b=>intro W hSW;(try dsimp only at hSW);go_simp;with_reducible rfl
  refine Last.LH.take (i:=9) (v:=?v8_9b) rfl (by kernel_rfl) (by kernel_rfl) (by kernel_rfl) (by kernel_rfl) (fun _ _ _ h=>h) (by rfl) ?hy8_9b hHeld ?rest8_9b
  case hy8_9b=>intro W hSW;(try dsimp only at hSW);go_simp;with_reducible rfl
  refine Last.LH.take (i:=10) (v:=?v8_10b) rfl (by kernel_rfl) (by kernel_rfl) (by kernel_rfl) (by kernel_rfl) (fun _ _ _ h=>h) (by rfl) ?hy8_10b hHeld ?rest8_10b
  case hy8_10b=>intro W hSW;(try dsimp only at hSW);go_simp;with_reducible rfl
  refine Last.LH.take (i:=11) (v:=?v8_11b) rfl (by kernel_rfl) (by kernel_rfl) (by kernel_rfl) (by kernel_rfl) (fun _ _ _ h=>h) (by rfl) ?hy8_11b hHeld ?rest8_11b
  case hy8_11b=>intro W hSW;(try dsimp only at hSW);go_simp;with_reducible rfl
  refine Last.LH.take (i:=12) (v:=?v8_12b) rfl (by kernel_rfl) (by kernel_rfl) (by kernel_rfl) (by kernel_rfl) (fun _ _ _ h=>h) (by rfl) ?hy8_12b hHeld ?rest8_12b
  case hy8_12b=>intro W hSW;(try dsimp only at hSW);go_simp;with_reducible rfl
  refine Last.LH.take (i:=13) (v:=?v8_13b) rfl (by kernel_rfl) (by kernel_rfl) (by kernel_rfl) (by kernel_rfl) (fun _ _ _ h=>h) (by rfl) ?hy8_13b hHeld ?rest8_13b
  case hy8_13b=>intro W hSW;(try dsimp only at hSW);go_simp;with_reducible rfl
  refine Last.LH.take (i:=14) (v:=.slice ao' 0 (oc2 - 1)) rfl (by kernel_rfl) (by kernel_rfl) (by kernel_rfl) (by kernel_rfl) (fun _ _ _ h=>h) (by rfl) ?hy8_14b hHeld ?rest8_14b
  case hy8_14b=>intro W hSW;(try dsimp only at hSW);go_simp;rw[HAO.out]
  refine Last.LH.take (i:=15) (v:=?v8_15b) rfl (by kernel_rfl) (by kernel_rfl) (by kernel_rfl) (by kernel_rfl) (fun _ _ _ h=>h) (by rfl) ?hy8_15b hHeld ?rest8_15b
  case hy8_15b=>intro W hSW;(try dsimp only at hSW);go_simp;with_reducible rfl
  refine Last.LH.one (i:=16) (by kernel_rfl) rfl (fun K hK=>?_)
  go_simp
  refine hK _ _ (fun h=>absurd rfl h) ?_
  clear hK K hHeld
  refine Last.LH.done (by kernel_rfl) ?_
  obtain⟨w6,hw6⟩:∃w6,w6=(w5.setCell ⟨ob,s,none⟩ (.slice ao' 0 (oc2 - 1))).drew:=⟨_,rfl⟩
  have HW6:Hid (WSt 95 tl w0 P n tg w6 ⟨W.co,W.sw.set s x,W.od.set s r,W.bk,W.pk,W.pn⟩ a sb ob bb kv lv∧Kpt tg tg w4 w6):=by
   rw[hw6]
   exact⟨HCUT.out.1.toExt (Ext.refl _).drew,HW5.out.2.trans (HCUT.out.2.trans (Kpt.ext (Ext.refl _).drew))⟩
  rw[←hw6]
  clear hw6 n10 cv2 fv2 HCUT HV2 hoc2 hol2
  obtain⟨vb,cvb,fvb,hbl,hvb⟩:=HW6.out.1.bks.get hs
  have HVB:=hidp hvb
  have n11:w6.cell? ⟨P,11,none⟩=some (.slice (some ⟨bb,0,none⟩) n n):=HW6.out.1.row.cell (i:=11) (by omega)
  have num6:w6.cell? ⟨w.heap.size,1,none⟩=some (.int .i64 o.n):=(World.cell?_of_block (a:=⟨w.heap.size,1,none⟩) (HW6.out.2.blk w.heap.size HWL.out (Or.inl HTW.out)).2).trans HNUM.out
  have hwl6:w.heap.size<w6.heap.size:=Nat.lt_of_lt_of_le HWL.out HW6.out.2.size
  have hP6:=HW6.out.1.row.lt
  clear hvb
  have HSX:Hid (∀V,Ext w6 V→V.cell? ⟨P,11,none⟩=some (.slice (some ⟨bb,0,none⟩) n n)∧V.cell? ⟨bb,s,none⟩=some vb∧V.cell? ⟨w.heap.size,1,none⟩=some (.int .i64 o.n)):=fun V hV=>⟨(hV.cells.1 _ _ hP6).trans n11,(hV.cells.1 _ _ hbl).trans cvb,(hV.cells.1 _ _ hwl6).trans num6⟩
  go_wp2_with fail
  refine Last.LH.start (m:=19) (S:=fun V=>V.cell? ⟨P,11,none⟩=some (.slice (some ⟨bb,0,none⟩) n n)∧V.cell? ⟨bb,s,none⟩=some vb∧V.cell? ⟨w.heap.size,1,none⟩=some (.int .i64 o.n)) (by kernel_rfl) ?_
  have hHeld:(fun V:World=>V.cell? ⟨P,11,none⟩=some (.slice (some ⟨bb,0,none⟩) n n)∧V.cell? ⟨bb,s,none⟩=some vb∧V.cell? ⟨w.heap.size,1,none⟩=some (.int .i64 o.n)) w6.drew:=⟨n11,cvb,num6⟩
  refine Last.LH.take (i:=0) (v:=?v9_0b) rfl (by kernel_rfl) (by kernel_rfl) (by kernel_rfl) (by kernel_rfl) (fun _ _ _ h=>h) (by rfl) ?hy9_0b hHeld ?rest9_0b
  case hy9_0b=>intro W hSW;(try dsimp only at hSW);go_simp;with_reducible rfl
  refine Last.LH.take (i:=1) (v:=?v9_1b) rfl (by kernel_rfl) (by kernel_rfl) (by kernel_rfl) (by kernel_rfl) (fun _ _ _ h=>h) (by rfl) ?hy9_1b hHeld ?rest9_1b
  case hy9_1b=>intro W hSW;(try dsimp only at hSW);go_simp;with_reducible rfl
  refine Last.LH.take (i:=2) (v:=?v9_2b) rfl (by kernel_rfl) (by kernel_rfl) (by kernel_rfl) (by kernel_rfl) (fun _ _ _ h=>h) (by rfl) ?hy9_2b hHeld ?rest9_2b
  case hy9_2b=>intro W hSW;(try dsimp only at hSW);go_simp;with_reducible rfl
  refine Last.LH.take (i:=3) (v:=?v9_3b) rfl (by kernel_rfl) (by kernel_rfl) (by kernel_rfl) (by kernel_rfl) (fun _ _ _ h=>h) (by rfl) ?hy9_3b hHeld ?rest9_3b
  case hy9_3b=>intro W hSW;(try dsimp only at hSW);go_simp;with_reducible rfl
  refine Last.LH.take (i:=4) (v:=?v9_4b) rfl (by kernel_rfl) (by kernel_rfl) (by kernel_rfl) (by kernel_rfl) (fun _ _ _ h=>h) (by rfl) ?hy9_4b hHeld ?rest9_4b
  case hy9_4b=>intro W hSW;(try dsimp only at hSW);go_simp;with_reducible rfl
  refine Last.LH.take (i:=5) (v:=?v9_5b) rfl (by kernel_rfl) (by kernel_rfl) (by kernel_rfl) (by kernel_rfl) (fun _ _ _ h=>h) (by rfl) ?hy9_5b hHeld ?rest9_5b
  case hy9_5b=>intro W hSW;(try dsimp only at hSW);go_simp;with_reducible rfl
  refine Last.LH.take (i:=6) (v:=?v9_6b) rfl (by kernel_rfl) (by kernel_rfl) (by kernel_rfl) (by kernel_rfl) (fun _ _ _ h=>h) (by rfl) ?hy9_6b hHeld ?rest9_6b
  case hy9_6b=>intro W hSW;(try dsimp only at hSW);go_simp;with_reducible rfl
  refine Last.LH.take (i:=7) (v:=?v9_7b) rfl (by kernel_rfl) (by kernel_rfl) (by kernel_rfl) (by kernel_rfl) (fun _ _ _ h=>h) (by rfl) ?hy9_7b hHeld ?rest9_7b
  case hy9_7b=>intro W hSW;(try dsimp only at hSW);go_simp;with_reducible rfl
  refine Last.LH.take (i:=8) (v:=?v9_8b) rfl (by kernel_rfl) (by kernel_rfl) (by kernel_rfl) (by kernel_rfl) (fun _ _ _ h=>h) (by rfl) ?hy9_8b hHeld ?rest9_8b
  case hy9_8b=>intro W hSW;(try dsimp only at hSW);go_simp;with_reducible rfl
  refine Last.LH.take (i:=9) (v:=?v9_9b) rfl (by kernel_rfl) (by kernel_rfl) (by kernel_rfl) (by kernel_rfl) (fun _ _ _ h=>h) (by rfl) ?hy9_9b hHeld ?rest9_9b
  case hy9_9b=>intro W hSW;(try dsimp only at hSW);go_simp;with_reducible rfl
  refine Last.LH.take (i:=10) (v:=?v9_10b) rfl (by kernel_rfl) (by kernel_rfl) (by kernel_rfl) (by kernel_rfl) (fun _ _ _ h=>h) (by rfl) ?hy9_10b hHeld ?rest9_10b
  case hy9_10b=>intro W hSW;(try dsimp only at hSW);go_simp;with_reducible rfl
  refine Last.LH.take (i:=11) (v:=?v9_11b) rfl (by kernel_rfl) (by kernel_rfl) (by kernel_rfl) (by kernel_rfl) (fun _ _ _ h=>h) (by rfl) ?hy9_11b hHeld ?rest9_11b
  case hy9_11b=>intro W hSW;(try dsimp only at hSW);go_simp;with_reducible rfl
  refine Last.LH.take (i:=12) (v:=?v9_12b) rfl (by kernel_rfl) (by kernel_rfl) (by kernel_rfl) (by kernel_rfl) (fun _ _ _ h=>h) (by rfl) ?hy9_12b hHeld ?rest9_12b
  case hy9_12b=>intro W hSW;(try dsimp only at hSW);go_simp;with_reducible rfl
  refine Last.LH.take (i:=13) (v:=?v9_13b) rfl (by kernel_rfl) (by kernel_rfl) (by kernel_rfl) (by kernel_rfl) (fun _ _ _ h=>h) (by rfl) ?hy9_13b hHeld ?rest9_13b
  case hy9_13b=>intro W hSW;(try dsimp only at hSW);go_simp;with_reducible rfl
  refine Last.LH.take (i:=14) (v:=?v9_14b) rfl (by kernel_rfl) (by kernel_rfl) (by kernel_rfl) (by kernel_rfl) (fun _ _ _ h=>h) (by rfl) ?hy9_14b hHeld ?rest9_14b
  case hy9_14b=>intro W hSW;(try dsimp only at hSW);go_simp;with_reducible rfl
  refine Last.LH.take (i:=15) (v:=?v9_15b) rfl (by kernel_rfl) (by kernel_rfl) (by kernel_rfl) (by kernel_rfl) (fun _ _ _ h=>h) (by rfl) ?hy9_15b hHeld ?rest9_15b
  case hy9_15b=>intro W hSW;(try dsimp only at hSW);go_simp;with_reducible rfl
  refine Last.LH.one (i:=16) (by kernel_rfl) rfl (fun K hK=>?_)
  go_simp
  refine hK _ _ (fun _=>HSX.out _ ((Ext.refl _).alloc _).drew) ?_
  clear hK K hHeld
  have EB:Ext w6 (w6.alloc (.cells #[.int .i64 o.n] 3)).drew:=((Ext.refl w6).alloc _).drew
  refine Last.LH.one (i:=17) (by kernel_rfl) rfl (fun K hK=>?_)
  refine step_append_rw _ rfl (.tmp 79) (.tmp 82) 31 rfl 3 i0 _ 1 8 Try.underlying31 hi0 hz00 hz01 hz02 rfl (by decide) vb (W.bk.getD s []).length ((W.bk.getD s []).map (Value.int .i64)) rfl ?rw9b ⟨w6.heap.size,0,none⟩ 1 [.int .i64 o.n] rfl rfl ?news9b (one1i o.n) ?h639b ?hb9b ?_
  case rw9b=>with_reducible exact(HVB.out.keep (KeepP.ext (S:=fun _=>True) EB) trivial).row
  case news9b=>with_reducible exact news1 rfl (Ext.refl _).drew
  case h639b=>rw[HBK.out];decide
  case hb9b=>rw[HBK.out];decide
  intro g7 off7 cap7 w7 hr7 hg7 hat7
  have HPU:=hidp (WSt.pushB (x:=o.n) (HW6.out.1.toExt EB) hs HI.out.lbk (HVB.out.keep (KeepP.ext (S:=fun _=>True) EB) trivial) hr7 hg7 hat7)
  obtain⟨d11,dvb,dn⟩:=HSX.out _ EB
  have t1:=HW6.out.1.tP
  have t4:=HW6.out.1.bks.1
  have gP:=(grown_keep hg7 HVB.out.tg (b:=P) (by rw[t1];omega) (Nat.lt_of_lt_of_le hP6 EB.size)).1
  have gB:=grown_keep hg7 HVB.out.tg (b:=bb) (by rw[t4];omega) (Nat.lt_of_lt_of_le hbl EB.size)
  have gW:=(grown_keep hg7 HVB.out.tg (b:=w.heap.size) (by rw[HTW.out];omega) (Nat.lt_of_lt_of_le hwl6 EB.size)).1
  have fB7:w7.frozen? ⟨bb,s,none⟩=false:=(gB.2 s).trans ((EB.cells.2 _ _ hbl).trans fvb)
  have hB7:bb<w7.heap.size:=Nat.lt_of_lt_of_le (Nat.lt_of_lt_of_le hbl EB.size) hg7.size
  have hS7:=And.intro ((gP 11).trans d11) (And.intro ((gB.1 s).trans dvb) ((gW 1).trans dn))
  clear gP gB gW d11 dvb dn hr7 hg7 hat7 t1 t4
  have co7:=hS7.2.1
  refine hK _ _ (fun _=>hS7) ?_
  clear hK K
  refine Last.LH.take (i:=18) (v:=?v9_18b) rfl (by kernel_rfl) (by kernel_rfl) (by kernel_rfl) (by kernel_rfl) (fun _ _ _ h=>h) (by rfl) ?hy9_18b hS7 ?rest9_18b
  case hy9_18b=>intro W hSW;(try dsimp only at hSW);go_simp;with_reducible rfl
  refine Last.LH.one (i:=19) (by kernel_rfl) rfl (fun K hK=>?_)
  go_simp
  refine hK _ _ (fun h=>absurd rfl h) ?_
  clear hK K
  refine Last.LH.done (by kernel_rfl) ?_
  clear hS7 co7 fB7
  go_wp2
  go_ret
  rw[HD.out]
  have hWF:=HPU.out.1
  rw[HXE.out] at hWF
  exact⟨rfl,_,a,kv,lv,hWF,((Kpt.ext E4).trans HW6.out.2).trans ((Kpt.ext EB).trans HPU.out.2)⟩
end Go.Proofs.Ytolclgbpjiokfaa.Rm
