/- What tell does, whatever step it is given. -/
import Derived.Test.YtolclgbpjiokfaaU11
import Derived.Test.YtolclgbpjiokfaaU10
import Derived.Deep.RegionLaw
import Derived.Deep.RegionHeld3
import Derived.Deep.DeepCutAuto
namespace Go.Proofs.Ytolclgbpjiokfaa.Ct
open Go.RowKit Go.Deep Stw Stp Tb Rul
def Sw2 (W:World) (s:Int):World:=(W.alloc (.cells #[.int .i64 s] 3)).alloc (.cells #[.int .i64 0,.int .i64 0,.int .i64 0,.slice none 0 0,.slice none 0 0] 135)
theorem Sw2_size (W:World) (s:Int):(Sw2 W s).heap.size=W.heap.size+1+1:=by unfold Sw2;simp
theorem Sw2_ext (W:World) (s:Int):Ext W (Sw2 W s):=((Ext.refl W).alloc _).alloc _
structure SB (V:World) (b:Nat) (s:Int):Prop where
 all:V.cell? ⟨b,0,none⟩=some (.int .i64 s)∧V.cell? ⟨b+1,0,none⟩=some (.int .i64 0)∧V.cell? ⟨b+1,1,none⟩=some (.int .i64 0)∧V.cell? ⟨b+1,2,none⟩=some (.int .i64 0)∧V.cell? ⟨b+1,3,none⟩=some (.slice none 0 0)∧V.cell? ⟨b+1,4,none⟩=some (.slice none 0 0)∧(∀i,V.frozen? ⟨b+1,i,none⟩=false)∧b+1<V.heap.size
theorem SB.of {W V:World} {s:Int} (E:Ext (Sw2 W s) V):SB V W.heap.size s:=by
 have l0:W.heap.size<(Sw2 W s).heap.size:=by rw[Sw2_size];omega
 have l1:W.heap.size+1<(Sw2 W s).heap.size:=by rw[Sw2_size];omega
 obtain⟨hc,hf⟩:=E.cells
 refine⟨?_,?_,?_,?_,?_,?_,fun i=>?_,Nat.lt_of_lt_of_le l1 E.size⟩
 ·rw[hc _ _ l0];unfold Sw2;first | (simp;done) | (simp[go_sem];done)
 ·rw[hc _ _ l1];unfold Sw2;first | (simp;done) | (simp[go_sem];done)
 ·rw[hc _ _ l1];unfold Sw2;first | (simp;done) | (simp[go_sem];done)
 ·rw[hc _ _ l1];unfold Sw2;first | (simp;done) | (simp[go_sem];done)
 ·rw[hc _ _ l1];unfold Sw2;first | (simp;done) | (simp[go_sem];done)
 ·rw[hc _ _ l1];unfold Sw2;first | (simp;done) | (simp[go_sem];done)
 ·rw[hf _ _ l1];unfold Sw2;first | (simp;done) | (simp[go_sem];done)
theorem ost_start {W:World} {b:Nat} (h:W.heap.size=b) (v:Int):OSt b W (W.alloc (.cells #[.int .i64 2,.int .i64 0,.int .i64 v,.slice none 0 0,.slice none 0 0] 135)) v (.slice none 0 0) []:=by
 subst h
 refine⟨?_,World.ownsRow_nil _ _ _ _,(Below.refl _ _).alloc (by omega) _⟩
 exact World.rowIs_alloc W #[.int .i64 2,.int .i64 0,.int .i64 v,.slice none 0 0,.slice none 0 0] 135 _ (fun i hi=>by
  have hi':i<5:=hi
  match i,hi' with
  | 0,_ | 1,_ | 2,_ | 3,_ | 4,_=>simp)
def S1Out (W:World) (v:Int) (L:List Int) (B:Bool) (e:Ending) (w':World):Prop:=∃fo fc,e=.returned (.tuple #[.agg #[.int .i64 2,.int .i64 0,.int .i64 v,.slice none 0 0,.slice fo L.length fc],.bool B])∧LQ w' (fun b=>W.heap.size≤b) L (.slice fo L.length fc)∧Ext W w'
abbrev S6 (b pw:Nat) (v:Int) (fv nv:Value) (V:World):Prop:=V.cell? ⟨b+1+1,0,none⟩=some (.int .i64 2)∧V.cell? ⟨b+1+1,1,none⟩=some (.int .i64 0)∧V.cell? ⟨b+1+1,2,none⟩=some (.int .i64 v)∧V.cell? ⟨b+1+1,3,none⟩=some (.slice none 0 0)∧V.cell? ⟨b+1+1,4,none⟩=some fv∧V.cell? ⟨pw,1,none⟩=some nv
theorem S6.set {b pw i:Nat} {v:Int} {fv nv u:Value} {V:World} (h:S6 b pw v fv nv V) (hp:pw<b):S6 b pw v fv nv (V.setCell ⟨b+1,i,none⟩ u):=by
 obtain⟨h0,h1,h2,h3,h4,h5⟩:=h
 have oth:∀(c j:Nat),c≠b+1→(V.setCell ⟨b+1,i,none⟩ u).cell? ⟨c,j,none⟩=V.cell? ⟨c,j,none⟩:=fun c j hc=>World.cell?_setCell_other V ⟨b+1,i,none⟩ ⟨c,j,none⟩ u (fun e=>by cases e;exact hc rfl)
 exact⟨(oth _ _ (by omega)).trans h0,(oth _ _ (by omega)).trans h1,(oth _ _ (by omega)).trans h2,(oth _ _ (by omega)).trans h3,(oth _ _ (by omega)).trans h4,(oth _ _ (by omega)).trans h5⟩
set_option maxRecDepth 100000 in
set_option maxHeartbeats 4000000 in
theorem stamping1_any (v:Int) (pn pw s:Nat) (xo no:Option Addr) (xc nc:Nat) (xfs nfs:List Stf.Fl) (W:World) (h0:W.cell? ⟨pn,0,none⟩=some (.int .i64 v)) (h1:W.cell? ⟨pn,1,none⟩=some (.slice xo xfs.length xc)) (h2:W.cell? ⟨pw,1,none⟩=some (.slice no nfs.length nc)) (l1:pn<W.heap.size) (l2:pw<W.heap.size)
 (hx:Fw.FlowsAt W xo xfs) (hn:Fw.FlowsAt W no nfs) (hxl:xfs.length≤16777216) (hnl:nfs.length≤16777216):
 Calls Try.prog 117 #[.int .i64 s,.pointer (some ⟨pn,0,none⟩),.pointer (some ⟨pw,0,none⟩)] W fun e w'=>S1Out W v (beg s xfs xfs.length) (decide (beg s xfs xfs.length≠[]) || decide (beg s nfs nfs.length≠[])) e w':=by
 obtain⟨i0,hi0,hz00,hz01,hz02⟩:=info_parts infoI
 have HPN:Hid (∀V,Ext W V→V.cell? ⟨pw,1,none⟩=some (.slice no nfs.length nc)∧pw<V.heap.size):=fun V hV=>⟨(hV.cells.1 _ _ l2).trans h2,Nat.lt_of_lt_of_le l2 hV.size⟩
 have h13:(((W.alloc (.cells #[.int .i64 s] 3)).alloc (.cells #[.int .i64 0,.int .i64 0,.int .i64 0,.slice none 0 0,.slice none 0 0] 135)).alloc (.cells #[.int .i64 2,.int .i64 0,.int .i64 v,.slice none 0 0,.slice none 0 0] 135)).cell? ⟨pn,1,none⟩=some (.slice xo xfs.length xc):=(((Sw2_ext W s).alloc _).cells.1 _ _ l1).trans h1
 go_enter Try.func117,Try.ntmps117
 go_wp2
 obtain⟨W2,hW2⟩:∃W2,W2=(W.alloc (.cells #[.int .i64 s] 3)).alloc (.cells #[.int .i64 0,.int .i64 0,.int .i64 0,.slice none 0 0,.slice none 0 0] 135):=⟨_,rfl⟩
 have hE2:Ext W W2:=by rw[hW2];exact Sw2_ext W s
 have HS2:Hid (W2.heap.size=W.heap.size+1+1):=by show _=_;rw[hW2];exact Sw2_size W s
 have HSB:Hid (∀V,Below (W.heap.size+1+1) W2 V→SB V W.heap.size s):=fun V hV=>SB.of (W:=W) (by show Below _ _ _;rw[Sw2_size];rw[hW2] at hV;exact hV)
 rw[←hW2]
 clear hW2 h0 h1 h2 h13
 go_loopw [17] (fun iv wr=>∃(k:Nat) (fv:Value),k≤xfs.length∧iv=.int .i64 k∧Hid (OSt (W.heap.size+1+1) W2 wr v fv (beg s xfs k))) (fun iv _=>xfs.length - (intOf iv).toNat)
 case atStart=>exact⟨0,.slice none 0 0,Nat.zero_le _,rfl,ost_start HS2.out _⟩
 case round=>
  obtain⟨k,fv,hk,rfl,HOS⟩:=hrel
  have hEr:Ext W wr:=Below.trans hE2 (HOS.out.bel.mono (by omega))
  obtain⟨b0,r0,r1,r2,r3,r4,rz,hbs⟩:=(HSB.out _ HOS.out.bel).all
  have hPl:=HOS.out.row.lt
  by_cases hlt:k<xfs.length
  ·obtain⟨b,off,vo,vc,no',nc',a,t,X,Y,rfl,hb,hg,c0,c1,c2,c3,⟨_,_,e1,hv,hvc⟩,⟨_,_,e2,hn',hnc⟩⟩:=(hx.ext hEr).get (k:=k) (by omega)
   cases e1
   cases e2
   have i1:(k:Int)<(xfs.length:Int):=by omega
   have HG:=hidp hg
   clear hg r0 r1 r2 r3 r4 rz
   have l0:W.heap.size<wr.heap.size:=by omega
   go_wp2_with fail
   refine(begins_any ⟨a,t,X,Y⟩ _ _ s W.heap.size _ ((World.cell?_alloc_past _ _ _ l0).trans b0) (by simp;omega)).mono ?_
   rintro e w1 ⟨rfl,E1⟩
   have E1':Ext wr w1:=((Ext.refl wr).alloc _).trans E1
   have HO1:=hidp (HOS.out.ext E1')
   have hPl1:=HO1.out.row.lt
   clear c0 c1 c2 c3 b0 HOS
   by_cases h1:a=s
   ·have HB:Hid (beg s xfs (k+1)=beg s xfs k++[(k:Int)]):=by show _=_;rw[beg,HG.out,if_pos h1]
    have b1:(a == (s:Int))=true:=by simpa using h1
    rw[show((⟨a,t,X,Y⟩:Stf.Fl).fr == (s:Int))=true from b1]
    clear h1 b1
    have hbl:=beg_len (s:=s) (fs:=xfs) k
    obtain⟨L,hL⟩:∃L,beg s xfs k=L:=⟨_,rfl⟩
    rw[hL] at HO1 HB hbl
    clear hL
    have q4:w1.cell? ⟨W.heap.size+1+1,4,none⟩=some fv:=HO1.out.row.cell (i:=4) (by omega)
    go_wp2_with (first | (at_builtin;refine wpList_append_lies _ rfl _ _ 31 rfl (W.heap.size+1+1+1) 3 i0 (.int .i64 0) 1 8 Try.underlying31 hi0 hz00 hz01 hz02 rfl (by decide) _ _ _ rfl (HO1.out.own.alloc _) ⟨w1.heap.size,0,none⟩ 1 1 [.int .i64 (k:Int)] rfl rfl (news1' rfl _ _) (one1i _) (by decide) (by unfold maxLen;omega) (by omega) (by simp;omega) _ rfl ?_) | go_in)
    intro g7 gc7 w7 hown7 hgr7 hat7 hlt7
    have H7:=hidp (HO1.out.push hown7 hgr7)
    have q7:=H7.out.1
    have q7z:=H7.out.2.1
    clear hown7 hgr7 hat7 q4
    go_wp2
    refine⟨⟨k+1,_,by omega,by go_num,by rw[HB.out];exact H7.out.2.2⟩,by simp[intOf];omega⟩
   ·have HB:Hid (beg s xfs (k+1)=beg s xfs k):=by show _=_;rw[beg,HG.out,if_neg h1,List.append_nil]
    have b1:(a == (s:Int))=false:=by simpa using h1
    rw[show((⟨a,t,X,Y⟩:Stf.Fl).fr == (s:Int))=false from b1]
    clear h1 b1
    go_wp2
    exact⟨⟨k+1,fv,by omega,by go_num,by rw[HB.out];exact HO1⟩,by simp[intOf];omega⟩
  ·have i1:¬(k:Int)<(xfs.length:Int):=by omega
   have hkl:k=xfs.length:=by omega
   rw[hkl] at HOS
   clear hkl
   obtain⟨L,hL⟩:∃L,beg s xfs xfs.length=L:=⟨_,rfl⟩
   have hLl:L.length≤16777216:=by rw[←hL];exact Nat.le_trans (beg_len _) hxl
   rw[hL] at HOS
   have HLL:=hidp hL
   clear hL
   have hfn:=fn_own HOS.out.own
   obtain⟨fo,fc,rfl,hfn'⟩:=hfn
   have HFN:Hid (LQ wr (fun b=>W.heap.size+1+1+1≤b) L (.slice fo L.length fc)):=FN.lq ⟨fo,fc,rfl,hfn'⟩
   clear hfn'
   have HO:=hidp (fun(V:World) (hV:Ext wr V)=>(HOS.out.ext hV).row)
   obtain⟨q2,q2l⟩:=HPN.out _ hEr
   have z0:=rz 0
   have z1:=rz 1
   have z2:=rz 2
   have z3:=rz 3
   have z4:=rz 4
   have o0:wr.cell? ⟨W.heap.size+1+1,0,none⟩=some (.int .i64 2):=HOS.out.row.cell (i:=0) (by omega)
   have o1:wr.cell? ⟨W.heap.size+1+1,1,none⟩=some (.int .i64 0):=HOS.out.row.cell (i:=1) (by omega)
   have o2:wr.cell? ⟨W.heap.size+1+1,2,none⟩=some (.int .i64 v):=HOS.out.row.cell (i:=2) (by omega)
   have o3:wr.cell? ⟨W.heap.size+1+1,3,none⟩=some (.slice none 0 0):=HOS.out.row.cell (i:=3) (by omega)
   have o4:wr.cell? ⟨W.heap.size+1+1,4,none⟩=some (.slice fo L.length fc):=HOS.out.row.cell (i:=4) (by omega)
   clear rz
   have HSBr:Hid (∀V,Ext wr V→SB V W.heap.size s):=fun V hV=>HSB.out V (below_ext HOS.out.bel hV (by have:=HOS.out.row.lt;omega))
   go_wp2
   by_cases hL0:L=[]
   ·have HNC:Hid (∀V,Ext wr V→Calls Try.prog 119 #[.slice no nfs.length nc,.func (.func 118) #[] #[.pointer (some ⟨W.heap.size,0,none⟩)]] V fun e w'=>e=.returned (.bool (decide (beg s nfs nfs.length≠[])))∧Ext V w'):=fun V hV=>
     ContainsFunc_any no nc nfs s W.heap.size V ((hn.ext hEr).ext hV) hnl (HSBr.out V hV).all.1 (by have:=(HSBr.out V hV).all.2.2.2.2.2.2.2;omega)
    subst hL0
    simp only[List.length_nil] at o4 HO HFN
    have hd:Ext wr wr.drew:=(Ext.refl wr).drew
    have HS6:Hid (∀V,Ext wr V→S6 W.heap.size pw v (.slice fo 0 fc) (.slice no nfs.length nc) V):=fun V hV=>⟨(HO.out _ hV).cell (i:=0) (by omega),(HO.out _ hV).cell (i:=1) (by omega),(HO.out _ hV).cell (i:=2) (by omega),(HO.out _ hV).cell (i:=3) (by omega),(HO.out _ hV).cell (i:=4) (by omega),(HPN.out _ (hEr.trans hV)).1⟩
    clear b0 r0 r1 r2 r3 r4 z0 z1 z2 z3 z4
    obtain⟨B,hB⟩:∃B,decide (beg s nfs nfs.length≠[])=B:=⟨_,rfl⟩
    have HD:Hid ((decide (([]:List Int)≠[]) || decide (beg s nfs nfs.length≠[]))=B):=by show _=_;rw[hB];simp
    rw[hB] at HNC
    clear hB
    go_region_held3 (fun V=>V.cell? ⟨W.heap.size+1+1,0,none⟩=some (.int .i64 2)∧V.cell? ⟨W.heap.size+1+1,1,none⟩=some (.int .i64 0)∧V.cell? ⟨W.heap.size+1+1,2,none⟩=some (.int .i64 v)∧V.cell? ⟨W.heap.size+1+1,3,none⟩=some (.slice none 0 0)∧V.cell? ⟨W.heap.size+1+1,4,none⟩=some (.slice fo 0 fc)∧V.cell? ⟨pw,1,none⟩=some (.slice no nfs.length nc))
     (first | with_reducible exact HS6.out _ hd | with_reducible exact HS6.out _ mk1 | with_reducible exact(((((S6.set (HS6.out _ mk1) l2).set l2).set l2).set l2).set l2))
     (first
     | (go_at_call 119
        refine(HNC.out _ hd).mono ?_
        rintro e w1 ⟨rfl,E1⟩
        have mk1:=hd.trans E1
        obtain⟨b0,r0,r1,r2,r3,r4,rz,hbs1⟩:=(HSBr.out _ mk1).all
        have z0:=rz 0
        have z1:=rz 1
        have z2:=rz 2
        have z3:=rz 3
        have z4:=rz 4
        clear rz)
     | fail)
    all_goals
     go_wp2
     refine bodyPost_ret (v:=.tuple #[.agg #[.int .i64 2,.int .i64 0,.int .i64 v,.slice none 0 0,.slice fo 0 fc],.bool B]) (by simp[results,Try.results117,go_sem,r0,r1,r2,r3,r4]) rfl ?_
     rw[HLL.out,HD.out]
     refine⟨fo,fc,rfl,?_,((((((hEr.trans mk1).setCell (by simp) _).setCell (by simp) _).setCell (by simp) _).setCell (by simp) _).setCell (by simp) _)⟩
     refine HFN.out.mono (fun b hb hlt=>⟨by omega,by have:=mk1.size;simp;omega,?_⟩)
     rw[blk_setCell_other _ _ _ _ (by simp;omega),blk_setCell_other _ _ _ _ (by simp;omega),blk_setCell_other _ _ _ _ (by simp;omega),blk_setCell_other _ _ _ _ (by simp;omega),blk_setCell_other _ _ _ _ (by simp;omega)]
     exact Below.block mk1 b hlt
   ·have i2:0<L.length:=by cases L with
     | nil=>exact absurd rfl hL0
     | cons=>simp
    have HD:Hid ((decide (L≠[]) || decide (beg s nfs nfs.length≠[]))=true):=by show _=_;simp[hL0]
    clear hL0
    go_region
    go_wp2
    refine bodyPost_ret (v:=.tuple #[.agg #[.int .i64 2,.int .i64 0,.int .i64 v,.slice none 0 0,.slice fo L.length fc],.bool true]) (by simp[results,Try.results117,go_sem,r0,r1,r2,r3,r4]) rfl ?_
    rw[HLL.out,HD.out]
    refine⟨fo,fc,rfl,?_,(((((hEr.setCell (by simp) _).setCell (by simp) _).setCell (by simp) _).setCell (by simp) _).setCell (by simp) _).drew⟩
    refine HFN.out.mono (fun b hb hlt=>⟨by omega,by simpa using hlt,?_⟩)
    show(World.setCell _ _ _).heap[b]? =_
    rw[blk_setCell_other _ _ _ _ (by simp;omega),blk_setCell_other _ _ _ _ (by simp;omega),blk_setCell_other _ _ _ _ (by simp;omega),blk_setCell_other _ _ _ _ (by simp;omega),blk_setCell_other _ _ _ _ (by simp;omega)]
theorem stpO_some {now nxt:Pl} {s:Nat}:(stpO now nxt s).isSome=(decide (beg s nxt.fs nxt.fs.length≠[]) || decide (beg s now.fs now.fs.length≠[])):=by
 unfold stpO
 by_cases h1:beg s nxt.fs nxt.fs.length=[]
 ·by_cases h2:beg s now.fs now.fs.length=[] <;> simp[h1,h2]
 ·simp[h1]
set_option maxRecDepth 100000 in
set_option maxHeartbeats 800000 in
theorem stamping_any (now nxt:Pl) (an ax:PA) (n:Nat) (w0 w:World) (hn:PlAt w0 now an) (hx:PlAt w0 nxt ax) (hnk:PlOk now) (hxk:PlOk nxt):
 Calls Try.prog 111 #[pvl now an,pvl nxt ax] w fun e w'=>StepOf 117 n (stpO now nxt) w0 w w' e:=by
 obtain⟨nv,nfs,nps⟩:=now
 obtain⟨nfo,nqo,nfc,nqc⟩:=an
 obtain⟨xv,xfs,xps⟩:=nxt
 obtain⟨xfo,xqo,xfc,xqc⟩:=ax
 have hnf:Fw.FlowsAt w0 nfo nfs:=hn.hf
 have hxf:Fw.FlowsAt w0 xfo xfs:=hx.hf
 have hnl:nfs.length≤16777216:=hnk.fl
 have hxl:xfs.length≤16777216:=hxk.fl
 clear hn hx hnk hxk
 unfold pvl
 show Calls _ _ #[.agg #[.int .i64 nv,.slice nfo nfs.length nfc,.slice nqo nps.length nqc],.agg #[.int .i64 xv,.slice xfo xfs.length xfc,.slice xqo xps.length xqc]] _ _
 go_enter Try.func111,Try.ntmps111
 go_wp2
 go_ret
 refine⟨w.heap.size+1,w.heap.size,rfl,((Ext.refl w).alloc _).alloc _,fun Q W hk hW hfr s hs=>?_⟩
 have k0:=hk w.heap.size (Nat.le_refl _) (by simp;omega)
 have k1:=hk (w.heap.size+1) (by omega) (by simp)
 refine(stamping1_any xv (w.heap.size+1) w.heap.size s xfo nfo xfc nfc xfs nfs W ((World.cell?_of_block (a:=⟨w.heap.size+1,0,none⟩) k1.2.2).trans (by simp)) ((World.cell?_of_block (a:=⟨w.heap.size+1,1,none⟩) k1.2.2).trans (by simp)) ((World.cell?_of_block (a:=⟨w.heap.size,1,none⟩) k0.2.2).trans (by simp)) k1.2.1 k0.2.1 (hxf.ext hW) (hnf.ext hW) hxl hnl).mono ?_
 rintro e w2 ⟨fo,fc,rfl,hL,E2⟩
 refine⟨⟨2,xv,none,fo,0,0,(beg s xfs xfs.length).length,fc,?_,fun x hx=>?_⟩,E2⟩
 ·rw[stpO_some]
 ·unfold stpO at hx
  split at hx
  ·cases hx
  ·cases hx
   exact⟨rfl,rfl,RQ.nil _ _,hL.mono (fun b hb hlt=>⟨hfr b hb,hlt,rfl⟩)⟩
end Go.Proofs.Ytolclgbpjiokfaa.Ct
namespace Go.Proofs.Ytolclgbpjiokfaa.Ct
open Go.RowKit Go.Deep Stw Stp Tb Rul
theorem CSt.fresh {B:Nat} {X:Nat→Prop} {P n:Nat} {w0 w:World} {g:Cg} {a:CA} {wv tv:Value} {TV:List Value} (h:CSt B X P w0 w g a n wv tv TV):∀b,w.heap.size≤b→Qn P tv wv b:=fun b hb=>by
 have hP:=h.row.lt
 refine⟨by omega,fun e=>?_,fun e=>?_⟩
 ·have:=(h.ownW.lt b e).2;omega
 ·have:=(h.ownT.lt b e).2;omega
theorem told_zero (ord:Nat→Option Wir.Od) (g:Cg):told 0 ord g=g:=rfl
theorem told_none {k:Nat} {ord:Nat→Option Wir.Od} {g:Cg} (h:ord k=none):told (k+1) ord g=told k ord g:=by
 unfold told;rw[tel,h];rfl
theorem told_some {k:Nat} {ord:Nat→Option Wir.Od} {g:Cg} {x:Wir.Od} (h:ord k=some x):told (k+1) ord g=
 ⟨⟨(told k ord g).c.st,(told k ord g).c.now,(told k ord g).c.nxt,nx (told k ord g).c.num,(told k ord g).c.wts++[nx (told k ord g).c.num]⟩,(told k ord g).out++[(k,⟨x.k,nx (told k ord g).c.num,x.v,x.rs,x.fs⟩)]⟩:=by
 unfold told;rw[tel,h];rfl
theorem told_len {ord:Nat→Option Wir.Od} {g:Cg}:∀k,(told k ord g).c.wts.length≤g.c.wts.length+k∧(told k ord g).out.length≤g.out.length+k
 | 0=>⟨Nat.le_refl _,Nat.le_refl _⟩
 | k+1=>by
  have ih:=told_len (ord:=ord) (g:=g) k
  cases h:ord k with
  | none=>rw[told_none h];omega
  | some x=>rw[told_some h];simp only[List.length_append,List.length_cons,List.length_nil];omega
theorem enter_any {F:Nat} (hF:F=95∨F=110∨F=117):∀(args:Array Value) (W:World),(callFunc F args).run Try.prog W=.ok (.enter F args) W:=by
 intro args W
 rcases hF with rfl | rfl | rfl <;> kernel_rfl
def TeOut (B:Nat) (X:Nat→Prop) (P:Nat) (w0 w:World) (G:Cg) (a:CA) (n:Nat) (wv tv:Value) (e:Ending) (w':World):Prop:=e=.returned (.tuple #[])∧∃wv' tv' TV',CSt B X P w0 w' G a n wv' tv' TV'∧Kp P w tv wv w' tv' wv'
set_option maxRecDepth 100000 in
set_option maxHeartbeats 4000000 in
theorem tell_any (B:Nat) (X:Nat→Prop) (F p1 p2 P n:Nat) (ord:Nat→Option Wir.Od) (w0 w:World) (g:Cg) (a:CA) (wv tv:Value) (TV:List Value) (h:CSt B X P w0 w g a n wv tv TV) (hF:F=95∨F=110∨F=117) (hX:∀b,w.heap.size≤b→X b) (hn:n≤8) (hwl:g.c.wts.length≤16777216) (hol:g.out.length≤100)
 (hst:∀W tv' wv',Kp P w tv wv W tv' wv'→Ext w0 W→(∀b,W.heap.size≤b→Qn P tv' wv' b∧X b)→∀s:Nat,s<n→Calls Try.prog F #[.int .i64 s,.pointer (some ⟨p1,0,none⟩),.pointer (some ⟨p2,0,none⟩)] W fun e w'=>StOut (fun b=>Qn P tv' wv' b∧X b) (ord s) e w'∧Ext W w'):
 Calls Try.prog 84 #[.pointer (some ⟨P,0,none⟩),.func (.func F) #[] #[.pointer (some ⟨p1,0,none⟩),.pointer (some ⟨p2,0,none⟩)]] w fun e w'=>TeOut B X P w0 w (told n ord g) a n wv tv e w':=by
 have HCF:=hidp (enter_any hF)
 have HXX:=hidp hX
 clear hX
 have HST:=hidp hst
 have HC:=hidp h
 clear hst
 obtain⟨i0,hi0,hz00,hz01,hz02⟩:=info_parts infoI
 obtain⟨j0,hj0,hy0,hy1,hy2⟩:=info_parts infoT
 have s9:w.cell? ⟨P,9,none⟩=some (.int .i64 n):=h.row.cell (i:=9) (by omega)
 clear h
 go_enter Try.func84,Try.ntmps84
 go_wp2
 clear s9
 go_loopw [11] (fun iv wr=>∃(k:Nat) (wv' tv':Value) (TV':List Value),k≤n∧iv=.int .i64 k∧Hid (CSt B X P w0 wr (told k ord g) a n wv' tv' TV')∧Hid (Kp P w tv wv wr tv' wv')) (fun iv _=>n - (intOf iv).toNat)
 case atStart=>exact⟨0,wv,tv,TV,Nat.zero_le _,rfl,HC,Kp.ext (Ext.refl w)⟩
 case round=>
  obtain⟨k,wv',tv',TV',hk,rfl,HC1,HK1⟩:=hrel
  by_cases hlt:k<n
  ·have i1:(k:Int)<(n:Int):=by omega
   have HL:=hidp (told_len (ord:=ord) (g:=g) k)
   go_wp2_with fail
   rw[HCF.out]
   refine Calls.mono (HST.out wr tv' wv' HK1.out HC1.out.bel (fun b hb=>⟨HC1.out.fresh b hb,HXX.out b (Nat.le_trans HK1.out.size hb)⟩) k hlt) ?_
   rintro e w1 ⟨⟨ok,ov,ro,fo,rl,rc,fl,fc,rfl,hx⟩,E1⟩
   have HX:=hidp hx
   clear hx
   have HC2:=hidp (HC1.out.ext E1)
   have HK2:=hidp (HK1.out.trans (Kp.ext E1))
   clear HC1 HK1
   cases ho:ord k with
   | none=>
    have HT:=hidp (told_none (g:=g) ho)
    clear ho
    go_wp2
    refine⟨⟨k+1,wv',tv',TV',by omega,by go_num,?_,?_⟩,by simp[intOf];omega⟩
    ·rw[HT.out];exact HC2.out.ext ((Ext.refl w1).alloc _)
    ·exact HK2.out.trans (Kp.ext ((Ext.refl w1).alloc _))
   | some x=>
    have HT:=hidp (told_some (g:=g) ho)
    have HX2:=hidp (HX.out x ho)
    clear ho HX
    obtain⟨G,hG⟩:∃G,told k ord g=G:=⟨_,rfl⟩
    rw[hG] at HC2 HT HL
    clear hG
    obtain⟨⟨st,now,nxt,num,wts⟩,out⟩:=G
    simp only at HC2 HT HL
    obtain⟨m,hm⟩:∃m,nx num=m:=⟨_,rfl⟩
    rw[hm] at HT
    have hm':IntKind.i64.wrap (num+1)=m:=hm
    have c7:w1.cell? ⟨P,7,none⟩=some (.int .i64 num):=HC2.out.row.cell (i:=7) (by omega)
    have z7:=HC2.out.row.frozen 7
    have hPl:=HC2.out.row.lt
    clear hm
    go_upto_region 7 with fail
    obtain⟨w4,hw4⟩:∃w4,w4=(w1.setCell ⟨P,7,none⟩ (.int .i64 m)).alloc (.cells #[.int .i64 ok,.int .i64 m,.int .i64 ov,.slice ro rl rc,.slice fo fl fc] 135):=⟨_,rfl⟩
    have E4:Ext (w1.setCell ⟨P,7,none⟩ (.int .i64 m)) w4:=by rw[hw4];exact(Ext.refl _).alloc _
    have HC4:Hid (CSt B X P w0 w4 ⟨⟨st,now,nxt,m,wts⟩,out⟩ a n wv' tv' TV'):=(HC2.out.put (g':=⟨⟨st,now,nxt,m,wts⟩,out⟩) 7 (by omega) (.int .i64 m) rfl rfl rfl HC2.out.hn HC2.out.hx).ext E4
    have k4:Kp P w1 tv' wv' w4 tv' wv':=CSt.kput.trans (Kp.ext E4)
    have HK4:Hid (Kp P w tv wv w4 tv' wv'):=HK2.out.trans k4
    have HR4:Hid (ok=x.k∧ov=x.v∧RQ w4 (fun b=>Qn P tv' wv' b∧X b) x.rs (.slice ro rl rc)∧LQ w4 (fun b=>Qn P tv' wv' b∧X b) x.fs (.slice fo fl fc)):=⟨HX2.out.1,HX2.out.2.1,HX2.out.2.2.1.mono k4.hx,HX2.out.2.2.2.mono k4.hx⟩
    have HB4:Hid (w4.heap[w1.heap.size]? =some (.cells #[.int .i64 ok,.int .i64 m,.int .i64 ov,.slice ro rl rc,.slice fo fl fc] 135 (0,0))∧w1.heap.size<w4.heap.size∧w1.heap.size≠P∧wv'.ownBlock≠some w1.heap.size):=by
     refine⟨?_,by rw[hw4];simp,by omega,fun e=>?_⟩
     ·rw[hw4]
      have:=blk_alloc_new (w1.setCell ⟨P,7,none⟩ (.int .i64 m)) (.cells #[.int .i64 ok,.int .i64 m,.int .i64 ov,.slice ro rl rc,.slice fo fl fc] 135)
      rwa [show(w1.setCell ⟨P,7,none⟩ (.int .i64 m)).heap.size=w1.heap.size by simp] at this
     ·have:=(HC2.out.ownW.lt _ e).2;omega
    rw[←hw4]
    clear hw4 E4 k4 c7 z7 hPl HC2 HK2 HX2 E1
    obtain⟨b,hb⟩:∃b,b=w1.heap.size:=⟨_,rfl⟩
    rw[←hb] at HB4 ⊢
    clear hb
    have q8:w4.cell? ⟨P,8,none⟩=some wv':=HC4.out.row.cell (i:=8) (by omega)
    have o1:w4.cell? ⟨b,1,none⟩=some (.int .i64 m):=box_cell HB4.out.1 1
    have hPl:=HC4.out.row.lt
    have hb4:=HB4.out.2.1
    have hL:=HL.out
    have HFIN:Hid (∀(g5 gc5:Nat) (w5:World),w5.ownsRow w0.heap.size 3 1 (.slice (some ⟨g5,0,none⟩) (wts.length+1) gc5) (wts.length+1) (wts.map (Value.int .i64)++[.int .i64 m])→(w4.alloc (.cells #[.int .i64 m] 3)).grownBy w5 wv'.ownBlock→(wv'.ownBlock=some g5∨g5=w4.heap.size+1)→
     w5.cell? ⟨P,8,none⟩=some wv'∧w5.frozen? ⟨P,8,none⟩=false∧Hid (CSt B X P w0 (w5.setCell ⟨P,8,none⟩ (.slice (some ⟨g5,0,none⟩) (wts.length+1) gc5)) ⟨⟨st,now,nxt,m,wts++[m]⟩,out⟩ a n (.slice (some ⟨g5,0,none⟩) (wts.length+1) gc5) tv' TV'∧Kp P w tv wv (w5.setCell ⟨P,8,none⟩ (.slice (some ⟨g5,0,none⟩) (wts.length+1) gc5)) tv' (.slice (some ⟨g5,0,none⟩) (wts.length+1) gc5)∧
      ok=x.k∧ov=x.v∧RQ (w5.setCell ⟨P,8,none⟩ (.slice (some ⟨g5,0,none⟩) (wts.length+1) gc5)) (fun b=>Qn P tv' (.slice (some ⟨g5,0,none⟩) (wts.length+1) gc5) b∧X b) x.rs (.slice ro rl rc)∧LQ (w5.setCell ⟨P,8,none⟩ (.slice (some ⟨g5,0,none⟩) (wts.length+1) gc5)) (fun b=>Qn P tv' (.slice (some ⟨g5,0,none⟩) (wts.length+1) gc5) b∧X b) x.fs (.slice fo fl fc)∧
      (w5.setCell ⟨P,8,none⟩ (.slice (some ⟨g5,0,none⟩) (wts.length+1) gc5)).heap[b]? =some (.cells #[.int .i64 ok,.int .i64 m,.int .i64 ov,.slice ro rl rc,.slice fo fl fc] 135 (0,0)))):=fun g5 gc5 w5 hown5 hgr5 hat5=>by
     obtain⟨r1,r2,r3,r4,r5⟩:=HC4.out.pushW hown5 hgr5 hat5
     exact⟨r1,r2,r3,HK4.out.trans r4,HR4.out.1,HR4.out.2.1,HR4.out.2.2.1.mono r4.hx,HR4.out.2.2.2.mono r4.hx,(r5 b HB4.out.2.1 HB4.out.2.2.1 HB4.out.2.2.2).trans HB4.out.1⟩
    go_region_law
     (refine step_append_lies _ ?_ (.tmp 42) (.tmp 45) 31 ?_ w0.heap.size 3 i0 (.int .i64 0) 1 8 Try.underlying31 hi0 hz00 hz01 hz02 rfl (by decide) wv' wts.length (wts.map (Value.int .i64)) ?_ ?_ ⟨w4.heap.size,0,none⟩ 1 1 [.int .i64 m] ?_ ?_ ?_ (one1i _) ?_ ?_ ?_ ?_ _ rfl ?_
      ·rfl
      ·rfl
      ·rfl
      ·exact own_extU HC4.out.ownW ((Ext.refl w4).alloc _).drew
      ·rfl
      ·rfl
      ·exact World.news_of_block (cs:=#[.int .i64 m]) (blk_alloc_new w4 _)
      ·omega
      ·unfold maxLen;omega
      ·omega
      ·have:=HC4.out.bel.size;simp;omega
      intro g5 gc5 w5 hown5 hgr5 hat5 hlt5
      have hfin:=HFIN.out g5 gc5 w5 hown5 ⟨hgr5.os,hgr5.tape,hgr5.output,hgr5.size,hgr5.block⟩ (hat5.imp id (fun h=>by simpa using h))
      have q1:=hfin.1
      have q2:=hfin.2.1
      have HG5:=hidp hfin.2.2.out
      clear hown5 hgr5 hat5 hlt5 hfin)
    all_goals
     clear q8 o1 HFIN HC4 HK4 HR4 HB4 hb4 hPl
     go_upto_region 8 with fail
     obtain⟨w8,hw8⟩:∃w8,w8=w5.setCell ⟨P,8,none⟩ (.slice (some ⟨g5,0,none⟩) (wts.length+1) gc5):=⟨_,rfl⟩
     rw[←hw8] at HG5 ⊢
     clear hw8 q1 q2
     have q10:w8.cell? ⟨P,10,none⟩=some tv':=HG5.out.1.row.cell (i:=10) (by omega)
     have o0:w8.cell? ⟨b,0,none⟩=some (.int .i64 ok):=box_cell HG5.out.2.2.2.2.2.2 0
     have o1:w8.cell? ⟨b,1,none⟩=some (.int .i64 m):=box_cell HG5.out.2.2.2.2.2.2 1
     have o2:w8.cell? ⟨b,2,none⟩=some (.int .i64 ov):=box_cell HG5.out.2.2.2.2.2.2 2
     have o3:w8.cell? ⟨b,3,none⟩=some (.slice ro rl rc):=box_cell HG5.out.2.2.2.2.2.2 3
     have o4:w8.cell? ⟨b,4,none⟩=some (.slice fo fl fc):=box_cell HG5.out.2.2.2.2.2.2 4
     have hPl:=HG5.out.1.row.lt
     have hb8:b<w8.heap.size:=(Array.getElem?_eq_some_iff.1 HG5.out.2.2.2.2.2.2).1
     have HFIN:Hid (∀(g6 gc6:Nat) (w6:World),w6.ownsRow (P+1) 164 6 (.slice (some ⟨g6,0,none⟩) (out.length+1) gc6) (out.length+1) (TV'++[.int .i64 (k:Int),.int .i64 ok,.int .i64 m,.int .i64 ov,.slice ro rl rc,.slice fo fl fc])→(w8.alloc (.cells #[.int .i64 (k:Int),.int .i64 ok,.int .i64 m,.int .i64 ov,.slice ro rl rc,.slice fo fl fc] 164)).grownBy w6 tv'.ownBlock→(tv'.ownBlock=some g6∨g6=w8.heap.size+1)→
      w6.cell? ⟨P,10,none⟩=some tv'∧w6.frozen? ⟨P,10,none⟩=false∧Hid (CSt B X P w0 (w6.setCell ⟨P,10,none⟩ (.slice (some ⟨g6,0,none⟩) (out.length+1) gc6)) (told (k+1) ord g) a n (.slice (some ⟨g5,0,none⟩) (wts.length+1) gc5) (.slice (some ⟨g6,0,none⟩) (out.length+1) gc6) (TV'++[.int .i64 (k:Int),.int .i64 ok,.int .i64 m,.int .i64 ov,.slice ro rl rc,.slice fo fl fc])∧
       Kp P w tv wv (w6.setCell ⟨P,10,none⟩ (.slice (some ⟨g6,0,none⟩) (out.length+1) gc6)) (.slice (some ⟨g6,0,none⟩) (out.length+1) gc6) (.slice (some ⟨g5,0,none⟩) (wts.length+1) gc5))):=fun g6 gc6 w6 hown6 hgr6 hat6=>by
      obtain⟨hC,hK,e1,e2,hR,hF,_⟩:=HG5.out
      rw[e1,e2] at hown6 hgr6 ⊢
      obtain⟨r1,r2,r3,r4⟩:=hC.pushT (x:=(k,⟨x.k,m,x.v,x.rs,x.fs⟩)) hR hF hown6 hgr6 hat6
      exact⟨r1,r2,by rw[HT.out];exact r3,hK.trans r4⟩
     go_region_law
      (refine step_append_lies _ ?_ (.tmp 54) (.tmp 58) 128 ?_ (P+1) 164 j0 (.agg #[.int .i64 0,.int .i64 0,.int .i64 0,.int .i64 0,.slice none 0 0,.slice none 0 0]) 6 80 Try.underlying128 hj0 hy0 hy1 hy2 rfl (by decide) tv' out.length TV' ?_ ?_ ⟨w8.heap.size,0,none⟩ 1 1 [.int .i64 (k:Int),.int .i64 ok,.int .i64 m,.int .i64 ov,.slice ro rl rc,.slice fo fl fc] ?_ ?_ ?_ (one6s _ _ _ _ _ _ _ _ _ _) ?_ ?_ ?_ ?_ _ rfl ?_
       ·rfl
       ·rfl
       ·rfl
       ·exact own_extU HG5.out.1.ownT ((Ext.refl w8).alloc _).drew
       ·rfl
       ·rfl
       ·exact World.news_of_block (cs:=#[.int .i64 (k:Int),.int .i64 ok,.int .i64 m,.int .i64 ov,.slice ro rl rc,.slice fo fl fc]) (blk_alloc_new w8 _)
       ·omega
       ·unfold maxLen;omega
       ·omega
       ·simp;omega
       intro g6 gc6 w6 hown6 hgr6 hat6 hlt6
       have hfin:=HFIN.out g6 gc6 w6 hown6 ⟨hgr6.os,hgr6.tape,hgr6.output,hgr6.size,hgr6.block⟩ (hat6.imp id (fun h=>by simpa using h))
       have q1:=hfin.1
       have q2:=hfin.2.1
       have HG6:=hidp hfin.2.2.out
       clear hown6 hgr6 hat6 hlt6 hfin)
     all_goals
      clear q10 o0 o1 o2 o3 o4 HFIN
      go_wp2
      refine⟨⟨k+1,_,_,_,by omega,by go_num,HG6.out.1,HG6.out.2⟩,by simp[intOf];omega⟩
  ·have hkn:k=n:=by omega
   have i1:¬(k:Int)<(n:Int):=by omega
   rw[hkn] at HC1
   clear hkn
   go_wp2
   go_end0
   exact⟨rfl,_,_,_,HC1.out,HK1.out⟩
end Go.Proofs.Ytolclgbpjiokfaa.Ct
