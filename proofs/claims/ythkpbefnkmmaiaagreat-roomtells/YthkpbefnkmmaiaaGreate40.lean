import Derived.Test.YthkpbefnkmmaiaaGreate39
set_option maxRecDepth 100000
set_option maxHeartbeats 4000000
namespace Go.Proofs.YthkpbefnkmmaiaaGreat
open Go.Proofs.Tryz
namespace Ct
open Go.RowKit Go.Deep Stw Stp Tb Rul
variable {w:World}
theorem RO.rq{base:Nat}{v:Value}{rs:List Ru}{Q:Nat->Prop}(h:RO w base v rs)(hQ:∀b,base<=b->b<w.heap.size->Q b):RQ w Q rs v:=by
 obtain⟨ao,cap',e,Q2,_⟩:=RO.form h
 rcases h.2 with⟨hv,h0⟩ | ⟨g,cap,cur,hv,hb,_⟩
 ·exact⟨none,0,by rw[h0];exact hv,Or.inl (List.eq_nil_of_length_eq_zero h0)⟩
 ·refine⟨ao,cap',e,Q2.imp id (fun⟨b,off,e',hlt,hcs⟩=>⟨b,off,e',hQ b ?_ hlt,hlt,hcs⟩)⟩
  rw[e,e'] at hv
  injection hv with h1
  cases h1
  exact hb
theorem Qk.stb{lo:Option Addr}{fs:List Stf.Fl}(h:Fw.Qk w lo fs):Stb (fun b=>b<w.heap.size) w (fun U=>Fw.Qk U lo fs):=fun U hs hb=>by
 have k:=h.ext (ext_of hs (fun b h1=>hb b h1 h1))
 exact k
theorem refAsk_any(Y:Nat->Prop)(c:Co)(a:CA)(n:Int)(ao:Option Addr)(len cap:Nat)(ls:List Lk)(lo:Option Addr)(ll lc:Nat)(fs:List Stf.Fl)(w:World)(hst:Stb (fun b=>Y b/\b<w.heap.size) w (fun U=>Zr U c a))(hok:CoOk c)(hwn:a.wo=none->a.wc=0)(hlen:ls.length=len)(hl:Zg w ao ls)(hx:len<=9223372036854775807)(hcap:len<=cap)(hll:fs.length=ll)(hfs:Stb (fun b=>Y b/\b<w.heap.size) w (fun U=>Fw.Qk U lo fs))(hS:Fw.Sm fs)(hlx:ll<=9223372036854775807):
  Calls prog 30 #[cvl c a,.agg #[.int .i64 n,.slice ao len cap],.slice lo ll lc] w fun e w'=>RfOut Y w (Q1 c n ls fs).1 (Q1 c n ls fs).2 e w':=by
  subst hll
  have HA:=Qa (Aw_ab w c a n (.slice ao len cap))
  have hE0:=z0l w c a n (.slice ao len cap)
  have hsA:(Aw w c a n (.slice ao len cap)).heap.size=w.heap.size+1+1+1:=by unfold Aw;simp
  unfold cvl
  go_enter func30,ntmps30
  go_upto_region 1 with fail
  obtain⟨W1,hW1⟩:=Qy (Aw w c a n (.slice ao len cap))
  rw[<-hW1] at HA hE0 hsA
  unfold Aw at hW1
  rw[<-hW1]
  clear hW1
  have c0:W1.cell? ⟨w.heap.size,0,none⟩=some (.int .i64 c.st):=Zj HA.out.box (i:=0) (by omega)
  have hl10:w.heap.size<W1.heap.size:=by omega
  have hl11:w.heap.size+1<W1.heap.size:=by omega
  have hl12:w.heap.size+1+1<W1.heap.size:=by omega
  by_cases h0:c.st=0
  ·have HD0:Hid (Q1 c n ls fs=if(plnF n (nx c.now.v) ls fs).1≠0 then(⟨co0,[]⟩,(plnF n (nx c.now.v) ls fs).1) else if full n.toNat c.now ⟨nx c.now.v,fs,Qs n ls fs⟩=true then(⟨co0,[]⟩,10) else(goS n.toNat (told n.toNat (addO ⟨nx c.now.v,fs,Qs n ls fs⟩) ⟨⟨1,c.now,⟨nx c.now.v,fs,Qs n ls fs⟩,c.num,c.Qg⟩,[]⟩),0)):=by
    show _=_
    unfold Q1
    rw[if_neg (by simpa using h0)]
   have HH0:=Qa h0
   obtain⟨v,hv⟩:∃v,nx c.now.v=v:=⟨_,rfl⟩
   rw[hv] at HD0
   have hv':IntKind.i64.wrap (c.now.v+1)=v:=hv
   clear hv
   rw[h0] at c0
   clear h0
   have c1:W1.cell? ⟨w.heap.size,1,none⟩=some (.int .i64 c.now.v):=Zj HA.out.box (i:=1) (by omega)
   have n0:=HA.out.n0
   have n1:=HA.out.n1
   have HPL:=Qa (z7a n v ao len cap ls lo fs.length lc fs W1 hlen (hl.ext hE0) hx hcap rfl (hfs.at.ext hE0) hS hlx)
   go_wp2_with (go_at_call 51;fail)
   refine Calls.mono HPL.out ?_
   rintro e w1 ⟨pv,fo,fl,fc,qo,ql,qc,rfl,E1,hP⟩
   have HP:=Qa hP
   clear hP HPL n0 n1 c0 c1
   obtain⟨w2,hw2⟩:=Qy ((w1.alloc (.cells #[.int .i64 pv,.slice fo fl fc,.slice qo ql qc] 29)).alloc (.cells #[.int .i64 (plnF n v ls fs).1,.int .i64 (plnF n v ls fs).2] 43))
   have HPB:Hid (∀U,Ext w2 U->cl U w1.heap.size 0 (.int .i64 pv)/\cl U w1.heap.size 1 (.slice fo fl fc)/\cl U w1.heap.size 2 (.slice qo ql qc)/\w1.heap.size<U.heap.size):=fun U hU=>by
    have l0:w1.heap.size<w2.heap.size:=by rw[hw2];simp;omega
    exact⟨(hU.cells.1 _ _ l0).trans (by rw[hw2];simp),(hU.cells.1 _ _ l0).trans (by rw[hw2];simp),(hU.cells.1 _ _ l0).trans (by rw[hw2];simp),Q5 l0 hU.size⟩
   have f0:w2.cell? ⟨w1.heap.size+1,0,none⟩=some (.int .i64 (plnF n v ls fs).1):=by rw[hw2];simp
   have hf0:w1.heap.size+1<w2.heap.size:=by rw[hw2];simp
   have E12:Ext w1 w2:=by rw[hw2];exact((Ext.refl _).alloc _).alloc _
   have E2:Ext W1 w2:=E1.trans E12
   have hs1:=E1.size
   have hne1:w1.heap.size+1≠w.heap.size+1+1:=by omega
   go_upto_region 4 with fail
   rw[<-hw2]
   clear hw2
   have HA2:=Qa (HA.out.ext E2)
   have hl2:=HA2.out.lt
   have hE2:=hE0.trans E2
   have hl20:w.heap.size<w2.heap.size:=by omega
   have hl21:w.heap.size+1<w2.heap.size:=by omega
   by_cases hp0:(plnF n v ls fs).1=0
   ·rcases HP.out with hP | ⟨-,e1,e2,e3,e4,hU⟩
    ·exact absurd hp0 hP.1
    obtain rfl:=e1.symm
    obtain rfl:=e2.symm
    obtain rfl:=e3.symm
    obtain rfl:=e4.symm
    clear e1 e2 e3 e4 HP
    have hgd:=q1u hp0
    have HOK:=Qa (z7g hp0)
    obtain⟨nn,rfl⟩:=Int.eq_ofNat_of_zero_le hgd.n0
    have hn8:nn<=8:=by have:=hgd.n8;omega
    have HPS:Hid (Stb (fun b=>W1.heap.size<=b) w1 (fun U=>q0i U qo (Qs nn ls fs))):=hU
    have HP0:=Qa hp0
    rw[hp0] at f0
    clear hp0 hgd hU
    have hT1:tot c.now.ps c.now.ps.length*24<=140737488351232:=by rw[q3g];have:=hok.n.tt;omega
    have hT2:tot (Qs nn ls fs) (Qs nn ls fs).length*24<=140737488351232:=by rw[q3g];have:=HOK.out.tt;simp only at this;omega
    have hq1:c.now.ps.length<=4611686018427387904:=by have:=hok.n.ql;omega
    have hq2:(Qs nn ls fs).length<=4611686018427387904:=by have:=HOK.out.ql;simp only at this;omega
    have HRL1:Hid (∀s:Nat,(rls c.now s).length<=16777216):=fun s=>z1f hok.n s
    have HRL2:Hid (∀s:Nat,(rls ⟨v,fs,Qs nn ls fs⟩ s).length<=16777216):=fun s=>z1f HOK.out s
    have HPS2:Hid (PsAt w2 qo (Qs nn ls fs)):=q0i.ps (HPS.out.ext E12).at
    have HPS1:Hid (PsAt w2 a.n.qo c.now.ps):=q0i.ps (hst.at.hn.hq.ext hE2)
    obtain⟨Q,hQ⟩:=Qy (Qs nn ls fs)
    rw[<-hQ] at HPS HPS2 HRL2 hT2 hq2 HOK HD0 HPB
    clear hQ
    go_wp2
    go_loopw [7,8,11] (fun _ _ sv wr=>∃s:Nat,s<=nn/\sv=.int .i64 s/\Hid (∀j,j<s->(rls c.now j).length+(rls ⟨v,fs,Q⟩ j).length<=16)/\Ext w2 wr) (fun _ _ sv _=>nn - (intOf sv).toNat)
    case atStart=>exact⟨0,Zu _,rfl,fun j hj=>by omega,Ext.refl _⟩
    case round=>
     clear f0
     obtain⟨s,hs,rfl,HW,hEr⟩:=hrel
     have HAr:=Qa (HA2.out.ext hEr)
     have hlr:=HAr.out.lt
     have hlr0:w.heap.size<wr.heap.size:=by omega
     have hlr1:w.heap.size+1<wr.heap.size:=by omega
     have n0:=HAr.out.n0
     by_cases hlt:s<nn
     ·have i1:(s:Int)<(nn:Int):=by omega
      have HKP:Hid (∀V:World,Ext wr V->cl V w.heap.size 1 (.int .i64 c.now.v)/\cl V w.heap.size 2 (.slice a.n.fo c.now.fs.length a.n.fc)/\cl V w.heap.size 3 (.slice a.n.qo c.now.ps.length a.n.qc)/\cl V w1.heap.size 0 (.int .i64 v)/\cl V w1.heap.size 1 (.slice lo fs.length fc)/\cl V w1.heap.size 2 (.slice qo Q.length qc)):=fun V hV=>by
       have q:=(HAr.out.ext hV).box
       obtain⟨b0,b1,b2,_⟩:=HPB.out V (hEr.trans hV)
       exact⟨Zj q (i:=1) (by omega),Zj q (i:=2) (by omega),Zj q (i:=3) (by omega),b0,b1,b2⟩
      have hR0:=Ext.refl wr
      have hps1:=HPS1.out.ext hEr
      have hps2:=HPS2.out.ext hEr
      have HFT:=Qa (z4x (n:=nn) (a:=c.now) (b:=⟨v,fs,Q⟩) hlt)
      have hb1:=HRL1.out s
      have hb2:=HRL2.out s
      obtain⟨X,hX⟩:∃X,rof c.now.v s c.now.ps c.now.ps.length=X:=⟨_,rfl⟩
      obtain⟨Y,hY⟩:∃Y,rof v s Q Q.length=Y:=⟨_,rfl⟩
      have HX:Hid (rls c.now s=X):=hX
      have HY:Hid (rls ⟨v,fs,Q⟩ s=Y):=hY
      have HX':=Qa hX
      have HY':=Qa hY
      rw[HX.out] at hb1 HFT
      rw[HY.out] at hb2 HFT
      clear hX hY
      have hwr:IntKind.i64.wrap ((X.length:Int)+(Y.length:Int))=(X.length:Int)+(Y.length:Int):=by rw[IntKind.wrap_i64];omega
      by_cases hfull:16<X.length+Y.length
      ·have i2:(16:Int)<IntKind.i64.wrap ((X.length:Int)+(Y.length:Int)):=by rw[hwr];omega
       clear hwr
       have HD:Hid (Q1 c nn ls fs=(⟨co0,[]⟩,10)):=by
        show _=_
        rw[HD0.out,if_neg (by simpa using HP0.out),show(nn:Int).toNat=nn from rfl,if_pos (HFT.out hfull)]
       clear hfull HFT HD0
       go_wp2
       go_region_held3 (fun V=>cl V w.heap.size 1 (.int .i64 c.now.v)/\cl V w.heap.size 2 (.slice a.n.fo c.now.fs.length a.n.fc)/\cl V w.heap.size 3 (.slice a.n.qo c.now.ps.length a.n.qc)/\cl V w1.heap.size 0 (.int .i64 v)/\cl V w1.heap.size 1 (.slice lo fs.length fc)/\cl V w1.heap.size 2 (.slice qo Q.length qc))
        (first | exact HKP.out _ hR0.drew | exact HKP.out _ mk2 | exact HKP.out _ mk1)
        (first
         | (have _t:=mk1;go_at_call 52;refine(q0s v s lo qo fs.length fc Q.length qc Q _ rfl (hps2.ext mk1) hT2 hq2).mono ?_;rintro e w6 ⟨v6,rfl,ho6,E6⟩;rw[HY'.out] at ho6;obtain⟨mo6,mc6,rfl,_,_,_,_⟩:=RO.form ho6;have mk2:Ext wr w6:=mk1.trans E6;clear ho6 E6)
         | (go_at_call 52;refine(q0s c.now.v s a.n.fo a.n.qo c.now.fs.length a.n.fc c.now.ps.length a.n.qc c.now.ps _ rfl (hps1.ext hR0.drew) hT1 hq1).mono ?_;rintro e w5 ⟨v5,rfl,ho5,E5⟩;rw[HX'.out] at ho5;obtain⟨mo5,mc5,rfl,_,_,_,_⟩:=RO.form ho5;have mk1:Ext wr w5:=hR0.drew.trans E5;clear ho5 E5))
       have HA5:=Qa (HAr.out.ext mk2)
       have hl5:=HA5.out.lt
       obtain⟨r0,r1,r2,r3,r4,r5,r6,r7,r8⟩:=HA5.out.q3f
       have z:=Qi HA5.out.ans
       have z0':=z 0
       have z1:=z 1
       have z2:=z 2
       have z3:=z 3
       have z4:=z 4
       have z5:=z 5
       have z6:=z 6
       have z7:=z 7
       have z8:=z 8
       clear z
       go_wp2
       refine bodyPost_ret (v:=.tuple #[.agg #[.int .i64 0,.int .i64 0,.slice none 0 0,.slice none 0 0,.int .i64 0,.slice none 0 0,.slice none 0 0,.int .i64 0,.slice none 0 0],.slice none 0 0,.int .i64 10]) (by simp[results,results30,go_sem,r0,r1,r2,r3,r4,r5,r6,r7,r8]) rfl ?_
       rw[HD.out]
       exact z1i (by omega) (hE2.trans (hEr.trans mk2)) _ _ _ _ _ _ _ _ _
      ·have i2:¬(16:Int)<IntKind.i64.wrap ((X.length:Int)+(Y.length:Int)):=by rw[hwr];omega
       clear hwr
       have HW1:Hid (∀j,j<s+1->(rls c.now j).length+(rls ⟨v,fs,Q⟩ j).length<=16):=fun j hj=>by
        by_cases e:j=s
        ·subst e;rw[HX.out,HY.out];omega
        ·exact HW.out j (by omega)
       clear hfull HFT
       go_wp2
       go_region_held3 (fun V=>cl V w.heap.size 1 (.int .i64 c.now.v)/\cl V w.heap.size 2 (.slice a.n.fo c.now.fs.length a.n.fc)/\cl V w.heap.size 3 (.slice a.n.qo c.now.ps.length a.n.qc)/\cl V w1.heap.size 0 (.int .i64 v)/\cl V w1.heap.size 1 (.slice lo fs.length fc)/\cl V w1.heap.size 2 (.slice qo Q.length qc))
        (first | exact HKP.out _ hR0.drew | exact HKP.out _ mk2 | exact HKP.out _ mk1)
        (first
         | (have _t:=mk1;go_at_call 52;refine(q0s v s lo qo fs.length fc Q.length qc Q _ rfl (hps2.ext mk1) hT2 hq2).mono ?_;rintro e w6 ⟨v6,rfl,ho6,E6⟩;rw[HY'.out] at ho6;obtain⟨mo6,mc6,rfl,_,_,_,_⟩:=RO.form ho6;have mk2:Ext wr w6:=mk1.trans E6;clear ho6 E6)
         | (go_at_call 52;refine(q0s c.now.v s a.n.fo a.n.qo c.now.fs.length a.n.fc c.now.ps.length a.n.qc c.now.ps _ rfl (hps1.ext hR0.drew) hT1 hq1).mono ?_;rintro e w5 ⟨v5,rfl,ho5,E5⟩;rw[HX'.out] at ho5;obtain⟨mo5,mc5,rfl,_,_,_,_⟩:=RO.form ho5;have mk1:Ext wr w5:=hR0.drew.trans E5;clear ho5 E5))
       go_wp2
       go_roundw
       case rel=>exact⟨s+1,by omega,by go_num,HW1.out,hEr.trans mk2⟩
       case measure=>simp[intOf];omega
     ·have i1:¬(s:Int)<(nn:Int):=by omega
      have HD:Hid (Q1 c nn ls fs=(goS nn (told nn (addO ⟨v,fs,Q⟩) ⟨⟨1,c.now,⟨v,fs,Q⟩,c.num,c.Qg⟩,[]⟩),0)):=by
       show _=_
       rw[HD0.out,if_neg (by simpa using HP0.out),show(nn:Int).toNat=nn from rfl,if_neg (by rw[z0c (fun j hj=>HW.out j (by omega))];simp)]
      have hEw:Ext w wr:=hE2.trans hEr
      have hsr:=hEr.size
      obtain⟨wo,hwo⟩:=Qy (wr.alloc (.cells #[.slice none 0 0] 86))
      have Eo:Ext wr wo:=by rw[hwo];exact(Ext.refl _).alloc _
      have HOB:Hid (wo.rowIs wr.heap.size 86 1 (fun _=>.slice none 0 0)):=by rw[hwo];exact z7h rfl _
      have hso:wo.heap.size=wr.heap.size+1:=by rw[hwo];simp
      clear HW HD0
      go_upto_region 12 with fail
      rw[<-hwo]
      clear hwo n0 i1
      have HAo:=Qa (HAr.out.ext Eo)
      obtain⟨b0,b1,b2,bl⟩:=HPB.out wo (hEr.trans Eo)
      have s0:wo.cell? ⟨w.heap.size,0,none⟩=some (.int .i64 c.st):=Zj HAo.out.box (i:=0) (by omega)
      have s4:wo.cell? ⟨w.heap.size,4,none⟩=some (.int .i64 c.Qd.v):=Zj HAo.out.box (i:=4) (by omega)
      have s5:wo.cell? ⟨w.heap.size,5,none⟩=some (.slice a.x.fo c.Qd.fs.length a.x.fc):=Zj HAo.out.box (i:=5) (by omega)
      have s6:wo.cell? ⟨w.heap.size,6,none⟩=some (.slice a.x.qo c.Qd.ps.length a.x.qc):=Zj HAo.out.box (i:=6) (by omega)
      have z0:wo.frozen? ⟨w.heap.size,0,none⟩=false:=World.rowIs.frozen HAo.out.box 0
      have z4:wo.frozen? ⟨w.heap.size,4,none⟩=false:=World.rowIs.frozen HAo.out.box 4
      have z5:wo.frozen? ⟨w.heap.size,5,none⟩=false:=World.rowIs.frozen HAo.out.box 5
      have z6:wo.frozen? ⟨w.heap.size,6,none⟩=false:=World.rowIs.frozen HAo.out.box 6
      have hlo0:w.heap.size<wo.heap.size:=by omega
      have hne2:w1.heap.size≠w.heap.size:=by omega
      obtain⟨W3,hW3⟩:=Qy (((((wo.setCell ⟨w.heap.size,0,none⟩ (.int .i64 1)).setCell ⟨w.heap.size,4,none⟩ (.int .i64 v)).setCell ⟨w.heap.size,5,none⟩ (.slice lo fs.length fc)).setCell ⟨w.heap.size,6,none⟩ (.slice qo Q.length qc)).drew)
      have HK3:Hid (∀b,b≠w.heap.size->W3.heap[b]? =wo.heap[b]?):=fun b hb=>by
       rw[hW3,q0m,Zm _ _ _ _ hb,Zm _ _ _ _ hb,Zm _ _ _ _ hb,Zm _ _ _ _ hb]
      have hs3:W3.heap.size=wo.heap.size:=by rw[hW3,q0m];simp
      have HR3:Hid (RSt (ZR Y w) w.heap.size wr.heap.size w W3 ⟨⟨1,c.now,⟨v,fs,Q⟩,c.num,c.Qg⟩,[]⟩ ⟨a.n,⟨lo,qo,fc,qc⟩,a.wo,a.wc⟩ (.slice none 0 0) []):=by
       have E3:Ext w W3:=by
        rw[hW3]
        exact(((((hEw.trans Eo).setCell (Ql _) _).setCell (Ql _) _).setCell (Ql _) _).setCell (Ql _) _).drew
       have hbx:BX W3 w.heap.size (coL ⟨1,c.now,⟨v,fs,Q⟩,c.num,c.Qg⟩ ⟨a.n,⟨lo,qo,fc,qc⟩,a.wo,a.wc⟩):=by
        have e:((((coL c a).set 0 (.int .i64 1)).set 4 (.int .i64 v)).set 5 (.slice lo fs.length fc)).set 6 (.slice qo Q.length qc)=coL ⟨1,c.now,⟨v,fs,Q⟩,c.num,c.Qg⟩ ⟨a.n,⟨lo,qo,fc,qc⟩,a.wo,a.wc⟩:=rfl
        rw[<-e,hW3]
        exact World.rowIs.of_block (BX.set (BX.set (BX.set (BX.set HAo.out.box (i:=0) (by simp[coL]) _) (i:=4) (by simp[coL]) _) (i:=5) (by simp[coL]) _) (i:=6) (by simp[coL]) _) (by rw[q0m])
       refine RSt.start hbx (World.rowIs.of_block HOB.out (HK3.out _ (by omega))) ?_ E3 (by omega) hwn
       have q1:=(hst.ext hEw).more (Y':=fun b=>Y b/\b<w.heap.size\/w.heap.size+1+1<b/\b<wr.heap.size) (fun b hb _=>Or.inl hb)
       have q2:=(hfs.ext hEw).more (Y':=fun b=>Y b/\b<w.heap.size\/w.heap.size+1+1<b/\b<wr.heap.size) (fun b hb _=>Or.inl hb)
       have q3:=((HPS.out).more (Y':=fun b=>Y b/\b<w.heap.size\/w.heap.size+1+1<b/\b<wr.heap.size) (fun b hb hlt=>Or.inr ⟨by omega,by omega⟩)).ext (E12.trans hEr)
       refine(((q1.and (q2.and q3)).imp (D':=fun U=>Zr U ⟨1,c.now,⟨v,fs,Q⟩,c.num,c.Qg⟩ ⟨a.n,⟨lo,qo,fc,qc⟩,a.wo,a.wc⟩) (fun U k=>⟨k.1.hn,⟨k.2.1,k.2.2⟩,k.1.hw⟩)).ext Eo).step (by omega) (fun b hb _=>HK3.out b (by omega))
      have HA3:Hid ((W3.cell? ⟨w.heap.size+1,0,none⟩=some (.int .i64 nn)/\W3.cell? ⟨w.heap.size+1,1,none⟩=some (.slice ao len cap)/\W3.heap[w.heap.size+1+1]? =some (.cells #[.int .i64 0,.int .i64 0,.slice none 0 0,.slice none 0 0,.int .i64 0,.slice none 0 0,.slice none 0 0,.int .i64 0,.slice none 0 0] 32)/\w.heap.size+1+1<W3.heap.size)/\W3.cell? ⟨w1.heap.size,0,none⟩=some (.int .i64 v)/\W3.cell? ⟨w1.heap.size,1,none⟩=some (.slice lo fs.length fc)/\W3.cell? ⟨w1.heap.size,2,none⟩=some (.slice qo Q.length qc)/\w1.heap.size<W3.heap.size):=
       ⟨⟨(cob (a:=⟨w.heap.size+1,0,none⟩) (HK3.out (w.heap.size+1) (by omega))).trans HAo.out.n0,(cob (a:=⟨w.heap.size+1,1,none⟩) (HK3.out (w.heap.size+1) (by omega))).trans HAo.out.n1,(HK3.out _ (by omega)).trans HAo.out.ans,by omega⟩,(cob (a:=⟨w1.heap.size,0,none⟩) (HK3.out w1.heap.size hne2)).trans b0,(cob (a:=⟨w1.heap.size,1,none⟩) (HK3.out w1.heap.size hne2)).trans b1,(cob (a:=⟨w1.heap.size,2,none⟩) (HK3.out w1.heap.size hne2)).trans b2,by omega⟩
      have HQ1:Hid (Qr w.heap.size wr.heap.size (.slice none 0 0) (w.heap.size+1)):=⟨by omega,by omega,by simp[Value.ownBlock]⟩
      have HQ2:Hid (Qr w.heap.size wr.heap.size (.slice none 0 0) (w.heap.size+1+1)):=⟨by omega,by omega,by simp[Value.ownBlock]⟩
      have HQ3:Hid (Qr w.heap.size wr.heap.size (.slice none 0 0) w1.heap.size):=⟨by omega,by omega,by simp[Value.ownBlock]⟩
      have HW13:Hid (∀b,W1.heap.size<=b->b<w1.heap.size->W3.heap[b]? =w1.heap[b]?):=fun b h1 h2=>(HK3.out b (by omega)).trans (Below.block (E12.trans (hEr.trans Eo)) b h2)
      have HS13:Hid (w1.heap.size<=W3.heap.size/\w1.heap.size<wr.heap.size):=⟨by omega,by omega⟩
      go_region
      rw[<-hW3]
      clear hW3 s0 s4 s5 s6 z0 z4 z5 z6 b0 b1 b2 HK3
      obtain⟨wp,hwp⟩:=Qy (wr)
      subst hwp
      go_wp2
      go_loopw [13,14] (fun sv _ wx=>∃s:Nat,s<=nn/\sv=.int .i64 s/\Hid (∃a2 tv2 TV2,RSt (ZR Y w) w.heap.size wp.heap.size w wx (told s (addO ⟨v,fs,Q⟩) ⟨⟨1,c.now,⟨v,fs,Q⟩,c.num,c.Qg⟩,[]⟩) a2 tv2 TV2/\RKp w.heap.size wp.heap.size W3 (.slice none 0 0) wx tv2)) (fun sv _ _=>nn - (intOf sv).toNat)
      case atStart=>exact⟨0,Zu _,rfl,_,_,_,HR3.out,RKp.ext (Ext.refl _)⟩
      case round=>
       obtain⟨s,hs,rfl,HX⟩:=hrel
       obtain⟨a2,tv2,TV2,hR4,hK4⟩:=HX.out
       have HR4:=Qa hR4
       have HK4:=Qa hK4
       have HL:=Qa (q0t (ord:=addO ⟨v,fs,Q⟩) (g:=⟨⟨1,c.now,⟨v,fs,Q⟩,c.num,c.Qg⟩,[]⟩) s)
       clear HX hR4 hK4
       have n0:wr.cell? ⟨w.heap.size+1,0,none⟩=some (.int .i64 nn):=(cob (a:=⟨w.heap.size+1,0,none⟩) (HK4.out.block _ HQ1.out (by have:=HA3.out.1.2.2.2;omega)).2).trans HA3.out.1.1
       have hl4:w.heap.size+1+1<wr.heap.size:=Q5 HA3.out.1.2.2.2 HK4.out.size
       have hl41:w.heap.size+1<wr.heap.size:=by omega
       have hl40:w.heap.size<wr.heap.size:=by omega
       have hl4B:w1.heap.size<wr.heap.size:=Q5 HA3.out.2.2.2.2 HK4.out.size
       by_cases hlt:s<nn
       ·have i1:(s:Int)<(nn:Int):=by omega
        have HPW:Hid (∀V,Ext wr V->cl V w1.heap.size 0 (.int .i64 v)):=fun V hV=>(hV.cells.1 _ _ hl4B).trans ((cob (a:=⟨w1.heap.size,0,none⟩) (HK4.out.block _ HQ3.out HA3.out.2.2.2.2).2).trans HA3.out.2.1)
        have b0:=HPW.out wr (Ext.refl _)
        have b1:wr.cell? ⟨w1.heap.size,1,none⟩=some (.slice lo fs.length fc):=(cob (a:=⟨w1.heap.size,1,none⟩) (HK4.out.block _ HQ3.out HA3.out.2.2.2.2).2).trans HA3.out.2.2.1
        have b2:wr.cell? ⟨w1.heap.size,2,none⟩=some (.slice qo Q.length qc):=(cob (a:=⟨w1.heap.size,2,none⟩) (HK4.out.block _ HQ3.out HA3.out.2.2.2.2).2).trans HA3.out.2.2.2.1
        have HPS3:Hid (PsAt wr qo Q):=q0i.ps (HPS.out wr (ltr HS13.out.1 HK4.out.size) (fun b h1 h2=>((HK4.out.block b ⟨by omega,by have:=HS13.out.2;omega,by simp[Value.ownBlock]⟩ (by have:=HS13.out.1;omega)).2).trans (HW13.out b h1 h2)))
        go_wp2_with (go_at_call 52;fail)
        refine Calls.mono (q0s v s lo qo fs.length fc Q.length qc Q _ rfl HPS3.out hT2 hq2) ?_
        rintro e w5 ⟨v5,rfl,ho5,E5⟩
        have HRQ:=Qa (RO.rq (Q:=Qx (ZR Y w) w.heap.size wp.heap.size tv2) ho5 (fun b hb _=>HR4.out.fresh b hb))
        obtain⟨mo,mc,rfl,_,_,_,_⟩:=RO.form ho5
        clear ho5 b0 b1 b2
        have HRL:Hid (rls ⟨v,fs,Q⟩ s=rof v s Q Q.length):=rfl
        obtain⟨L,hL⟩:∃L,rof v s Q Q.length=L:=⟨_,rfl⟩
        rw[hL] at HRL HRQ ⊢
        clear hL
        have HR5:=Qa (HR4.out.ext E5)
        have HK5:=Qa (HK4.out.trans (RKp.ext E5))
        have b0:=HPW.out w5 E5
        have hl5B:=Q5 hl4B E5.size
        by_cases hL0:L=[]
        ·have HN:Hid (told (s+1) (addO ⟨v,fs,Q⟩) ⟨⟨1,c.now,⟨v,fs,Q⟩,c.num,c.Qg⟩,[]⟩=told s (addO ⟨v,fs,Q⟩) ⟨⟨1,c.now,⟨v,fs,Q⟩,c.num,c.Qg⟩,[]⟩):=q1r (by unfold addO;rw[HRL.out,if_pos hL0])
         subst hL0
         simp only[List.length_nil]
         go_wp2
         go_roundw
         case rel=>exact⟨s+1,by omega,by go_num,_,_,_,by rw[HN.out];exact HR5.out,HK5.out⟩
         case measure=>simp[intOf];omega
        ·have HN:=Qa (q1q (g:=⟨⟨1,c.now,⟨v,fs,Q⟩,c.num,c.Qg⟩,[]⟩) (show addO ⟨v,fs,Q⟩ s=some ⟨1,0,v,L,[]⟩ by unfold addO;rw[HRL.out,if_neg hL0]))
         have iL:(0:Int)<(L.length:Int):=by have:=List.length_pos_iff.2 hL0;omega
         have HTL:=Qa (q4v _ w.heap.size wp.heap.size s 1 0 v L [] mo none L.length mc 0 0 w w5 _ a2 tv2 TV2 HR5.out HRQ.out (LQ.nil _ _) (by have h1:_<=c.Qg.length+s:=HL.out.1;have:=hok.w;omega) (by have h1:_<=0+s:=HL.out.2;omega))
         clear hL0
         go_wp2_with (go_at_call 53;refine Calls.mono HTL.out ?_;rintro e w6 ⟨rfl,a6,tv6,TV6,hR6,hK6⟩;have HR6:=Qa hR6;have HK6:=Qa hK6;clear hR6 hK6)
         go_roundw
         case rel=>exact⟨s+1,by omega,by go_num,_,_,_,by rw[HN.out];exact HR6.out,HK5.out.trans HK6.out⟩
         case measure=>simp[intOf];omega
       ·have i1:¬(s:Int)<(nn:Int):=by omega
        have hsn:s=nn:=by omega
        rw[hsn] at HR4 HL
        clear hsn
        have n1:wr.cell? ⟨w.heap.size+1,1,none⟩=some (.slice ao len cap):=(cob (a:=⟨w.heap.size+1,1,none⟩) (HK4.out.block _ HQ1.out (by have:=HA3.out.1.2.2.2;omega)).2).trans HA3.out.1.2.1
        have HBG:=Qa (q3h _ w.heap.size wp.heap.size nn ao len cap w wr _ a2 tv2 TV2 HR4.out hn8 hok.n.fl HOK.out.fl (by have h1:_<=0+nn:=HL.out.2;omega))
        go_wp2_with (go_at_call 54;refine Calls.mono HBG.out ?_;rintro e w6 ⟨rfl,a6,tv6,TV6,hR6,hK6⟩;have HR6:=Qa hR6;have HK6:=Qa (HK4.out.trans hK6);clear hR6 hK6)
        clear n0 n1 HBG
        have HAN:Hid (Qr w.heap.size wp.heap.size tv6 (w.heap.size+1+1)/\w6.heap[w.heap.size+1+1]? =some (.cells #[.int .i64 0,.int .i64 0,.slice none 0 0,.slice none 0 0,.int .i64 0,.slice none 0 0,.slice none 0 0,.int .i64 0,.slice none 0 0] 32)):=by
         have k:=HK6.out.block _ HQ2.out HA3.out.1.2.2.2
         exact⟨k.1,k.2.trans HA3.out.1.2.2.1⟩
        have hb6:=HAN.out.2
        obtain⟨r0,r1,r2,r3,r4,r5,r6,r7,r8⟩:=box9 hb6
        obtain⟨z0,z1,z2,z3,z4,z5,z6,z7,z8⟩:=frz9 hb6
        simp only[List.getElem?_toArray,List.getElem?_cons_zero,List.getElem?_cons_succ] at r0 r1 r2 r3 r4 r5 r6 r7 r8
        have hl62:w.heap.size+1+1<w6.heap.size:=(asi.1 hb6).1
        have hl60:=World.rowIs.lt HR6.out.box
        have hl6O:=HR6.out.obx.lt
        clear hb6
        obtain⟨k0,k1,o2,l2,q2,o3,l3,q3,k4,o5,l5,q5,o6,l6,q6,k7,o8,l8,q8,tO,l9,tc,c0,c1,c2,c3,c4,c5,c6,c7,c8,cO,HF⟩:=HR6.out.q1e
        go_region
        go_wp2
        refine bodyPost_ret (v:=.tuple #[.agg #[.int .i64 k0,.int .i64 k1,.slice o2 l2 q2,.slice o3 l3 q3,.int .i64 k4,.slice o5 l5 q5,.slice o6 l6 q6,.int .i64 k7,.slice o8 l8 q8],.slice tO l9 tc,.int .i64 0]) (by simp[results,results30,go_sem,r0,r1,r2,r3,r4,r5,r6,r7,r8]) rfl ?_
        rw[HD.out]
        obtain⟨e1,e2,e3⟩:=HF.out
        exact⟨a6,tO,tc,by rw[e1,e2],fun U hU kU=>e3 (fun b hb=>⟨fun e=>HAN.out.1.2.2 (by rw[hb,e]),Or.inr (HR6.out.ownT.lt b hb).1⟩) U (ltr (Nat.le_of_eq q4y.symm) hU) (fun b hb hlt=>(kU b hb.2 (Q5 hlt (Nat.le_of_eq q4y.symm))).trans (q7f b hb.1)),HR6.out.wn,z5y HR6.out.bel (by omega)⟩
   ·have HD:Hid (Q1 c n ls fs=(⟨co0,[]⟩,(plnF n v ls fs).1)):=by
     show _=_
     rw[HD0.out,if_pos hp0]
    have b0:((plnF n v ls fs).1 != 0)=true:=by simpa using hp0
    clear hp0 HP
    obtain⟨r0,r1,r2,r3,r4,r5,r6,r7,r8⟩:=HA2.out.q3f
    have z:=Qi HA2.out.ans
    have z0':=z 0
    have z1:=z 1
    have z2:=z 2
    have z3:=z 3
    have z4:=z 4
    have z5:=z 5
    have z6:=z 6
    have z7:=z 7
    have z8:=z 8
    clear z
    go_wp2
    go_region
    go_wp2
    refine bodyPost_ret (v:=.tuple #[.agg #[.int .i64 0,.int .i64 0,.slice none 0 0,.slice none 0 0,.int .i64 0,.slice none 0 0,.slice none 0 0,.int .i64 0,.slice none 0 0],.slice none 0 0,.int .i64 (plnF n v ls fs).1]) (by simp[results,results30,go_sem,r0,r1,r2,r3,r4,r5,r6,r7,r8]) rfl ?_
    rw[HD.out]
    exact z1h (by omega) hE2 _ _ _ _ _ _ _ _ _
  ·have HD:Hid (Q1 c n ls fs=(⟨co0,[]⟩,11)):=by
    show _=_
    unfold Q1
    rw[if_pos h0]
   have b0:(c.st != 0)=true:=by simpa using h0
   clear h0
   obtain⟨r0,r1,r2,r3,r4,r5,r6,r7,r8⟩:=HA.out.q3f
   have z:=Qi HA.out.ans
   have z0':=z 0
   have z1:=z 1
   have z2:=z 2
   have z3:=z 3
   have z4:=z 4
   have z5:=z 5
   have z6:=z 6
   have z7:=z 7
   have z8:=z 8
   clear z
   go_wp2
   refine bodyPost_ret (v:=.tuple #[.agg #[.int .i64 0,.int .i64 0,.slice none 0 0,.slice none 0 0,.int .i64 0,.slice none 0 0,.slice none 0 0,.int .i64 0,.slice none 0 0],.slice none 0 0,.int .i64 11]) (by simp[results,results30,go_sem,r0,r1,r2,r3,r4,r5,r6,r7,r8]) rfl ?_
   rw[HD.out]
   exact z1i (by omega) hE0 _ _ _ _ _ _ _ _ _
variable {l:List Int} {x:Int}
theorem erase_had{num:Int}(h:num∈l):(l++[x]).erase num=l.erase num++[x]:=by rw[List.erase_append,if_pos h]
theorem erase_this{num:Int}(h:num∉l):(l++[num]).erase num=l.erase num:=by
 rw[List.erase_append,if_neg h,List.erase_of_not_mem h];simp
theorem erase_else{num:Int}(h:num∉l)(hx:x≠num):(l++[x]).erase num=l.erase num++[x]:=by
 rw[List.erase_append,if_neg h,List.erase_of_not_mem h,List.erase_of_not_mem (by simpa using fun e=>hx e.symm)]
theorem take_next{k:Nat}(h:k<l.length):l.take (k+1)=l.take k++[l.getD k 0]:=by
 rw[List.take_succ_eq_append_getElem h];simp[h]
theorem z7f(Y:Nat->Prop)(c:Co)(a:CA)(n num:Int)(ao:Option Addr)(len cap:Nat)(ls:List Lk)(w:World)(hst:Stb (fun b=>Y b/\b<w.heap.size) w (fun U=>Zr U c a))(hok:CoOk c)(hlen:ls.length=len)(hl:Zg w ao ls)(hx:len<=9223372036854775807)(hcap:len<=cap):
 Calls prog 33 #[cvl c a,.agg #[.int .i64 n,.slice ao len cap],.int .i64 num] w fun e w'=>RfOut Y w (Qw c n ls num).1 (Qw c n ls num).2 e w':=by
 have HA:=Qa (Aw_ab w c a n (.slice ao len cap))
 have hE0:=z0l w c a n (.slice ao len cap)
 unfold cvl
 go_enter func33,ntmps33
 go_wp2_with fail
 unfold Aw at HA hE0
 obtain⟨W1,hW1⟩:=Qy (((w.alloc (.cells #[.int .i64 c.st,.int .i64 c.now.v,.slice a.n.fo c.now.fs.length a.n.fc,.slice a.n.qo c.now.ps.length a.n.qc,.int .i64 c.Qd.v,.slice a.x.fo c.Qd.fs.length a.x.fc,.slice a.x.qo c.Qd.ps.length a.x.qc,.int .i64 c.num,.slice a.wo c.Qg.length a.wc] 32)).alloc (.cells #[.int .i64 n,.slice ao len cap] 24)).alloc (.cells #[.int .i64 0,.int .i64 0,.slice none 0 0,.slice none 0 0,.int .i64 0,.slice none 0 0,.slice none 0 0,.int .i64 0,.slice none 0 0] 32))
 rw[<-hW1] at HA hE0 ⊢
 clear hW1
 refine(Q3 n ao len cap ls W1 hlen (hl.ext hE0) hx hcap).mono ?_
 rintro e w1 ⟨rfl,E1⟩
 obtain⟨w2,hw2⟩:=Qy (w1.alloc (.cells #[.int .i64 (Qc n ls).1,.int .i64 (Qc n ls).2] 43))
 have f0:w2.cell? ⟨w1.heap.size,0,none⟩=some (.int .i64 (Qc n ls).1):=by rw[hw2];simp
 have hf0:w1.heap.size<w2.heap.size:=by rw[hw2];simp
 have E2:Ext W1 w2:=by rw[hw2];exact E1.alloc _
 have hl11:=(HA.out.ext E1).lt
 have hne1:w1.heap.size≠w.heap.size+1+1:=by omega
 go_upto_region 2 with fail
 rw[<-hw2]
 clear hw2
 have HA2:=Qa (HA.out.ext E2)
 have hl2:=HA2.out.lt
 have hE2:=hE0.trans E2
 have hl20:w.heap.size<w2.heap.size:=by omega
 have hl21:w.heap.size+1<w2.heap.size:=by omega
 by_cases hr:(Qc n ls).1=0
 ·have hright:=Zo hr
  have hbd:=hright.bounds
  obtain⟨nn,rfl⟩:=Int.eq_ofNat_of_zero_le (show 0<=n by omega)
  have hn8:nn<=8:=by omega
  have HW:=Qa hr
  rw[hr] at f0
  clear hr hright hbd
  have c8:w2.cell? ⟨w.heap.size,8,none⟩=some (.slice a.wo c.Qg.length a.wc):=Zj HA2.out.box (i:=8) (by omega)
  obtain⟨i0,hi0,hz00,hz01,hz02⟩:=info_parts q8k
  have hwl:=hok.w
  have HHW:=Qa hst.at.hw
  go_wp2
  go_loopw [10,11,26] (fun rv bv iv wr=>∃(k:Nat) (fv:Value),k<=c.Qg.length/\iv=.int .i64 k/\rv=fv/\bv=.bool (decide (num∈c.Qg.take k))/\Hid (Oi wr w2.heap.size fv ((c.Qg.take k).erase num))/\Ext w2 wr) (fun _ _ iv _=>c.Qg.length - (intOf iv).toNat)
  case atStart=>exact⟨0,.slice none 0 0,Zu _,rfl,rfl,rfl,World.ownsRow_nil _ _ _ _,Ext.refl _⟩
  case round=>
   clear c8
   obtain⟨k,fv,hk,rfl,hfv,rfl,HIO,hEr⟩:=hrel
   obtain rfl:=hfv.symm
   have hsr:=hEr.size
   by_cases hlt:k<c.Qg.length
   ·have HT:=Qa (take_next hlt)
    have hLl:((c.Qg.take k).erase num).length<=k:=ltr (List.length_erase_le ..) (by simp;omega)
    rcases HHW.out.ext (hE2.trans hEr) with h0 | ⟨b,off,hwo,hb,hcs⟩
    ·exfalso;rw[h0] at hlt;simp at hlt
    have cx:=hcs k hlt
    rw[hwo]
    obtain⟨x,hx⟩:∃x,c.Qg.getD k 0=x:=⟨_,rfl⟩
    rw[hx] at cx HT
    clear hx hcs hwo
    have i1:(k:Int)<(c.Qg.length:Int):=by omega
    obtain⟨T,hT⟩:∃T,c.Qg.take k=T:=⟨_,rfl⟩
    rw[hT] at HT HIO hLl ⊢
    clear hT
    obtain⟨L,hL⟩:∃L,T.erase num=L:=⟨_,rfl⟩
    rw[hL] at HIO hLl
    have HL:=Qa hL
    clear hL
    by_cases hm:num∈T
    ·rw[dtt hm]
     have HB1:Hid (Value.bool true=.bool (decide (num∈c.Qg.take (k+1)))):=by show _=_;rw[HT.out,dtt (List.mem_append_left _ hm)]
     have HT1:Hid ((c.Qg.take (k+1)).erase num=L++[x]):=by show _=_;rw[HT.out,erase_had hm,HL.out]
     clear hm
     by_cases hxn:x=num
     focus
      have bx:(x == num)=true:=by simpa using hxn
     rotate_left
     focus
      have bx:(x == num)=false:=by simpa using hxn
     rotate_left
     all_goals(
      clear hxn
      go_wp2_with (first | (at_builtin;refine wpList_append_lies _ rfl _ _ 30 rfl w2.heap.size 3 i0 (.int .i64 0) 1 8 underlying30 hi0 hz00 hz01 hz02 rfl (by decide) _ _ _ rfl (HIO.out.alloc _) ⟨wr.heap.size,0,none⟩ 1 1 [.int .i64 x] rfl rfl (news1' rfl _ _) (z1t _) (by decide) (by unfold maxLen;omega) (by omega) (by simp;omega) _ rfl ?_) | go_in)
      intro g7 gc7 w7 hown7 hgr7 hat7 hlt7
      have H7:Hid (Oi w7 w2.heap.size (.slice (some ⟨g7,0,none⟩) (L.length+1) gc7) (L++[x])):=by
       show Oi _ _ _ _
       unfold Oi
       rw[List.map_append,lap]
       exact hown7
      have hE7:Ext w2 w7:=Below.grown (hEr.alloc _) hgr7 (by simp;omega) (fun j hj=>(HIO.out.lt j hj).1)
      clear hown7 hgr7 hat7
      go_wp2
      exact⟨⟨k+1,_,by omega,by go_num,rfl,HB1.out,by rw[HT1.out];exact H7.out,hE7⟩,by simp[intOf];omega⟩)
    ·rw[dff hm]
     by_cases hxn:x=num
     ·have HB1:Hid (Value.bool true=.bool (decide (num∈c.Qg.take (k+1)))):=by show _=_;rw[HT.out,dtt (by rw[hxn];simp)]
      have HT1:Hid ((c.Qg.take (k+1)).erase num=L):=by show _=_;rw[HT.out,hxn,erase_this hm,HL.out]
      have bx:(x == num)=true:=by simpa using hxn
      clear hxn hm
      go_wp2
      exact⟨⟨k+1,_,by omega,by go_num,rfl,HB1.out,by rw[HT1.out];exact HIO.out,hEr⟩,by simp[intOf];omega⟩
     ·have HB1:Hid (Value.bool false=.bool (decide (num∈c.Qg.take (k+1)))):=by show _=_;rw[HT.out,dff (by simp;exact⟨hm,fun e=>hxn e.symm⟩)]
      have HT1:Hid ((c.Qg.take (k+1)).erase num=L++[x]):=by show _=_;rw[HT.out,erase_else hm hxn,HL.out]
      have bx:(x == num)=false:=by simpa using hxn
      clear hxn hm
      go_wp2_with (first | (at_builtin;refine wpList_append_lies _ rfl _ _ 30 rfl w2.heap.size 3 i0 (.int .i64 0) 1 8 underlying30 hi0 hz00 hz01 hz02 rfl (by decide) _ _ _ rfl (HIO.out.alloc _) ⟨wr.heap.size,0,none⟩ 1 1 [.int .i64 x] rfl rfl (news1' rfl _ _) (z1t _) (by decide) (by unfold maxLen;omega) (by omega) (by simp;omega) _ rfl ?_) | go_in)
      intro g7 gc7 w7 hown7 hgr7 hat7 hlt7
      have H7:Hid (Oi w7 w2.heap.size (.slice (some ⟨g7,0,none⟩) (L.length+1) gc7) (L++[x])):=by
       show Oi _ _ _ _
       unfold Oi
       rw[List.map_append,lap]
       exact hown7
      have hE7:Ext w2 w7:=Below.grown (hEr.alloc _) hgr7 (by simp;omega) (fun j hj=>(HIO.out.lt j hj).1)
      clear hown7 hgr7 hat7
      go_wp2
      exact⟨⟨k+1,_,by omega,by go_num,rfl,HB1.out,by rw[HT1.out];exact H7.out,hE7⟩,by simp[intOf];omega⟩
   ·have i1:¬(k:Int)<(c.Qg.length:Int):=by omega
    have hkl:k=c.Qg.length:=by omega
    rw[hkl,List.take_length] at HIO ⊢
    clear hkl
    have HAr:=Qa (HA2.out.ext hEr)
    have hlr:=HAr.out.lt
    have hlr0:w.heap.size<wr.heap.size:=by omega
    have hlr1:w.heap.size+1<wr.heap.size:=by omega
    have hEw:Ext w wr:=hE2.trans hEr
    by_cases hm:num∈c.Qg
    ·rw[dtt hm]
     have HD:Hid (Qw c nn ls num=(goS nn ⟨⟨c.st,c.now,c.Qd,c.num,c.Qg.erase num⟩,[]⟩,0)):=by
      show _=_
      unfold Qw
      rw[if_neg (by simpa using HW.out),if_neg (by simpa using hm)]
      rfl
     clear hm
     obtain⟨ro,rc,hfv,_,hrn⟩:=Oi.form HIO.out
     subst hfv
     obtain⟨L,hL⟩:∃L,c.Qg.erase num=L:=⟨_,rfl⟩
     rw[hL] at HIO HD ⊢
     clear hL
     obtain⟨W3,hW3⟩:=Qy ((wr.setCell ⟨w.heap.size,8,none⟩ (.slice ro L.length rc)).alloc (.cells #[.slice none 0 0] 86))
     have HR3:Hid (RSt (ZR Y w) w.heap.size wr.heap.size w W3 ⟨⟨c.st,c.now,c.Qd,c.num,L⟩,[]⟩ ⟨a.n,a.x,ro,rc⟩ (.slice none 0 0) []):=by
      rw[hW3]
      have E3:Ext w ((wr.setCell ⟨w.heap.size,8,none⟩ (.slice ro L.length rc)).alloc (.cells #[.slice none 0 0] 86)):=(hEw.setCell (Ql _) _).alloc _
      have hbx:BX (wr.setCell ⟨w.heap.size,8,none⟩ (.slice ro L.length rc)) w.heap.size (coL ⟨c.st,c.now,c.Qd,c.num,L⟩ ⟨a.n,a.x,ro,rc⟩):=by
       have e:(coL c a).set 8 (.slice ro L.length rc)=coL ⟨c.st,c.now,c.Qd,c.num,L⟩ ⟨a.n,a.x,ro,rc⟩:=rfl
       rw[<-e]
       exact BX.set HAr.out.box (i:=8) (by simp[coL]) _
      refine RSt.start (World.rowIs.alloc hbx _) (z7h (by simp) _) ?_ E3 (by omega) hrn
      have q1:=(hst.ext hEw).more (Y':=fun b=>Y b/\b<w.heap.size\/w.heap.size+1+1<b/\b<wr.heap.size) (fun b hb _=>Or.inl hb)
      have q2:=(Oi.stb HIO.out).more (Y':=fun b=>Y b/\b<w.heap.size\/w.heap.size+1+1<b/\b<wr.heap.size) (fun b hb hlt=>Or.inr ⟨by omega,hlt⟩)
      refine((q1.and q2).imp (D':=fun U=>Zr U ⟨c.st,c.now,c.Qd,c.num,L⟩ ⟨a.n,a.x,ro,rc⟩) (fun U k=>⟨k.1.hn,k.1.hx,k.2⟩)).step (by simp) (fun b hb hlt=>?_)
      rw[bal _ _ _ (by simpa using hlt),Zm _ _ _ _ (by simp;omega)]
     have HA3:Hid (W3.cell? ⟨w.heap.size+1,0,none⟩=some (.int .i64 nn)/\W3.cell? ⟨w.heap.size+1,1,none⟩=some (.slice ao len cap)/\W3.heap[w.heap.size+1+1]? =some (.cells #[.int .i64 0,.int .i64 0,.slice none 0 0,.slice none 0 0,.int .i64 0,.slice none 0 0,.slice none 0 0,.int .i64 0,.slice none 0 0] 32)/\w.heap.size+1+1<W3.heap.size):=by
      have hb:∀b,b≠w.heap.size->b<wr.heap.size->W3.heap[b]? =wr.heap[b]?:=fun b h1 h2=>by
       rw[hW3,bal _ _ _ (by simp;omega),Zm _ _ _ _ (by simpa using h1)]
      exact⟨(cob (a:=⟨w.heap.size+1,0,none⟩) (hb (w.heap.size+1) (by omega) hlr1)).trans HAr.out.n0,(cob (a:=⟨w.heap.size+1,1,none⟩) (hb (w.heap.size+1) (by omega) hlr1)).trans HAr.out.n1,(hb _ (by omega) hlr).trans HAr.out.ans,by rw[hW3];simp;omega⟩
     have HQ1:Hid (Qr w.heap.size wr.heap.size (.slice none 0 0) (w.heap.size+1)):=⟨by omega,by omega,by simp[Value.ownBlock]⟩
     have HQ2:Hid (Qr w.heap.size wr.heap.size (.slice none 0 0) (w.heap.size+1+1)):=⟨by omega,by omega,by simp[Value.ownBlock]⟩
     have s8:wr.cell? ⟨w.heap.size,8,none⟩=some (.slice a.wo c.Qg.length a.wc):=Zj HAr.out.box (i:=8) (by omega)
     have z8:wr.frozen? ⟨w.heap.size,8,none⟩=false:=World.rowIs.frozen HAr.out.box 8
     have n0:=HA3.out.1
     have n1:=HA3.out.2.1
     go_upto_region 17 with fail
     rw[<-hW3]
     have HBG:=Qa (q3h _ w.heap.size wr.heap.size nn ao len cap w W3 _ _ _ _ HR3.out hn8 hok.n.fl hok.x.fl (Zu _))
     clear hW3 s8 z8
     go_wp2_with (go_at_call 54;refine Calls.mono HBG.out ?_;rintro e w6 ⟨rfl,a6,tv6,TV6,hR6,hK6⟩;have HR6:=Qa hR6;have HK6:=Qa hK6;clear hR6 hK6)
     clear n0 n1 HBG
     have HAN:Hid (Qr w.heap.size wr.heap.size tv6 (w.heap.size+1+1)/\w6.heap[w.heap.size+1+1]? =some (.cells #[.int .i64 0,.int .i64 0,.slice none 0 0,.slice none 0 0,.int .i64 0,.slice none 0 0,.slice none 0 0,.int .i64 0,.slice none 0 0] 32)):=by
      have k:=HK6.out.block _ HQ2.out HA3.out.2.2.2
      exact⟨k.1,k.2.trans HA3.out.2.2.1⟩
     have hb6:=HAN.out.2
     obtain⟨r0,r1,r2,r3,r4,r5,r6,r7,r8⟩:=box9 hb6
     obtain⟨z0,z1,z2,z3,z4,z5,z6,z7,z8⟩:=frz9 hb6
     simp only[List.getElem?_toArray,List.getElem?_cons_zero,List.getElem?_cons_succ] at r0 r1 r2 r3 r4 r5 r6 r7 r8
     have hl62:w.heap.size+1+1<w6.heap.size:=(asi.1 hb6).1
     have hl60:=World.rowIs.lt HR6.out.box
     have hl6O:=HR6.out.obx.lt
     clear hb6
     obtain⟨k0,k1,o2,l2,q2,o3,l3,q3,k4,o5,l5,q5,o6,l6,q6,k7,o8,l8,q8,tO,l9,tc,c0,c1,c2,c3,c4,c5,c6,c7,c8,cO,HF⟩:=HR6.out.q1e
     go_region
     go_wp2
     refine bodyPost_ret (v:=.tuple #[.agg #[.int .i64 k0,.int .i64 k1,.slice o2 l2 q2,.slice o3 l3 q3,.int .i64 k4,.slice o5 l5 q5,.slice o6 l6 q6,.int .i64 k7,.slice o8 l8 q8],.slice tO l9 tc,.int .i64 0]) (by simp[results,results33,go_sem,r0,r1,r2,r3,r4,r5,r6,r7,r8]) rfl ?_
     rw[HD.out]
     obtain⟨e1,e2,e3⟩:=HF.out
     exact⟨a6,tO,tc,by rw[e1,e2],fun U hU kU=>e3 (fun b hb=>⟨fun e=>HAN.out.1.2.2 (by rw[hb,e]),Or.inr (HR6.out.ownT.lt b hb).1⟩) U (ltr (Nat.le_of_eq q4y.symm) hU) (fun b hb hlt=>(kU b hb.2 (Q5 hlt (Nat.le_of_eq q4y.symm))).trans (q7f b hb.1)),HR6.out.wn,z5y HR6.out.bel (by omega)⟩
    ·rw[dff hm]
     have HD:Hid (Qw c nn ls num=(⟨co0,[]⟩,6)):=by
      show _=_
      unfold Qw
      rw[if_neg (by simpa using HW.out),if_pos hm]
     clear hm
     obtain⟨r0,r1,r2,r3,r4,r5,r6,r7,r8⟩:=HAr.out.q3f
     have z:=Qi HAr.out.ans
     have z0':=z 0
     have z1:=z 1
     have z2:=z 2
     have z3:=z 3
     have z4:=z 4
     have z5:=z 5
     have z6:=z 6
     have z7:=z 7
     have z8:=z 8
     clear z
     go_wp2
     refine bodyPost_ret (v:=.tuple #[.agg #[.int .i64 0,.int .i64 0,.slice none 0 0,.slice none 0 0,.int .i64 0,.slice none 0 0,.slice none 0 0,.int .i64 0,.slice none 0 0],.slice none 0 0,.int .i64 6]) (by simp[results,results33,go_sem,r0,r1,r2,r3,r4,r5,r6,r7,r8]) rfl ?_
     rw[HD.out]
     exact z1i (by omega) hEw _ _ _ _ _ _ _ _ _
 ·have HD:Hid (Qw c n ls num=(⟨co0,[]⟩,(Qc n ls).1)):=by
   show _=_
   unfold Qw
   rw[if_pos hr]
  have hr':((Qc n ls).1 != 0)=true:=by simpa using hr
  clear hr
  obtain⟨r0,r1,r2,r3,r4,r5,r6,r7,r8⟩:=HA2.out.q3f
  have z:=Qi HA2.out.ans
  have z0':=z 0
  have z1:=z 1
  have z2:=z 2
  have z3:=z 3
  have z4:=z 4
  have z5:=z 5
  have z6:=z 6
  have z7:=z 7
  have z8:=z 8
  clear z
  go_wp2
  go_region
  go_wp2
  refine bodyPost_ret (v:=.tuple #[.agg #[.int .i64 0,.int .i64 0,.slice none 0 0,.slice none 0 0,.int .i64 0,.slice none 0 0,.slice none 0 0,.int .i64 0,.slice none 0 0],.slice none 0 0,.int .i64 (Qc n ls).1]) (by simp[results,results33,go_sem,r0,r1,r2,r3,r4,r5,r6,r7,r8]) rfl ?_
  rw[HD.out]
  exact z1h (by omega) hE2 _ _ _ _ _ _ _ _ _
end Ct
end Go.Proofs.YthkpbefnkmmaiaaGreat
