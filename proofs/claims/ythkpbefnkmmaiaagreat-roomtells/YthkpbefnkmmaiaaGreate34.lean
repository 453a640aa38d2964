import Derived.Test.YthkpbefnkmmaiaaGreate33
set_option maxRecDepth 100000
set_option maxHeartbeats 4000000
namespace Go.Proofs.YthkpbefnkmmaiaaGreat
open Go.Proofs.Tryz
namespace Ct
open Go.RowKit Go.Deep Stw Stp Tb Rul
def BInv (Z:Nat->Prop) (P O n:Nat) (w0 w1:World) (tv:Value) (g:Cg) (wr:World):Prop:=∃g' a' tv' TV',RSt Z P O w0 wr g' a' tv' TV'/\RKp P O w1 tv wr tv'/\(g'=g\/(g.c.st=1/\g.c.Qg=[]/\g'=told n (Zz g.c.now g.c.Qd) (Zd g 2)))
theorem RSt.rkW{Z:Nat->Prop}{P O:Nat}{w0 w:World}{g:Cg}{a:CA}{tv:Value}{TV:List Value}(h:RSt Z P O w0 w g a tv TV):Ct.rkW P w=rk g.c.st:=by
 have:w.cell? ⟨P,0,none⟩=some (.int .i64 g.c.st):=Zj h.box (i:=0) (by omega)
 unfold Ct.rkW;rw[this]
theorem q3h(Z:Nat->Prop)(P O n:Nat)(ao:Option Addr)(len cap:Nat)(w0 w:World)(g:Cg)(a:CA)(tv:Value)(TV:List Value)(h:RSt Z P O w0 w g a tv TV)(hn:n<=8)(hnf:g.c.now.fs.length<=16777216)(hxf:g.c.Qd.fs.length<=16777216)(hol:g.out.length<=50):
 Calls prog 54 #[.pointer (some ⟨P,0,none⟩),.agg #[.int .i64 n,.slice ao len cap],.pointer (some ⟨O,0,none⟩)] w fun e w'=>TlOut Z P O w0 w (goS n g) tv e w':=by
 have HR0:=Qa h
 have htb:=(h.fresh w.heap.size (Ql _)).1
 clear h
 go_enter func54,ntmps54
 go_wp2
 obtain⟨w1,hw1⟩:=Qy (w.alloc (.cells #[.int .i64 n,.slice ao len cap] 24))
 have HR1:Hid (RSt Z P O w0 w1 g a tv TV/\RKp P O w tv w1 tv/\w1.cell? ⟨w.heap.size,0,none⟩=some (.int .i64 n)/\w.heap.size<w1.heap.size):=by
  rw[hw1]
  exact⟨HR0.out.ext ((Ext.refl w).alloc _),RKp.ext ((Ext.refl w).alloc _),by simp,by simp⟩
 rw[<-hw1]
 clear hw1 HR0
 have HTB:=Qa htb
 clear htb
 go_loopw [] (fun wr=>Hid (BInv Z P O n w0 w1 tv g wr)) (fun wr=>rkW P wr)
 case atStart=>exact⟨g,a,tv,TV,HR1.out.1,RKp.ext (Ext.refl _),Or.inl rfl⟩
 case round=>
  obtain⟨g',a',tv',TV',hR,hK,hg⟩:=hrel.out
  have HG:=Qa hg
  have HR:=Qa hR
  have HK:=Qa hK
  have HRK:=Qa hR.rkW
  clear hrel hR hK hg
  have c0:wr.cell? ⟨P,0,none⟩=some (.int .i64 g'.c.st):=Zj HR.out.box (i:=0) (by omega)
  have c8:wr.cell? ⟨P,8,none⟩=some (.slice a'.wo g'.c.Qg.length a'.wc):=Zj HR.out.box (i:=8) (by omega)
  have z0:=World.rowIs.frozen HR.out.box 0
  have HEQ:Hid (goS n g'=goS n g):=by
   show goS n g'=goS n g
   rcases HG.out with e | ⟨h1,h2,e⟩
   ·rw[e]
   ·rw[e];exact(goS_told h1 h2).symm
  obtain⟨⟨st,now,Qd,num,Qg⟩,out⟩:=g'
  simp only at c0 c8
  by_cases hw:Qg=[]
  ·subst hw
   simp only[List.length_nil] at c8
   by_cases h4:st=4
   ·subst h4
    have HE:Hid (goS n g=⟨⟨0,Qd,pl0,num,[]⟩,out⟩):=HEQ.out.symm.trans rfl
    have c1:wr.cell? ⟨P,1,none⟩=some (.int .i64 now.v):=Zj HR.out.box (i:=1) (by omega)
    have c2:wr.cell? ⟨P,2,none⟩=some (.slice a'.n.fo now.fs.length a'.n.fc):=Zj HR.out.box (i:=2) (by omega)
    have c3:wr.cell? ⟨P,3,none⟩=some (.slice a'.n.qo now.ps.length a'.n.qc):=Zj HR.out.box (i:=3) (by omega)
    have c4:wr.cell? ⟨P,4,none⟩=some (.int .i64 Qd.v):=Zj HR.out.box (i:=4) (by omega)
    have c5:wr.cell? ⟨P,5,none⟩=some (.slice a'.x.fo Qd.fs.length a'.x.fc):=Zj HR.out.box (i:=5) (by omega)
    have c6:wr.cell? ⟨P,6,none⟩=some (.slice a'.x.qo Qd.ps.length a'.x.qc):=Zj HR.out.box (i:=6) (by omega)
    have z1:=World.rowIs.frozen HR.out.box 1
    have z2:=World.rowIs.frozen HR.out.box 2
    have z3:=World.rowIs.frozen HR.out.box 3
    have z4:=World.rowIs.frozen HR.out.box 4
    have z5:=World.rowIs.frozen HR.out.box 5
    have z6:=World.rowIs.frozen HR.out.box 6
    have HT:=Qa HR.out.turn
    go_wp2
    go_end0
    exact⟨rfl,_,_,_,by rw[HE.out];exact HT.out.1,HR1.out.2.1.trans (HK.out.trans HT.out.2)⟩
   ·by_cases h2:st=2
    ·subst h2
     have HE:Hid (goS n g=⟨⟨3,now,Qd,num,[]⟩,out⟩):=HEQ.out.symm.trans rfl
     have HT:=Qa (HR.out.stage (k:=3))
     go_wp2
     go_end0
     exact⟨rfl,_,_,_,by rw[HE.out];exact HT.out.1,HR1.out.2.1.trans (HK.out.trans HT.out.2)⟩
    ·by_cases h1:st=1
     ·subst h1
      have hge:g=⟨⟨1,now,Qd,num,[]⟩,out⟩:=by
       rcases HG.out with e | ⟨_,_,e⟩
       ·exact e.symm
       ·have:=congrArg (fun x:Cg=>x.c.st) e
        simp[told,Zd] at this
      have HE:Hid (goS n g=goS n (told n (Zz now Qd) ⟨⟨2,now,Qd,num,[]⟩,out⟩)/\g.c.st=1/\g.c.Qg=[]/\told n (Zz g.c.now g.c.Qd) (Zd g 2)=told n (Zz now Qd) ⟨⟨2,now,Qd,num,[]⟩,out⟩):=by
       subst hge
       exact⟨goS_told rfl rfl,rfl,rfl,rfl⟩
      rw[hge] at hnf hxf hol
      simp only at hnf hxf hol
      clear hge HEQ HG h2 h4
      obtain⟨wo,hwo⟩:=Qy (wr)
      subst hwo
      obtain⟨w2,hw2⟩:=Qy (wo.setCell ⟨P,0,none⟩ (.int .i64 2))
      have HR2:Hid (RSt Z P O w0 w2 ⟨⟨2,now,Qd,num,[]⟩,out⟩ a' tv' TV'/\RKp P O w1 tv w2 tv'):=by
       have hst:=HR.out.stage (k:=2)
       rw[<-hw2] at hst
       exact⟨hst.1,HK.out.trans hst.2⟩
      obtain⟨i0,hi0,hz00,hz01,hz02⟩:=info_parts q8k
      go_upto_region 7 with fail
      rw[<-hw2]
      clear hw2 c0 c8 z0
      go_wp2
      go_loopw [6] (fun sv wx=>∃s:Nat,s<=n/\sv=.int .i64 s/\Hid (∃a2 tv2 TV2,RSt Z P O w0 wx (told s (Zz now Qd) ⟨⟨2,now,Qd,num,[]⟩,out⟩) a2 tv2 TV2/\RKp P O w1 tv wx tv2)) (fun sv _=>n - (intOf sv).toNat)
      case atStart=>exact⟨0,Zu _,rfl,_,_,_,HR2.out.1,HR2.out.2⟩
      case round=>
       obtain⟨s,hs,rfl,HX⟩:=hrel
       obtain⟨a2,tv2,TV2,hR2,hK2⟩:=HX.out
       have HR3:=Qa hR2
       have HK3:=Qa hK2
       have HL:=Qa (q0t (ord:=Zz now Qd) (g:=⟨⟨2,now,Qd,num,[]⟩,out⟩) s)
       clear HX hR2 hK2
       have t0:wr.cell? ⟨w.heap.size,0,none⟩=some (.int .i64 n):=(cob (a:=⟨w.heap.size,0,none⟩) (HK3.out.block w.heap.size HTB.out HR1.out.2.2.2).2).trans HR1.out.2.2.1
       have htl:w.heap.size<wr.heap.size:=Q5 HR1.out.2.2.2 HK3.out.size
       by_cases hlt:s<n
       ·have i1:(s:Int)<(n:Int):=by omega
        have hPl:=World.rowIs.lt HR3.out.box
        have HCX:Hid (∀V,Ext wr V->cl V P 2 (.slice a2.n.fo now.fs.length a2.n.fc)/\cl V P 4 (.int .i64 Qd.v)/\cl V P 5 (.slice a2.x.fo Qd.fs.length a2.x.fc)):=fun V hV=>by
         have q:=(HR3.out.ext hV).box
         exact⟨Zj q (i:=2) (by omega),Zj q (i:=4) (by omega),Zj q (i:=5) (by omega)⟩
        have HFX:Hid (Fw.Qk wr a2.x.fo Qd.fs/\Fw.Qk wr a2.n.fo now.fs):=⟨HR3.out.at_.at.hx.hf,HR3.out.at_.at.hn.hf⟩
        obtain⟨_,_,c5⟩:=HCX.out wr (Ext.refl wr)
        obtain⟨wq,hwq⟩:=Qy (wr)
        subst hwq
        go_wp2
        go_loopw [7,82] (fun lv iv wy=>∃(i:Nat) (fv:Value),i<=Qd.fs.length/\iv=.int .i64 i/\lv=fv/\Hid (Oi wy wq.heap.size fv (beg s Qd.fs i))/\Ext wq wy) (fun _ iv _=>Qd.fs.length - (intOf iv).toNat)
        case atStart=>exact⟨0,.slice none 0 0,Zu _,rfl,rfl,World.ownsRow_nil _ _ _ _,Ext.refl _⟩
        case round=>
         obtain⟨i,fv,hi,rfl,hlv,HIO,hEy⟩:=hrel
         obtain rfl:=hlv.symm
         have hqs:=hEy.size
         by_cases hil:i<Qd.fs.length
         ·obtain⟨b,off,vo,vc,no',nc',fa,ft,X,Y,hxo,hb,hg,d0,d1,d2,d3,⟨_,_,e1,hv,hvc⟩,⟨_,_,e2,hn',hnc⟩⟩:=(HFX.out.1.ext hEy).get (k:=i) hil
          cases e1
          cases e2
          rw[hxo]
          have i2:(i:Int)<(Qd.fs.length:Int):=by omega
          have HGT:=Qa hg
          have E4:=(Ext.refl wr).alloc (.cells #[.int .i64 fa,.int .i64 ft,.slice vo X.length vc,.slice no' Y.length nc'] 74)
          clear hg hv hvc hn' hnc hxo
          by_cases hfa:fa=s
          ·have HB:Hid (beg s Qd.fs (i+1)=beg s Qd.fs i++[(i:Int)]):=by show _=_;rw[beg,HGT.out,if_pos hfa]
           have hbl:=q8t (s:=s) (fs:=Qd.fs) i
           subst hfa
           obtain⟨L,hL⟩:∃L,beg s Qd.fs i=L:=⟨_,rfl⟩
           rw[hL] at HIO HB hbl
           clear hL
           obtain⟨wf,hwf⟩:=Qy (wr.alloc (.cells #[.int .i64 s,.int .i64 ft,.slice vo X.length vc,.slice no' Y.length nc'] 74))
           have HIF:Hid (Oi wf wq.heap.size fv L):=by show Oi _ _ _ _;rw[hwf];exact q0h HIO.out E4
           have hEf:Ext wq wf:=by rw[hwf];exact hEy.trans E4
           have hfs:wf.heap.size=wr.heap.size+1:=by rw[hwf];simp
           go_wp2_with (first | (at_builtin;rw[<-hwf, <-hfs];refine wpList_append_lies _ rfl _ _ 30 rfl wq.heap.size 3 i0 (.int .i64 0) 1 8 underlying30 hi0 hz00 hz01 hz02 rfl (by decide) _ _ _ rfl (HIF.out.alloc _) ⟨wf.heap.size,0,none⟩ 1 1 [.int .i64 i] rfl rfl (news1' rfl _ _) (z1t _) (by decide) (by unfold maxLen;omega) (by omega) (by simp;omega) _ rfl ?_) | go_in)
           intro g7 gc7 w7 hown7 hgr7 hat7 hlt7
           have H7:Hid (Oi w7 wq.heap.size (.slice (some ⟨g7,0,none⟩) (L.length+1) gc7) (L++[(i:Int)])):=by
            show Oi _ _ _ _
            unfold Oi
            rw[List.map_append,lap]
            exact hown7
           have hE7:Ext wq w7:=Below.grown ((hEy.trans E4).alloc _) hgr7 (by simp;omega) (fun j hj=>(HIO.out.lt j hj).1)
           clear hown7 hgr7 hat7
           go_wp2
           exact⟨⟨i+1,_,by omega,by go_num,rfl,by rw[HB.out];exact H7.out,hE7⟩,by simp[intOf];omega⟩
          ·have HB:Hid (beg s Qd.fs (i+1)=beg s Qd.fs i):=by show _=_;rw[beg,HGT.out,if_neg hfa,List.append_nil]
           have b1:(fa == (s:Int))=false:=by simpa using hfa
           clear hfa
           go_wp2
           exact⟨⟨i+1,fv,by omega,by go_num,rfl,by rw[HB.out];exact q0h HIO.out E4,hEy.trans E4⟩,by simp[intOf];omega⟩
         ·have i2:¬(i:Int)<(Qd.fs.length:Int):=by omega
          have hil':i=Qd.fs.length:=by omega
          rw[hil'] at HIO
          clear hil'
          obtain⟨L,hL⟩:∃L,beg s Qd.fs Qd.fs.length=L:=⟨_,rfl⟩
          have HLL:=Qa hL
          have hLl:L.length<=16777216:=by rw[<-hL];exact ltr (q8t _) hxf
          rw[hL] at HIO
          clear hL
          obtain⟨lo',lc',hfv,_,_⟩:=Oi.form HIO.out
          subst hfv
          obtain⟨c2,c4,_⟩:=HCX.out wr hEy
          obtain⟨wy,hwy⟩:=Qy (wr)
          subst hwy
          go_wp2
          go_loopw [8,102] (fun bv iv wz=>∃j:Nat,j<=now.fs.length/\iv=.int .i64 j/\bv=.bool (decide (beg s now.fs j≠[]))/\Ext wy wz) (fun _ iv _=>now.fs.length - (intOf iv).toNat)
          case atStart=>exact⟨0,Zu _,rfl,rfl,Ext.refl _⟩
          case round=>
           obtain⟨j,hj,rfl,rfl,hEz⟩:=hrel
           by_cases hjl:j<now.fs.length
           ·obtain⟨b,off,vo,vc,no',nc',fa,ft,X,Y,hxo,hb,hg,d0,d1,d2,d3,⟨_,_,e1,hv,hvc⟩,⟨_,_,e2,hn',hnc⟩⟩:=(HFX.out.2.ext (hEy.trans hEz)).get (k:=j) hjl
            cases e1
            cases e2
            rw[hxo]
            have i3:(j:Int)<(now.fs.length:Int):=by omega
            have HB:Hid (decide (beg s now.fs (j+1)≠[])=(decide (beg s now.fs j≠[]) || (fa == (s:Int)))):=by
             show _=_
             rw[beg,hg]
             by_cases h:fa=s
             ·simp[h]
             ·simp[h]
            have E4:=hEz.alloc (.cells #[.int .i64 fa,.int .i64 ft,.slice vo X.length vc,.slice no' Y.length nc'] 74)
            clear hg hv hvc hn' hnc hxo
            obtain⟨B,hB⟩:∃B,decide (beg s now.fs j≠[])=B:=⟨_,rfl⟩
            rw[hB] at HB ⊢
            clear hB
            cases B
            ·go_wp2
             exact⟨⟨j+1,by omega,by go_num,by rw[HB.out];first | done | rfl,E4⟩,by simp[intOf];omega⟩
            ·go_wp2
             exact⟨⟨j+1,by omega,by go_num,by rw[HB.out];first | done | rfl,E4⟩,by simp[intOf];omega⟩
           ·have i3:¬(j:Int)<(now.fs.length:Int):=by omega
            have hjl':j=now.fs.length:=by omega
            rw[hjl']
            clear hjl'
            have hEq:Ext wq wr:=hEy.trans hEz
            have HRr:=Qa (HR3.out.ext hEq)
            have HKr:=Qa (HK3.out.trans (RKp.ext hEq))
            have HSO:Hid (Zz now Qd s=if L=[]/\beg s now.fs now.fs.length=[] then none else some ⟨2,0,Qd.v,[],L⟩):=by show _=_;unfold Zz;rw[HLL.out]
            obtain⟨M,hM⟩:∃M,beg s now.fs now.fs.length=M:=⟨_,rfl⟩
            rw[hM] at HSO ⊢
            clear hM
            obtain⟨_,e4,_⟩:=HCX.out wr hEq
            by_cases hboth:L=[]/\M=[]
            ·have HN:Hid (told (s+1) (Zz now Qd) ⟨⟨2,now,Qd,num,[]⟩,out⟩=told s (Zz now Qd) ⟨⟨2,now,Qd,num,[]⟩,out⟩):=q1r (by rw[HSO.out,if_pos hboth])
             obtain⟨h1,h2⟩:=hboth
             subst h1 h2
             simp only[List.length_nil]
             go_wp2
             exact⟨⟨s+1,by omega,by go_num,_,_,_,by rw[HN.out];exact HRr.out,HKr.out⟩,by simp[intOf];omega⟩
            ·have HN:=Qa (q1q (g:=⟨⟨2,now,Qd,num,[]⟩,out⟩) (show Zz now Qd s=some ⟨2,0,Qd.v,[],L⟩ by rw[HSO.out,if_neg hboth]))
             have HTL:=Qa (q4v Z P O s 2 0 Qd.v [] L none lo' 0 0 L.length lc' w0 wr _ a2 tv2 TV2 HRr.out (RQ.nil _ _) (Oi.lq (q0h HIO.out hEz) (fun b hb hlt=>HR3.out.fresh b hb)) (by have h:_<=0+s:=HL.out.1;omega) (by have h:_<=out.length+s:=HL.out.2;omega))
             have HCond:Hid (0<L.length\/M≠[]):=by
              by_cases hL0:L=[]
              ·exact Or.inr (fun h=>hboth ⟨hL0,h⟩)
              ·exact Or.inl (List.length_pos_iff.2 hL0)
             clear hboth
             by_cases hM0:M=[]
             focus
              have iL:(0:Int)<(L.length:Int):=by rcases HCond.out with h | h;omega;exact absurd hM0 h
              have bM:decide (M≠[])=false:=by simpa using hM0
             rotate_left
             focus
              have bM:decide (M≠[])=true:=by simpa using hM0
             rotate_left
             all_goals(
              rw[bM]
              clear bM hM0
              go_wp2_with (go_at_call 53;refine Calls.mono HTL.out ?_;rintro e w5 ⟨rfl,a5,tv5,TV5,hR5,hK5⟩;have HR5:=Qa hR5;have HK5:=Qa hK5;clear hR5 hK5)
              exact⟨⟨s+1,by omega,by go_num,_,_,_,by rw[HN.out];exact HR5.out,HKr.out.trans HK5.out⟩,by simp[intOf];omega⟩)
       ·have i1:¬(s:Int)<(n:Int):=by omega
        have hsn:s=n:=by omega
        rw[hsn] at HR3
        clear hsn
        go_wp2
        exact⟨⟨_,a2,tv2,TV2,HR3.out,HK3.out,Or.inr ⟨HE.out.2.1,HE.out.2.2.1,HE.out.2.2.2.symm⟩⟩,by rw[HRK.out,HR3.out.rkW];show rk 2<rk 1;decide⟩
     ·have b1:(st == 1)=false:=by simpa using h1
      have b2:(st == 2)=false:=by simpa using h2
      have b4:(st == 4)=false:=by simpa using h4
      have HE:Hid (goS n g=⟨⟨st,now,Qd,num,[]⟩,out⟩):=HEQ.out.symm.trans (by unfold goS;simp[h1,h2,h4])
      clear h1 h2 h4
      go_wp2
      go_end0
      exact⟨rfl,_,_,_,by rw[HE.out];exact HR.out,HR1.out.2.1.trans HK.out⟩
  ·have b0:((Qg.length:Int) == 0)=false:=by simpa using hw
   have HE:Hid (goS n g=⟨⟨st,now,Qd,num,Qg⟩,out⟩):=HEQ.out.symm.trans (goS_wait hw)
   clear hw
   go_wp2
   go_end0
   exact⟨rfl,_,_,_,by rw[HE.out];exact HR.out,HR1.out.2.1.trans HK.out⟩
end Ct
section
open Go.RowKit Go.Maps Stw
theorem hid{p:Prop}(h:p):Hid p:=h
theorem q1x(e i:Int)(b:Nat)(w:World)(hb:b<w.heap.size)(hc:w.cell? ⟨b,0,none⟩=some (.int .i64 i)):
 Calls prog 28 #[.int .i64 e,.pointer (some ⟨b,0,none⟩)] w fun r w'=>r=.returned (.agg #[.int .i64 e,.int .i64 i])/\Ext w w':=by
 go_enter func28,ntmps28
 go_wp2
 exact bodyPost_ret (v:=.agg #[.int .i64 e,.int .i64 i]) (by simp[results,results28,go_sem]) rfl ⟨rfl,(Ext.refl w).alloc _⟩
theorem q0x(n:Int)(ao:Option Addr)(len cap:Nat)(w:World)(hm:many n len=true)(hl:len<=9223372036854775807):
 Calls prog 12 #[.agg #[.int .i64 n,.slice ao len cap]] w fun e w'=>e=.returned (.agg #[.int .i64 5,.int .i64 0])/\Ext w w':=by
 simp only[many,decide_eq_true_eq] at hm
 by_cases h1:n<1
 ·clear hm
  go_enter func12,ntmps12
  go_wp2
  exact bodyPost_ret (v:=.agg #[.int .i64 5,.int .i64 0]) (by simp[results,results12,go_sem]) rfl ⟨rfl,((Ext.refl w).alloc _).alloc _⟩
 ·by_cases h2:8<n
  ·clear hm
   go_enter func12,ntmps12
   go_wp2
   exact bodyPost_ret (v:=.agg #[.int .i64 5,.int .i64 0]) (by simp[results,results12,go_sem]) rfl ⟨rfl,((Ext.refl w).alloc _).alloc _⟩
  ·have h3:(28:Int)<(len:Int):=by omega
   clear hm
   go_enter func12,ntmps12
   go_wp2
   exact bodyPost_ret (v:=.agg #[.int .i64 5,.int .i64 0]) (by simp[results,results12,go_sem]) rfl ⟨rfl,((Ext.refl w).alloc _).alloc _⟩
theorem z1k(n:Int)(ao:Option Addr)(cap:Nat)(w:World)(hm:many n 0=false):
 Calls prog 12 #[.agg #[.int .i64 n,.slice ao 0 cap]] w fun e w'=>e=.returned (.agg #[.int .i64 0,.int .i64 0])/\Ext w w':=by
 simp only[many,decide_eq_false_iff_not] at hm
 have h1:¬n<1:=by omega
 have h2:¬8<n:=by omega
 clear hm
 go_enter func12,ntmps12
 go_wp2
 refine wp_loop_rounds 1 ?_
 rw[rounds_succ]
 go_wp2
 exact bodyPost_ret (v:=.agg #[.int .i64 0,.int .i64 0]) (by simp[results,results12,go_sem]) rfl ⟨rfl,((Ext.refl w).alloc _).alloc _⟩
variable {ls:List Lk} {k:Nat} {a b:Int}
theorem anyJ_false(hk:k<=ls.length)(h:∀j,j<k->jn (ls.getD j lk0) a b=false):anyJ (ls.take k) a b=false:=by
 unfold anyJ
 rw[List.any_eq_false]
 intro l hl
 obtain⟨i,hi,rfl⟩:=List.getElem_of_mem hl
 simp only[List.length_take] at hi
 have:=h i (by omega)
 rw[List.getElem_take]
 have e:ls.getD i lk0=ls[i]'(by omega):=by simp[show i<ls.length by omega]
 rw[e] at this
 simp[this]
theorem anyJ_true{m:Nat}(hk:k<=ls.length)(hm:m<k)(h:jn (ls.getD m lk0) a b=true):anyJ (ls.take k) a b=true:=by
 unfold anyJ
 rw[List.any_eq_true]
 refine⟨ls.getD m lk0,?_,h⟩
 have e:ls.getD m lk0=ls[m]'(by omega):=by simp[show m<ls.length by omega]
 rw[e,List.mem_take_iff_getElem]
 exact⟨m,by omega,rfl⟩
theorem jn_cases(y:Lk)(a b:Int):((y.a == a)=true/\(y.b == b)=true/\jn y a b=true)\/((y.a == a)=true/\(y.b == b)=false/\(y.a == b)=true/\(y.b == a)=true/\jn y a b=true)\/((y.a == a)=true/\(y.b == b)=false/\(y.a == b)=true/\(y.b == a)=false/\jn y a b=false)\/
 ((y.a == a)=true/\(y.b == b)=false/\(y.a == b)=false/\jn y a b=false)\/((y.a == a)=false/\(y.a == b)=true/\(y.b == a)=true/\jn y a b=true)\/((y.a == a)=false/\(y.a == b)=true/\(y.b == a)=false/\jn y a b=false)\/((y.a == a)=false/\(y.a == b)=false/\jn y a b=false):=by
 unfold jn
 cases (y.a == a) <;> cases (y.b == b) <;> cases (y.a == b) <;> cases (y.b == a) <;> simp
theorem z1j(n:Int)(b off len cap:Nat)(ls:List Lk)(w:World)(hm:many n len=false)(hlen:ls.length=len)(hl:q5a w b off ls)(hbl:b<w.heap.size)(hcap:len<=cap):
 Calls prog 12 #[.agg #[.int .i64 n,.slice (some ⟨b,off,none⟩) len cap]] w fun e w'=>e=.returned (.agg #[.int .i64 (Qc n ls).1,.int .i64 (Qc n ls).2])/\Ext w w':=by
 have hm':=hm
 simp only[many,decide_eq_false_iff_not] at hm'
 have h1:¬n<1:=by omega
 have h2:¬8<n:=by omega
 have h3:¬(28:Int)<(len:Int):=by omega
 clear hm'
 go_enter func12,ntmps12
 go_wp2
 go_loopw [26] (fun i wr=>∃k:Nat,k<=len/\i=.int .i64 k/\(∀j,j<k->ewl n ls j=0)/\
  Below (w.heap.size+1+1) ((w.alloc (.cells #[.int .i64 n,.slice (some ⟨b,off,none⟩) len cap] 24)).alloc (.cells #[.int .i64 0,.int .i64 0] 43)) wr/\w.heap.size+1<wr.heap.size)
  (fun i _=>len - (intOf i).toNat)
 case atStart=>exact⟨0,Zu _,rfl,fun j hj=>by omega,Below.refl _ _,by simp⟩
 case round=>
  obtain⟨k,hk,rfl,hpre,hnx,hs1⟩:=hrel
  obtain⟨wo,rfl⟩:∃wo:World,wo=wr:=⟨_,rfl⟩
  have hs0:w.heap.size<wo.heap.size:=by omega
  obtain⟨c0,c1,c2,c3,f2,f3,hold⟩:=z3g hnx
  by_cases hlt:k<len
  ·obtain⟨l0,l1,l2⟩:=hl k (by omega)
   rw[<-hold _ _ hbl] at l0 l1 l2
   obtain⟨x,hx⟩:=Qy (ls.getD k lk0)
   rw[<-hx] at l0 l1 l2
   have HX:Hid (x=ls.getD k lk0):=hx
   have hbr:b<wo.heap.size:=by omega
   clear hold hx
   have hWl:wo.heap.size<((wo.alloc (.cells #[.int .i64 k] 3)).alloc (.cells #[.int .i64 x.a,.int .i64 x.b,.int .i64 x.c] 84)).heap.size:=by simp;omega
   have hWc:((wo.alloc (.cells #[.int .i64 k] 3)).alloc (.cells #[.int .i64 x.a,.int .i64 x.b,.int .i64 x.c] 84)).cell? ⟨wo.heap.size,0,none⟩=some (.int .i64 k):=by
    rw[World.cell?_alloc_past _ _ _ (by simp)];simp
   have hWs:w.heap.size+1<((wo.alloc (.cells #[.int .i64 k] 3)).alloc (.cells #[.int .i64 x.a,.int .i64 x.b,.int .i64 x.c] 84)).heap.size:=by simp;omega
   have hWe:Ext wo ((wo.alloc (.cells #[.int .i64 k] 3)).alloc (.cells #[.int .i64 x.a,.int .i64 x.b,.int .i64 x.c] 84)):=((Ext.refl wo).alloc _).alloc _
   have hWb:=And.intro ((hWe.cells.1 _ 0 hs1).trans c2) (And.intro ((hWe.cells.1 _ 1 hs1).trans c3) (And.intro ((hWe.cells.2 _ 0 hs1).trans f2) ((hWe.cells.2 _ 1 hs1).trans f3)))
   have HWL:Hid (wo.heap.size<((wo.alloc (.cells #[.int .i64 k] 3)).alloc (.cells #[.int .i64 x.a,.int .i64 x.b,.int .i64 x.c] 84)).heap.size):=hWl
   have HWC:=hid hWc
   have HWS:=hid hWs
   have HWB:=hid hWb
   clear hWl hWc hWs hWb
   by_cases hA:x.a<0\/x.b<0\/n<=x.a\/n<=x.b
   ·have hw6:Zc n x.a x.b x.c=6:=by
     have:swB n x.a=false\/swB n x.b=false:=by rw[q5e,q5e];omega
     simp[Zc,this]
    have hfin:Qc n ls=(6,(k:Int)):=by
     have e1:=q7c HX.out (by rw[hw6];decide)
     rw[q2h (by rw[hlen];exact hm) (by omega) hpre (by rw[e1,hw6];decide),e1,hw6]
    have HF:Hid (Qc n ls=(6,(k:Int))):=hfin
    clear hfin hw6
    rcases(show x.a<0\/(¬x.a<0/\x.b<0)\/(¬x.a<0/\¬x.b<0/\n<=x.a)\/(¬x.a<0/\¬x.b<0/\¬n<=x.a/\n<=x.b) by omega) with hq | ⟨hq1,hq2⟩ | ⟨hq1,hq2,hq3⟩ | ⟨hq1,hq2,hq3,hq4⟩
    all_goals
     clear hA
     go_wp2_with fail
     have hWl:=HWL.out
     have hWc:=HWC.out
     have hWs:=HWS.out
     have hWb:=HWB.out
     refine(q1x _ (k:Int) _ _ hWl hWc).mono ?_
     rintro r w1 ⟨rfl,hb1⟩
     have d0:=(hb1.cells.1 _ 0 hWs).trans (hWb.1)
     have d1:=(hb1.cells.1 _ 1 hWs).trans (hWb.2.1)
     have d2:=(hb1.cells.2 _ 0 hWs).trans (hWb.2.2.1)
     have d3:=(hb1.cells.2 _ 1 hWs).trans (hWb.2.2.2)
     have hz:w.heap.size+1<w1.heap.size:=Q5 hWs hb1.size
     go_wp2
     exact bodyPost_ret (v:=.agg #[.int .i64 6,.int .i64 k]) (by simp[results,results12,go_sem,d0,d1]) rfl ⟨by rw[HF.out],((((((q1i hnx).alloc _).alloc _).trans hb1).setCell (by simp) _).setCell (by simp) _)⟩
   ·have ha1:0<=x.a:=by omega
    have ha2:x.a<n:=by omega
    have hb1':0<=x.b:=by omega
    have hb2':x.b<n:=by omega
    clear hA
    have hsa:swB n x.a=true:=q2s.2 ⟨ha1,ha2⟩
    have hsb:swB n x.b=true:=q2s.2 ⟨hb1',hb2'⟩
    cases hE:(x.a == x.b)
    ·have hne:x.a≠x.b:=by simpa using hE
     by_cases hC:x.c<1\/1000<x.c
     ·have hw3:Zc n x.a x.b x.c=3:=by simp[Zc,hsa,hsb,hne,hC]
      have hfin:Qc n ls=(3,(k:Int)):=by
       have e1:=q7c HX.out (by rw[hw3];decide)
       rw[q2h (by rw[hlen];exact hm) (by omega) hpre (by rw[e1,hw3];decide),e1,hw3]
      have HF:Hid (Qc n ls=(3,(k:Int))):=hfin
      clear hfin hw3 hne
      rcases(show x.c<1\/(¬x.c<1/\1000<x.c) by omega) with hq | ⟨hq1,hq2⟩
      all_goals
       clear hC
       go_wp2_with fail
       have hWl:=HWL.out
       have hWc:=HWC.out
       have hWs:=HWS.out
       have hWb:=HWB.out
       refine(q1x _ (k:Int) _ _ hWl hWc).mono ?_
       rintro r w1 ⟨rfl,hb1⟩
       have d0:=(hb1.cells.1 _ 0 hWs).trans (hWb.1)
       have d1:=(hb1.cells.1 _ 1 hWs).trans (hWb.2.1)
       have d2:=(hb1.cells.2 _ 0 hWs).trans (hWb.2.2.1)
       have d3:=(hb1.cells.2 _ 1 hWs).trans (hWb.2.2.2)
       have hz:w.heap.size+1<w1.heap.size:=Q5 hWs hb1.size
       go_wp2
       exact bodyPost_ret (v:=.agg #[.int .i64 3,.int .i64 k]) (by simp[results,results12,go_sem,d0,d1]) rfl ⟨by rw[HF.out],((((((q1i hnx).alloc _).alloc _).trans hb1).setCell (by simp) _).setCell (by simp) _)⟩
     ·have hC1:1<=x.c:=by omega
      have hC2:x.c<=1000:=by omega
      clear hC
      have hw0:Zc n x.a x.b x.c=0:=by simp[Zc,hsa,hsb,hne];omega
      have HW0:Hid (Zc n x.a x.b x.c=0):=hw0
      clear hw0 hne
      have i1:(k:Int)<=(cap:Int):=by omega
      obtain⟨Wk,hWk⟩:=Qy (((wo.alloc (.cells #[.int .i64 k] 3)).alloc (.cells #[.int .i64 x.a,.int .i64 x.b,.int .i64 x.c] 84)))
      have x0:Wk.cell? ⟨wo.heap.size+1,0,none⟩=some (.int .i64 x.a):=by rw[hWk];simp
      have x1:Wk.cell? ⟨wo.heap.size+1,1,none⟩=some (.int .i64 x.b):=by rw[hWk];simp
      have hWks:Wk.heap.size=wo.heap.size+1+1:=by rw[hWk];simp
      have hWc:=HWC.out
      have hWb:=HWB.out
      rw[<-hWk] at hWc hWb hWe
      have HWK:Hid (Wk=((wo.alloc (.cells #[.int .i64 k] 3)).alloc (.cells #[.int .i64 x.a,.int .i64 x.b,.int .i64 x.c] 84))):=hWk
      have HWKS:Hid (Wk.heap.size=wo.heap.size+1+1):=hWks
      clear hWk hWks
      go_wp2
      rw[<-HWK.out]
      go_loopw [78] (fun jv wr=>∃m:Nat,m<=k/\jv=.int .i64 m/\(∀j,j<m->jn (ls.getD j lk0) x.a x.b=false)/\Ext Wk wr) (fun jv _=>k - (intOf jv).toNat)
      case atStart=>exact⟨0,Zu _,rfl,fun j hj=>by omega,Ext.refl _⟩
      case round=>
       obtain⟨m,hmk,rfl,hno,hxw⟩:=hrel
       have hsz:=hxw.size
       have hWks:=HWKS.out
       have b1:wo.heap.size+1<wr.heap.size:=by omega
       have b0:wo.heap.size<wr.heap.size:=by omega
       have y0:=(hxw.cells.1 _ _ (by omega)).trans x0
       have y1:=(hxw.cells.1 _ _ (by omega)).trans x1
       clear hWks
       by_cases hmlt:m<k
       ·obtain⟨m0,m1,m2⟩:=hl m (by omega)
        have hwr:Ext w wr:=((q1i hnx).trans hWe).trans hxw
        rw[<-hwr.cells.1 _ _ hbl] at m0 m1 m2
        have hjc:=jn_cases (ls.getD m lk0) x.a x.b
        have hjt:=anyJ_true (ls:=ls) (k:=k) (m:=m) (a:=x.a) (b:=x.b) (by omega) hmlt
        obtain⟨y,hy⟩:=Qy (ls.getD m lk0)
        rw[<-hy] at m0 m1 m2 hjc hjt
        have HY:Hid (y=ls.getD m lk0):=hy
        have HJT:Hid (jn y x.a x.b=true->anyJ (ls.take k) x.a x.b=true):=hjt
        have HNO:Hid (∀j,j<m->jn (ls.getD j lk0) x.a x.b=false):=hno
        clear hy hjt hno
        have hbr2:b<wr.heap.size:=by have:=hwr.size;omega
        have i2:(m:Int)<(k:Int):=by omega
        rcases hjc with⟨j1,j2,j3⟩ | ⟨j1,j2,j4,j5,j3⟩ | ⟨j1,j2,j4,j5,j3⟩ | ⟨j1,j2,j4,j3⟩ | ⟨j1,j4,j5,j3⟩ | ⟨j1,j4,j5,j3⟩ | ⟨j1,j4,j3⟩
        all_goals
         have HJ:=hid j3
         clear j3
         first
         | (go_wp2_with fail
            refine(q1x _ (k:Int) _ _ (by simp;omega) ?_).mono ?_
            ·exact(World.cell?_alloc_past _ _ _ b0).trans ((hxw.cells.1 _ _ (by have:=HWKS.out;omega)).trans hWc)
            rintro r w1 ⟨rfl,hb1⟩
            have hWs:w.heap.size+1<(wr.alloc (.cells #[.int .i64 y.a,.int .i64 y.b,.int .i64 y.c] 84)).heap.size:=by simp;omega
            have hWz:w.heap.size+1<Wk.heap.size:=by have:=HWKS.out;omega
            have hE2:Ext Wk (wr.alloc (.cells #[.int .i64 y.a,.int .i64 y.b,.int .i64 y.c] 84)):=hxw.alloc _
            have d0:=(hb1.cells.1 _ 0 hWs).trans ((hE2.cells.1 _ 0 hWz).trans hWb.1)
            have d1:=(hb1.cells.1 _ 1 hWs).trans ((hE2.cells.1 _ 1 hWz).trans hWb.2.1)
            have d2:=(hb1.cells.2 _ 0 hWs).trans ((hE2.cells.2 _ 0 hWz).trans hWb.2.2.1)
            have d3:=(hb1.cells.2 _ 1 hWs).trans ((hE2.cells.2 _ 1 hWz).trans hWb.2.2.2)
            have hz:w.heap.size+1<w1.heap.size:=Q5 hWs hb1.size
            have hfin:Qc n ls=(7,(k:Int)):=by
             have e1:=ewl_dup HX.out HW0.out (HJT.out HJ.out)
             rw[q2h (by rw[hlen];exact hm) (by omega) hpre (by rw[e1];decide),e1]
            have HF:=hid hfin
            clear hfin
            go_wp2
            exact bodyPost_ret (v:=.agg #[.int .i64 7,.int .i64 k]) (by simp[results,results12,go_sem,d0,d1]) rfl ⟨by rw[HF.out],(((hwr.alloc _).trans hb1).setCell (by simp) _).setCell (by simp) _⟩)
         | (go_wp2
            go_roundw
            (case rel=>
             refine⟨m+1,by omega,by go_num,fun j hj=>?_,hxw.alloc _⟩
             by_cases e:j=m
             ·subst e;rw[<-HY.out];exact HJ.out
             ·exact HNO.out j (by omega))
            (case measure=>simp[intOf];omega))
       ·go_wp2
        go_roundw
        case rel=>
         have hWks:=HWKS.out
         refine⟨k+1,by omega,by go_num,fun j hj=>?_,q0n (q0n hnx hWe (by omega)) hxw (by omega),by omega⟩
         by_cases e:j=k
         ·subst e;exact ewl_ok HX.out HW0.out (anyJ_false (by omega) (fun i hi=>hno i (by omega)))
         ·exact hpre j (by omega)
        case measure=>simp[intOf];omega
    ·have heq:x.a=x.b:=by simpa using hE
     have hw8:Zc n x.a x.b x.c=8:=by unfold Zc;rw[if_neg (by simp[hsa,hsb]),if_pos heq]
     have hfin:Qc n ls=(8,(k:Int)):=by
      have e1:=q7c HX.out (by rw[hw8];decide)
      rw[q2h (by rw[hlen];exact hm) (by omega) hpre (by rw[e1,hw8];decide),e1,hw8]
     have HF:Hid (Qc n ls=(8,(k:Int))):=hfin
     clear hfin hw8 heq
     go_wp2_with fail
     have hWl:=HWL.out
     have hWc:=HWC.out
     have hWs:=HWS.out
     have hWb:=HWB.out
     refine(q1x _ (k:Int) _ _ hWl hWc).mono ?_
     rintro r w1 ⟨rfl,hb1⟩
     have d0:=(hb1.cells.1 _ 0 hWs).trans (hWb.1)
     have d1:=(hb1.cells.1 _ 1 hWs).trans (hWb.2.1)
     have d2:=(hb1.cells.2 _ 0 hWs).trans (hWb.2.2.1)
     have d3:=(hb1.cells.2 _ 1 hWs).trans (hWb.2.2.2)
     have hz:w.heap.size+1<w1.heap.size:=Q5 hWs hb1.size
     go_wp2
     exact bodyPost_ret (v:=.agg #[.int .i64 8,.int .i64 k]) (by simp[results,results12,go_sem,d0,d1]) rfl ⟨by rw[HF.out],((((((q1i hnx).alloc _).alloc _).trans hb1).setCell (by simp) _).setCell (by simp) _)⟩
  ·go_wp2
   have hfin:Qc n ls=(0,0):=q2g (by rw[hlen];exact hm) (fun j hj=>hpre j (by omega))
   exact bodyPost_ret (v:=.agg #[.int .i64 0,.int .i64 0]) (by simp[results,results12,go_sem,c2,c3]) rfl ⟨by rw[hfin],((q1i hnx).setCell (by simp) _).setCell (by simp) _⟩
theorem Q3(n:Int)(ao:Option Addr)(len cap:Nat)(ls:List Lk)(w:World)(hlen:ls.length=len)(hl:Zg w ao ls)(hx:len<=9223372036854775807)(hcap:len<=cap):
 Calls prog 12 #[.agg #[.int .i64 n,.slice ao len cap]] w fun e w'=>e=.returned (.agg #[.int .i64 (Qc n ls).1,.int .i64 (Qc n ls).2])/\Ext w w':=by
 cases hm:many n len
 ·rcases hl with rfl | ⟨b,off,rfl,hb,hl⟩
  ·subst hlen
   rw[q2g (n:=n) (ls:=[]) hm (fun j hj=>by simp at hj)]
   exact z1k n ao cap w hm
  ·exact z1j n b off len cap ls w hm hlen hl hb hcap
 ·rw[q2f (n:=n) (ls:=ls) (by rw[hlen];exact hm)]
  exact q0x n ao len cap w hm hx
end
end Go.Proofs.YthkpbefnkmmaiaaGreat
