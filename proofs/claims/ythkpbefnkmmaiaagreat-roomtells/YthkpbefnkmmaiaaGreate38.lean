import Derived.Test.YthkpbefnkmmaiaaGreate36
set_option maxRecDepth 100000
set_option maxHeartbeats 8000000
namespace Go.Proofs.YthkpbefnkmmaiaaGreat
open Go.Proofs.Tryz
namespace Fw
open Go.RowKit Go.Maps Stf Go.Sort
theorem q1x(e k:Int)(p:Nat)(w:World)(hp:p<w.heap.size)(hc:w.cell? ⟨p,0,none⟩=some (.int .i64 k)):
 Calls prog 103 #[.int .i64 e,.pointer (some ⟨p,0,none⟩)] w fun r w'=>r=.returned (.agg #[.int .i64 e,.int .i64 k])/\Ext w w':=by
 go_enter func103,ntmps103
 go_wp2
 exact bodyPost_ret (v:=.agg #[.int .i64 e,.int .i64 k]) (by simp[results,results103,go_sem]) rfl ⟨rfl,(Ext.refl w).alloc _⟩
theorem q0x(ao:Option Addr)(len cap:Nat)(n:Int)(w:World)(h:12<len)(hl:len<=9223372036854775807):
 Calls prog 77 #[.slice ao len cap,.int .i64 n] w fun e w'=>e=.returned (.agg #[.int .i64 5,.int .i64 0])/\Ext w w':=by
 go_enter func77,ntmps77
 go_wp2
 exact bodyPost_ret (v:=.agg #[.int .i64 5,.int .i64 0]) (by simp[results,results77,go_sem]) rfl ⟨rfl,(Ext.refl w).alloc _⟩
theorem z7l{w:World}{lo:Option Addr}{L:List Int}(h:Qj w lo L)(j:Nat):Qj w lo (L.take j):=by
 rcases h with rfl | ⟨b,off,h1,h2,h3⟩
 ·exact Or.inl (by simp)
 ·refine Or.inr ⟨b,off,h1,h2,fun k hk=>?_⟩
  rw[List.length_take] at hk
  rw[h3 k (by omega)]
  simp[show k<j by omega]
variable {a t:Int} {X Y:List Int}
theorem z3e{n:Int}(h:swB a n=false\/swB t n=false):Q6 ⟨a,t,X,Y⟩ n=6:=by unfold Q6;rw[if_pos h]
theorem wflow_same{n:Int}(h:swB a n=true):Q6 ⟨a,a,X,Y⟩ n=8:=by
 unfold Q6;rw[if_neg (by simp[h]),if_pos rfl]
theorem wflow_else{n:Int}(h1:swB a n=true)(h2:swB t n=true)(h3:a≠t):Q6 ⟨a,t,X,Y⟩ n=if Zx a t n X≠0 then Zx a t n X else if Zx a t n Y≠0 then Zx a t n Y else if Y.any (fun s=>decide (s∈X)) then 8 else 0:=by
 unfold Q6
 rw[if_neg (by simp[h1,h2]),if_neg h3]
theorem any_comm(X Y:List Int):Y.any (fun s=>decide (s∈X))=X.any (fun s=>decide (s∈Y)):=by
 rw[Bool.eq_iff_iff,List.any_eq_true,List.any_eq_true]
 constructor
 ·rintro⟨s,h1,h2⟩
  exact⟨s,by simpa using h2,by simpa using h1⟩
 ·rintro⟨s,h1,h2⟩
  exact⟨s,by simpa using h2,by simpa using h1⟩
theorem six_cases{n:Int}(h:swB a n=false\/swB t n=false):a<0\/(¬a<0/\t<0)\/(¬a<0/\¬t<0/\n<=a)\/(¬a<0/\¬t<0/\¬n<=a/\n<=t):=by
 simp only[swB,decide_eq_false_iff_not] at h
 omega
theorem q2b(ao:Option Addr)(len cap:Nat)(n:Int)(fs:List Fl)(w:World)(hlen:fs.length=len)(hf:Qk w ao fs)(hS:Sm fs)(h12:¬12<len):
 Calls prog 77 #[.slice ao len cap,.int .i64 n] w fun e w'=>e=.returned (.agg #[.int .i64 (Qp fs n).1,.int .i64 (Qp fs n).2])/\Ext w w':=by
 have hl12:¬12<fs.length:=by omega
 go_enter func77,ntmps77
 go_wp2
 go_loopw [20] (fun iv wr=>∃k:Nat,k<=len/\iv=.int .i64 k/\(∀j,j<k->Q6 (fs.getD j f0) n=0)/\Below (w.heap.size+1) (w.alloc (.cells #[.int .i64 0,.int .i64 0] 43)) wr) (fun iv _=>len - (intOf iv).toNat)
 case atStart=>exact⟨0,Zu _,rfl,fun j hj=>by omega,Below.refl _ _⟩
 case round=>
  obtain⟨k,hk,rfl,hpre,hbel⟩:=hrel
  obtain⟨wo,rfl⟩:∃wo:World,wo=wr:=⟨_,rfl⟩
  have hEw:Ext w wo:=Below.trans ((Ext.refl w).alloc _) (hbel.mono (by omega))
  have HP:=hid hpre
  clear hpre
  by_cases hlt:k<len
  ·obtain⟨b,off,vo,vc,no,nc,a,t,X,Y,rfl,hb,hg,c0,c1,c2,c3,⟨_,_,e1,hv,hvc⟩,⟨_,_,e2,hn,hnc⟩⟩:=(hf.ext hEw).get (k:=k) (by omega)
   cases e1
   cases e2
   have hsm:=hS.get (k:=k) (by omega) hg
   have i1:(k:Int)<(len:Int):=by omega
   have HG:=hid hg
   clear hg
   obtain⟨Wk,hWkd⟩:=Qy (((wo.alloc (.cells #[.int .i64 k] 3)).alloc (.cells #[.int .i64 a,.int .i64 t,.slice vo X.length vc,.slice no Y.length nc] 74)))
   have hEk:Ext wo Wk:=by rw[hWkd];exact((Ext.refl wo).alloc _).alloc _
   have hWk:Ext w Wk:=hEw.trans hEk
   have hWks:Wk.heap.size=wo.heap.size+2:=by rw[hWkd];simp
   have x0:Wk.cell? ⟨wo.heap.size,0,none⟩=some (.int .i64 k):=by rw[hWkd,World.cell?_alloc_past _ _ _ (by simp)];simp
   have x1:Wk.cell? ⟨wo.heap.size+1,0,none⟩=some (.int .i64 a):=by rw[hWkd];simp
   have x2:Wk.cell? ⟨wo.heap.size+1,1,none⟩=some (.int .i64 t):=by rw[hWkd];simp
   have x3:Wk.cell? ⟨wo.heap.size+1,2,none⟩=some (.slice vo X.length vc):=by rw[hWkd];simp
   have x4:Wk.cell? ⟨wo.heap.size+1,3,none⟩=some (.slice no Y.length nc):=by rw[hWkd];simp
   have hbelk:Below (w.heap.size+1) (w.alloc (.cells #[.int .i64 0,.int .i64 0] 43)) Wk:=hbel.trans (Below.mono hEk (by have:=Ze hbel;omega))
   have HB:Hid (∀wr,Ext Wk wr->(wo.heap.size<wr.heap.size/\wr.cell? ⟨wo.heap.size,0,none⟩=some (.int .i64 k)/\wr.cell? ⟨wo.heap.size+1,0,none⟩=some (.int .i64 a)/\wr.cell? ⟨wo.heap.size+1,1,none⟩=some (.int .i64 t)/\wr.cell? ⟨wo.heap.size+1,2,none⟩=some (.slice vo X.length vc)/\wr.cell? ⟨wo.heap.size+1,3,none⟩=some (.slice no Y.length nc)/\
    wr.cell? ⟨w.heap.size,0,none⟩=some (.int .i64 0)/\wr.cell? ⟨w.heap.size,1,none⟩=some (.int .i64 0)/\wr.frozen? ⟨w.heap.size,0,none⟩=false/\wr.frozen? ⟨w.heap.size,1,none⟩=false/\w.heap.size<wr.heap.size)):=fun wr E=>by
    have hsz:=E.size
    have fk:=Ze (hbelk.trans (Below.mono E (by have:=Ze hbelk;omega)))
    exact⟨by omega,(E.cells.1 _ _ (by omega)).trans x0,(E.cells.1 _ _ (by omega)).trans x1,(E.cells.1 _ _ (by omega)).trans x2,(E.cells.1 _ _ (by omega)).trans x3,(E.cells.1 _ _ (by omega)).trans x4,fk⟩
   have HWKD:=hid hWkd
   have hvk:=hv.ext hEk
   have hnk:=hn.ext hEk
   clear x0 x1 x2 x3 x4 hWkd
   have hbr:b<wo.heap.size:=hb
   by_cases h6:swB a n=false\/swB t n=false
   ·have hfin:Qp fs n=(6,(k:Int)):=by rw[q1o hl12 (by omega) HP.out (by rw[HG.out,z3e h6];decide),HG.out,z3e h6]
    have HF:=hid hfin
    clear hfin
    rcases six_cases h6 with q1 | ⟨q1,q2⟩ | ⟨q1,q2,q3⟩ | ⟨q1,q2,q3,q4⟩
    all_goals
     clear h6
     go_wp2_with fail
     rw[<-HWKD.out]
     obtain⟨b0,b1,b2,b3,b4,b5,b6,b7,b8,b9,b10⟩:=HB.out _ (Ext.refl _)
     refine(q1x _ (k:Int) _ _ b0 b1).mono ?_
     rintro r w9 ⟨rfl,hb9⟩
     clear b0 b1 b2 b3 b4 b5 b6 b7 b8 b9 b10
     obtain⟨b0,b1,b2,b3,b4,b5,b6,b7,b8,b9,b10⟩:=HB.out _ (Ext.trans (Ext.refl _) hb9)
     go_wp2
     exact bodyPost_ret (v:=.agg #[.int .i64 6,.int .i64 k]) (by simp[results,results77,go_sem,b6,b7]) rfl ⟨by rw[HF.out],(((hWk.trans (Ext.refl _)).trans hb9).setCell (Ql _) _).setCell (Ql _) _⟩
   ·have ha1:swB a n=true:=by
     cases h:swB a n
     ·exact absurd (Or.inl h) h6
     ·rfl
    have ht1:swB t n=true:=by
     cases h:swB t n
     ·exact absurd (Or.inr h) h6
     ·rfl
    have ha2:0<=a/\a<n:=of_decide_eq_true ha1
    have ht2:0<=t/\t<n:=of_decide_eq_true ht1
    have q1:¬a<0:=by omega
    have q2:¬t<0:=by omega
    have q3:¬n<=a:=by omega
    have q4:¬n<=t:=by omega
    clear h6 ha2 ht2
    cases Q2:(a == t)
    ·have hne:a≠t:=by simpa using Q2
     have hwf:=hid (wflow_else (X:=X) (Y:=Y) ha1 ht1 hne)
     clear hne
     go_wp2
     rw[<-HWKD.out]
     have hsk:wo.heap.size+1+1=Wk.heap.size:=by omega
     rw[hsk]
     obtain⟨W2,hW2⟩:=Qy (Wk.alloc (.cells #[.slice vo X.length vc,.slice no Y.length nc] 30))
     have E2:Ext Wk W2:=by rw[hW2];exact(Ext.refl Wk).alloc _
     have s0:W2.cell? ⟨Wk.heap.size,0,none⟩=some (.slice vo X.length vc):=by rw[hW2];simp
     have s1:W2.cell? ⟨Wk.heap.size,1,none⟩=some (.slice no Y.length nc):=by rw[hW2];simp
     have s2:Wk.heap.size<W2.heap.size:=by rw[hW2];simp
     rw[<-hW2]
     clear hW2 hsk
     have HWKS:=hid hWks
     clear hWks
     go_loopw [61] (fun iv wr=>∃m:Nat,m<=2/\iv=.int .i64 m/\(1<=m->Zx a t n X=0)/\(2<=m->Zx a t n Y=0)/\Ext W2 wr) (fun iv _=>2 - (intOf iv).toNat)
     case atStart=>exact⟨0,Zu _,rfl,fun h=>by omega,fun h=>by omega,Ext.refl _⟩
     case round=>
      obtain⟨m,hm2,rfl,hmX,hmY,hext⟩:=hrel
      by_cases hm:m<2
      ·obtain⟨lo,lc,L,hcell,hLat,hLl,hLc,hLz,hLb⟩:∃lo lc L,wr.cell? ⟨Wk.heap.size,m,none⟩=some (.slice lo L.length lc)/\Qj wr lo L/\L.length<=4611686018427387904/\L.length<=lc/\(Zx a t n L=0->(1<=m+1->Zx a t n X=0)/\(2<=m+1->Zx a t n Y=0))/\(Zx a t n L≠0->Q6 ⟨a,t,X,Y⟩ n=Zx a t n L):=by
        by_cases h0:m=0
        ·subst h0
         exact⟨vo,vc,X,(hext.cells.1 _ _ s2).trans s0,hvk.ext (E2.trans hext),hsm.1,hvc,fun h=>⟨fun _=>h,fun h2=>by omega⟩,fun h=>by rw[hwf.out,if_pos h]⟩
        ·have h1:m=1:=by omega
         subst h1
         have hX0:=hmX (by omega)
         exact⟨no,nc,Y,(hext.cells.1 _ _ s2).trans s1,hnk.ext (E2.trans hext),hsm.2,hnc,fun h=>⟨fun _=>hX0,fun _=>h⟩,fun h=>by rw[hwf.out,if_neg (by simp[hX0]),if_pos h]⟩
       have HLZ:=hid hLz
       have HLB:=hid hLb
       have hsr:Wk.heap.size<wr.heap.size:=by have:=hext.size;omega
       have im:(m:Int)<2:=by omega
       clear hLz hLb hmX hmY
       obtain⟨v1,rfl⟩:∃v1:World,v1=wr:=⟨_,rfl⟩
       go_wp2
       go_loopw [67] (fun jv wr=>∃j:Nat,j<=L.length/\jv=.int .i64 j/\(∀i,i<j->ewl a t n L i=0)/\Ext v1 wr) (fun jv _=>L.length - (intOf jv).toNat)
       case atStart=>exact⟨0,Zu _,rfl,fun i hi=>by omega,Ext.refl _⟩
       case round=>
        obtain⟨j,hj,rfl,hjp,hext3⟩:=hrel
        have HJP:=hid hjp
        clear hjp hcell
        have hX3:Ext Wk wr:=(E2.trans hext).trans hext3
        by_cases hjl:j<L.length
        ·obtain⟨bk,of2,rfl,hbk,hat2⟩:∃bk of2,lo=some ⟨bk,of2,none⟩/\bk<v1.heap.size/\Q9 v1 bk of2 L:=by
          rcases hLat with rfl | h
          ·simp at hjl
          ·exact h
         have ce:=(hext3.cells.1 _ _ hbk).trans (hat2 j hjl)
         have hbk3:bk<wr.heap.size:=by have:=hext3.size;omega
         obtain⟨x,hxx⟩:=Qy (L.getD j 0)
         rw[<-hxx] at ce
         have HX:=hid hxx
         have HE:Hid (ewl a t n L j=if swB x n=false then 6 else if x=a\/x=t then 8 else if x∈L.take j then 7 else 0):=by unfold ewl;rw[HX.out];exact hid rfl
         have ij:(j:Int)<(L.length:Int):=by omega
         have ijc:(j:Int)<=(lc:Int):=by omega
         clear hxx hat2
         have hbadf:∀c:Int,c≠0->ewl a t n L j=c->Qp fs n=(c,(k:Int)):=fun c hc he=>by
          have hw:Zx a t n L=c:=by rw[q5d hjl HJP.out (by rw[he];exact hc),he]
          have hw2:Q6 ⟨a,t,X,Y⟩ n=c:=by rw[HLB.out (by rw[hw];exact hc),hw]
          rw[q1o hl12 (by omega) HP.out (by rw[HG.out,hw2];exact hc),HG.out,hw2]
         have HBF:=hid hbadf
         clear hbadf
         cases hsw:swB x n
         ·have HF:=hid (HBF.out 6 (by decide) (by rw[HE.out,if_pos hsw]))
          have hsx:x<0\/(¬x<0/\n<=x):=by
           have:¬(0<=x/\x<n):=of_decide_eq_false hsw
           omega
          rcases hsx with r1 | ⟨r1,r2⟩
          all_goals
           obtain⟨b0,b1,b2,b3,b4,b5,b6,b7,b8,b9,b10⟩:=HB.out _ (hX3)
           go_wp2_with fail
           refine(q1x _ (k:Int) _ _ b0 b1).mono ?_
           rintro r w9 ⟨rfl,hb9⟩
           clear b0 b1 b2 b3 b4 b5 b6 b7 b8 b9 b10
           obtain⟨b0,b1,b2,b3,b4,b5,b6,b7,b8,b9,b10⟩:=HB.out _ (Ext.trans (hX3) hb9)
           go_wp2
           exact bodyPost_ret (v:=.agg #[.int .i64 6,.int .i64 k]) (by simp[results,results77,go_sem,b6,b7]) rfl ⟨by rw[HF.out],(((hWk.trans (hX3)).trans hb9).setCell (Ql _) _).setCell (Ql _) _⟩
         ·have hsx:0<=x/\x<n:=of_decide_eq_true hsw
          have r1:¬x<0:=by omega
          have r2:¬n<=x:=by omega
          clear hsx
          by_cases hab:x=a\/x=t
          ·have HF:=hid (HBF.out 8 (by decide) (by rw[HE.out,if_neg (by simp[hsw]),if_pos hab]))
           have hab2:(x == a)=true\/((x == a)=false/\(x == t)=true):=by
            cases hxa:(x == a)
            ·right
             refine⟨rfl,?_⟩
             rcases hab with h | h
             ·rw[h] at hxa;simp at hxa
             ·simp[h]
            ·exact Or.inl rfl
           clear hab
           rcases hab2 with r3 | ⟨r3,r4⟩
           all_goals
            obtain⟨b0,b1,b2,b3,b4,b5,b6,b7,b8,b9,b10⟩:=HB.out _ (hX3)
            go_wp2_with fail
            refine(q1x _ (k:Int) _ _ b0 b1).mono ?_
            rintro r w9 ⟨rfl,hb9⟩
            clear b0 b1 b2 b3 b4 b5 b6 b7 b8 b9 b10
            obtain⟨b0,b1,b2,b3,b4,b5,b6,b7,b8,b9,b10⟩:=HB.out _ (Ext.trans (hX3) hb9)
            go_wp2
            exact bodyPost_ret (v:=.agg #[.int .i64 8,.int .i64 k]) (by simp[results,results77,go_sem,b6,b7]) rfl ⟨by rw[HF.out],(((hWk.trans (hX3)).trans hb9).setCell (Ql _) _).setCell (Ql _) _⟩
          ·have r3:(x == a)=false:=by simpa using fun e=>hab (Or.inl e)
           have r4:(x == t)=false:=by simpa using fun e=>hab (Or.inr e)
           have HAB:=hid hab
           clear hab
           obtain⟨b0,b1,b2,b3,b4,b5,b6,b7,b8,b9,b10⟩:=HB.out _ hX3
           go_wp2_with fail
           refine(q5m (some ⟨bk,of2,none⟩) lc j (L.take j) x _ (by rw[List.length_take];omega) (z7l (hLat.ext hext3) j) (by omega)).mono ?_
           rintro e w8 ⟨he,rfl⟩
           clear b0 b1 b2 b3 b4 b5 b6 b7 b8 b9 b10
           by_cases hmem:x∈L.take j
           ·have HF:=hid (HBF.out 7 (by decide) (by rw[HE.out,if_neg (by simp[hsw]),if_neg HAB.out,if_pos hmem]))
            rw[dtt hmem] at he
            subst he
            clear hmem
            obtain⟨b0,b1,b2,b3,b4,b5,b6,b7,b8,b9,b10⟩:=HB.out _ (hX3)
            go_wp2_with fail
            refine(q1x _ (k:Int) _ _ b0 b1).mono ?_
            rintro r w9 ⟨rfl,hb9⟩
            clear b0 b1 b2 b3 b4 b5 b6 b7 b8 b9 b10
            obtain⟨b0,b1,b2,b3,b4,b5,b6,b7,b8,b9,b10⟩:=HB.out _ (Ext.trans (hX3) hb9)
            go_wp2
            exact bodyPost_ret (v:=.agg #[.int .i64 7,.int .i64 k]) (by simp[results,results77,go_sem,b6,b7]) rfl ⟨by rw[HF.out],(((hWk.trans (hX3)).trans hb9).setCell (Ql _) _).setCell (Ql _) _⟩
           ·have hz:=hid (show ewl a t n L j=0 by rw[HE.out,if_neg (by simp[hsw]),if_neg HAB.out,if_neg hmem])
            rw[dff hmem] at he
            subst he
            clear hmem
            go_wp2
            refine⟨⟨j+1,by omega,by go_num,fun i hi=>?_,hext3⟩,by simp[intOf];omega⟩
            by_cases e:i=j
            ·subst e;exact hz.out
            ·exact HJP.out i (by omega)
        ·have hw0:=HLZ.out (q9n (fun i hi=>HJP.out i (by omega)))
         have HW0:=hid hw0
         clear hw0
         go_wp2
         refine⟨⟨m+1,by omega,by go_num,HW0.out.1,HW0.out.2,hext.trans hext3⟩,by simp[intOf];omega⟩
      ·have hX0:=hmX (by omega)
       have hY0:=hmY (by omega)
       have hwf2:=hid (show Q6 ⟨a,t,X,Y⟩ n=if X.any (fun s=>decide (s∈Y)) then 8 else 0 by rw[hwf.out,if_neg (by simp[hX0]),if_neg (by simp[hY0]),any_comm])
       clear hmX hmY hX0 hY0
       obtain⟨v1,rfl⟩:∃v1:World,v1=wr:=⟨_,rfl⟩
       have hXv:Ext Wk v1:=E2.trans hext
       obtain⟨b0,b1,b2,b3,b4,b5,b6,b7,b8,b9,b10⟩:=HB.out _ hXv
       have im:¬(m:Int)<2:=by omega
       go_wp2
       clear b0 b1 b2 b3 b4 b5 b6 b7 b8 b9 b10
       go_loopw [105] (fun jv wr=>∃j:Nat,j<=X.length/\jv=.int .i64 j/\(∀i,i<j->X.getD i 0∉Y)/\Ext v1 wr) (fun jv _=>X.length - (intOf jv).toNat)
       case atStart=>exact⟨0,Zu _,rfl,fun i hi=>by omega,Ext.refl _⟩
       case round=>
        obtain⟨j,hj,rfl,hjp,hext3⟩:=hrel
        have HJP:=hid hjp
        clear hjp
        have hX3:Ext Wk wr:=hXv.trans hext3
        by_cases hjl:j<X.length
        ·obtain⟨bk,of2,rfl,hbk,hat2⟩:∃bk of2,vo=some ⟨bk,of2,none⟩/\bk<Wk.heap.size/\Q9 Wk bk of2 X:=by
          rcases hvk with rfl | h
          ·simp at hjl
          ·exact h
         have ce:=(hX3.cells.1 _ _ hbk).trans (hat2 j hjl)
         have hbk3:bk<wr.heap.size:=by have:=hX3.size;omega
         obtain⟨x,hxx⟩:=Qy (X.getD j 0)
         rw[<-hxx] at ce
         have HX:=hid hxx
         have ij:(j:Int)<(X.length:Int):=by omega
         clear hxx hat2
         obtain⟨b0,b1,b2,b3,b4,b5,b6,b7,b8,b9,b10⟩:=HB.out _ hX3
         have hsz1:wo.heap.size+1<wr.heap.size:=by have:=hX3.size;have:=HWKS.out;omega
         go_wp2_with fail
         refine(q5m no nc Y.length Y x _ rfl (hnk.ext hX3) hsm.2).mono ?_
         rintro e w8 ⟨he,rfl⟩
         clear b0 b1 b2 b3 b4 b5 b6 b7 b8 b9 b10
         by_cases hmem:x∈Y
         ·have hany:X.any (fun s=>decide (s∈Y))=true:=by
           rw[List.any_eq_true]
           refine⟨x,?_,dtt hmem⟩
           rw[HX.out]
           simp[hjl]
          have hfin:Qp fs n=(8,(k:Int)):=by
           have hw8:Q6 ⟨a,t,X,Y⟩ n=8:=by rw[hwf2.out,hany];rfl
           rw[q1o hl12 (by omega) HP.out (by rw[HG.out,hw8];decide),HG.out,hw8]
          have HF:=hid hfin
          rw[dtt hmem] at he
          subst he
          clear hmem hany hfin
          obtain⟨b0,b1,b2,b3,b4,b5,b6,b7,b8,b9,b10⟩:=HB.out _ (hX3)
          go_wp2_with fail
          refine(q1x _ (k:Int) _ _ b0 b1).mono ?_
          rintro r w9 ⟨rfl,hb9⟩
          clear b0 b1 b2 b3 b4 b5 b6 b7 b8 b9 b10
          obtain⟨b0,b1,b2,b3,b4,b5,b6,b7,b8,b9,b10⟩:=HB.out _ (Ext.trans (hX3) hb9)
          go_wp2
          exact bodyPost_ret (v:=.agg #[.int .i64 8,.int .i64 k]) (by simp[results,results77,go_sem,b6,b7]) rfl ⟨by rw[HF.out],(((hWk.trans (hX3)).trans hb9).setCell (Ql _) _).setCell (Ql _) _⟩
         ·have HM:=hid hmem
          rw[dff hmem] at he
          subst he
          clear hmem
          go_wp2
          refine⟨⟨j+1,by omega,by go_num,fun i hi=>?_,hext3⟩,by simp[intOf];omega⟩
          by_cases e:i=j
          ·subst e;rw[<-HX.out];exact HM.out
          ·exact HJP.out i (by omega)
        ·have hany:X.any (fun s=>decide (s∈Y))=false:=by
          rw[List.any_eq_false]
          intro y hy
          obtain⟨i,hi,rfl⟩:=List.getElem_of_mem hy
          have:=HJP.out i (by omega)
          simpa[hi] using this
         have hz:=hid (show Q6 ⟨a,t,X,Y⟩ n=0 by rw[hwf2.out,hany];rfl)
         clear hany
         go_wp2
         refine⟨⟨k+1,by omega,by go_num,fun i hi=>?_,hbelk.trans (Below.mono hX3 (by have:=Ze hbelk;omega))⟩,by simp[intOf];omega⟩
         by_cases e:i=k
         ·subst e;rw[HG.out];exact hz.out
         ·exact HP.out i (by omega)
    ·have hst:a=t:=by simpa using Q2
     have hfin:Qp fs n=(8,(k:Int)):=by
      have hw8:Q6 ⟨a,t,X,Y⟩ n=8:=by rw[<-hst];exact wflow_same ha1
      rw[q1o hl12 (by omega) HP.out (by rw[HG.out,hw8];decide),HG.out,hw8]
     have HF:=hid hfin
     clear hfin hst
     go_wp2_with fail
     rw[<-HWKD.out]
     obtain⟨b0,b1,b2,b3,b4,b5,b6,b7,b8,b9,b10⟩:=HB.out _ (Ext.refl _)
     refine(q1x _ (k:Int) _ _ b0 b1).mono ?_
     rintro r w9 ⟨rfl,hb9⟩
     clear b0 b1 b2 b3 b4 b5 b6 b7 b8 b9 b10
     obtain⟨b0,b1,b2,b3,b4,b5,b6,b7,b8,b9,b10⟩:=HB.out _ (Ext.trans (Ext.refl _) hb9)
     go_wp2
     exact bodyPost_ret (v:=.agg #[.int .i64 8,.int .i64 k]) (by simp[results,results77,go_sem,b6,b7]) rfl ⟨by rw[HF.out],(((hWk.trans (Ext.refl _)).trans hb9).setCell (Ql _) _).setCell (Ql _) _⟩
  ·have hfin:Qp fs n=(0,0):=q4q hl12 (fun j hj=>HP.out j (by omega))
   obtain⟨z0,z1,y0,y1,hsz⟩:=Ze hbel
   have HF:=hid hfin
   clear hfin
   go_wp2
   refine bodyPost_ret (v:=.agg #[.int .i64 0,.int .i64 0]) (by simp[results,results77,go_sem,z0,z1]) rfl ⟨by rw[HF.out],?_⟩
   exact(hEw.setCell (Ql _) _).setCell (Ql _) _
end Fw
end Go.Proofs.YthkpbefnkmmaiaaGreat
