import Derived.Test.YthkpbefnkmmaiaaGreate46
import Derived.Test.YthkpbefnkmmaiaaGreate48
import Derived.Test.YthkpbefnkmmaiaaGreate49
import Derived.Test.YthkpbefnkmmaiaaGreate50
set_option maxRecDepth 100000
set_option maxHeartbeats 4000000
namespace Go.Proofs.YthkpbefnkmmaiaaGreat
open Go.Proofs.Tryz
namespace Rm
open Go.RowKit Go.Deep Go.Maps Go.Sort Stw Stp Tb Rul Ct
theorem stepElse(n len cap:Nat)(ao:Option Addr)(w0:World)(P:Nat)(tg:Nat->Nat)(w:World)(W:Wd)(a:CA)(sb ob bb:Nat)(kv lv:Value)(k dn:Int)(fo:Option Addr)(fl fc:Nat)(h:Q0 39 [] w0 P n tg w W a sb ob bb kv lv)(hwn:a.wo=none->a.wc=0)(k1:k≠1)(k2:k≠2)(k3:k≠3)(k4:k≠4)(k5:k≠5)(k6:k≠6):
 Calls prog 13 #[.pointer (some ⟨P,0,none⟩),.agg #[.int .i64 n,.slice ao len cap],.agg #[.int .i64 k,.int .i64 dn,.slice fo fl fc]] w fun e w'=>ROut w0 P n tg w sb ob bb (W,1) e w':=by
 have HW:=Qa h
 have HWN:=Qa hwn
 have c1:(k == 1)=false:=by simpa using k1
 have c2:(k == 2)=false:=by simpa using k2
 have c3:(k == 3)=false:=by simpa using k3
 have c4:(k == 4)=false:=by simpa using k4
 have c5:(k == 5)=false:=by simpa using k5
 have c6:(k == 6)=false:=by simpa using k6
 clear h hwn k1 k2 k3 k4 k5 k6
 have EB:Ext w (((w.alloc (.cells #[.pointer (some ⟨P,0,none⟩)] 58)).alloc (.cells #[.int .i64 n,.slice ao len cap] 24)).alloc (.cells #[.int .i64 k,.int .i64 dn,.slice fo fl fc] 50)):=(((Ext.refl w).alloc _).alloc _).alloc _
 go_enter func13,ntmps13
 obtain⟨bd,hbd⟩:∃b,decide (0<=dn)=b:=⟨_,rfl⟩
 cases bd
 all_goals
  go_wp2
  go_ret
  exact⟨rfl,tg,a,kv,lv,HW.out.Qm EB,Zv.ext EB,HWN.out⟩
theorem z6y(n len cap:Nat)(ls:List Lk)(ao:Option Addr)(t:Nat)(w0:World)(P:Nat)(tg:Nat->Nat)(w:World)(W:Wd)(a:CA)(sb ob bb:Nat)(kv lv:Value)(d:Dd)(fo:Option Addr)(fc:Nat)(h:Q0 39 [] w0 P n tg w W a sb ob bb kv lv)(hwn:a.wo=none->a.wc=0)(hI:Inv n ls t W)(ht:t<=900)(hlen:ls.length=len)(hnet:Zg w0 ao ls)(hx:len<=9223372036854775807)(hcap:len<=cap)(hf:Fw.Qk w0 fo d.fs)(hS:Fw.Sm d.fs)(hlx:d.fs.length<=9223372036854775807):
 Calls prog 13 #[.pointer (some ⟨P,0,none⟩),.agg #[.int .i64 n,.slice ao len cap],.agg #[.int .i64 d.k,.int .i64 d.n,.slice fo d.fs.length fc]] w fun e w'=>ROut w0 P n tg w sb ob bb (hap n ls W d) e w':=by
 obtain⟨k,i,fs⟩:=d
 simp only at hf hS hlx ⊢
 by_cases k1:k=1
 ·subst k1
  have e:hap n ls W ⟨1,i,fs⟩=hapA n ls W fs:=by unfold hap;rw[if_pos rfl]
  rw[e]
  exact stepAsk n len cap ls ao t w0 P tg w W a sb ob bb kv lv i fo fs fc h hwn hI (by omega) hlen hnet hx hcap hf hS hlx ht
 by_cases k2:k=2
 ·subst k2
  have e:hap n ls W ⟨2,i,fs⟩=hapO n W i:=by unfold hap;rw[if_neg (by simp),if_pos rfl]
  rw[e]
  by_cases hi:0<=i/\i<(n:Int)
  ·obtain⟨s,rfl⟩:=Int.eq_ofNat_of_zero_le hi.1
   have hs:s<n:=by omega
   cases ho:W.od.getD s [] with
   | nil=>exact z3k n len cap ao w0 P tg w W a sb ob bb kv lv s fo fs.length fc h hwn hs ho
   | cons o r=>exact z0w n len cap ls ao t w0 P tg w W a sb ob bb kv lv s fo fs.length fc h hwn hI ht hs o r ho
  ·exact z3j n len cap ao w0 P tg w W a sb ob bb kv lv i fo fs.length fc h hwn hi
 by_cases k3:k=3
 ·subst k3
  have e:hap n ls W ⟨3,i,fs⟩=hapK n ls W i:=by unfold hap;rw[if_neg (by simp),if_neg (by simp),if_pos rfl]
  rw[e]
  by_cases hi:0<=i/\i<(n:Int)
  ·obtain⟨s,rfl⟩:=Int.eq_ofNat_of_zero_le hi.1
   have hs:s<n:=by omega
   cases hb:W.bk.getD s [] with
   | nil=>exact z6m n len cap ls ao t w0 P tg w W a sb ob bb kv lv s fo fs.length fc h hwn hI hs hb
   | cons o r=>exact z3o n len cap ls ao t w0 P tg w W a sb ob bb kv lv s fo fs.length fc h hwn hI (by omega) hlen hnet hx hcap o r hs hb
  ·exact z6l n len cap ls ao t w0 P tg w W a sb ob bb kv lv i fo fs.length fc h hwn hI hi
 by_cases k4:k=4
 ·subst k4
  have e:hap n ls W ⟨4,i,fs⟩=hapB W i:=by unfold hap;rw[if_neg (by simp),if_neg (by simp),if_neg (by simp),if_pos rfl]
  rw[e]
  by_cases hm:40<=W.pk.length
  ·exact z0z n len cap ls ao t w0 P tg w W a sb ob bb kv lv i fo fs.length fc h hwn hI hm
  by_cases h0:0<=i
  ·obtain⟨j,rfl⟩:=Int.eq_ofNat_of_zero_le h0
   by_cases hc:j<W.co.now.fs.length\/j<W.co.Qd.fs.length
   ·exact z0x n len cap ls ao t w0 P tg w W a sb ob bb kv lv j fo fs.length fc h hwn hI hm hc
   ·exact z0y n len cap ls ao t w0 P tg w W a sb ob bb kv lv j fo fs.length fc h hwn hI hm (fun h=>hc (Or.inl h)) (fun h=>hc (Or.inr h))
  ·exact z3n n len cap ls ao t w0 P tg w W a sb ob bb kv lv i fo fs.length fc h hwn hI hm h0
 by_cases k5:k=5
 ·subst k5
  have e:hap n ls W ⟨5,i,fs⟩=hapM W i:=by unfold hap;rw[if_neg (by simp),if_neg (by simp),if_neg (by simp),if_neg (by simp),if_pos rfl]
  rw[e]
  by_cases hi:0<=i/\i<(W.pk.length:Int)
  ·obtain⟨j,rfl⟩:=Int.eq_ofNat_of_zero_le hi.1
   have hj:j<W.pk.length:=by omega
   cases hd:(W.pk.getD j Q8).dn with
   | true=>exact z3m n len cap ao w0 P tg w W a sb ob bb kv lv j fo fs.length fc h hwn hj hd
   | false=>exact z3l n len cap ls ao t w0 P tg w W a sb ob bb kv lv j fo fs.length fc h hwn hI hj hd
  ·exact z6k n len cap ao w0 P tg w W a sb ob bb kv lv i fo fs.length fc h hwn hi
 by_cases k6:k=6
 ·subst k6
  have e:hap n ls W ⟨6,i,fs⟩=hapD n ls W:=by unfold hap;rw[if_neg (by simp),if_neg (by simp),if_neg (by simp),if_neg (by simp),if_neg (by simp),if_pos rfl]
  rw[e]
  exact stepDrop n len cap ls ao t w0 P tg w W a sb ob bb kv lv i fo fs.length fc h hwn hI (by omega) hlen hnet hx hcap
 ·have e:hap n ls W ⟨k,i,fs⟩=(W,1):=by unfold hap;rw[if_neg k1,if_neg k2,if_neg k3,if_neg k4,if_neg k5,if_neg k6]
  rw[e]
  exact stepElse n len cap ao w0 P tg w W a sb ob bb kv lv k i fo fs.length fc h hwn k1 k2 k3 k4 k5 k6
def PlyR (w w3:World) (n:Nat) (P sb ob bb:Nat) (q:Wd×List Int) (cv:Value) (wd:World):Prop:=
 ∃(tg:Nat->Nat) (a:CA) (kv lv:Value),Q0 39 [] w P n tg wd q.1 a sb ob bb kv lv/\(a.wo=none->a.wc=0)/\q4f tg wd q.2 cv/\(tg w.heap.size=8/\tg (w.heap.size+1)=8/\tg (w.heap.size+1+1)=8)/\wd.heap[w.heap.size]? =w3.heap[w.heap.size]?/\wd.heap[w.heap.size+1]? =w3.heap[w.heap.size+1]?/\wd.heap[w.heap.size+1+1]? =w3.heap[w.heap.size+1+1]?
variable {W:World} {b:Nat} {N:Int} {nv:Value}
theorem PBx.n(h:PBx W b N nv):∃B,W.heap[b]? =some B:=by
 have:=h.lt
 exact⟨_,Array.getElem?_eq_getElem (by omega)⟩
theorem PBx.of{V:World}(h:PBx W b N nv)(e0:V.heap[b]? =W.heap[b]?)(e1:V.heap[b+1]? =W.heap[b+1]?)(e2:V.heap[b+1+1]? =W.heap[b+1+1]?):PBx V b N nv:=
 ⟨(cob (a:=⟨b,0,none⟩) e0).trans h.n0,(cob (a:=⟨b,1,none⟩) e0).trans h.n1,e1.trans h.w,e2.trans h.f⟩
theorem z6z(N:Int)(ao:Option Addr)(len cap:Nat)(ls:List Lk)(lo:Option Addr)(lc:Nat)(ds:List Dd)(w:World)(hlen:ls.length=len)(hl:Zg w ao ls)(hx:len<=9223372036854775807)(hcap:len<=cap)(hd:z2z w lo ds)(hS:DsSm ds)(hdl:ds.length<=9223372036854775807):
 Calls prog 6 #[.agg #[.int .i64 N,.slice ao len cap],.slice lo ds.length lc] w fun e w'=>q6s w (plyW N ls ds).1 (plyW N ls ds).2 (plyF N ls ds) e w':=by
 obtain⟨i0,hi0,hz00,hz01,hz02⟩:=info_parts infoEr
 have HA:=Qa (Pw_box w N (.slice ao len cap))
 have hE0:=Pw_ext w N (.slice ao len cap)
 go_enter func6,ntmps6
 go_wp2_with fail
 unfold Pw at HA hE0
 obtain⟨W1,hW1⟩:=Qy (((w.alloc (.cells #[.int .i64 N,.slice ao len cap] 24)).alloc (.cells #[.int .i64 0,.int .i64 0,.slice none 0 0,.slice none 0 0,.int .i64 0,.slice none 0 0,.slice none 0 0,.int .i64 0,.slice none 0 0,.slice none 0 0,.slice none 0 0,.slice none 0 0,.slice none 0 0,.slice none 0 0] 39)).alloc (.cells #[.int .i64 0,.int .i64 0] 43))
 rw[<-hW1] at HA hE0 ⊢
 clear hW1
 refine(Q3 N ao len cap ls W1 hlen (hl.ext hE0) hx hcap).mono ?_
 rintro e w2 ⟨rfl,E2⟩
 have HA2:=Qa (HA.out.ext E2)
 have hl2:=HA2.out.lt
 have hE2:=hE0.trans E2
 have hl20:w.heap.size<w2.heap.size:=by omega
 have hl21:w.heap.size+1<w2.heap.size:=by omega
 have zw:=Qb HA2.out.w
 have zf:=Qb HA2.out.f
 have fw:=Qi HA2.out.w
 have ff:=Qi HA2.out.f
 have r0:=zw 0
 have r1:=zw 1
 have r2:=zw 2
 have r3:=zw 3
 have r4:=zw 4
 have r5:=zw 5
 have r6:=zw 6
 have r7:=zw 7
 have r8:=zw 8
 have r9:=zw 9
 have r10:=zw 10
 have r11:=zw 11
 have r12:=zw 12
 have r13:=zw 13
 have q0:=zf 0
 have q1:=zf 1
 simp only[List.getElem?_toArray,List.getElem?_cons_zero,List.getElem?_cons_succ] at r0 r1 r2 r3 r4 r5 r6 r7 r8 r9 r10 r11 r12 r13 q0 q1
 clear zw zf
 by_cases hr:(Qc N ls).1=0
 ·have hright:=Zo hr
  have hbd:=hright.bounds
  obtain⟨n,rfl⟩:=Int.eq_ofNat_of_zero_le (show 0<=N by omega)
  have hn8:n<=8:=by omega
  have HWR:=Qa hr
  rw[hright.Qc]
  clear hr hright hbd
  by_cases hm:200<ds.length
  ·have HF:Hid (plyF n ls ds=(5,0)):=by show _=_;unfold plyF;rw[if_neg (by simpa using HWR.out),if_pos hm]
   have HW:Hid (plyW n ls ds=(wd0,[])):=by show _=_;unfold plyW;rw[HF.out,if_pos (by decide)]
   have b0:(200:Int)<(ds.length:Int):=by omega
   clear hm
   go_wp2
   refine bodyPost_ret (v:=.tuple #[.agg #[.int .i64 0,.int .i64 0,.slice none 0 0,.slice none 0 0,.int .i64 0,.slice none 0 0,.slice none 0 0,.int .i64 0,.slice none 0 0,.slice none 0 0,.slice none 0 0,.slice none 0 0,.slice none 0 0,.slice none 0 0],.slice none 0 0,.agg #[.int .i64 5,.int .i64 0]]) (by simp[results,results6,go_sem,r0,r1,r2,r3,r4,r5,r6,r7,r8,r9,r10,r11,r12,r13,q0,q1,hl2,hl21]) rfl ?_
   rw[HW.out,HF.out]
   refine⟨wa0,none,0,rfl,?_,WoAt.zero _,Or.inl rfl⟩
   refine Ext.alloc ?_ _
   iterate 16 refine Ext.setCell ?_ (by simp only;omega) _
   exact hE2
  ·have HF:=Qa (plyF_of (n:=(n:Int)) (ds:=ds) HWR.out (by omega))
   have b0:¬(200:Int)<(ds.length:Int):=by omega
   have n0:=HA2.out.n0
   have n1:=HA2.out.n1
   have hb0':decide ((200:Int)<(ds.length:Int))=false:=dff b0
   go_upto_region 6 with fail
   obtain⟨z,hz⟩:=Qy (w2.alloc (.cells #[.int .i64 0,.int .i64 0] 43))
   have Ez:Ext w2 z:=by rw[hz];exact(Ext.refl w2).alloc _
   rw[<-hz]
   clear hz
   have HAz:=Qa (HA2.out.ext Ez)
   have hEz:=hE2.trans Ez
   have hlz:=HAz.out.lt
   have HSz:Hid (∀V,Ext z V->cl V w.heap.size 0 (.int .i64 n)):=fun V hV=>(HAz.out.ext hV).n0
   have hwz:w.heap.size<z.heap.size:=by omega
   have m1:=mkS_run n hn8
   have m2:=mkO_run n hn8
   have m3:=mkB_run n hn8
   clear HA2 HA fw ff r0 r1 r2 r3 r4 r5 r6 r7 r8 r9 r10 r11 r12 r13 q0 q1 n0 n1 E2 hE2 hE0 hl2 hl20 hl21
   go_cut [8] (fun pv wx=>∃P sb ob bb,pv=.pointer (some ⟨P,0,none⟩)/\Hid (StR z n P sb ob bb wx))
   case first=>
    have hd:Ext z z.drew:=(Ext.refl z).drew
    refine wp_region_held_drew (S:=fun V=>cl V w.heap.size 0 (.int .i64 n)) (by kernel_rfl) (HSz.out _ hd) (fun Qe=>?_)
    refine q6t (i:=0) (d:=some 24) (v:=?v0) rfl rfl (by kernel_rfl) (by kernel_rfl) (by kernel_rfl) (fun _ _ _ h=>h) (Or.inl ⟨by rfl,?hy0⟩) Qe ?rest0
    case hy0=>intro W hSW;(try dsimp only at hSW);go_simp;try with_reducible rfl
    simp only[Act.put,sia,scz,scs]
    refine q6t (i:=1) (d:=some 25) (v:=?v1) rfl rfl (by kernel_rfl) (by kernel_rfl) (by kernel_rfl) (fun _ _ _ h=>h) (Or.inl ⟨by rfl,?hy1⟩) Qe ?rest1
    case hy1=>intro W hSW;(try dsimp only at hSW);go_simp;try with_reducible rfl
    simp only[Act.put,sia,scz,scs]
    refine q6t (i:=3) (d:=some 27) (v:=?v3) rfl rfl (by kernel_rfl) (by kernel_rfl) (by kernel_rfl) (fun _ _ _ h=>h) (Or.inl ⟨by rfl,?hy3⟩) Qe ?rest3
    case hy3=>intro W hSW;(try dsimp only at hSW);go_simp;try with_reducible rfl
    simp only[Act.put,sia,scz,scs]
    refine q6t (i:=4) (d:=some 28) (v:=?v4) rfl rfl (by kernel_rfl) (by kernel_rfl) (by kernel_rfl) (fun _ _ _ h=>h) (Or.inl ⟨by rfl,?hy4⟩) Qe ?rest4
    case hy4=>intro W hSW;(try dsimp only at hSW);go_simp;try with_reducible rfl
    simp only[Act.put,sia,scz,scs]
    refine q6t (i:=6) (d:=some 30) (v:=?v6) rfl rfl (by kernel_rfl) (by kernel_rfl) (by kernel_rfl) (fun _ _ _ h=>h) (Or.inl ⟨by rfl,?hy6⟩) Qe ?rest6
    case hy6=>intro W hSW;(try dsimp only at hSW);go_simp;try with_reducible rfl
    simp only[Act.put,sia,scz,scs]
    refine q6t (i:=7) (d:=some 31) (v:=?v7) rfl rfl (by kernel_rfl) (by kernel_rfl) (by kernel_rfl) (fun _ _ _ h=>h) (Or.inl ⟨by rfl,?hy7⟩) Qe ?rest7
    case hy7=>intro W hSW;(try dsimp only at hSW);go_simp;try with_reducible rfl
    simp only[Act.put,sia,scz,scs]
    refine dagR1 1 (JR z n) 5 Qe (JR.start rfl rfl hd) ?_
    intro n' ih l a V hSV hJ
    rcases hJ with⟨A,B,C,F,vA,vB,vC,vF,hn,hval,hl,ha,h⟩ | ⟨F,sb,ob,bb,vF,hn,hl,ha,h⟩
    ·skip
     cases A with
     | false=>
      cases B with
      | false=>
       cases C with
       | false=>
        cases F with
        | false=>
         obtain rfl:n'=5:=hn
         subst hl ha
         simp only[Zs,Act.put,sia,scz,scs]
         refine wpAnyH_ready (rs:=[2,5,8,10]) (by kernel_rfl) (by simp) ?_
         refine AllReadyH.cons rfl (fun K hK=>?_) (AllReadyH.cons rfl (fun K hK=>?_) (AllReadyH.cons rfl (fun K hK=>?_) (AllReadyH.cons rfl (fun K hK=>?_) AllReadyH.nil)))
         ·go_simp
          exact hK.out _ _ (HSz.out _ (AF.tA h).ext) (fun hH=>ih 4 (by decide) _ _ _ hH (Or.inl ⟨true,false,false,false,_,_,_,_,rfl,rfl,rfl,(by simp only[Zs,Act.put,sia,scz,scs]),(AF.tA h)⟩))
         ·go_simp
          exact hK.out _ _ (HSz.out _ (AF.tB h).ext) (fun hH=>ih 4 (by decide) _ _ _ hH (Or.inl ⟨false,true,false,false,_,_,_,_,rfl,rfl,rfl,(by simp only[Zs,Act.put,sia,scz,scs]),(AF.tB h)⟩))
         ·go_simp
          exact hK.out _ _ (HSz.out _ (AF.tC h).ext) (fun hH=>ih 4 (by decide) _ _ _ hH (Or.inl ⟨false,false,true,false,_,_,_,_,rfl,rfl,rfl,(by simp only[Zs,Act.put,sia,scz,scs]),(AF.tC h)⟩))
         ·go_simp
          exact hK.out _ _ (HSz.out _ (AF.tF h).ext) (fun hH=>ih 4 (by decide) _ _ _ hH (Or.inl ⟨false,false,false,true,_,_,_,_,rfl,rfl,rfl,(by simp only[Zs,Act.put,sia,scz,scs]),(AF.tF h)⟩))
        | true=>
         obtain rfl:n'=4:=hn
         subst hl ha
         simp only[Zs,Act.put,sia,scz,scs]
         refine wpAnyH_ready (rs:=[2,5,8]) (by kernel_rfl) (by simp) ?_
         refine AllReadyH.cons rfl (fun K hK=>?_) (AllReadyH.cons rfl (fun K hK=>?_) (AllReadyH.cons rfl (fun K hK=>?_) AllReadyH.nil))
         ·go_simp
          exact hK.out _ _ (HSz.out _ (AF.tA h).ext) (fun hH=>ih 3 (by decide) _ _ _ hH (Or.inl ⟨true,false,false,true,_,_,_,_,rfl,rfl,rfl,(by simp only[Zs,Act.put,sia,scz,scs]),(AF.tA h)⟩))
         ·go_simp
          exact hK.out _ _ (HSz.out _ (AF.tB h).ext) (fun hH=>ih 3 (by decide) _ _ _ hH (Or.inl ⟨false,true,false,true,_,_,_,_,rfl,rfl,rfl,(by simp only[Zs,Act.put,sia,scz,scs]),(AF.tB h)⟩))
         ·go_simp
          exact hK.out _ _ (HSz.out _ (AF.tC h).ext) (fun hH=>ih 3 (by decide) _ _ _ hH (Or.inl ⟨false,false,true,true,_,_,_,_,rfl,rfl,rfl,(by simp only[Zs,Act.put,sia,scz,scs]),(AF.tC h)⟩))
       | true=>
        cases F with
        | false=>
         obtain rfl:n'=4:=hn
         subst hl ha
         simp only[Zs,Act.put,sia,scz,scs]
         refine wpAnyH_ready (rs:=[2,5,10]) (by kernel_rfl) (by simp) ?_
         refine AllReadyH.cons rfl (fun K hK=>?_) (AllReadyH.cons rfl (fun K hK=>?_) (AllReadyH.cons rfl (fun K hK=>?_) AllReadyH.nil))
         ·go_simp
          exact hK.out _ _ (HSz.out _ (AF.tA h).ext) (fun hH=>ih 3 (by decide) _ _ _ hH (Or.inl ⟨true,false,true,false,_,_,_,_,rfl,rfl,rfl,(by simp only[Zs,Act.put,sia,scz,scs]),(AF.tA h)⟩))
         ·go_simp
          exact hK.out _ _ (HSz.out _ (AF.tB h).ext) (fun hH=>ih 3 (by decide) _ _ _ hH (Or.inl ⟨false,true,true,false,_,_,_,_,rfl,rfl,rfl,(by simp only[Zs,Act.put,sia,scz,scs]),(AF.tB h)⟩))
         ·go_simp
          exact hK.out _ _ (HSz.out _ (AF.tF h).ext) (fun hH=>ih 3 (by decide) _ _ _ hH (Or.inl ⟨false,false,true,true,_,_,_,_,rfl,rfl,rfl,(by simp only[Zs,Act.put,sia,scz,scs]),(AF.tF h)⟩))
        | true=>
         obtain rfl:n'=3:=hn
         subst hl ha
         simp only[Zs,Act.put,sia,scz,scs]
         refine wpAnyH_ready (rs:=[2,5]) (by kernel_rfl) (by simp) ?_
         refine AllReadyH.cons rfl (fun K hK=>?_) (AllReadyH.cons rfl (fun K hK=>?_) AllReadyH.nil)
         ·go_simp
          exact hK.out _ _ (HSz.out _ (AF.tA h).ext) (fun hH=>ih 2 (by decide) _ _ _ hH (Or.inl ⟨true,false,true,true,_,_,_,_,rfl,rfl,rfl,(by simp only[Zs,Act.put,sia,scz,scs]),(AF.tA h)⟩))
         ·go_simp
          exact hK.out _ _ (HSz.out _ (AF.tB h).ext) (fun hH=>ih 2 (by decide) _ _ _ hH (Or.inl ⟨false,true,true,true,_,_,_,_,rfl,rfl,rfl,(by simp only[Zs,Act.put,sia,scz,scs]),(AF.tB h)⟩))
      | true=>
       cases C with
       | false=>
        cases F with
        | false=>
         obtain rfl:n'=4:=hn
         subst hl ha
         simp only[Zs,Act.put,sia,scz,scs]
         refine wpAnyH_ready (rs:=[2,8,10]) (by kernel_rfl) (by simp) ?_
         refine AllReadyH.cons rfl (fun K hK=>?_) (AllReadyH.cons rfl (fun K hK=>?_) (AllReadyH.cons rfl (fun K hK=>?_) AllReadyH.nil))
         ·go_simp
          exact hK.out _ _ (HSz.out _ (AF.tA h).ext) (fun hH=>ih 3 (by decide) _ _ _ hH (Or.inl ⟨true,true,false,false,_,_,_,_,rfl,rfl,rfl,(by simp only[Zs,Act.put,sia,scz,scs]),(AF.tA h)⟩))
         ·go_simp
          exact hK.out _ _ (HSz.out _ (AF.tC h).ext) (fun hH=>ih 3 (by decide) _ _ _ hH (Or.inl ⟨false,true,true,false,_,_,_,_,rfl,rfl,rfl,(by simp only[Zs,Act.put,sia,scz,scs]),(AF.tC h)⟩))
         ·go_simp
          exact hK.out _ _ (HSz.out _ (AF.tF h).ext) (fun hH=>ih 3 (by decide) _ _ _ hH (Or.inl ⟨false,true,false,true,_,_,_,_,rfl,rfl,rfl,(by simp only[Zs,Act.put,sia,scz,scs]),(AF.tF h)⟩))
        | true=>
         obtain rfl:n'=3:=hn
         subst hl ha
         simp only[Zs,Act.put,sia,scz,scs]
         refine wpAnyH_ready (rs:=[2,8]) (by kernel_rfl) (by simp) ?_
         refine AllReadyH.cons rfl (fun K hK=>?_) (AllReadyH.cons rfl (fun K hK=>?_) AllReadyH.nil)
         ·go_simp
          exact hK.out _ _ (HSz.out _ (AF.tA h).ext) (fun hH=>ih 2 (by decide) _ _ _ hH (Or.inl ⟨true,true,false,true,_,_,_,_,rfl,rfl,rfl,(by simp only[Zs,Act.put,sia,scz,scs]),(AF.tA h)⟩))
         ·go_simp
          exact hK.out _ _ (HSz.out _ (AF.tC h).ext) (fun hH=>ih 2 (by decide) _ _ _ hH (Or.inl ⟨false,true,true,true,_,_,_,_,rfl,rfl,rfl,(by simp only[Zs,Act.put,sia,scz,scs]),(AF.tC h)⟩))
       | true=>
        cases F with
        | false=>
         obtain rfl:n'=3:=hn
         subst hl ha
         simp only[Zs,Act.put,sia,scz,scs]
         refine wpAnyH_ready (rs:=[2,10]) (by kernel_rfl) (by simp) ?_
         refine AllReadyH.cons rfl (fun K hK=>?_) (AllReadyH.cons rfl (fun K hK=>?_) AllReadyH.nil)
         ·go_simp
          have k:=AF.tA h
          clear h
          obtain⟨gA,eA,_⟩:=k.hA rfl
          obtain⟨gB,eB,_⟩:=k.hB rfl
          obtain⟨gC,eC,_⟩:=k.hC rfl
          have kE:=k.ext
          subst eB
          subst eC
          refine hK.out _ _ (HSz.out _ kE) (fun hH=>?_)
          clear hK K
          rw[eA] at k ⊢
          refine q6t (i:=9) (d:=some 33) (v:=bldR n gA gB gC) rfl rfl (by kernel_rfl) (by kernel_rfl) (by kernel_rfl) (fun _ _ _ h=>h) (Or.inl ⟨by rfl,?hz0110⟩) hH ?resz0110
          case hz0110=>intro W hSW;(try dsimp only at hSW);unfold bldR;go_simp;try with_reducible rfl
          exact ih 1 (by decide) _ _ _ hH (Or.inr ⟨false,gA,gB,gC,_,rfl,rfl,(by simp only[Zs,putU,bldR,Act.put,sia,scz,scs]),k⟩)
         ·go_simp
          exact hK.out _ _ (HSz.out _ (AF.tF h).ext) (fun hH=>ih 2 (by decide) _ _ _ hH (Or.inl ⟨false,true,true,true,_,_,_,_,rfl,rfl,rfl,(by simp only[Zs,Act.put,sia,scz,scs]),(AF.tF h)⟩))
        | true=>
         obtain rfl:n'=2:=hn
         subst hl ha
         simp only[Zs,Act.put,sia,scz,scs]
         refine wpAnyH_ready (rs:=[2]) (by kernel_rfl) (by simp) ?_
         refine AllReadyH.cons rfl (fun K hK=>?_) AllReadyH.nil
         ·go_simp
          have k:=AF.tA h
          clear h
          obtain⟨gA,eA,_⟩:=k.hA rfl
          obtain⟨gB,eB,_⟩:=k.hB rfl
          obtain⟨gC,eC,_⟩:=k.hC rfl
          have kE:=k.ext
          subst eB
          subst eC
          refine hK.out _ _ (HSz.out _ kE) (fun hH=>?_)
          clear hK K
          rw[eA] at k ⊢
          refine q6t (i:=9) (d:=some 33) (v:=bldR n gA gB gC) rfl rfl (by kernel_rfl) (by kernel_rfl) (by kernel_rfl) (fun _ _ _ h=>h) (Or.inl ⟨by rfl,?hz0111⟩) hH ?resz0111
          case hz0111=>intro W hSW;(try dsimp only at hSW);unfold bldR;go_simp;try with_reducible rfl
          exact ih 0 (by decide) _ _ _ hH (Or.inr ⟨true,gA,gB,gC,_,rfl,rfl,(by simp only[Zs,putU,bldR,Act.put,sia,scz,scs]),k⟩)
     | true=>
      cases B with
      | false=>
       cases C with
       | false=>
        cases F with
        | false=>
         obtain rfl:n'=4:=hn
         subst hl ha
         simp only[Zs,Act.put,sia,scz,scs]
         refine wpAnyH_ready (rs:=[5,8,10]) (by kernel_rfl) (by simp) ?_
         refine AllReadyH.cons rfl (fun K hK=>?_) (AllReadyH.cons rfl (fun K hK=>?_) (AllReadyH.cons rfl (fun K hK=>?_) AllReadyH.nil))
         ·go_simp
          exact hK.out _ _ (HSz.out _ (AF.tB h).ext) (fun hH=>ih 3 (by decide) _ _ _ hH (Or.inl ⟨true,true,false,false,_,_,_,_,rfl,rfl,rfl,(by simp only[Zs,Act.put,sia,scz,scs]),(AF.tB h)⟩))
         ·go_simp
          exact hK.out _ _ (HSz.out _ (AF.tC h).ext) (fun hH=>ih 3 (by decide) _ _ _ hH (Or.inl ⟨true,false,true,false,_,_,_,_,rfl,rfl,rfl,(by simp only[Zs,Act.put,sia,scz,scs]),(AF.tC h)⟩))
         ·go_simp
          exact hK.out _ _ (HSz.out _ (AF.tF h).ext) (fun hH=>ih 3 (by decide) _ _ _ hH (Or.inl ⟨true,false,false,true,_,_,_,_,rfl,rfl,rfl,(by simp only[Zs,Act.put,sia,scz,scs]),(AF.tF h)⟩))
        | true=>
         obtain rfl:n'=3:=hn
         subst hl ha
         simp only[Zs,Act.put,sia,scz,scs]
         refine wpAnyH_ready (rs:=[5,8]) (by kernel_rfl) (by simp) ?_
         refine AllReadyH.cons rfl (fun K hK=>?_) (AllReadyH.cons rfl (fun K hK=>?_) AllReadyH.nil)
         ·go_simp
          exact hK.out _ _ (HSz.out _ (AF.tB h).ext) (fun hH=>ih 2 (by decide) _ _ _ hH (Or.inl ⟨true,true,false,true,_,_,_,_,rfl,rfl,rfl,(by simp only[Zs,Act.put,sia,scz,scs]),(AF.tB h)⟩))
         ·go_simp
          exact hK.out _ _ (HSz.out _ (AF.tC h).ext) (fun hH=>ih 2 (by decide) _ _ _ hH (Or.inl ⟨true,false,true,true,_,_,_,_,rfl,rfl,rfl,(by simp only[Zs,Act.put,sia,scz,scs]),(AF.tC h)⟩))
       | true=>
        cases F with
        | false=>
         obtain rfl:n'=3:=hn
         subst hl ha
         simp only[Zs,Act.put,sia,scz,scs]
         refine wpAnyH_ready (rs:=[5,10]) (by kernel_rfl) (by simp) ?_
         refine AllReadyH.cons rfl (fun K hK=>?_) (AllReadyH.cons rfl (fun K hK=>?_) AllReadyH.nil)
         ·go_simp
          have k:=AF.tB h
          clear h
          obtain⟨gA,eA,_⟩:=k.hA rfl
          obtain⟨gB,eB,_⟩:=k.hB rfl
          obtain⟨gC,eC,_⟩:=k.hC rfl
          have kE:=k.ext
          subst eA
          subst eC
          refine hK.out _ _ (HSz.out _ kE) (fun hH=>?_)
          clear hK K
          rw[eB] at k ⊢
          refine q6t (i:=9) (d:=some 33) (v:=bldR n gA gB gC) rfl rfl (by kernel_rfl) (by kernel_rfl) (by kernel_rfl) (fun _ _ _ h=>h) (Or.inl ⟨by rfl,?hz1010⟩) hH ?resz1010
          case hz1010=>intro W hSW;(try dsimp only at hSW);unfold bldR;go_simp;try with_reducible rfl
          exact ih 1 (by decide) _ _ _ hH (Or.inr ⟨false,gA,gB,gC,_,rfl,rfl,(by simp only[Zs,putU,bldR,Act.put,sia,scz,scs]),k⟩)
         ·go_simp
          exact hK.out _ _ (HSz.out _ (AF.tF h).ext) (fun hH=>ih 2 (by decide) _ _ _ hH (Or.inl ⟨true,false,true,true,_,_,_,_,rfl,rfl,rfl,(by simp only[Zs,Act.put,sia,scz,scs]),(AF.tF h)⟩))
        | true=>
         obtain rfl:n'=2:=hn
         subst hl ha
         simp only[Zs,Act.put,sia,scz,scs]
         refine wpAnyH_ready (rs:=[5]) (by kernel_rfl) (by simp) ?_
         refine AllReadyH.cons rfl (fun K hK=>?_) AllReadyH.nil
         ·go_simp
          have k:=AF.tB h
          clear h
          obtain⟨gA,eA,_⟩:=k.hA rfl
          obtain⟨gB,eB,_⟩:=k.hB rfl
          obtain⟨gC,eC,_⟩:=k.hC rfl
          have kE:=k.ext
          subst eA
          subst eC
          refine hK.out _ _ (HSz.out _ kE) (fun hH=>?_)
          clear hK K
          rw[eB] at k ⊢
          refine q6t (i:=9) (d:=some 33) (v:=bldR n gA gB gC) rfl rfl (by kernel_rfl) (by kernel_rfl) (by kernel_rfl) (fun _ _ _ h=>h) (Or.inl ⟨by rfl,?hz1011⟩) hH ?resz1011
          case hz1011=>intro W hSW;(try dsimp only at hSW);unfold bldR;go_simp;try with_reducible rfl
          exact ih 0 (by decide) _ _ _ hH (Or.inr ⟨true,gA,gB,gC,_,rfl,rfl,(by simp only[Zs,putU,bldR,Act.put,sia,scz,scs]),k⟩)
      | true=>
       cases C with
       | false=>
        cases F with
        | false=>
         obtain rfl:n'=3:=hn
         subst hl ha
         simp only[Zs,Act.put,sia,scz,scs]
         refine wpAnyH_ready (rs:=[8,10]) (by kernel_rfl) (by simp) ?_
         refine AllReadyH.cons rfl (fun K hK=>?_) (AllReadyH.cons rfl (fun K hK=>?_) AllReadyH.nil)
         ·go_simp
          have k:=AF.tC h
          clear h
          obtain⟨gA,eA,_⟩:=k.hA rfl
          obtain⟨gB,eB,_⟩:=k.hB rfl
          obtain⟨gC,eC,_⟩:=k.hC rfl
          have kE:=k.ext
          subst eA
          subst eB
          refine hK.out _ _ (HSz.out _ kE) (fun hH=>?_)
          clear hK K
          rw[eC] at k ⊢
          refine q6t (i:=9) (d:=some 33) (v:=bldR n gA gB gC) rfl rfl (by kernel_rfl) (by kernel_rfl) (by kernel_rfl) (fun _ _ _ h=>h) (Or.inl ⟨by rfl,?hz1100⟩) hH ?resz1100
          case hz1100=>intro W hSW;(try dsimp only at hSW);unfold bldR;go_simp;try with_reducible rfl
          exact ih 1 (by decide) _ _ _ hH (Or.inr ⟨false,gA,gB,gC,_,rfl,rfl,(by simp only[Zs,putU,bldR,Act.put,sia,scz,scs]),k⟩)
         ·go_simp
          exact hK.out _ _ (HSz.out _ (AF.tF h).ext) (fun hH=>ih 2 (by decide) _ _ _ hH (Or.inl ⟨true,true,false,true,_,_,_,_,rfl,rfl,rfl,(by simp only[Zs,Act.put,sia,scz,scs]),(AF.tF h)⟩))
        | true=>
         obtain rfl:n'=2:=hn
         subst hl ha
         simp only[Zs,Act.put,sia,scz,scs]
         refine wpAnyH_ready (rs:=[8]) (by kernel_rfl) (by simp) ?_
         refine AllReadyH.cons rfl (fun K hK=>?_) AllReadyH.nil
         ·go_simp
          have k:=AF.tC h
          clear h
          obtain⟨gA,eA,_⟩:=k.hA rfl
          obtain⟨gB,eB,_⟩:=k.hB rfl
          obtain⟨gC,eC,_⟩:=k.hC rfl
          have kE:=k.ext
          subst eA
          subst eB
          refine hK.out _ _ (HSz.out _ kE) (fun hH=>?_)
          clear hK K
          rw[eC] at k ⊢
          refine q6t (i:=9) (d:=some 33) (v:=bldR n gA gB gC) rfl rfl (by kernel_rfl) (by kernel_rfl) (by kernel_rfl) (fun _ _ _ h=>h) (Or.inl ⟨by rfl,?hz1101⟩) hH ?resz1101
          case hz1101=>intro W hSW;(try dsimp only at hSW);unfold bldR;go_simp;try with_reducible rfl
          exact ih 0 (by decide) _ _ _ hH (Or.inr ⟨true,gA,gB,gC,_,rfl,rfl,(by simp only[Zs,putU,bldR,Act.put,sia,scz,scs]),k⟩)
       | true=>
        cases F with
        | false=>
         exact absurd hval (by decide)
        | true=>
         exact absurd hval (by decide)
    ·cases F with
     | false=>
      obtain rfl:n'=1:=hn
      subst hl ha
      simp only[Zs,putU,bldR,Act.put,sia,scz,scs]
      refine wpAnyH_ready (rs:=[10]) (by kernel_rfl) (by simp) ?_
      refine AllReadyH.cons rfl (fun K hK=>?_) AllReadyH.nil
      go_simp
      exact hK.out _ _ (HSz.out _ (AF.tF h).ext) (fun hH=>ih 0 (by decide) _ _ _ hH (Or.inr ⟨true,sb,ob,bb,_,rfl,rfl,(by simp only[Zs,putU,bldR,Act.put,sia,scz,scs]),(AF.tF h)⟩))
     | true=>
      obtain rfl:n'=0:=hn
      subst hl ha
      simp only[Zs,putU,bldR,Act.put,sia,scz,scs]
      obtain⟨gF,rfl,hzF,hbF⟩:=h.hF rfl
      have hlF:=q3c hbF
      have hbF':V.heap[gF]? =some (.cells #[.int .i64 0,.int .i64 0,.slice none 0 0,.slice none 0 0,.int .i64 0,.slice none 0 0,.slice none 0 0,.int .i64 0,.slice none 0 0,.slice none 0 0,.slice none 0 0,.slice none 0 0,.slice none 0 0,.slice none 0 0] 39):=hbF
      have zf:=Qi hbF'
      have z0:=Qb hbF' 0
      have z1:=Qb hbF' 1
      have z2:=Qb hbF' 2
      have z3:=Qb hbF' 3
      have z4:=Qb hbF' 4
      have z5:=Qb hbF' 5
      have z6:=Qb hbF' 6
      have z7:=Qb hbF' 7
      have z8:=Qb hbF' 8
      have z9:=Qb hbF' 9
      have z10:=Qb hbF' 10
      have z11:=Qb hbF' 11
      have z12:=Qb hbF' 12
      have z13:=Qb hbF' 13
      simp only[List.getElem?_toArray,List.getElem?_cons_zero,List.getElem?_cons_succ] at z0 z1 z2 z3 z4 z5 z6 z7 z8 z9 z10 z11 z12 z13
      refine wpAnyH_ready (rs:=[11]) (by kernel_rfl) (by simp) ?_
      refine AllReadyH.cons rfl (fun K hK=>?_) AllReadyH.nil
      go_simp
      obtain⟨V1,hV1⟩:=Qy (((((((((((((((V.setCell ⟨gF,0,none⟩ (.int .i64 0)).setCell ⟨gF,1,none⟩ (.int .i64 0)).setCell ⟨gF,2,none⟩ (.slice none 0 0)).setCell ⟨gF,3,none⟩ (.slice none 0 0)).setCell ⟨gF,4,none⟩ (.int .i64 0)).setCell ⟨gF,5,none⟩ (.slice none 0 0)).setCell ⟨gF,6,none⟩ (.slice none 0 0)).setCell ⟨gF,7,none⟩ (.int .i64 0)).setCell ⟨gF,8,none⟩ (.slice none 0 0)).setCell ⟨gF,9,none⟩ (.slice (some ⟨sb,0,none⟩) n n)).setCell ⟨gF,10,none⟩ (.slice (some ⟨ob,0,none⟩) n n)).setCell ⟨gF,11,none⟩ (.slice (some ⟨bb,0,none⟩) n n)).setCell ⟨gF,12,none⟩ (.slice none 0 0)).setCell ⟨gF,13,none⟩ (.slice none 0 0)))
      rw[<-hV1]
      have hE1:Ext z V1:=by rw[hV1];exact ext14r h.ext hzF
      have hB1:∀j,j≠gF->V1.heap[j]? =V.heap[j]?:=fun j hj=>by rw[hV1];exact blk14r hj
      have hF1:V1.heap[gF]? =some (.cells (wdL co0 ca0 n sb ob bb (.slice none 0 0) (.slice none 0 0) []).toArray 39):=by rw[hV1];exact set14r hbF'
      refine hK.out _ _ (HSz.out _ hE1) (fun hH=>?_)
      clear hK K hV1 z0 z1 z2 z3 z4 z5 z6 z7 z8 z9 z10 z11 z12 z13 zf
      refine wpAnyH_done (by kernel_rfl) ?_ _
      go_wp2_with fail
      go_meet
      exact⟨gF,sb,ob,bb,rfl,h.done hE1 hF1 hB1⟩
   obtain⟨P,sb,ob,bb,rfl,HSR⟩:=hcut
   have hA3:=HAz.out.ext HSR.out.ext
   have hE3:Ext w wc:=hEz.trans HSR.out.ext
   have hWS:=HSR.out.st hEz (by omega)
   have h1:=HSR.out.zP
   have h2:=HSR.out.zs
   have h3:=HSR.out.zo
   have h4:=HSR.out.zb
   have HST:Hid (PlyR w wc n P sb ob bb (run n ls (ds.take 0)) (.slice none 0 0) wc):=⟨_,ca0,_,_,hWS,(fun _=>rfl),RwT.nil _ _ _ _ _,⟨tgR_x (by omega) (by omega) (by omega) (by omega) (by omega) (by omega),tgR_x (by omega) (by omega) (by omega) (by omega) (by omega) (by omega),tgR_x (by omega) (by omega) (by omega) (by omega) (by omega) (by omega)⟩,rfl,rfl,rfl⟩
   have HBW:=Qa hA3
   have HDS:=Qa hd
   have HSM:=Qa hS
   have HNT:=Qa hl
   have hPlt:=hWS.row.lt
   clear hA3 hE3 hWS h1 h2 h3 h4 hd hS hl HSR m1 m2 m3 HSz
   go_wp2
   go_loopw [9,36] (fun cv iv wd=>∃(k:Nat) (v:Value),k<=ds.length/\iv=.int .i64 k/\cv=v/\Hid (PlyR w wc n P sb ob bb (run n ls (ds.take k)) v wd)) (fun _ iv _=>ds.length - (intOf iv).toNat)
   case atStart=>exact⟨0,_,Zu _,rfl,rfl,HST.out⟩
   case round=>
    obtain⟨k,v,hk,rfl,hcv,HI⟩:=hrel
    obtain rfl:=hcv.symm
    by_cases hlt:k<ds.length
    ·have i1:(k:Int)<(ds.length:Int):=by omega
     obtain⟨tg,a,kv,lv,hW,hwn,hC,⟨t80,t8,t8'⟩,e80,e8,e8'⟩:=HI.out
     obtain⟨db,doff,fo,fc,rfl,hdb,c0,c1,c2,hfl⟩:=(HDS.out).get hlt
     have hdb':db<wr.heap.size:=Q5 hdb hW.ext.size
     have d0:=(hW.ext.cells.1 _ _ hdb).trans c0
     have d1:=(hW.ext.cells.1 _ _ hdb).trans c1
     have d2:=(hW.ext.cells.1 _ _ hdb).trans c2
     have hmem:ds.getD k dd0∈ds:=by rw[Zt,List.getElem?_eq_getElem hlt];exact List.getElem_mem _
     have hsm:=HSM.out _ hmem
     have HRT:Hid (run n ls (ds.take (k+1))=z6j n ls (run n ls (ds.take k)) (ds.getD k dd0)):=z3v (n:=n) (ls:=ls) (q:=(wdN n,[])) hlt
     generalize ds.getD k dd0=d at d0 d1 d2 hfl hsm HRT
     obtain⟨dk,dn,dfs⟩:=d
     simp only at d0 d1 d2 hfl hsm
     have hinv:=q7s (n:=n) (ls:=ls) (ds:=ds.take k) HWR.out (by rw[List.length_take];omega)
     have hcl:(run n ls (ds.take k)).2.length=k:=by rw[z6u,List.length_take];omega
     have HCL:=Qa hcl
     have HHP:Hid (∀V,Ext wr V->Calls prog 13 #[.pointer (some ⟨P,0,none⟩),.agg #[.int .i64 n,.slice ao len cap],.agg #[.int .i64 dk,.int .i64 dn,.slice fo dfs.length fc]] V fun e w'=>ROut w P n tg V sb ob bb (hap n ls (run n ls (ds.take k)).1 ⟨dk,dn,dfs⟩) e w'):=fun V hV=>z6y n len cap ls ao _ w P tg V _ a sb ob bb kv lv ⟨dk,dn,dfs⟩ fo fc (hW.Qm hV) hwn hinv (by rw[List.length_take];omega) hlen HNT.out hx hcap hfl hsm.1 hsm.2
     have HC:=Qa hC
     have HW0:=Qa hW
     have H8:=Qa (And.intro (And.intro t80 (And.intro t8 t8')) (And.intro e80 (And.intro e8 e8')))
     have hpb:=HBW.out.of e80 e8 e8'
     have hbn0:=hpb.n0
     have hbn1:=hpb.n1
     have hbl:w.heap.size<wr.heap.size:=by have:=hpb.lt;omega
     clear hW hwn hC t80 t8 t8' e80 e8 e8' hpb hinv hsm hfl c0 c1 c2 hmem HI hcl
     generalize run n ls (ds.take k)=q at HC HW0 HHP HRT HCL
     obtain⟨QW,came⟩:=q
     go_wp2_with fail
     refine Calls.mono (HHP.out _ ((Ext.refl wr).alloc _)) ?_
     rintro e w5 ⟨rfl,tg5,a5,kv5,lv5,hRO⟩
     obtain⟨hW5,hK5,hwn5⟩:=hRO.out
     obtain⟨er,her⟩:=Qy ((hap n ls (QW,came).1 ⟨dk,dn,dfs⟩).2)
     rw[<-her]
     have HER:=Qa her
     have HW5:=Qa hW5
     have HWN5:=Qa hwn5
     have HKK:Hid (Zv tg tg5 wr w5):=(Zv.ext ((Ext.refl wr).alloc _)).trans hK5
     have HC5:=Qa (HC.out.Qh HKK.out (Or.inr (Or.inl rfl)))
     have hcl:came.length=k:=HCL.out
     have EP:Ext w5 (w5.alloc (.cells #[.int .i64 er] 41)):=(Ext.refl w5).alloc _
     clear her hW5 hK5 hwn5 hRO
     go_wp2_with (first | (at_builtin;refine Zy _ rfl _ _ 40 rfl 41 i0 _ 1 8 underlying40 hi0 hz00 hz01 hz02 rfl (by decide) _ came.length (came.map (Value.int .i64)) rfl (HC5.out.Qh (Qf.ext (S:=fun _=>True) EP) trivial).row ⟨w5.heap.size,0,none⟩ 1 [.int .i64 er] rfl rfl (news1 rfl (Ext.refl _)) (z1t _) (by unfold maxLen;omega) (by omega) ?_) | fail)
     intro g7 off7 cap7 w7 hr7 hg7 hat7
     obtain⟨tg7,hW7,hC7,hK7⟩:=Q0.pushE (HW5.out.Qm EP) (HC5.out.Qh (Qf.ext (S:=fun _=>True) EP) trivial) (by rw[hcl];exact hr7) hg7 (by simpa using hat7)
     have K8:Qf (fun x=>x=8) tg tg7 wr w7:=(HKK.out.mono (fun x hx=>Or.inr (Or.inr hx))).trans ((Qf.ext EP).trans (hK7.mono (fun x hx=>by omega)))
     obtain⟨B0,hB0⟩:=HBW.out.n
     have z80:=keep8 hB0 H8.out.1.1 H8.out.2.1 K8
     have z8:=keep8 HBW.out.w H8.out.1.2.1 H8.out.2.2.1 K8
     have z8':=keep8 HBW.out.f H8.out.1.2.2 H8.out.2.2.2 K8
     have HST7:Hid (PlyR w wc n P sb ob bb (run n ls (ds.take (k+1))) (.slice (some ⟨g7,off7,none⟩) (k+1) cap7) w7):=by
      show PlyR w wc n P sb ob bb _ _ w7
      rw[HRT.out]
      refine⟨tg7,a5,kv5,lv5,hW7,HWN5.out,?_,⟨z80.1,z8.1,z8'.1⟩,z80.2,z8.2,z8'.2⟩
      show q4f tg7 w7 (came++[(hap n ls (QW,came).1 ⟨dk,dn,dfs⟩).2]) _
      rw[<-HER.out]
      rw[hcl] at hC7
      exact hC7
     clear hW7 hC7 hK7 K8 z80 z8 z8' hB0 hr7 hg7 hat7
     go_wp2
     refine⟨⟨k+1,_,by omega,by simp[go_sem],rfl,HST7.out⟩,?_⟩
     simp[intOf]
     omega
    ·have hke:k=ds.length:=by omega
     have i1:¬(k:Int)<(ds.length:Int):=by omega
     obtain⟨tg,a,kv,lv,hW,hwn,hC,⟨t80,t8,t8'⟩,e80,e8,e8'⟩:=HI.out
     have hinv:=q7s (n:=n) (ls:=ls) (ds:=ds.take k) HWR.out (by rw[List.length_take];omega)
     have HRE:Hid (plyW (n:Int) ls ds=run n ls (ds.take k)):=by
      show _=_
      rw[HF.out.2,hke,List.take_length]
      rfl
     obtain⟨ko,kc,lo2,lc2,hkv,hlv,hwo⟩:=hW.look hinv.lsw hinv.lod hinv.lbk
     have hlsw:=hinv.lsw
     have hlod:=hinv.lod
     have hlbk:=hinv.lbk
     clear hinv hwo
     generalize run n ls (ds.take k)=q at hW hC HRE hkv hlv hlsw hlod hlbk
     obtain⟨W,came⟩:=q
     simp only at hW hC hkv hlv hlsw hlod hlbk
     subst hkv hlv
     have p0:wr.cell? ⟨P,0,none⟩=some (.int .i64 W.co.st):=hW.row.cell (i:=0) (by simp)
     have p1:wr.cell? ⟨P,1,none⟩=some (.int .i64 W.co.now.v):=hW.row.cell (i:=1) (by simp)
     have p2:wr.cell? ⟨P,2,none⟩=some (.slice a.n.fo W.co.now.fs.length a.n.fc):=hW.row.cell (i:=2) (by simp)
     have p3:wr.cell? ⟨P,3,none⟩=some (.slice a.n.qo W.co.now.ps.length a.n.qc):=hW.row.cell (i:=3) (by simp)
     have p4:wr.cell? ⟨P,4,none⟩=some (.int .i64 W.co.Qd.v):=hW.row.cell (i:=4) (by simp)
     have p5:wr.cell? ⟨P,5,none⟩=some (.slice a.x.fo W.co.Qd.fs.length a.x.fc):=hW.row.cell (i:=5) (by simp)
     have p6:wr.cell? ⟨P,6,none⟩=some (.slice a.x.qo W.co.Qd.ps.length a.x.qc):=hW.row.cell (i:=6) (by simp)
     have p7:wr.cell? ⟨P,7,none⟩=some (.int .i64 W.co.num):=hW.row.cell (i:=7) (by simp)
     have p8:wr.cell? ⟨P,8,none⟩=some (.slice a.wo W.co.Qg.length a.wc):=hW.row.cell (i:=8) (by simp)
     have p9:wr.cell? ⟨P,9,none⟩=some (.slice (some ⟨sb,0,none⟩) n n):=hW.row.cell (i:=9) (by simp)
     have p10:wr.cell? ⟨P,10,none⟩=some (.slice (some ⟨ob,0,none⟩) n n):=hW.row.cell (i:=10) (by simp)
     have p11:wr.cell? ⟨P,11,none⟩=some (.slice (some ⟨bb,0,none⟩) n n):=hW.row.cell (i:=11) (by simp)
     have p12:wr.cell? ⟨P,12,none⟩=some (.slice ko W.pk.length kc):=hW.row.cell (i:=12) (by simp)
     have p13:wr.cell? ⟨P,13,none⟩=some (.slice lo2 W.pn.length lc2):=hW.row.cell (i:=13) (by simp)
     have zw:=Qb (e8.trans HBW.out.w)
     have zf:=Qb (e8'.trans HBW.out.f)
     have fw:=Qi (e8.trans HBW.out.w)
     have ff:=Qi (e8'.trans HBW.out.f)
     have r0:=zw 0
     have r1:=zw 1
     have r2:=zw 2
     have r3:=zw 3
     have r4:=zw 4
     have r5:=zw 5
     have r6:=zw 6
     have r7:=zw 7
     have r8:=zw 8
     have r9:=zw 9
     have r10:=zw 10
     have r11:=zw 11
     have r12:=zw 12
     have r13:=zw 13
     have q0:=zf 0
     have q1:=zf 1
     simp only[List.getElem?_toArray,List.getElem?_cons_zero,List.getElem?_cons_succ] at r0 r1 r2 r3 r4 r5 r6 r7 r8 r9 r10 r11 r12 r13 q0 q1
     have HW:=Qa hW
     have HC:=Qa hC
     have HT:=Qa (And.intro t8 t8')
     have HX:=Qa (And.intro hlsw (And.intro hlod hlbk))
     clear zw zf hW hwn hC t80 t8 t8' e80 e8 e8' hlsw hlod hlbk HI HST HDS HSM HNT
     go_wp2
     refine bodyPost_ret (v:=.tuple #[.agg #[.int .i64 W.co.st,.int .i64 W.co.now.v,.slice a.n.fo W.co.now.fs.length a.n.fc,.slice a.n.qo W.co.now.ps.length a.n.qc,.int .i64 W.co.Qd.v,.slice a.x.fo W.co.Qd.fs.length a.x.fc,.slice a.x.qo W.co.Qd.ps.length a.x.qc,.int .i64 W.co.num,.slice a.wo W.co.Qg.length a.wc,.slice (some ⟨sb,0,none⟩) n n,.slice (some ⟨ob,0,none⟩) n n,.slice (some ⟨bb,0,none⟩) n n,.slice ko W.pk.length kc,.slice lo2 W.pn.length lc2],v,.agg #[.int .i64 0,.int .i64 0]]) (by simp[results,results6,go_sem,r0,r1,r2,r3,r4,r5,r6,r7,r8,r9,r10,r11,r12,r13,q0,q1]) rfl ?_
     rw[HRE.out,HF.out.1]
     exact q6s.of HW.out HC.out HT.out.1 HT.out.2 HX.out.1 HX.out.2.1 HX.out.2.2
 ·have HF:Hid (plyF N ls ds=Qc N ls):=by show _=_;unfold plyF;rw[if_pos hr]
  have HW:Hid (plyW N ls ds=(wd0,[])):=by show _=_;unfold plyW;rw[HF.out,if_pos hr]
  have b0:((Qc N ls).1 != 0)=true:=by simpa using hr
  clear hr
  go_wp2
  go_region
  go_wp2
  refine bodyPost_ret (v:=.tuple #[.agg #[.int .i64 0,.int .i64 0,.slice none 0 0,.slice none 0 0,.int .i64 0,.slice none 0 0,.slice none 0 0,.int .i64 0,.slice none 0 0,.slice none 0 0,.slice none 0 0,.slice none 0 0,.slice none 0 0,.slice none 0 0],.slice none 0 0,.agg #[.int .i64 (Qc N ls).1,.int .i64 (Qc N ls).2]]) (by simp[results,results6,go_sem,r0,r1,r2,r3,r4,r5,r6,r7,r8,r9,r10,r11,r12,r13,q0,q1,hl2,hl21]) rfl ?_
  rw[HW.out,HF.out]
  refine⟨wa0,none,0,rfl,?_,WoAt.zero _,Or.inl rfl⟩
  refine Ext.drew (Ext.alloc ?_ _)
  iterate 16 refine Ext.setCell ?_ (by simp only;omega) _
  exact hE2
end Rm
end Go.Proofs.YthkpbefnkmmaiaaGreat
