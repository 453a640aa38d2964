import Derived.Test.YthkpbefnkmmaiaaGreate34
set_option maxRecDepth 100000
set_option maxHeartbeats 4000000
namespace Go.Proofs.YthkpbefnkmmaiaaGreat
open Go.Proofs.Tryz
namespace Rm
open Go.RowKit Go.Deep Stw Stp Tb Rul Ct
def Pw (w:World) (N:Int) (nv:Value):World:=((w.alloc (.cells #[.int .i64 N,nv] 24)).alloc (.cells #[.int .i64 0,.int .i64 0,.slice none 0 0,.slice none 0 0,.int .i64 0,.slice none 0 0,.slice none 0 0,.int .i64 0,.slice none 0 0,.slice none 0 0,.slice none 0 0,.slice none 0 0,.slice none 0 0,.slice none 0 0] 39)).alloc (.cells #[.int .i64 0,.int .i64 0] 43)
structure PBx (W:World) (b:Nat) (N:Int) (nv:Value):Prop where
 n0:W.cell? ⟨b,0,none⟩=some (.int .i64 N)
 n1:W.cell? ⟨b,1,none⟩=some nv
 w:W.heap[b+1]? =some (.cells #[.int .i64 0,.int .i64 0,.slice none 0 0,.slice none 0 0,.int .i64 0,.slice none 0 0,.slice none 0 0,.int .i64 0,.slice none 0 0,.slice none 0 0,.slice none 0 0,.slice none 0 0,.slice none 0 0,.slice none 0 0] 39)
 f:W.heap[b+1+1]? =some (.cells #[.int .i64 0,.int .i64 0] 43)
variable {W:World} {b:Nat} {N:Int} {nv:Value}
theorem PBx.lt(h:PBx W b N nv):b+1+1<W.heap.size:=(asi.1 h.f).1
variable {V:World}
theorem PBx.ext(h:PBx W b N nv)(E:Ext W V):PBx V b N nv:=by
 have hl:=h.lt
 exact⟨(E.cells.1 _ _ (by omega)).trans h.n0,(E.cells.1 _ _ (by omega)).trans h.n1,(Below.block E _ (by omega)).trans h.w,(Below.block E _ hl).trans h.f⟩
theorem Pw_ext(w:World)(N:Int)(nv:Value):Ext w (Pw w N nv):=(((Ext.refl w).alloc _).alloc _).alloc _
theorem Pw_box(w:World)(N:Int)(nv:Value):PBx (Pw w N nv) w.heap.size N nv:=by
 unfold Pw
 refine⟨?_,?_,?_,?_⟩
 ·first | (simp;done) | (simp[go_sem];done)
 ·first | (simp;done) | (simp[go_sem];done)
 ·rw[bal _ _ _ (by simp)];exact Q7 (by simp)
 ·exact Q7 (by simp)
def W16 (V:World) (X Y:Nat) (x0 x1 x2 x3 x4 x5 x6 x7 x8 x9 x10 x11 x12 x13 y0 y1:Value):World:=(((((((((((((((V.setCell ⟨X,0,none⟩ x0).setCell ⟨X,1,none⟩ x1).setCell ⟨X,2,none⟩ x2).setCell ⟨X,3,none⟩ x3).setCell ⟨X,4,none⟩ x4).setCell ⟨X,5,none⟩ x5).setCell ⟨X,6,none⟩ x6).setCell ⟨X,7,none⟩ x7).setCell ⟨X,8,none⟩ x8).setCell ⟨X,9,none⟩ x9).setCell ⟨X,10,none⟩ x10).setCell ⟨X,11,none⟩ x11).setCell ⟨X,12,none⟩ x12).setCell ⟨X,13,none⟩ x13).setCell ⟨Y,0,none⟩ y0).setCell ⟨Y,1,none⟩ y1
variable {X Y:Nat} {x0 x1 x2 x3 x4 x5 x6 x7 x8 x9 x10 x11 x12 x13 y0 y1:Value}
theorem W16_block:∀b,b≠X->b≠Y->(W16 V X Y x0 x1 x2 x3 x4 x5 x6 x7 x8 x9 x10 x11 x12 x13 y0 y1).heap[b]? =V.heap[b]?:=fun b h1 h2=>by
 unfold W16
 iterate 2 rw[Zm _ _ _ _ h2]
 iterate 14 rw[Zm _ _ _ _ h1]
theorem W16_size:(W16 V X Y x0 x1 x2 x3 x4 x5 x6 x7 x8 x9 x10 x11 x12 x13 y0 y1).heap.size=V.heap.size:=by
 unfold W16;simp
variable {w:World}
theorem W16_ext(h:Ext w V)(h1:w.heap.size<=X)(h2:w.heap.size<=Y):Ext w (W16 V X Y x0 x1 x2 x3 x4 x5 x6 x7 x8 x9 x10 x11 x12 x13 y0 y1):=by
 unfold W16
 iterate 2 refine Ext.setCell ?_ h2 _
 iterate 14 refine Ext.setCell ?_ h1 _
 exact h
variable {tg:Nat->Nat} {tl:List Value} {P sb ob bb:Nat} {a:CA} {came:List Int}
theorem Q0.fin{T:TypeId}{w0:World}{n:Nat}{W:Wd}{kv lv cv:Value}(h:Q0 T tl w0 P n tg w W a sb ob bb kv lv)(hc:q4f tg w came cv)(hX:tg X=8)(hY:tg Y=8):
 Q0 T tl w0 P n tg (W16 w X Y x0 x1 x2 x3 x4 x5 x6 x7 x8 x9 x10 x11 x12 x13 y0 y1) W a sb ob bb kv lv/\q4f tg (W16 w X Y x0 x1 x2 x3 x4 x5 x6 x7 x8 x9 x10 x11 x12 x13 y0 y1) came cv:=by
 have k:Qf (fun x=>x≠8) tg tg w (W16 w X Y x0 x1 x2 x3 x4 x5 x6 x7 x8 x9 x10 x11 x12 x13 y0 y1):=⟨Nat.le_of_eq W16_size.symm,fun b _ hb=>⟨rfl,W16_block b (fun e=>hb (by rw[e];exact hX)) (fun e=>hb (by rw[e];exact hY))⟩⟩
 exact⟨h.keepW (k.mono (fun x hx=>hx.2)) (fun b hb=>h.nw b (by rwa [W16_size] at hb)) h.base (W16_ext h.ext (h.base X (by rw[hX];decide)) (h.base Y (by rw[hY];decide))),hc.Qh k (by decide)⟩
theorem infoEr:(prog.info? 41).map (fun i=>(i.zero,i.size,i.bytes))=some (some (.int .i64 0),1,8):=by kernel_rfl
def PlyI (w w3:World) (n len cap:Nat) (ao:Option Addr) (P sb ob bb:Nat) (q:Wd×List Int) (cv:Value) (wd:World):Prop:=
 ∃(tg:Nat->Nat) (a:CA) (kv lv:Value),Q0 56 [.int .i64 n,.slice ao len cap] w P n tg wd q.1 a sb ob bb kv lv/\q4f tg wd q.2 cv/\tg (w.heap.size+1)=8/\tg (w.heap.size+1+1)=8/\wd.heap[w.heap.size+1]? =w3.heap[w.heap.size+1]?/\wd.heap[w.heap.size+1+1]? =w3.heap[w.heap.size+1+1]?
theorem keep8{tg':Nat->Nat}{wr w3:World}{B:Obj}(hb:w3.heap[X]? =some B)(t:tg X=8)(e:wr.heap[X]? =w3.heap[X]?)(K:Qf (fun x=>x=8) tg tg' wr w):tg' X=8/\w.heap[X]? =w3.heap[X]?:=by
 have hl:X<wr.heap.size:=(asi.1 (e.trans hb)).1
 have h:=K.blk X hl t
 exact⟨h.1.trans t,h.2.trans e⟩
theorem q6s.of{T:TypeId}{wr:World}{n:Nat}{W:Wd}{ko lo:Option Addr}{kc lc:Nat}{v:Value}(h:Q0 T tl w P n tg wr W a sb ob bb (.slice ko W.pk.length kc) (.slice lo W.pn.length lc))(hc:q4f tg wr came v)(hX:tg X=8)(hY:tg Y=8)(hs:W.sw.length=n)(ho:W.od.length=n)(hb:W.bk.length=n):
 q6s w W came (0,0) (.returned (.tuple #[.agg #[.int .i64 W.co.st,.int .i64 W.co.now.v,.slice a.n.fo W.co.now.fs.length a.n.fc,.slice a.n.qo W.co.now.ps.length a.n.qc,.int .i64 W.co.Qd.v,.slice a.x.fo W.co.Qd.fs.length a.x.fc,.slice a.x.qo W.co.Qd.ps.length a.x.qc,.int .i64 W.co.num,.slice a.wo W.co.Qg.length a.wc,.slice (some ⟨sb,0,none⟩) n n,.slice (some ⟨ob,0,none⟩) n n,.slice (some ⟨bb,0,none⟩) n n,.slice ko W.pk.length kc,.slice lo W.pn.length lc],v,.agg #[.int .i64 0,.int .i64 0]])) (W16 wr X Y x0 x1 x2 x3 x4 x5 x6 x7 x8 x9 x10 x11 x12 x13 y0 y1):=by
 obtain⟨h1,h2⟩:=h.fin (x0:=x0) (x1:=x1) (x2:=x2) (x3:=x3) (x4:=x4) (x5:=x5) (x6:=x6) (x7:=x7) (x8:=x8) (x9:=x9) (x10:=x10) (x11:=x11) (x12:=x12) (x13:=x13) (y0:=y0) (y1:=y1) hc hX hY
 obtain⟨ko',kc',lo',lc',e1,e2,hwo⟩:=h1.look hs ho hb
 cases e1
 cases e2
 obtain⟨co,cc,rfl,hl⟩:=h2.list
 refine⟨_,co,cc,?_,h1.ext,hwo,hl⟩
 unfold wvl
 rw[hs,ho,hb]
theorem Play_any(N:Int)(ao:Option Addr)(len cap:Nat)(ls:List Lk)(lo:Option Addr)(lc:Nat)(ds:List Dd)(w:World)(hlen:ls.length=len)(hl:Zg w ao ls)(hx:len<=9223372036854775807)(hd:z2z w lo ds)(hS:DsSm ds)(hdl:ds.length<=9223372036854775807):
 Calls prog 5 #[.agg #[.int .i64 N,.slice ao len cap],.slice lo ds.length lc] w fun e w'=>q6s w (plyW N ls ds).1 (plyW N ls ds).2 (plyF N ls ds) e w':=by
 obtain⟨i0,hi0,hz00,hz01,hz02⟩:=info_parts infoEr
 have HA:=Qa (Pw_box w N (.slice ao len cap))
 have hE0:=Pw_ext w N (.slice ao len cap)
 go_enter func5,ntmps5
 go_wp2_with fail
 unfold Pw at HA hE0
 obtain⟨W1,hW1⟩:=Qy (((w.alloc (.cells #[.int .i64 N,.slice ao len cap] 24)).alloc (.cells #[.int .i64 0,.int .i64 0,.slice none 0 0,.slice none 0 0,.int .i64 0,.slice none 0 0,.slice none 0 0,.int .i64 0,.slice none 0 0,.slice none 0 0,.slice none 0 0,.slice none 0 0,.slice none 0 0,.slice none 0 0] 39)).alloc (.cells #[.int .i64 0,.int .i64 0] 43))
 rw[<-hW1] at HA hE0 ⊢
 clear hW1
 refine(Zb N ao len cap ls W1 hlen (hl.ext hE0) hx).mono ?_
 rintro e w2 ⟨rfl,E2⟩
 have HA2:=Qa (HA.out.ext E2)
 have hl2:=HA2.out.lt
 have hE2:=hE0.trans E2
 have hl20:w.heap.size<w2.heap.size:=by omega
 have hl21:w.heap.size+1<w2.heap.size:=by omega
 have zw:=Qb HA2.out.w
 have zf:=Qb HA2.out.f
 have fw:=Qi HA2.out.w
 have ff:=Qi HA2.out.f
 have r0:=zw 0
 have r1:=zw 1
 have r2:=zw 2
 have r3:=zw 3
 have r4:=zw 4
 have r5:=zw 5
 have r6:=zw 6
 have r7:=zw 7
 have r8:=zw 8
 have r9:=zw 9
 have r10:=zw 10
 have r11:=zw 11
 have r12:=zw 12
 have r13:=zw 13
 have q0:=zf 0
 have q1:=zf 1
 simp only[List.getElem?_toArray,List.getElem?_cons_zero,List.getElem?_cons_succ] at r0 r1 r2 r3 r4 r5 r6 r7 r8 r9 r10 r11 r12 r13 q0 q1
 clear zw zf
 by_cases hr:(Qc N ls).1=0
 ·have hright:=Zo hr
  have hbd:=hright.bounds
  obtain⟨n,rfl⟩:=Int.eq_ofNat_of_zero_le (show 0<=N by omega)
  have hn8:n<=8:=by omega
  have HWR:=Qa hr
  rw[hright.Qc]
  clear hr hright hbd
  by_cases hm:200<ds.length
  ·have HF:Hid (plyF n ls ds=(5,0)):=by show _=_;unfold plyF;rw[if_neg (by simpa using HWR.out),if_pos hm]
   have HW:Hid (plyW n ls ds=(wd0,[])):=by show _=_;unfold plyW;rw[HF.out,if_pos (by decide)]
   have b0:(200:Int)<(ds.length:Int):=by omega
   clear hm
   go_wp2
   refine bodyPost_ret (v:=.tuple #[.agg #[.int .i64 0,.int .i64 0,.slice none 0 0,.slice none 0 0,.int .i64 0,.slice none 0 0,.slice none 0 0,.int .i64 0,.slice none 0 0,.slice none 0 0,.slice none 0 0,.slice none 0 0,.slice none 0 0,.slice none 0 0],.slice none 0 0,.agg #[.int .i64 5,.int .i64 0]]) (by simp[results,results5,go_sem,r0,r1,r2,r3,r4,r5,r6,r7,r8,r9,r10,r11,r12,r13,q0,q1,hl2,hl21]) rfl ?_
   rw[HW.out,HF.out]
   refine⟨wa0,none,0,rfl,?_,WoAt.zero _,Or.inl rfl⟩
   refine Ext.alloc ?_ _
   iterate 16 refine Ext.setCell ?_ (by simp only;omega) _
   exact hE2
  ·have HF:=Qa (plyF_of (n:=(n:Int)) (ds:=ds) HWR.out (by omega))
   have b0:¬(200:Int)<(ds.length:Int):=by omega
   have n0:=HA2.out.n0
   have n1:=HA2.out.n1
   go_wp2_with fail
   refine(z4h n ao len cap _ hn8).mono ?_
   rintro e w3 ⟨P,sb,ob,bb,rfl,hP1,hP2,hP3,hP4,hrow,hb1,hb2,hb3,E3⟩
   have hA3:=HA2.out.ext (((Ext.refl w2).alloc _).trans E3)
   have hE3:Ext w w3:=hE2.trans (((Ext.refl w2).alloc _).trans E3)
   have hPw:w.heap.size+1+1<P:=by simp at hP1;omega
   have hx8:=tg0_xy (P:=P) (sb:=sb) (ob:=ob) (bb:=bb) (X:=w.heap.size+1) (Y:=w.heap.size+1+1) (by omega) (by omega) hP2 hP3 hP4
   have HST:Hid (PlyI w w3 n len cap ao P sb ob bb (run n ls (ds.take 0)) (.slice none 0 0) w3):=⟨_,ca0,_,_,Q0.start (X:=w.heap.size+1) (Y:=w.heap.size+1+1) (by omega) (by omega) (by omega) (by omega) hP2 hP3 hP4 hrow hb1 hb2 hb3 hE3,RwT.nil _ _ _ _ _,hx8.1,hx8.2,rfl,rfl⟩
   have HBW:=Qa hA3
   have HDS:=Qa hd
   have HSM:=Qa hS
   have HNT:=Qa hl
   clear hA3 hE3 hx8 hrow hb1 hb2 hb3 E3 hP1 hd hS hl HA2 HA fw ff r0 r1 r2 r3 r4 r5 r6 r7 r8 r9 r10 r11 r12 r13 q0 q1 n0 n1 E2 hE2 hE0
   go_wp2
   go_loopw [9,28] (fun cv iv wd=>∃(k:Nat) (v:Value),k<=ds.length/\iv=.int .i64 k/\cv=v/\Hid (PlyI w w3 n len cap ao P sb ob bb (run n ls (ds.take k)) v wd)) (fun _ iv _=>ds.length - (intOf iv).toNat)
   case atStart=>exact⟨0,_,Zu _,rfl,rfl,HST.out⟩
   case round=>
    obtain⟨k,v,hk,rfl,hcv,HI⟩:=hrel
    obtain rfl:=hcv.symm
    by_cases hlt:k<ds.length
    ·have i1:(k:Int)<(ds.length:Int):=by omega
     obtain⟨tg,a,kv,lv,hW,hC,t8,t8',e8,e8'⟩:=HI.out
     obtain⟨db,doff,fo,fc,rfl,hdb,c0,c1,c2,hfl⟩:=(HDS.out).get hlt
     have hdb':db<wr.heap.size:=Q5 hdb hW.ext.size
     have d0:=(hW.ext.cells.1 _ _ hdb).trans c0
     have d1:=(hW.ext.cells.1 _ _ hdb).trans c1
     have d2:=(hW.ext.cells.1 _ _ hdb).trans c2
     have hmem:ds.getD k dd0∈ds:=by rw[Zt,List.getElem?_eq_getElem hlt];exact List.getElem_mem _
     have hsm:=HSM.out _ hmem
     have HRT:Hid (run n ls (ds.take (k+1))=z6j n ls (run n ls (ds.take k)) (ds.getD k dd0)):=z3v (n:=n) (ls:=ls) (q:=(wdN n,[])) hlt
     generalize ds.getD k dd0=d at d0 d1 d2 hfl hsm HRT
     obtain⟨dk,dn,dfs⟩:=d
     simp only at d0 d1 d2 hfl hsm
     have hinv:=q7s (n:=n) (ls:=ls) (ds:=ds.take k) HWR.out (by rw[List.length_take];omega)
     have hcl:(run n ls (ds.take k)).2.length=k:=by rw[z6u,List.length_take];omega
     have HCL:=Qa hcl
     have HHP:Hid (∀V,Ext wr V->Calls prog 11 #[.pointer (some ⟨P,0,none⟩),.agg #[.int .i64 dk,.int .i64 dn,.slice fo dfs.length fc]] V fun e w'=>MOut [.int .i64 n,.slice ao len cap] w P n tg V sb ob bb (hap n ls (run n ls (ds.take k)).1 ⟨dk,dn,dfs⟩) e w'):=fun V hV=>happen_any n len cap ls ao _ w P tg V _ a sb ob bb kv lv ⟨dk,dn,dfs⟩ fo fc (hW.Qm hV) hinv (by rw[List.length_take];omega) hlen HNT.out hx hfl hsm.1 hsm.2
     have HC:=Qa hC
     have HW0:=Qa hW
     have H8:=Qa (And.intro t8 (And.intro t8' (And.intro e8 e8')))
     clear hW hC t8 t8' e8 e8' hinv hsm hfl c0 c1 c2 hmem HI hcl
     generalize run n ls (ds.take k)=q at HC HW0 HHP HRT HCL
     obtain⟨QW,came⟩:=q
     go_wp2_with fail
     refine Calls.mono (HHP.out _ ((Ext.refl wr).alloc _)) ?_
     rintro e w5 ⟨rfl,tg5,a5,kv5,lv5,hW5,hK5⟩
     obtain⟨er,her⟩:=Qy ((hap n ls (QW,came).1 ⟨dk,dn,dfs⟩).2)
     rw[<-her]
     have HER:=Qa her
     have HW5:=Qa hW5
     have HKK:Hid (Zv tg tg5 wr w5):=(Zv.ext ((Ext.refl wr).alloc _)).trans hK5
     have HC5:=Qa (HC.out.Qh HKK.out (Or.inr (Or.inl rfl)))
     have hcl:came.length=k:=HCL.out
     have EP:Ext w5 (w5.alloc (.cells #[.int .i64 er] 41)):=(Ext.refl w5).alloc _
     clear her hW5 hK5
     go_wp2_with (first | (at_builtin;refine Zy _ rfl _ _ 40 rfl 41 i0 _ 1 8 underlying40 hi0 hz00 hz01 hz02 rfl (by decide) _ came.length (came.map (Value.int .i64)) rfl (HC5.out.Qh (Qf.ext (S:=fun _=>True) EP) trivial).row ⟨w5.heap.size,0,none⟩ 1 [.int .i64 er] rfl rfl (news1 rfl (Ext.refl _)) (z1t _) (by unfold maxLen;omega) (by omega) ?_) | fail)
     intro g7 off7 cap7 w7 hr7 hg7 hat7
     obtain⟨tg7,hW7,hC7,hK7⟩:=Q0.pushE (HW5.out.Qm EP) (HC5.out.Qh (Qf.ext (S:=fun _=>True) EP) trivial) (by rw[hcl];exact hr7) hg7 (by simpa using hat7)
     have K8:Qf (fun x=>x=8) tg tg7 wr w7:=(HKK.out.mono (fun x hx=>Or.inr (Or.inr hx))).trans ((Qf.ext EP).trans (hK7.mono (fun x hx=>by omega)))
     have z8:=keep8 HBW.out.w H8.out.1 H8.out.2.2.1 K8
     have z8':=keep8 HBW.out.f H8.out.2.1 H8.out.2.2.2 K8
     have HST7:Hid (PlyI w w3 n len cap ao P sb ob bb (run n ls (ds.take (k+1))) (.slice (some ⟨g7,off7,none⟩) (k+1) cap7) w7):=by
      show PlyI w w3 n len cap ao P sb ob bb _ _ w7
      rw[HRT.out]
      refine⟨tg7,a5,kv5,lv5,hW7,?_,z8.1,z8'.1,z8.2,z8'.2⟩
      show q4f tg7 w7 (came++[(hap n ls (QW,came).1 ⟨dk,dn,dfs⟩).2]) _
      rw[<-HER.out]
      rw[hcl] at hC7
      exact hC7
     clear hW7 hC7 hK7 K8 z8 z8' hr7 hg7 hat7
     go_wp2
     refine⟨⟨k+1,_,by omega,by simp[go_sem],rfl,HST7.out⟩,?_⟩
     simp[intOf]
     omega
    ·have hke:k=ds.length:=by omega
     have i1:¬(k:Int)<(ds.length:Int):=by omega
     obtain⟨tg,a,kv,lv,hW,hC,t8,t8',e8,e8'⟩:=HI.out
     have hinv:=q7s (n:=n) (ls:=ls) (ds:=ds.take k) HWR.out (by rw[List.length_take];omega)
     have HRE:Hid (plyW (n:Int) ls ds=run n ls (ds.take k)):=by
      show _=_
      rw[HF.out.2,hke,List.take_length]
      rfl
     obtain⟨ko,kc,lo2,lc2,hkv,hlv,hwo⟩:=hW.look hinv.lsw hinv.lod hinv.lbk
     have hlsw:=hinv.lsw
     have hlod:=hinv.lod
     have hlbk:=hinv.lbk
     clear hinv hwo
     generalize run n ls (ds.take k)=q at hW hC HRE hkv hlv hlsw hlod hlbk
     obtain⟨W,came⟩:=q
     simp only at hW hC hkv hlv hlsw hlod hlbk
     subst hkv hlv
     have p0:wr.cell? ⟨P,0,none⟩=some (.int .i64 W.co.st):=hW.row.cell (i:=0) (by simp)
     have p1:wr.cell? ⟨P,1,none⟩=some (.int .i64 W.co.now.v):=hW.row.cell (i:=1) (by simp)
     have p2:wr.cell? ⟨P,2,none⟩=some (.slice a.n.fo W.co.now.fs.length a.n.fc):=hW.row.cell (i:=2) (by simp)
     have p3:wr.cell? ⟨P,3,none⟩=some (.slice a.n.qo W.co.now.ps.length a.n.qc):=hW.row.cell (i:=3) (by simp)
     have p4:wr.cell? ⟨P,4,none⟩=some (.int .i64 W.co.Qd.v):=hW.row.cell (i:=4) (by simp)
     have p5:wr.cell? ⟨P,5,none⟩=some (.slice a.x.fo W.co.Qd.fs.length a.x.fc):=hW.row.cell (i:=5) (by simp)
     have p6:wr.cell? ⟨P,6,none⟩=some (.slice a.x.qo W.co.Qd.ps.length a.x.qc):=hW.row.cell (i:=6) (by simp)
     have p7:wr.cell? ⟨P,7,none⟩=some (.int .i64 W.co.num):=hW.row.cell (i:=7) (by simp)
     have p8:wr.cell? ⟨P,8,none⟩=some (.slice a.wo W.co.Qg.length a.wc):=hW.row.cell (i:=8) (by simp)
     have p9:wr.cell? ⟨P,9,none⟩=some (.slice (some ⟨sb,0,none⟩) n n):=hW.row.cell (i:=9) (by simp)
     have p10:wr.cell? ⟨P,10,none⟩=some (.slice (some ⟨ob,0,none⟩) n n):=hW.row.cell (i:=10) (by simp)
     have p11:wr.cell? ⟨P,11,none⟩=some (.slice (some ⟨bb,0,none⟩) n n):=hW.row.cell (i:=11) (by simp)
     have p12:wr.cell? ⟨P,12,none⟩=some (.slice ko W.pk.length kc):=hW.row.cell (i:=12) (by simp)
     have p13:wr.cell? ⟨P,13,none⟩=some (.slice lo2 W.pn.length lc2):=hW.row.cell (i:=13) (by simp)
     have zw:=Qb (e8.trans HBW.out.w)
     have zf:=Qb (e8'.trans HBW.out.f)
     have fw:=Qi (e8.trans HBW.out.w)
     have ff:=Qi (e8'.trans HBW.out.f)
     have r0:=zw 0
     have r1:=zw 1
     have r2:=zw 2
     have r3:=zw 3
     have r4:=zw 4
     have r5:=zw 5
     have r6:=zw 6
     have r7:=zw 7
     have r8:=zw 8
     have r9:=zw 9
     have r10:=zw 10
     have r11:=zw 11
     have r12:=zw 12
     have r13:=zw 13
     have q0:=zf 0
     have q1:=zf 1
     simp only[List.getElem?_toArray,List.getElem?_cons_zero,List.getElem?_cons_succ] at r0 r1 r2 r3 r4 r5 r6 r7 r8 r9 r10 r11 r12 r13 q0 q1
     have HW:=Qa hW
     have HC:=Qa hC
     have HT:=Qa (And.intro t8 t8')
     have HX:=Qa (And.intro hlsw (And.intro hlod hlbk))
     clear zw zf hW hC t8 t8' e8 e8' hlsw hlod hlbk HI HST HDS HSM HNT
     go_wp2
     refine bodyPost_ret (v:=.tuple #[.agg #[.int .i64 W.co.st,.int .i64 W.co.now.v,.slice a.n.fo W.co.now.fs.length a.n.fc,.slice a.n.qo W.co.now.ps.length a.n.qc,.int .i64 W.co.Qd.v,.slice a.x.fo W.co.Qd.fs.length a.x.fc,.slice a.x.qo W.co.Qd.ps.length a.x.qc,.int .i64 W.co.num,.slice a.wo W.co.Qg.length a.wc,.slice (some ⟨sb,0,none⟩) n n,.slice (some ⟨ob,0,none⟩) n n,.slice (some ⟨bb,0,none⟩) n n,.slice ko W.pk.length kc,.slice lo2 W.pn.length lc2],v,.agg #[.int .i64 0,.int .i64 0]]) (by simp[results,results5,go_sem,r0,r1,r2,r3,r4,r5,r6,r7,r8,r9,r10,r11,r12,r13,q0,q1]) rfl ?_
     rw[HRE.out,HF.out.1]
     exact q6s.of HW.out HC.out HT.out.1 HT.out.2 HX.out.1 HX.out.2.1 HX.out.2.2
 ·have HF:Hid (plyF N ls ds=Qc N ls):=by show _=_;unfold plyF;rw[if_pos hr]
  have HW:Hid (plyW N ls ds=(wd0,[])):=by show _=_;unfold plyW;rw[HF.out,if_pos hr]
  have b0:((Qc N ls).1 != 0)=true:=by simpa using hr
  clear hr
  go_wp2
  go_region
  go_wp2
  refine bodyPost_ret (v:=.tuple #[.agg #[.int .i64 0,.int .i64 0,.slice none 0 0,.slice none 0 0,.int .i64 0,.slice none 0 0,.slice none 0 0,.int .i64 0,.slice none 0 0,.slice none 0 0,.slice none 0 0,.slice none 0 0,.slice none 0 0,.slice none 0 0],.slice none 0 0,.agg #[.int .i64 (Qc N ls).1,.int .i64 (Qc N ls).2]]) (by simp[results,results5,go_sem,r0,r1,r2,r3,r4,r5,r6,r7,r8,r9,r10,r11,r12,r13,q0,q1,hl2,hl21]) rfl ?_
  rw[HW.out,HF.out]
  refine⟨wa0,none,0,rfl,?_,WoAt.zero _,Or.inl rfl⟩
  refine Ext.drew (Ext.alloc ?_ _)
  iterate 16 refine Ext.setCell ?_ (by simp only;omega) _
  exact hE2
end Rm
namespace Rm
open Go.RowKit Go.Deep Go.Maps Go.Sort Stw Stp Tb Rul Ct
theorem q6t{P:Program}{md:Region.Mode}{ops:Array Oper}{Q:Exit->Act->World->Prop}{S:World->Prop}{i:Nat}{oi:Oper}{d:Option Tmp}{v:Value}{fuel:Nat}{listed:Array Bool}{a:Act}{w:World}(hi:ops[i]? =some oi)(hd:oi.dst=d)(hs:Region.noSelect ops=true)(hf:Region.free md ops listed i=true)(hr:(Region.ready md ops listed).contains i=true)(hQ:∀c a w,Q (.panic c) (a.put d v) w->Q (.panic c) a w)(hy:YieldsIf P ops S oi v a)(hS:S w)(h:wpAnyH P md ops Q S fuel (listed.setIfInBounds i true) (a.put d v) w):wpAnyH P md ops Q S (fuel+1) listed a w:=by
 subst hd
 exact wpAnyH_take hi hs hf hr hQ hy hS h
theorem dagR{P:Program}{md:Region.Mode}{ops:Array Oper}{Q:Exit->Act->World->Prop}{S:World->Prop}{m:Nat}(I:Nat->Array Bool->Act->World->Prop)(hstep:∀n,(∀k,k<n->∀l a w,S w->I k l a w->wpAnyH P md ops Q S (m+k) l a w)->∀l a w,S w->I n l a w->wpAnyH P md ops Q S (m+n) l a w):∀n l a w,S w->I n l a w->wpAnyH P md ops Q S (m+n) l a w:=fun n=>by
 induction n using Nat.strongRecOn with
 | ind n ih=>exact hstep n ih
theorem dagR1{P:Program}{md:Region.Mode}{ops:Array Oper}{Q:Exit->Act->World->Prop}{S:World->Prop}(m:Nat)(J:Act->Nat->Array Bool->Act->World->Prop)(n:Nat){l0:Array Bool}{a0:Act}{w0:World}(hS:S w0)(h0:J a0 n l0 a0 w0)(hstep:∀n,(∀k,k<n->∀l a w,S w->J a0 k l a w->wpAnyH P md ops Q S (m+k) l a w)->∀l a w,S w->J a0 n l a w->wpAnyH P md ops Q S (m+n) l a w):wpAnyH P md ops Q S (m+n) l0 a0 w0:=dagR (J a0) hstep n l0 a0 w0 hS h0
theorem q3c{V:World}{g:Nat}{o:Obj}(h:V.heap[g]? =some o):g<V.heap.size:=(asi.1 h).1
theorem ext14r{w w6:World}{b:Nat}{x0 x1 x2 x3 x4 x5 x6 x7 x8 x9 x10 x11 x12 x13:Value}(h:Ext w w6)(hb:w.heap.size<=b):Ext w ((((((((((((((w6.setCell ⟨b,0,none⟩ x0).setCell ⟨b,1,none⟩ x1).setCell ⟨b,2,none⟩ x2).setCell ⟨b,3,none⟩ x3).setCell ⟨b,4,none⟩ x4).setCell ⟨b,5,none⟩ x5).setCell ⟨b,6,none⟩ x6).setCell ⟨b,7,none⟩ x7).setCell ⟨b,8,none⟩ x8).setCell ⟨b,9,none⟩ x9).setCell ⟨b,10,none⟩ x10).setCell ⟨b,11,none⟩ x11).setCell ⟨b,12,none⟩ x12).setCell ⟨b,13,none⟩ x13):=by
 iterate 14 refine Ext.setCell ?_ hb _
 exact h
theorem blk14r{w6:World}{b j:Nat}{x0 x1 x2 x3 x4 x5 x6 x7 x8 x9 x10 x11 x12 x13:Value}(h:j≠b):(((((((((((((((w6.setCell ⟨b,0,none⟩ x0).setCell ⟨b,1,none⟩ x1).setCell ⟨b,2,none⟩ x2).setCell ⟨b,3,none⟩ x3).setCell ⟨b,4,none⟩ x4).setCell ⟨b,5,none⟩ x5).setCell ⟨b,6,none⟩ x6).setCell ⟨b,7,none⟩ x7).setCell ⟨b,8,none⟩ x8).setCell ⟨b,9,none⟩ x9).setCell ⟨b,10,none⟩ x10).setCell ⟨b,11,none⟩ x11).setCell ⟨b,12,none⟩ x12).setCell ⟨b,13,none⟩ x13)).heap[j]? =w6.heap[j]?:=by
 iterate 14 rw[Zm _ _ _ _ h]
theorem q0v{w:World}{b i:Nat}{c:Array Value}{v:Value}{T:TypeId}(h:w.heap[b]? =some (.cells c T)):(w.setCell ⟨b,i,none⟩ v).heap[b]? =some (.cells (c.setIfInBounds i v) T):=by
 simp[World.setCell,Array.getElem?_modify,h]
theorem set14r{w6:World}{b:Nat}{y0 y1 y2 y3 y4 y5 y6 y7 y8 y9 y10 y11 y12 y13 x0 x1 x2 x3 x4 x5 x6 x7 x8 x9 x10 x11 x12 x13:Value}{T:TypeId}(h:w6.heap[b]? =some (.cells #[y0,y1,y2,y3,y4,y5,y6,y7,y8,y9,y10,y11,y12,y13] T)):(((((((((((((((w6.setCell ⟨b,0,none⟩ x0).setCell ⟨b,1,none⟩ x1).setCell ⟨b,2,none⟩ x2).setCell ⟨b,3,none⟩ x3).setCell ⟨b,4,none⟩ x4).setCell ⟨b,5,none⟩ x5).setCell ⟨b,6,none⟩ x6).setCell ⟨b,7,none⟩ x7).setCell ⟨b,8,none⟩ x8).setCell ⟨b,9,none⟩ x9).setCell ⟨b,10,none⟩ x10).setCell ⟨b,11,none⟩ x11).setCell ⟨b,12,none⟩ x12).setCell ⟨b,13,none⟩ x13)).heap[b]? =some (.cells #[x0,x1,x2,x3,x4,x5,x6,x7,x8,x9,x10,x11,x12,x13] T):=by
 have k:=q0v (i:=13) (v:=x13) (q0v (i:=12) (v:=x12) (q0v (i:=11) (v:=x11) (q0v (i:=10) (v:=x10) (q0v (i:=9) (v:=x9) (q0v (i:=8) (v:=x8) (q0v (i:=7) (v:=x7) (q0v (i:=6) (v:=x6) (q0v (i:=5) (v:=x5) (q0v (i:=4) (v:=x4) (q0v (i:=3) (v:=x3) (q0v (i:=2) (v:=x2) (q0v (i:=1) (v:=x1) (q0v (i:=0) (v:=x0) h)))))))))))))
 simp only[sia,scz,scs] at k
 exact k
def zW:Array Value:=#[.int .i64 0,.int .i64 0,.slice none 0 0,.slice none 0 0,.int .i64 0,.slice none 0 0,.slice none 0 0,.int .i64 0,.slice none 0 0,.slice none 0 0,.slice none 0 0,.slice none 0 0,.slice none 0 0,.slice none 0 0]
structure AF (z:World) (n:Nat) (A B C F:Bool) (vA vB vC vF:Value) (V:World):Prop where
 ext:Ext z V
 hA:A=true->∃g,vA=.slice (some ⟨g,0,none⟩) n n/\z.heap.size<=g/\V.heap[g]? =some (.cells (mkS n) 64)
 hB:B=true->∃g,vB=.slice (some ⟨g,0,none⟩) n n/\z.heap.size<=g/\V.heap[g]? =some (.cells (mkL n) 66)
 hC:C=true->∃g,vC=.slice (some ⟨g,0,none⟩) n n/\z.heap.size<=g/\V.heap[g]? =some (.cells (mkL n) 30)
 hF:F=true->∃g,vF=.pointer (some ⟨g,0,none⟩)/\z.heap.size<=g/\V.heap[g]? =some (.cells zW 39)
section
variable {z:World} {n:Nat} {A B C F:Bool} {vA vB vC vF:Value} {V:World}
theorem AF.Qm{V':World}(h:AF z n A B C F vA vB vC vF V)(E:Ext V V'):AF z n A B C F vA vB vC vF V':=by
 refine⟨h.ext.trans E,fun a=>?_,fun a=>?_,fun a=>?_,fun a=>?_⟩
 ·obtain⟨g,e1,e2,e3⟩:=h.hA a
  exact⟨g,e1,e2,(E.block g (q3c e3)).trans e3⟩
 ·obtain⟨g,e1,e2,e3⟩:=h.hB a
  exact⟨g,e1,e2,(E.block g (q3c e3)).trans e3⟩
 ·obtain⟨g,e1,e2,e3⟩:=h.hC a
  exact⟨g,e1,e2,(E.block g (q3c e3)).trans e3⟩
 ·obtain⟨g,e1,e2,e3⟩:=h.hF a
  exact⟨g,e1,e2,(E.block g (q3c e3)).trans e3⟩
theorem AF.tA{B C F:Bool}(h:AF z n false B C F vA vB vC vF V):AF z n true B C F (.slice (some ⟨V.heap.size,0,none⟩) n n) vB vC vF (V.alloc (.cells (mkS n) 64)):=by
 have k:=h.Qm ((Ext.refl V).alloc (.cells (mkS n) 64))
 exact⟨k.ext,fun _=>⟨_,rfl,h.ext.size,Q7 rfl⟩,k.hB,k.hC,k.hF⟩
theorem AF.tB{A C F:Bool}(h:AF z n A false C F vA vB vC vF V):AF z n A true C F vA (.slice (some ⟨V.heap.size,0,none⟩) n n) vC vF (V.alloc (.cells (mkL n) 66)):=by
 have k:=h.Qm ((Ext.refl V).alloc (.cells (mkL n) 66))
 exact⟨k.ext,k.hA,fun _=>⟨_,rfl,h.ext.size,Q7 rfl⟩,k.hC,k.hF⟩
theorem AF.tC{A B F:Bool}(h:AF z n A B false F vA vB vC vF V):AF z n A B true F vA vB (.slice (some ⟨V.heap.size,0,none⟩) n n) vF (V.alloc (.cells (mkL n) 30)):=by
 have k:=h.Qm ((Ext.refl V).alloc (.cells (mkL n) 30))
 exact⟨k.ext,k.hA,k.hB,fun _=>⟨_,rfl,h.ext.size,Q7 rfl⟩,k.hF⟩
theorem AF.tF{A B C:Bool}(h:AF z n A B C false vA vB vC vF V):AF z n A B C true vA vB vC (.pointer (some ⟨V.heap.size,0,none⟩)) (V.alloc (.cells zW 39)):=by
 have k:=h.Qm ((Ext.refl V).alloc (.cells zW 39))
 exact⟨k.ext,k.hA,k.hB,k.hC,fun _=>⟨_,rfl,h.ext.size,Q7 rfl⟩⟩
end
def Zs (a0:Act) (vA vB vC vF:Value):Act:=(((a0.put (some 26) vA).put (some 29) vB).put (some 32) vC).put (some 8) vF
def putU (a0:Act) (vA vB vC vF u:Value):Act:=(Zs a0 vA vB vC vF).put (some 33) u
def bldR (n sb ob bb:Nat):Value:=.agg #[.int .i64 0,.int .i64 0,.slice none 0 0,.slice none 0 0,.int .i64 0,.slice none 0 0,.slice none 0 0,.int .i64 0,.slice none 0 0,.slice (some ⟨sb,0,none⟩) n n,.slice (some ⟨ob,0,none⟩) n n,.slice (some ⟨bb,0,none⟩) n n,.slice none 0 0,.slice none 0 0]
def JR (z:World) (n:Nat) (a0:Act) (m:Nat) (l:Array Bool) (a:Act) (V:World):Prop:=
 (∃(A B C F:Bool) (vA vB vC vF:Value),m=1+((!A).toNat+(!B).toNat+(!C).toNat+(!F).toNat)/\(A && B && C)=false/\l=#[true,true,A,true,true,B,true,true,C,false,F,false]/\a=Zs a0 vA vB vC vF/\AF z n A B C F vA vB vC vF V)\/
 (∃(F:Bool) (sb ob bb:Nat) (vF:Value),m=(!F).toNat/\l=#[true,true,true,true,true,true,true,true,true,true,F,false]/\a=putU a0 (.slice (some ⟨sb,0,none⟩) n n) (.slice (some ⟨ob,0,none⟩) n n) (.slice (some ⟨bb,0,none⟩) n n) vF (bldR n sb ob bb)/\AF z n true true true F (.slice (some ⟨sb,0,none⟩) n n) (.slice (some ⟨ob,0,none⟩) n n) (.slice (some ⟨bb,0,none⟩) n n) vF V)
theorem JR.start{z V:World}{n:Nat}{a0:Act}{l:Array Bool}{vA vB vC vF:Value}(hl:l=#[true,true,false,true,true,false,true,true,false,false,false,false])(ha:a0=Zs a0 vA vB vC vF)(hE:Ext z V):JR z n a0 5 l a0 V:=
 Or.inl ⟨false,false,false,false,vA,vB,vC,vF,rfl,rfl,hl,ha,hE,(fun h=>by cases h),(fun h=>by cases h),(fun h=>by cases h),(fun h=>by cases h)⟩
structure StR (z:World) (n P sb ob bb:Nat) (V:World):Prop where
 ext:Ext z V
 zP:z.heap.size<=P
 zs:z.heap.size<=sb
 zo:z.heap.size<=ob
 zb:z.heap.size<=bb
 bP:V.heap[P]? =some (.cells (wdL co0 ca0 n sb ob bb (.slice none 0 0) (.slice none 0 0) []).toArray 39)
 bs:V.heap[sb]? =some (.cells (mkS n) 64)
 bo:V.heap[ob]? =some (.cells (mkL n) 66)
 bb':V.heap[bb]? =some (.cells (mkL n) 30)
theorem q5w{V:World}{g k:Nat}{c d:Array Value}{T U:TypeId}(h1:V.heap[g]? =some (.cells c T))(h2:V.heap[k]? =some (.cells d U (0,0)))(hT:T≠U):g≠k:=fun e=>by
 subst e
 rw[h1] at h2
 exact hT (Obj.cells.inj (Option.some.inj h2)).2.1
def tgR (P sb ob bb X:Nat) (b:Nat):Nat:=if b=P then 1 else if b=sb then 2 else if b=ob then 3 else if b=bb then 4 else if X<=b/\b<=X+2 then 8 else 0
theorem tgR_x{P sb ob bb X b:Nat}(h1:X+2<P)(h2:X+2<sb)(h3:X+2<ob)(h4:X+2<bb)(hb:X<=b)(hb2:b<=X+2):tgR P sb ob bb X b=8:=by
 unfold tgR
 rw[if_neg (by omega),if_neg (by omega),if_neg (by omega),if_neg (by omega),if_pos ⟨hb,hb2⟩]
theorem StR.st{w z V:World}{n P sb ob bb:Nat}(h:StR z n P sb ob bb V)(E:Ext w z)(hz:w.heap.size+2<z.heap.size):Q0 39 [] w P n (tgR P sb ob bb w.heap.size) V (wdN n) ca0 sb ob bb (.slice none 0 0) (.slice none 0 0):=by
 have n1:=q5w h.bP h.bs (by decide)
 have n2:=q5w h.bP h.bo (by decide)
 have n3:=q5w h.bP h.bb' (by decide)
 have n4:=q5w h.bs h.bo (by decide)
 have n5:=q5w h.bs h.bb' (by decide)
 have n6:=q5w h.bo h.bb' (by decide)
 have hP:=h.zP
 have hs:=h.zs
 have ho:=h.zo
 have hb:=h.zb
 have lP:=q3c h.bP
 have ls:=q3c h.bs
 have lo:=q3c h.bo
 have lb:=q3c h.bb'
 refine⟨q7u (l:=wdL co0 ca0 n sb ob bb (.slice none 0 0) (.slice none 0 0) []) h.bP,fun U _ _=>Zr.zero U,⟨?_,_,mkS_row h.bs,fun s hs=>⟨none,0,none,0,?_,?_,fun U _ _=>?_⟩⟩,⟨?_,_,z1y h.bo,fun s hs=>?_⟩,⟨?_,_,z1y h.bb',fun s hs=>?_⟩,⟨[],RwT.nil _ _ _ _ _,fun i hi=>by simp[wdN] at hi⟩,⟨[],RwT.nil _ _ _ _ _,fun i hi=>by simp[wdN] at hi⟩,by unfold tgR;rw[if_pos rfl],fun b hb=>?_,fun b hb=>?_,E.trans h.ext⟩
 ·unfold tgR
  rw[if_neg (fun e=>n1 e.symm),if_pos rfl]
 ·show _=Value.slice none ((List.replicate n Agt.Zq).getD s Agt.Zq).rs.length 0
  rw[q0l];rfl
 ·show _=Value.slice none ((List.replicate n Agt.Zq).getD s Agt.Zq).st.length 0
  rw[q0l];rfl
 ·show Ag.Zn U ((List.replicate n Agt.Zq).getD s Agt.Zq) none none 0
  rw[q0l]
  exact⟨⟨rfl,Or.inl rfl,fun _=>⟨rfl,rfl⟩⟩,Or.inl rfl,by decide,by decide,by decide⟩
 ·unfold tgR
  rw[if_neg (fun e=>n2 e.symm),if_neg (fun e=>n4 e.symm),if_pos rfl]
 ·show q1a _ _ _ ((List.replicate n []).getD s []) _
  rw[q0l]
  exact q1a.nil _ _ _
 ·unfold tgR
  rw[if_neg (fun e=>n3 e.symm),if_neg (fun e=>n5 e.symm),if_neg (fun e=>n6 e.symm),if_pos rfl]
 ·show Za _ _ _ ((List.replicate n []).getD s []) _
  rw[q0l]
  exact Za.nil _ _ _
 ·unfold tgR
  rw[if_neg (by omega),if_neg (by omega),if_neg (by omega),if_neg (by omega),if_neg (by omega)]
 ·unfold tgR at hb
  by_cases e1:b=P
  ·omega
  ·rw[if_neg e1] at hb
   by_cases e2:b=sb
   ·omega
   ·rw[if_neg e2] at hb
    by_cases e3:b=ob
    ·omega
    ·rw[if_neg e3] at hb
     by_cases e4:b=bb
     ·omega
     ·rw[if_neg e4] at hb
      by_cases e5:w.heap.size<=b/\b<=w.heap.size+2
      ·omega
      ·rw[if_neg e5] at hb;exact absurd rfl hb
theorem AF.done{z V V1:World}{n P sb ob bb:Nat}(h:AF z n true true true true (.slice (some ⟨sb,0,none⟩) n n) (.slice (some ⟨ob,0,none⟩) n n) (.slice (some ⟨bb,0,none⟩) n n) (.pointer (some ⟨P,0,none⟩)) V)(hE:Ext z V1)(hP:V1.heap[P]? =some (.cells (wdL co0 ca0 n sb ob bb (.slice none 0 0) (.slice none 0 0) []).toArray 39))(hk:∀j,j≠P->V1.heap[j]? =V.heap[j]?):StR z n P sb ob bb V1:=by
 obtain⟨g1,e1,z1,b1⟩:=h.hA rfl
 obtain⟨g2,e2,z2,b2⟩:=h.hB rfl
 obtain⟨g3,e3,z3,b3⟩:=h.hC rfl
 obtain⟨g4,e4,z4,b4⟩:=h.hF rfl
 simp at e1 e2 e3 e4
 subst e1 e2 e3 e4
 exact⟨hE,z4,z1,z2,z3,hP,(hk _ (q5w b1 b4 (by decide))).trans b1,(hk _ (q5w b2 b4 (by decide))).trans b2,(hk _ (q5w b3 b4 (by decide))).trans b3⟩
end Rm
end Go.Proofs.YthkpbefnkmmaiaaGreat
