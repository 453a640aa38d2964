import Derived.Test.YthkpbefnkmmaiaaGreate44
set_option maxRecDepth 100000
set_option maxHeartbeats 4000000
namespace Go.Proofs.YthkpbefnkmmaiaaGreat
open Go.Proofs.Tryz
namespace Ag
open Go.RowKit Go.Deep Tb Rul Wi
variable {w:World}
theorem q4d{ao:Option Addr}{rs:List Ru}(h:Zl w ao rs){p:Addr}{x:Option Addr}{n c:Nat}(hp:w.cell? p=some (.slice x n c))(u:Value):Zl (w.setCell p u) ao rs:=by
 have key:∀q i,w.cell? q=some (.int .i64 i)->(w.setCell p u).cell? q=some (.int .i64 i):=fun q i hq=>by
  exact(World.cell?_setCell_other (w:=w) (a:=p) (b:=q) (v:=u) (h:=fun e=>by rw[e,hq] at hp;cases hp)).trans hq
 rcases h with h | ⟨g,off,h1,h2,h3⟩
 ·exact Or.inl h
 ·exact Or.inr ⟨g,off,h1,by simpa using h2,fun k hk=>⟨key _ _ (h3 k hk).1,key _ _ (h3 k hk).2.1,key _ _ (h3 k hk).2.2⟩⟩
theorem drp_len(rs:List Ru)(v:Int):(drp rs v).length<=rs.length:=List.length_filter_le _ _
theorem z3z(s:Agt.Sw)(o:Wir.Od)(ro so po fo:Option Addr)(rc sc pc fc:Nat)(w:World)(h:Zn w s ro so rc)(ho:OAt w o po fo)(hz:Agt.Qo s=0)(hy:Wir.Qc o=0)(hk:o.k=3):
 Calls prog 32 #[svl s ro so rc sc,ovl o po fo pc fc] w fun e w'=>∃do_ dc,e=.returned (.tuple #[svl ⟨drp s.rs o.v,s.st⟩ do_ so dc sc,.int .i64 0])/\Zn w' ⟨drp s.rs o.v,s.st⟩ do_ so dc/\NwA w.heap.size do_/\Ext w w':=by
 have HC:Hid (∀W,Ext w W->Calls prog 55 #[svl s ro so rc sc] W fun e w'=>e=.returned (.int .i64 0)/\Ext W w'):=fun W hW=>by have:=Z0 s ro so rc sc W (h.ext hW);rwa [hz] at this
 have HO:Hid (∀W,Ext w W->Calls prog 56 #[ovl o po fo pc fc] W fun e w'=>e=.returned (.int .i64 0)/\Ext W w'):=fun W hW=>by have:=Wi.Q3 o po fo pc fc W (ho.ext hW);rwa [hy] at this
 have HS:Hid _:=h
 clear h ho hz hy
 obtain⟨rs,st⟩:=s
 obtain⟨k,n,v,ps,fs⟩:=o
 have hk':k=3:=hk
 subst hk'
 unfold svl ovl at *
 clear hk
 go_enter func32,ntmps32
 go_wp2_with fail
 refine(HC.out _ (q1b w _ _ 3 n v (.slice po ps.length pc) (.slice fo fs.length fc))).mono ?_
 rintro e w1 ⟨rfl,E1⟩
 obtain⟨s0,s1,o0,o1,o2,o3,o4,r0,r1,f0,f1,g0,g1⟩:=DAt.of E1
 go_wp2_with fail
 have hE1:=(q1b w _ _ 3 n v (.slice po ps.length pc) (.slice fo fs.length fc)).trans E1
 refine(HO.out _ hE1).mono ?_
 rintro e w2 ⟨rfl,E2⟩
 clear s0 s1 o0 o1 o2 o3 o4 r0 r1 f0 f1 g0 g1
 obtain⟨s0,s1,o0,o1,o2,o3,o4,r0,r1,f0,f1,g0,g1⟩:=DAt.of (E1.trans E2)
 have hE2:=hE1.trans E2
 go_wp2_with fail
 have hrl:rs.length*24<=140737488351232:=HS.out.rl
 refine(q4w ro rs.length rc rs v _ rfl (Zl.ext HS.out.hr.Q2 hE2) hrl).mono ?_
 rintro e w3 ⟨v',rfl,hO,E3⟩
 obtain⟨vo,vc,rfl,Q2,hnil,hle,hmx⟩:=RO.form hO
 have HNW:Hid (NwA w.heap.size vo):=NwA.mono (q2u hO) hE2.size
 have hdl:=drp_len rs v
 have HD:Hid _:=hdl
 clear hO hdl
 clear s0 s1 o0 o1 o2 o3 o4 r0 r1 f0 f1 g0 g1
 obtain⟨s0,s1,o0,o1,o2,o3,o4,r0,r1,f0,f1,g0,g1⟩:=DAt.of ((E1.trans E2).trans E3)
 have hE3:=hE2.trans E3
 go_wp2
 refine bodyPost_ret (v:=.tuple #[.agg #[.slice vo (drp rs v).length vc,.slice so st.length sc],.int .i64 0]) (by simp[results,results32,go_sem,r0,r1]) rfl ?_
 have hEF:=((hE3.setCell (p:=⟨w.heap.size,0,none⟩) (Ql _) (.slice vo (drp rs v).length vc)).setCell (p:=⟨w.heap.size+1+1,0,none⟩) (by simp;omega) (.slice vo (drp rs v).length vc)).setCell (p:=⟨w.heap.size+1+1,1,none⟩) (by simp;omega) (.slice so st.length sc)
 have hat2:=q4d (q4d (q4d Q2 s0 (.slice vo (drp rs v).length vc)) (p:=⟨w.heap.size+1+1,0,none⟩) (x:=none) (n:=0) (c:=0) (by simp[go_sem,r0]) (.slice vo (drp rs v).length vc)) (p:=⟨w.heap.size+1+1,1,none⟩) (x:=none) (n:=0) (c:=0) (by simp[go_sem,r1]) (.slice so st.length sc)
 refine⟨vo,vc,?_,?_,HNW.out,hEF⟩
 ·show _=Ending.returned (.tuple #[.agg #[.slice vo (drp rs v).length vc,.slice so st.length sc],.int .i64 0])
  rfl
 ·show Zn _ ⟨drp rs v,st⟩ vo so vc
  have hdl:(drp rs v).length<=rs.length:=HD.out
  exact⟨⟨rfl,hat2,fun hn=>⟨by rw[(hnil hn).1];rfl,(hnil hn).2⟩⟩,HS.out.hs.ext hEF,by simp only;omega,HS.out.sl,hle,by unfold maxLen at hmx;omega⟩
theorem z7e(s:Agt.Sw)(o:Wir.Od)(ro so po fo:Option Addr)(rc sc pc fc:Nat)(w:World)(h:Zn w s ro so rc)(ho:OAt w o po fo)(hz:Agt.Qo s=0)(hy:Wir.Qc o=0)(hk:o.k=1)(hpn:po=none->o.rs.length=0/\pc=0)(hpl:o.rs.length<=16):
 Calls prog 32 #[svl s ro so rc sc,ovl o po fo pc fc] w fun e w'=>∃ao bo ac bc,e=.returned (.tuple #[svl (Agt.doS s o).1 ao bo ac bc,.int .i64 (Agt.doS s o).2])/\Zn w' (Agt.doS s o).1 ao bo ac/\((ao=ro/\(Agt.doS s o).1.rs=s.rs)\/NwA w.heap.size ao)/\((bo=so/\(Agt.doS s o).1.st=s.st)\/NwA w.heap.size bo)/\Ext w w':=by
 have HC:Hid (∀W,Ext w W->Calls prog 55 #[svl s ro so rc sc] W fun e w'=>e=.returned (.int .i64 0)/\Ext W w'):=fun W hW=>by have:=Z0 s ro so rc sc W (h.ext hW);rwa [hz] at this
 have HO:Hid (∀W,Ext w W->Calls prog 56 #[ovl o po fo pc fc] W fun e w'=>e=.returned (.int .i64 0)/\Ext W w'):=fun W hW=>by have:=Wi.Q3 o po fo pc fc W (ho.ext hW);rwa [hy] at this
 have HS:Hid _:=h
 have HB:Hid _:=ho
 have HDO:Hid (Agt.doS s o=if(add s.rs o.rs).2≠0 then(Agt.Zq,(add s.rs o.rs).2) else(⟨(add s.rs o.rs).1,s.st⟩,0)):=by show _=_;unfold Agt.doS;rw[if_neg (by simpa using hz),if_neg (by simpa using hy),if_pos hk]
 clear h ho hz hy
 obtain⟨rs,st⟩:=s
 obtain⟨k,n,v,ps,fs⟩:=o
 have hk':k=1:=hk
 subst hk'
 unfold svl ovl at *
 clear hk
 go_enter func32,ntmps32
 go_wp2_with fail
 refine(HC.out _ (q1b w _ _ 1 n v (.slice po ps.length pc) (.slice fo fs.length fc))).mono ?_
 rintro e w1 ⟨rfl,E1⟩
 obtain⟨s0,s1,o0,o1,o2,o3,o4,r0,r1,f0,f1,g0,g1⟩:=DAt.of E1
 go_wp2_with fail
 have hE1:=(q1b w _ _ 1 n v (.slice po ps.length pc) (.slice fo fs.length fc)).trans E1
 refine(HO.out _ hE1).mono ?_
 rintro e w2 ⟨rfl,E2⟩
 clear s0 s1 o0 o1 o2 o3 o4 r0 r1 f0 f1 g0 g1
 obtain⟨s0,s1,o0,o1,o2,o3,o4,r0,r1,f0,f1,g0,g1⟩:=DAt.of (E1.trans E2)
 have hE2:=hE1.trans E2
 go_wp2_with fail
 have hrl:rs.length*24<=140737488351232:=HS.out.rl
 have hpl':ps.length<=16:=hpl
 have hrq:rs.length<=rc/\rc<=9223372036854775807:=HS.out.rq
 refine(refAdd_cap ro po rs.length rc ps.length pc rs ps _ (HS.out.hr.ext hE2) ⟨rfl,Zl.ext HB.out.hr hE2,hpn⟩ (by omega) (by omega) hrq.1 hrq.2).mono ?_
 rintro e w3 ⟨vo,vc,rfl,okv,hvc,hnw,E3⟩
 have HNW0:Hid ((vo=ro/\(add rs ps).1=rs)\/NwA w.heap.size vo):=hnw.imp id (fun h=>NwA.mono h hE2.size)
 clear hnw
 clear s0 s1 o0 o1 o2 o3 o4 r0 r1 f0 f1 g0 g1 hpn hpl hpl' hrq
 obtain⟨s0,s1,o0,o1,o2,o3,o4,r0,r1,f0,f1,g0,g1⟩:=DAt.of ((E1.trans E2).trans E3)
 have hE3:=hE2.trans E3
 have HDO2:Hid (Agt.doS ⟨rs,st⟩ ⟨1,n,v,ps,fs⟩=if(add rs ps).2≠0 then(Agt.Zq,(add rs ps).2) else(⟨(add rs ps).1,st⟩,0)):=HDO.out
 have HLN:Hid ((add rs ps).2=0->(add rs ps).1.length<=16):=fun h0=>(q0j.1 (add_zero h0).2.1).1
 clear HDO
 obtain⟨al,hal⟩:∃al,(add rs ps).1=al:=⟨_,rfl⟩
 obtain⟨ae,hae⟩:∃ae,(add rs ps).2=ae:=⟨_,rfl⟩
 rw[hal,hae] at HDO2 HLN ⊢
 rw[hal] at okv hvc HNW0
 have HNW:Hid ((vo=ro/\al=rs)\/NwA w.heap.size vo):=HNW0.out
 clear HNW0
 clear hal hae
 have HV:Hid _:=okv
 have HVC:Hid _:=hvc
 clear okv hvc
 by_cases hz:ae=0
 ·subst hz
  have HDO3:Hid (Agt.doS ⟨rs,st⟩ ⟨1,n,v,ps,fs⟩=(⟨al,st⟩,0)):=HDO2.out.trans (if_neg (by simp))
  have HL16:Hid (al.length<=16):=HLN.out rfl
  clear HDO2 HLN
  go_wp2
  refine bodyPost_ret (v:=.tuple #[.agg #[.slice vo al.length vc,.slice so st.length sc],.int .i64 0]) (by simp[results,results32,go_sem,r0,r1]) rfl ?_
  have hEF:=((hE3.setCell (p:=⟨w.heap.size,0,none⟩) (Ql _) (.slice vo al.length vc)).setCell (p:=⟨w.heap.size+1+1,0,none⟩) (by simp;omega) (.slice vo al.length vc)).setCell (p:=⟨w.heap.size+1+1,1,none⟩) (by simp;omega) (.slice so st.length sc)
  have hat2:=q4d (q4d (q4d HV.out.Q2 s0 (.slice vo al.length vc)) (p:=⟨w.heap.size+1+1,0,none⟩) (x:=none) (n:=0) (c:=0) (by simp[go_sem,r0]) (.slice vo al.length vc)) (p:=⟨w.heap.size+1+1,1,none⟩) (x:=none) (n:=0) (c:=0) (by simp[go_sem,r1]) (.slice so st.length sc)
  refine⟨vo,so,vc,sc,?_,?_,by rw[HDO3.out];exact HNW.out,Or.inl ⟨rfl,by rw[HDO3.out]⟩,hEF⟩
  ·rw[HDO3.out]
  ·rw[HDO3.out]
   have hdl:al.length<=16:=HL16.out
   exact⟨⟨rfl,hat2,HV.out.hnil⟩,HS.out.hs.ext hEF,by simp only;omega,HS.out.sl,HVC.out.1,HVC.out.2⟩
 ·have HDO3:Hid (Agt.doS ⟨rs,st⟩ ⟨1,n,v,ps,fs⟩=(Agt.Zq,ae)):=HDO2.out.trans (if_pos hz)
  have b0:(ae != 0)=true:=by simpa using hz
  clear HDO2 HLN hz
  go_wp2
  refine bodyPost_ret (v:=.tuple #[.agg #[.slice none 0 0,.slice none 0 0],.int .i64 ae]) (by simp[results,results32,go_sem,r0,r1]) rfl ?_
  refine⟨none,none,0,0,?_,?_,Or.inr (NwA.none _),Or.inr (NwA.none _),(hE3.setCell (by simp;omega) _).setCell (by simp;omega) _⟩
  ·rw[HDO3.out];rfl
  ·rw[HDO3.out]
   exact⟨⟨rfl,Or.inl rfl,fun _=>⟨rfl,rfl⟩⟩,Or.inl rfl,by simp[Agt.Zq],by simp[Agt.Zq],by simp[Agt.Zq],by omega⟩
def RsOut (w:World) (s:Agt.Sw) (ro so:Option Addr) (x:Agt.Sw×Int) (e:Ending) (w':World):Prop:=
 ∃ao bo ac bc,e=.returned (.tuple #[svl x.1 ao bo ac bc,.int .i64 x.2])/\Zn w' x.1 ao bo ac/\((ao=ro/\x.1.rs=s.rs)\/NwA w.heap.size ao)/\((bo=so/\x.1.st=s.st)\/NwA w.heap.size bo)/\Ext w w'
variable {base:Nat}
theorem SO_put{v:Value}{st:List (Int×Int)}(h:SO w base v st){a:Addr}(ha:a.block<base)(u:Value):SO (w.setCell a u) base v st:=
 ownsRow_setCell_other h (fun e=>by have:=(h.lt _ e).1;omega) u
theorem z3p{w5:World}{v':Value}{v f:Int}{fs:List Int}{k:Nat}(h:Agt.stamps v (fs.take (k+1))=Agt.stamps v (fs.take k)++[(f,v)])(ho:w5.ownsRow base 102 2 v' ((Agt.stamps v (fs.take k)).length+1) (scs (Agt.stamps v (fs.take k))++[.int .i64 f,.int .i64 v])):SO w5 base v' (Agt.stamps v (fs.take (k+1))):=by
 unfold SO
 rw[h,q9s,lap]
 exact ho
structure MAt (W:World) (b:Nat) (rv ov:Value) (v:Int):Prop where
 s0:W.cell? ⟨b,0,none⟩=some rv
 s1:W.cell? ⟨b,1,none⟩=some ov
 o2:W.cell? ⟨b+1,2,none⟩=some (.int .i64 v)
 r0:W.cell? ⟨b+1+1,0,none⟩=some (.slice none 0 0)
 r1:W.cell? ⟨b+1+1,1,none⟩=some (.slice none 0 0)
 f1:W.frozen? ⟨b,1,none⟩=false
 g0:W.frozen? ⟨b+1+1,0,none⟩=false
 g1:W.frozen? ⟨b+1+1,1,none⟩=false
 sz:b+1+1<W.heap.size
variable {W:World} {b:Nat} {rv ov:Value}
theorem MAt.below{W':World}{v:Int}(h:MAt W b rv ov v)(E:Below (b+1+1+1) W W'):MAt W' b rv ov v:=by
 have c:∀g i,g<b+1+1+1->W'.cell? ⟨g,i,none⟩=W.cell? ⟨g,i,none⟩:=fun g i hg=>Below.cell E (p:=⟨g,i,none⟩) hg
 have f:∀g i,g<b+1+1+1->W'.frozen? ⟨g,i,none⟩=W.frozen? ⟨g,i,none⟩:=fun g i hg=>Below.frozen E (p:=⟨g,i,none⟩) hg
 exact⟨(c _ _ (by omega)).trans h.s0,(c _ _ (by omega)).trans h.s1,(c _ _ (by omega)).trans h.o2,(c _ _ (by omega)).trans h.r0,(c _ _ (by omega)).trans h.r1,(f _ _ (by omega)).trans h.f1,(f _ _ (by omega)).trans h.g0,(f _ _ (by omega)).trans h.g1,Q5 h.sz (Below.size E)⟩
theorem MAt.write{v:Int}(h:MAt W b rv ov v)(u:Value):MAt (W.setCell ⟨b,1,none⟩ u) b rv u v:=by
 have ne:∀g i,(g≠b\/i≠1)->(W.setCell ⟨b,1,none⟩ u).cell? ⟨g,i,none⟩=W.cell? ⟨g,i,none⟩:=fun g i hg=>World.cell?_setCell_other _ _ _ _ (fun e=>by cases e;omega)
 exact⟨(ne _ _ (by omega)).trans h.s0,World.cell?_setCell_same _ _ _ h.s1,(ne _ _ (by omega)).trans h.o2,(ne _ _ (by omega)).trans h.r0,(ne _ _ (by omega)).trans h.r1,by simpa using h.f1,by simpa using h.g0,by simpa using h.g1,by simpa using h.sz⟩
theorem DAt.mat{sv:Value}{k n v:Int}{pv fv:Value}(h:DAt W b rv sv k n v pv fv)(sz:b+1+1<W.heap.size):MAt W b rv sv v:=⟨h.s0,h.s1,h.o2,h.r0,h.r1,h.f1,h.g0,h.g1,sz⟩
theorem z1m(s:Agt.Sw)(o:Wir.Od)(ro so po fo:Option Addr)(rc sc pc fc:Nat)(w:World)(h:Zn w s ro so rc)(ho:OAt w o po fo)(hz:Agt.Qo s=0)(hy:Wir.Qc o=0)(hk:o.k=2)(hfl:o.fs.length<=12):
 Calls prog 32 #[svl s ro so rc sc,ovl o po fo pc fc] w fun e w'=>RsOut w s ro so (⟨s.rs,Agt.stamps o.v o.fs⟩,0) e w':=by
 obtain⟨i3,hi3,hz0,hz1,hz2⟩:=infoS'
 have HC:Hid (∀W,Ext w W->Calls prog 55 #[svl s ro so rc sc] W fun e w'=>e=.returned (.int .i64 0)/\Ext W w'):=fun W hW=>by have:=Z0 s ro so rc sc W (h.ext hW);rwa [hz] at this
 have HO:Hid (∀W,Ext w W->Calls prog 56 #[ovl o po fo pc fc] W fun e w'=>e=.returned (.int .i64 0)/\Ext W w'):=fun W hW=>by have:=Wi.Q3 o po fo pc fc W (ho.ext hW);rwa [hy] at this
 have HS:Hid _:=h
 have HF:Hid (Qj w fo o.fs):=ho.hf
 clear h ho hz hy
 obtain⟨rs,st⟩:=s
 obtain⟨k,n,v,ps,fs⟩:=o
 have hk':k=2:=hk
 subst hk'
 unfold svl ovl at *
 simp only at HF hfl
 clear hk
 go_enter func32,ntmps32
 go_wp2_with fail
 refine(HC.out _ (q1b w _ _ 2 n v (.slice po ps.length pc) (.slice fo fs.length fc))).mono ?_
 rintro e w1 ⟨rfl,E1⟩
 obtain⟨s0,s1,o0,o1,o2,o3,o4,r0,r1,f0,f1,g0,g1⟩:=DAt.of E1
 go_wp2_with fail
 have hE1:=(q1b w _ _ 2 n v (.slice po ps.length pc) (.slice fo fs.length fc)).trans E1
 refine(HO.out _ hE1).mono ?_
 rintro e w2 ⟨rfl,E2⟩
 clear s0 s1 o0 o1 o2 o3 o4 r0 r1 f0 f1 g0 g1
 have hE2:=hE1.trans E2
 have sz2:w.heap.size+1+1<w2.heap.size:=by
  have h1:w.heap.size+1+1<(Dw w (.slice ro rs.length rc) (.slice so st.length sc) 2 n v (.slice po ps.length pc) (.slice fo fs.length fc)).heap.size:=by unfold Dw;simp
  exact Q5 h1 (E1.trans E2).size
 have HM0:Hid (MAt (w2.setCell ⟨w.heap.size,1,none⟩ (.slice none 0 0)) w.heap.size (.slice ro rs.length rc) (.slice none 0 0) v):=(DAt.mat (DAt.of (E1.trans E2)) sz2).write _
 obtain⟨s0,s1,o0,o1,o2,o3,o4,r0,r1,f0,f1,g0,g1⟩:=DAt.of (E1.trans E2)
 clear HC HO E1 E2 hE1
 go_wp2
 clear s0 s1 o0 o1 o2 o3 o4 r0 r1 f0 f1 g0 g1
 go_loopw [30] (fun iv wd=>∃(k:Nat) (ov:Value),k<=fs.length/\iv=.int .i64 k/\Hid (MAt wd w.heap.size (.slice ro rs.length rc) ov v)/\Hid (SO wd (w.heap.size+1+1+1) ov (Agt.stamps v (fs.take k)))/\Ext w wd) (fun iv _=>fs.length - (intOf iv).toNat)
 case atStart=>exact⟨0,_,Zu _,rfl,HM0,SO.nil _ _,hE2.setCell (Ql _) _⟩
 case round=>
  obtain⟨k,ov,hk,rfl,HM,HO,hE⟩:=hrel
  clear HM0
  obtain⟨s0,s1,o2,r0,r1,f1,g0,g1,sz⟩:=HM.out
  by_cases hlt:k<fs.length
  ·obtain⟨g,off,rfl,hg,hcs⟩:=(Qj.ext HF.out hE).get (k:=k) (by omega)
   have i1:(k:Int)<(fs.length:Int):=by omega
   have HST:Hid _:=q7p (v:=v) (fs:=fs) (k:=k) (by omega)
   have c0:=hcs k hlt
   obtain⟨f,hf0⟩:∃f,fs.getD k 0=f:=⟨_,rfl⟩
   rw[hf0] at c0 HST
   clear hf0 hcs
   have hE0:=HO.out.ext ((Ext.refl wr).alloc (.cells #[.int .i64 f,.int .i64 v] 102))
   have HDL:Hid ((Agt.stamps v (fs.take k)).length=k):=by show _=_;rw[q3w];simp;omega
   have HSZ:Hid _:=sz
   obtain⟨ao,ac,hov,_⟩:=SO.form HO.out
   subst hov
   clear sz
   go_wp2_with (first | (at_builtin;refine wpList_append_own _ rfl _ _ 62 rfl (w.heap.size+1+1+1) 102 i3 (.agg #[.int .i64 0,.int .i64 0]) 2 16 underlying62 hi3 hz0 hz1 hz2 rfl (by decide) _ _ _ rfl hE0 ⟨wr.heap.size,0,none⟩ 1 1 [.int .i64 f,.int .i64 v] rfl rfl (cells2n rfl _ _ _) (by intro u hu;simp only[List.mem_cons,List.not_mem_nil,or_false] at hu;rcases hu with rfl | rfl <;> rfl) (by have:=HDL.out;unfold maxLen;omega) (by have:=HDL.out;omega) (by have:=HSZ.out;simp;omega) ?_;intro v' w5 hown5 hg5 _;have hB5:Below (w.heap.size+1+1+1) wr w5:=Below.grown (Below.alloc (Below.refl _ _) (by have:=HSZ.out;omega) _) hg5 (by have:=HSZ.out;simp;omega) (fun j hj=>(HO.out.block j hj).1);have HM5:Hid _:=MAt.below HM.out hB5;have t0:=HM5.out.s0;have t1:=HM5.out.s1;have t2:=HM5.out.f1;have HO5:Hid (SO w5 (w.heap.size+1+1+1) v' (Agt.stamps v (fs.take (k+1)))):=z3p HST.out hown5;obtain⟨bo,bc,hv',_⟩:=SO.form HO5.out;subst hv') | go_in)
   have hE5:Ext w w5:=Below.trans hE (Below.mono hB5 (by omega))
   exact⟨⟨k+1,_,by omega,by go_num,MAt.write HM5.out _,SO_put HO5.out (by simp;omega) _,hE5.setCell (Ql _) _⟩,by simp[intOf];omega⟩
  ·have i1:¬(k:Int)<(fs.length:Int):=by omega
   have HA:Hid _:=q9r (v:=v) (fs:=fs) (k:=k) (by omega)
   have HO2:Hid (SO wr (w.heap.size+1+1+1) ov (Agt.stamps v fs)):=by have:=HO.out;rw[HA.out] at this;exact this
   obtain⟨ao,ac,hov,Q2⟩:=SO.form HO2.out
   subst hov
   have HAT:Hid _:=Q2
   have HNW:Hid (NwA w.heap.size ao):=NwA.mono (q2u HO2.out) (by omega)
   clear HO HA HO2 Q2
   go_wp2
   refine bodyPost_ret (v:=.tuple #[.agg #[.slice ro rs.length rc,.slice ao (Agt.stamps v fs).length ac],.int .i64 0]) (by simp[results,results32,go_sem,r0,r1]) rfl ?_
   refine⟨ro,ao,rc,ac,rfl,q7g (s:=⟨rs,Agt.stamps v fs⟩) ⟨HS.out.hr.ext hE,HAT.out,HS.out.rl,?_,HS.out.rq⟩ r0 r1 _ _,Or.inl ⟨rfl,rfl⟩,Or.inr HNW.out,(hE.setCell (by simp;omega) _).setCell (by simp;omega) _⟩
   show(Agt.stamps v fs).length*16<=_
   rw[q3w];omega
theorem z7d(s:Agt.Sw)(o:Wir.Od)(ro so po fo:Option Addr)(rc sc pc fc:Nat)(w:World)(h:Zn w s ro so rc)(ho:OAt w o po fo)(hpn:o.k=1->po=none->o.rs.length=0/\pc=0):
 Calls prog 32 #[svl s ro so rc sc,ovl o po fo pc fc] w fun e w'=>RsOut w s ro so (Agt.doS s o) e w':=by
 by_cases hz:Agt.Qo s=0
 ·by_cases hy:Wir.Qc o=0
  ·obtain⟨_,hk⟩:=Wir.q4u hy
   rcases hk with⟨hk,hl,_⟩ | ⟨hk,hl,_⟩ | hk
   ·exact z7e s o ro so po fo rc sc pc fc w h ho hz hy hk (hpn hk) hl
   ·rw[Agt.do_stamp hz hy hk]
    exact z1m s o ro so po fo rc sc pc fc w h ho hz hy hk hl
   ·rw[Agt.do_drop hz hy hk]
    refine(z3z s o ro so po fo rc sc pc fc w h ho hz hy hk).mono ?_
    rintro e w' ⟨do_,dc,rfl,h1,h3,h2⟩
    exact⟨do_,so,dc,sc,rfl,h1,Or.inr h3,Or.inl ⟨rfl,rfl⟩,h2⟩
  ·have e:Agt.doS s o=(Agt.Zq,Wir.Qc o):=by unfold Agt.doS;rw[if_neg (by simpa using hz),if_pos hy]
   rw[e]
   refine(z1n s o ro so po fo rc sc pc fc w h ho hz hy).mono ?_
   rintro e w' ⟨rfl,hE⟩
   exact⟨none,none,0,0,rfl,q3t _,Or.inr (NwA.none _),Or.inr (NwA.none _),hE⟩
 ·have e:Agt.doS s o=(Agt.Zq,Agt.Qo s):=by unfold Agt.doS;rw[if_pos hz]
  rw[e]
  refine(z1l s o ro so po fo rc sc pc fc w h hz).mono ?_
  rintro e w' ⟨rfl,hE⟩
  exact⟨none,none,0,0,rfl,q3t _,Or.inr (NwA.none _),Or.inr (NwA.none _),hE⟩
end Ag
namespace Tb
open Go.RowKit Go.Deep Rul Go.Sort
theorem z7b(ao:Option Addr)(len cap:Nat)(rs:List Ru)(v f:Int)(w:World)(hlen:rs.length=len)(hf:Zl w ao rs)(hl:len<=4611686018427387904):
 Calls prog 35 #[.slice ao len cap,.int .i64 v,.int .i64 f] w fun e w'=>e=.returned (.tuple #[.int .i64 (Qd v f rs).1,.bool (Qd v f rs).2])/\Ext w w':=by
 have hw0:Qd v f rs=Qd v f (rs.drop 0):=by rw[List.drop_zero]
 rw[hw0]
 go_enter func35,ntmps35
 go_wp2
 go_loopw [12] (fun iv wd=>∃k:Nat,k<=len/\iv=.int .i64 k/\Hid (Qd v f (rs.drop 0)=Qd v f (rs.drop k))/\Ext w wd) (fun iv _=>len - (intOf iv).toNat)
 case atStart=>exact⟨0,Zu _,rfl,rfl,Ext.refl w⟩
 case round=>
  obtain⟨k,hk,rfl,HW,hE⟩:=hrel
  by_cases hlt:k<len
  ·obtain⟨g,off,rfl,hg,hcs⟩:=(hf.ext hE).get (k:=k) (by omega)
   have i1:(k:Int)<(len:Int):=by omega
   have HST:Hid _:=nxt_step (v:=v) (f:=f) (rs:=rs) (k:=k) (by omega)
   obtain⟨c0,c1,c2⟩:=hcs k (by omega)
   obtain⟨r,hr⟩:∃r,rs.getD k r0=r:=⟨_,rfl⟩
   rw[hr] at c0 c1 c2 HST
   clear hr hcs
   by_cases h2:r.2.1=f
   ·by_cases h1:r.1=v
    ·have hfin:Qd v f (rs.drop 0)=(r.2.2,true):=by rw[HW.out,HST.out,if_pos ⟨h1,h2⟩]
     have HF:Hid _:=hfin
     have b1:(r.1 == v)=true:=by simpa using h1
     have b2:(r.2.1 == f)=true:=by simpa using h2
     clear hfin h1 h2
     go_wp2
     go_ret2
     exact⟨by rw[HF.out];rfl,hE.alloc _⟩
    ·have HW2:Hid (Qd v f (rs.drop 0)=Qd v f (rs.drop (k+1))):=HW.out.trans (HST.out.trans (if_neg (fun h=>h1 h.1)))
     have b1:(r.1 == v)=false:=by simpa using h1
     have b2:(r.2.1 == f)=true:=by simpa using h2
     clear h1 h2
     go_wp2
     exact⟨⟨k+1,by omega,by go_num,HW2,hE.alloc _⟩,by simp[intOf];omega⟩
   ·have HW2:Hid (Qd v f (rs.drop 0)=Qd v f (rs.drop (k+1))):=HW.out.trans (HST.out.trans (if_neg (fun h=>h2 h.2)))
    have b1:(r.2.1 == f)=false:=by simpa using h2
    clear h2
    go_wp2
    exact⟨⟨k+1,by omega,by go_num,HW2,hE.alloc _⟩,by simp[intOf];omega⟩
  ·have hfin:Qd v f (rs.drop 0)=(0,false):=by rw[HW.out,List.drop_eq_nil_of_le (by omega),Qd]
   have HF:Hid _:=hfin
   clear hfin
   go_wp2
   go_ret2
   exact⟨by rw[HF.out];rfl,hE⟩
end Tb
namespace Rm
open Go.RowKit Go.Deep Go.Maps Go.Sort Stw Stp Tb Rul Ct
variable {g:Nat}
theorem q9b{P:Program}(W:World){ops:Array Oper}{rest:List Oper}{o:Oper}{a:Act}{Q:Exit->Act->World->Prop}(hgd:o.guard=none)(s x:Operand)(t:TypeId)(ho:o.op=.call {callee:=.builtin .append,args:=#[s,x],argTypes:=#[t,t]})(e:TypeId)(i:TypeInfo)(z:Value)(size bytes:Nat)(ht:P.underlying t=some (.slice e))(hi:P.info? e=some i)(hz:i.zero=some z)(hsize:i.size=size)(hby:i.bytes=bytes)(hzs:z.cells.size=size)(hsz:0<size)(hg:W.heap[g]? =some (.cells #[] e (0,0))){v:Value}{n:Nat}{xs:List Value}(hs:a.eval s=.slice (some ⟨g,0,none⟩) 0 0)(hx:a.eval x=v)(hv:Rw W e size v n xs)(h1:∀u∈xs,u.oneCell'=true)(h63:n<=maxLen)(hbytes:n*bytes<=140737488355328)(hK:∀ao cap W',Rw W' e size (.slice ao n cap) n xs->W.grownBy W' (some g)->(∀k,(Value.slice ao n cap).ownBlock=some k->g<=k)->wpList P ops Q rest (a.put o.dst (.slice ao n cap)) W'):wpList P ops Q (o::rest) a W:=by
  refine wpList_plain hgd fun K hK'=>?_
  obtain⟨ao,cap,W',hr,h2,h3,h4⟩:=copy_rw (P:=P) W t e i z size bytes ht hi hz hsize hby hzs hsz hg hv h1 h63 hbytes
  unfold Oper.wp execOp
  simp only[ho,resolve,invoke,builtin,Sem.run_bind,Sem.run_pure,Result.andThen_ok,List.map_toArray,List.map_cons,List.map_nil,hs,hx,hr]
  exact hK' _ _ (hK ao cap W' h2 h3 h4)
theorem q4a(ns:List Int):∀u∈ns.map (Value.int .i64),u.oneCell'=true:=fun u hu=>by
 obtain⟨x,_,rfl⟩:=List.mem_map.1 hu
 rfl
theorem Q0.flagK{T:TypeId}{tl:List Value}{w0 w:World}{P n:Nat}{tg:Nat->Nat}{W:Wd}{a:CA}{sb ob bb:Nat}{lv:Value}{off cap i:Nat}(d:Bool)(h:Q0 T tl w0 P n tg w W a sb ob bb (.slice (some ⟨g,off,none⟩) W.pk.length cap) lv)(hi:i<W.pk.length)(tG:tg g=5):
 Q0 T tl w0 P n tg (w.setCell ⟨g,off+(i*4+3),none⟩ (.bool d)) ⟨W.co,W.sw,W.od,W.bk,W.pk.set i ⟨(W.pk.getD i Q8).fl,(W.pk.getD i Q8).v,(W.pk.getD i Q8).tr,d⟩,W.pn⟩ a sb ob bb (.slice (some ⟨g,off,none⟩) W.pk.length cap) lv/\Zv tg tg w (w.setCell ⟨g,off+(i*4+3),none⟩ (.bool d)):=by
 have k:Qf (fun x=>x≠5) tg tg w (w.setCell ⟨g,off+(i*4+3),none⟩ (.bool d)):=Qf.set tG _
 have hp:=h.pks.same (i:=i) (j:=3) (u:=.bool d) (q:=⟨(W.pk.getD i Q8).fl,(W.pk.getD i Q8).v,(W.pk.getD i Q8).tr,d⟩) hi (by omega) (fun xs tv hl a0 a1 a2 a3=>⟨tv,by rw[List.getElem?_set_ne (by omega)];exact a0,by rw[List.getElem?_set_ne (by omega)];exact a1,by rw[List.getElem?_set_ne (by omega)];exact a2,by rw[List.getElem?_set_self (by omega)],fun h=>h⟩)
 obtain⟨e1,e2⟩:=Zf h.row k (by rw[h.tP];decide)
 exact⟨⟨e2,h.co.Qh k (by decide),h.sws.Qh k (by decide) (by decide),h.ors.Qh k (by decide) (by decide) (fun j=>by omega),h.bks.Qh k (by decide) (fun j=>by omega),hp,h.pls.Qh k (by decide) (by decide),h.tP,fun b hb=>h.nw b (by simpa using hb),h.base,q1f h.ext h.base (by rw[tG];decide) _⟩,k.mono (fun x hx=>by omega)⟩
theorem z6k(n len cap:Nat)(ao:Option Addr)(w0:World)(P:Nat)(tg:Nat->Nat)(w:World)(W:Wd)(a:CA)(sb ob bb:Nat)(kv lv:Value)(dn:Int)(fo:Option Addr)(fl' fc':Nat)(h:Q0 39 [] w0 P n tg w W a sb ob bb kv lv)(hwn:a.wo=none->a.wc=0)(hi:¬(0<=dn/\dn<(W.pk.length:Int))):
 Calls prog 13 #[.pointer (some ⟨P,0,none⟩),.agg #[.int .i64 n,.slice ao len cap],.agg #[.int .i64 5,.int .i64 dn,.slice fo fl' fc']] w fun e w'=>ROut w0 P n tg w sb ob bb (hapM W dn) e w':=by
 have HD:=Qa (hapM_out hi)
 have HW:=Qa h
 have hP:=h.row.lt
 have HWN:=Qa hwn
 obtain⟨xs,hrw,hpk⟩:=h.pks
 obtain⟨ko,kc,rfl⟩:=hrw.rw.form
 clear hrw hpk
 obtain⟨B,hB,EB,HBS,hb0, -,hb2⟩:=box3 w P n ao len cap 5 dn fo fl' fc'
 have HS:Hid (∀V,Ext B V->cl V w.heap.size 0 (.pointer (some ⟨P,0,none⟩))/\cl V (w.heap.size+1+1) 1 (.int .i64 dn)/\cl V P 9 (.slice (some ⟨sb,0,none⟩) n n)/\cl V P 12 (.slice ko W.pk.length kc)):=fun V hV=>by
  have hr:=HW.out.row.of_block (Below.block (EB.trans hV) P hP)
  have:=HBS.out
  exact⟨(hV.cells.1 _ _ (by omega)).trans (Qb hb0 0),(hV.cells.1 _ _ (by omega)).trans (Qb hb2 1),hr.cell (i:=9) (by simp),hr.cell (i:=12) (by simp)⟩
 have HPB:=hpb5 hP HBS HW.out
 clear hb0 h hwn
 obtain⟨lP,lw,lt1,lt2,lsb⟩:=HPB.out B (Ext.refl B)
 obtain⟨e0,d0,_,p12⟩:=HS.out B (Ext.refl B)
 by_cases h0:0<=dn
 ·have h1:¬dn<(W.pk.length:Int):=fun e=>hi ⟨h0,e⟩
  have b0:decide (0<=dn)=true:=by simpa using h0
  have b1:decide (dn<0)=false:=by simpa using h0
  have b2:decide ((W.pk.length:Int)<=dn)=true:=by simpa using h1
  clear hi
  go_enter func13,ntmps13
  go_upto_region 54 with fail
  rw[<-hB]
  clear hB hb2
  go_region
  go_wp2
  go_ret
  rw[HD.out]
  exact⟨rfl,tg,a,_,lv,HW.out.Qm (EB.trans (Ext.refl B).drew),Zv.ext (EB.trans (Ext.refl B).drew),HWN.out⟩
 ·have b0:decide (0<=dn)=false:=by simpa using h0
  have b1:decide (dn<0)=true:=by simp;omega
  clear hi
  go_enter func13,ntmps13
  go_upto_region 54 with fail
  rw[<-hB]
  clear hB hb2
  have r0:=Fw.clr d0
  refine qb ?_
  repeat(go_big_quiet_step (fail))
  refine qn fun dq oq=>?_
  have EQ:Ext B (grow (redrawn B dq) oq):=brg B dq oq
  generalize grow (redrawn B dq) oq=B2 at EQ
  clear r0
  go_wp2
  go_ret
  rw[HD.out]
  exact⟨rfl,tg,a,_,lv,HW.out.Qm (EB.trans EQ),Zv.ext (EB.trans EQ),HWN.out⟩
end Rm
end Go.Proofs.YthkpbefnkmmaiaaGreat
