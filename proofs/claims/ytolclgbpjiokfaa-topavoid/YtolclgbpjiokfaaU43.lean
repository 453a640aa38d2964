/- What Find answers. -/
import Derived.Test.YtolclgbpjiokfaaU06
namespace Go.Proofs.Ytolclgbpjiokfaa
open Go.RowKit Go.Maps Stw Go.Deep Stp
set_option maxRecDepth 100000 in
set_option maxHeartbeats 2000000 in
theorem Find_any (n:Int) (ao:Option Addr) (len cap:Nat) (ls:List Lk) (f:Stf.Fl) (vo no:Option Addr) (vc nc:Nat) (w:World) (hlen:ls.length=len) (hl:NetAt w ao ls) (hx:len≤9223372036854775807) (hI:I64 n)
 (hv:ListAt w vo f.via) (hvl:f.via.length≤4611686018427387904) (hvc:f.via.length≤vc) (hn:ListAt w no f.nt) (hnl:f.nt.length≤4611686018427387904) (hnc:f.nt.length≤nc):
 Calls Try.prog 34 #[.agg #[.int .i64 n,.slice ao len cap],.agg #[.int .i64 f.fr,.int .i64 f.to,.slice vo f.via.length vc,.slice no f.nt.length nc]] w fun e w'=>FindOut w w' e (fnd n ls f):=by
 obtain⟨fr,tq,via,nt⟩:=f
 simp only at hv hvl hvc hn hnl hnc ⊢
 by_cases hr:(wrong n ls).1=0
 ·have hright:=right_of hr
  have hbd:=hright.bounds
  obtain⟨nn,rfl⟩:=Int.eq_ofNat_of_zero_le (show 0≤n by omega)
  have hw0:=hright.wrong
  have HW:=hidp hw0
  obtain⟨r,hr2⟩:∃r,r=Stf.wflow ⟨fr,tq,via,nt⟩ nn:=⟨_,rfl⟩
  have HF:Hid (fnd nn ls ⟨fr,tq,via,nt⟩=if Stf.wflow ⟨fr,tq,via,nt⟩ nn≠0 then(Stf.wflow ⟨fr,tq,via,nt⟩ nn,[]) else match find (cost ls) fr tq via nt with
   | none=>(9,[])
   | some (p,_)=>(0,p)):=by unfold fnd;rw[if_neg (by rw[hw0];simp)];exact hidp rfl
  rw[←hr2] at HF
  have HR2:=hidp hr2
  clear hr hw0 hr2
  go_enter Try.func34,Try.ntmps34
  go_wp2_with fail
  refine(Wrong_any nn ao len cap ls _ hlen (hl.ext (((Ext.refl w).alloc _).alloc _)) hx).mono ?_
  rintro e w1 ⟨he,E1⟩
  rw[HW.out] at he
  subst he
  have hEw1:Ext w w1:=(((Ext.refl w).alloc _).alloc _).trans E1
  have hs1:w.heap.size+1<w1.heap.size:=by have:=E1.size;simp at this;omega
  have hs0:w.heap.size<w1.heap.size:=by omega
  obtain⟨q1,g1⟩:=E1.cells
  have a0:w1.cell? ⟨w.heap.size,0,none⟩=some (.int .i64 nn):=(q1 _ _ (by simp;omega)).trans (by simp)
  have a1:w1.cell? ⟨w.heap.size,1,none⟩=some (.slice ao len cap):=(q1 _ _ (by simp;omega)).trans (by simp)
  have b0:w1.cell? ⟨w.heap.size+1,0,none⟩=some (.int .i64 fr):=(q1 _ _ (by simp)).trans (by simp)
  have b1:w1.cell? ⟨w.heap.size+1,1,none⟩=some (.int .i64 tq):=(q1 _ _ (by simp)).trans (by simp)
  have b2:w1.cell? ⟨w.heap.size+1,2,none⟩=some (.slice vo via.length vc):=(q1 _ _ (by simp)).trans (by simp)
  have b3:w1.cell? ⟨w.heap.size+1,3,none⟩=some (.slice no nt.length nc):=(q1 _ _ (by simp)).trans (by simp)
  clear q1 g1
  go_wp2_with fail
  refine(Fw.Wrong_any _ 1 1 nn [⟨fr,tq,via,nt⟩] _ rfl (flows_one (b:=w1.heap.size+1) (by simp) ⟨vo,vc,rfl,hv.ext (hEw1.alloc _),hvc⟩ ⟨no,nc,rfl,hn.ext (hEw1.alloc _),hnc⟩) hI (sm_one hvl hnl) (by omega)).mono ?_
  rintro e w2 ⟨he,E2⟩
  rw[wflows_one, ←HR2.out] at he
  subst he
  have hEw2:Ext w1 w2:=(((Ext.refl w1).alloc _).alloc _).trans E2
  have hs2:w.heap.size+1<w2.heap.size:=by have:=hEw2.size;omega
  have hs02:w.heap.size<w2.heap.size:=by omega
  by_cases h0:r=0
  ·subst h0
   have hF:=rightF_of HR2.out.symm
   obtain⟨frn,rfl⟩:=Int.eq_ofNat_of_zero_le hF.fr.1
   have hfr8:frn<8:=by have:=hF.fr.2;simp at this;omega
   have HRF:=hidp hF
   have d0:=(hEw2.cells.1 _ _ (by omega)).trans a0
   have d1:=(hEw2.cells.1 _ _ (by omega)).trans a1
   have f0:=(hEw2.cells.1 _ _ hs1).trans b0
   have f1:=(hEw2.cells.1 _ _ hs1).trans b1
   have f2:=(hEw2.cells.1 _ _ hs1).trans b2
   have f3:=(hEw2.cells.1 _ _ hs1).trans b3
   clear a0 a1 b0 b1 b2 b3 hF
   have HC:Hid (∀a b,0≤cost ls a b∧cost ls a b≤1000):=fun a b=>⟨(hright.cost a b).1,(hright.cost a b).2.1⟩
   have HN1:Hid (∀x∈nt,0≤x∧x<8):=fun x hx=>by have:=HRF.out.nt x hx;simp only at this;omega
   have HN2:Hid (¬(frn:Int)∈nt):=fun h=>(HRF.out.nt _ h).2.2.1 rfl
   have HNet:Hid (NetAt (w2.alloc (.cells #[.int .i64 0,.int .i64 0] 44)).drew ao ls):=hl.ext (((hEw1.trans hEw2).alloc _).drew)
   have HB:Hid (∀w3,Ext (w2.alloc (.cells #[.int .i64 0,.int .i64 0] 44)).drew w3→w3.cell? ⟨w.heap.size+1,0,none⟩=some (.int .i64 frn)∧w3.cell? ⟨w.heap.size+1,1,none⟩=some (.int .i64 tq)∧w3.cell? ⟨w.heap.size+1,2,none⟩=some (.slice vo via.length vc)∧w3.cell? ⟨w.heap.size+1,3,none⟩=some (.slice no nt.length nc)∧Ext w w3):=fun w3 E3=>by
    have hq:=E3.cells.1
    have hz:w.heap.size+1<(w2.alloc (.cells #[.int .i64 0,.int .i64 0] 44)).drew.heap.size:=by simp;omega
    exact⟨(hq _ _ hz).trans ((World.cell?_alloc_past _ _ _ hs2).trans f0),(hq _ _ hz).trans ((World.cell?_alloc_past _ _ _ hs2).trans f1),(hq _ _ hz).trans ((World.cell?_alloc_past _ _ _ hs2).trans f2),(hq _ _ hz).trans ((World.cell?_alloc_past _ _ _ hs2).trans f3),(((hEw1.trans hEw2).alloc _).drew).trans E3⟩
   cases hfi:find (cost ls) frn tq via nt with
   | none=>
    have HFI:=hidp hfi
    have HF2:Hid (fnd nn ls ⟨(frn:Int),tq,via,nt⟩=(9,[])):=by rw[HF.out,if_neg (by simp),hfi];exact hidp rfl
    clear hfi HF
    go_wp2
    go_region_with (first
     | (go_at_call 46;have _t:=mk;refine(cheapest_any (C:=cost ls) HC.out frn tq vo no vc nc via nt _ hfr8 hvl hnl (hv.ext mk) (hn.ext mk) HN1.out HN2.out cs hcs hcc).mono ?_;rintro e w4 ⟨E4,ho⟩;rw[HFI.out] at ho;have ho':=FOut.none ho;subst ho')
     | (go_at_call 45;refine(costsOf_right nn ao len cap ls _ hlen HNet.out hx HW.out).mono ?_;rintro e w3 ⟨cs,rfl,hcs,hcc,E3⟩;have hE3:=HB.out w3 E3;obtain⟨g0,g1,g2,g3,hE3'⟩:=hE3;have mk:=hE3'))
    all_goals
     go_wp2
     go_ret2
     refine⟨none,0,?_,?_,?_,mk.trans E4⟩
     ·rw[HF2.out];rfl
     ·rw[HF2.out];exact Or.inl rfl
     ·rw[HF2.out];exact Nat.le_refl _
   | some y=>
    obtain⟨p,c⟩:=y
    have HFI:=hidp hfi
    have HF2:Hid (fnd nn ls ⟨(frn:Int),tq,via,nt⟩=(0,p)):=by rw[HF.out,if_neg (by simp),hfi];exact hidp rfl
    clear hfi HF
    go_wp2
    go_region_with (first
     | (go_at_call 46;have _t:=mk;refine(cheapest_any (C:=cost ls) HC.out frn tq vo no vc nc via nt _ hfr8 hvl hnl (hv.ext mk) (hn.ext mk) HN1.out HN2.out cs hcs hcc).mono ?_;rintro e w4 ⟨E4,ho⟩;rw[HFI.out] at ho;obtain⟨g,gcap,rfl,hg1,hg2,hg3,hg4⟩:=ho)
     | (go_at_call 45;refine(costsOf_right nn ao len cap ls _ hlen HNet.out hx HW.out).mono ?_;rintro e w3 ⟨cs,rfl,hcs,hcc,E3⟩;have hE3:=HB.out w3 E3;obtain⟨g0,g1,g2,g3,hE3'⟩:=hE3;have mk:=hE3'))
    all_goals
     go_wp2
     go_ret2
     refine⟨some ⟨g,0,none⟩,gcap,?_,?_,?_,mk.trans E4⟩
     ·rw[HF2.out];rfl
     ·rw[HF2.out];exact Or.inr ⟨g,0,rfl,hg2,hg3⟩
     ·rw[HF2.out];exact hg4
  ·have h0':(r != 0)=true:=by simpa using h0
   go_wp2
   go_region
   go_wp2
   go_ret2
   have HF2:fnd nn ls ⟨fr,tq,via,nt⟩=(r,[]):=by rw[HF.out,if_pos h0]
   refine⟨none,0,?_,?_,?_,((hEw1.trans hEw2).alloc _).drew⟩
   ·rw[HF2];rfl
   ·rw[HF2];exact Or.inl rfl
   ·rw[HF2];exact Nat.le_refl _
 ·have hr':((wrong n ls).1 == 0)=false:=by simpa using hr
  have HF:Hid (fnd n ls ⟨fr,tq,via,nt⟩=((wrong n ls).1,[])):=by unfold fnd;rw[if_pos hr];exact hidp rfl
  clear hr
  go_enter Try.func34,Try.ntmps34
  go_wp2_with fail
  refine(Wrong_any n ao len cap ls _ hlen (hl.ext (((Ext.refl w).alloc _).alloc _)) hx).mono ?_
  rintro e w1 ⟨rfl,E1⟩
  go_wp2
  go_region
  go_wp2
  go_ret2
  refine⟨none,0,?_,?_,?_,(((((Ext.refl w).alloc _).alloc _).trans E1).alloc _).drew⟩
  ·rw[HF.out];rfl
  ·rw[HF.out];exact Or.inl rfl
  ·rw[HF.out];exact Nat.le_refl _
end Go.Proofs.Ytolclgbpjiokfaa
