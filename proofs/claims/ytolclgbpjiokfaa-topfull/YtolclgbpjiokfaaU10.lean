/- A change that goes on, in memory: the control, what is waited for, what was told. -/
import Derived.Test.YtolclgbpjiokfaaU09
import Derived.Deep.RegionHeld3
import Derived.Deep.DeepCutAuto
import Derived.Test.YtolclgbpjiokfaaU08
namespace Go.Proofs.Ytolclgbpjiokfaa.Wi
open Go.RowKit Go.Maps Go.Deep Tb Rul
def wrR (v most:Int) (rs:List Ru):Int:=if most<(rs.length:Int) then 5 else if rs.any (Wir.badR v) then 3 else 0
def wrF (most:Int) (fs:List Int):Int:=if most<(fs.length:Int) then 5 else if Wir.badF (-1) fs then 3 else 0
theorem any_step {f:Ru→Bool} {rs:List Ru} {k:Nat} (hk:k<rs.length):(rs.drop k).any f=(f (rs.getD k r0) || (rs.drop (k+1)).any f):=by
 have e:rs.getD k r0=rs[k]:=by simp[List.getD_eq_getElem?_getD,hk]
 rw[List.drop_eq_getElem_cons hk,List.any_cons,e]
theorem any_end {f:Ru→Bool} {rs:List Ru} {k:Nat} (hk:rs.length≤k):(rs.drop k).any f=false:=by rw[List.drop_eq_nil_of_le hk];rfl
theorem badR_ver {v:Int} {r:Ru} (h:(r.1 != v)=true):Wir.badR v r=true:=by
 have:r.1≠v:=by simpa using h
 exact decide_eq_true (Or.inl this)
theorem badR_flow {v:Int} {r:Ru} (h:inB r.2.1 0 11=false):Wir.badR v r=true:=by
 rw[inB_false] at h
 exact decide_eq_true (Or.inr (by omega))
theorem badR_next {v:Int} {r:Ru} (h:inB r.2.2 0 7=false):Wir.badR v r=true:=by
 rw[inB_false] at h
 exact decide_eq_true (Or.inr (by omega))
theorem badR_ok {v:Int} {r:Ru} (h:(r.1 != v)=false) (h1:inB r.2.1 0 11=true) (h2:inB r.2.2 0 7=true):Wir.badR v r=false:=by
 rw[inB_true] at h1 h2
 have:r.1=v:=by simpa using h
 exact decide_eq_false (by omega)
theorem wrR_three {v most:Int} {rs:List Ru} {k:Nat} (hm:(rs.length:Int)≤most) (h:rs.any (Wir.badR v)=(rs.drop k).any (Wir.badR v)) (hk:k<rs.length) (hb:Wir.badR v (rs.getD k r0)=true):wrR v most rs=3:=by
 rw[wrR,if_neg (by omega),if_pos];rw[h,any_step hk,hb];rfl
theorem wrR_zero {v most:Int} {rs:List Ru} {k:Nat} (hm:(rs.length:Int)≤most) (h:rs.any (Wir.badR v)=(rs.drop k).any (Wir.badR v)) (hk:rs.length≤k):wrR v most rs=0:=by
 rw[wrR,if_neg (by omega),if_neg];rw[h,any_end hk];simp
set_option maxRecDepth 100000 in
set_option maxHeartbeats 1000000 in
theorem wrongRules_any (ao:Option Addr) (len cap:Nat) (rs:List Ru) (v most:Int) (w:World) (hlen:rs.length=len) (hf:RsAt w ao rs) (hl:len≤4611686018427387904):
 Calls Try.prog 100 #[.slice ao len cap,.int .i64 v,.int .i64 most] w fun e w'=>e=.returned (.int .i64 (wrR v most rs))∧Ext w w':=by
 by_cases hm:most<(len:Int)
 ·rw[show wrR v most rs=5 by rw[wrR,if_pos (by omega)]]
  go_enter Try.func100,Try.ntmps100
  go_wp2
  go_ret
  exact⟨rfl,Ext.refl w⟩
 ·have hm':(rs.length:Int)≤most:=by omega
  have HM:Hid ((rs.length:Int)≤most):=hm'
  clear hm'
  go_enter Try.func100,Try.ntmps100
  go_wp2
  go_loopw [15] (fun iv wd=>∃k:Nat,k≤len∧iv=.int .i64 k∧Hid (rs.any (Wir.badR v)=(rs.drop k).any (Wir.badR v))∧Ext w wd) (fun iv _=>len - (intOf iv).toNat)
  case atStart=>exact⟨0,Nat.zero_le _,rfl,by rw[List.drop_zero];exact rfl,Ext.refl w⟩
  case round=>
   obtain⟨k,hk,rfl,HW,hE⟩:=hrel
   by_cases hlt:k<len
   ·obtain⟨g,off,rfl,hg,hcs⟩:=(hf.ext hE).get (k:=k) (by omega)
    have i1:(k:Int)<(len:Int):=by omega
    have HST:Hid _:=any_step (f:=Wir.badR v) (rs:=rs) (k:=k) (by omega)
    have HT:Hid (Wir.badR v (rs.getD k r0)=true→wrR v most rs=3):=fun hb=>wrR_three HM.out HW.out (by omega) hb
    obtain⟨c0,c1,c2⟩:=hcs k (by omega)
    obtain⟨r,hr⟩:∃r,rs.getD k r0=r:=⟨_,rfl⟩
    rw[hr] at c0 c1 c2 HST HT
    clear hr hcs
    cases b1:(r.1 != v)
    ·cases b2:inB r.2.1 0 11
     ·have HF:Hid _:=HT.out (badR_flow b2)
      clear HST HT HW
      go_wp2_with (go_at_call 98;refine(within_any _ _ _ _).mono ?_;rintro e w1 ⟨rfl,rfl⟩)
      go_ret
      exact⟨by rw[HF.out];first | done | rfl,hE.alloc _⟩
     ·cases b3:inB r.2.2 0 7
      ·have HF:Hid _:=HT.out (badR_next b3)
       clear HST HT HW
       go_wp2_with (go_at_call 98;refine(within_any _ _ _ _).mono ?_;rintro e w1 ⟨rfl,rfl⟩)
       go_ret
       exact⟨by rw[HF.out];first | done | rfl,hE.alloc _⟩
      ·have HW2:Hid (rs.any (Wir.badR v)=(rs.drop (k+1)).any (Wir.badR v)):=by
        show _=_
        rw[HW.out,HST.out,badR_ok b1 b2 b3];rfl
       clear HST HT HW
       go_wp2_with (go_at_call 98;refine(within_any _ _ _ _).mono ?_;rintro e w1 ⟨rfl,rfl⟩)
       exact⟨⟨k+1,by omega,by go_num,HW2,hE.alloc _⟩,by simp[intOf];omega⟩
    ·have HF:Hid _:=HT.out (badR_ver b1)
     clear HST HT HW
     go_wp2
     go_ret
     exact⟨by rw[HF.out];first | done | rfl,hE.alloc _⟩
   ·have HF:Hid _:=wrR_zero HM.out HW.out (by omega:rs.length≤k)
    clear HW
    go_wp2
    go_ret
    exact⟨by rw[HF.out];first | done | rfl,hE⟩
def pvF (fs:List Int):Nat→Int
 | 0=> -1
 | k+1=>fs.getD k 0
theorem badF_step {fs:List Int} {k:Nat} (hk:k<fs.length):Wir.badF (pvF fs k) (fs.drop k)=if fs.getD k 0≤pvF fs k∨11<fs.getD k 0 then true else Wir.badF (pvF fs (k+1)) (fs.drop (k+1)):=by
 have e:fs.getD k 0=fs[k]:=by simp[List.getD_eq_getElem?_getD,hk]
 rw[List.drop_eq_getElem_cons hk,Wir.badF,pvF,e]
theorem badF_end {fs:List Int} {k:Nat} (hk:fs.length≤k):Wir.badF (pvF fs k) (fs.drop k)=false:=by rw[List.drop_eq_nil_of_le hk,Wir.badF]
set_option maxRecDepth 100000 in
set_option maxHeartbeats 1000000 in
theorem wrongFlows_any (ao:Option Addr) (len cap:Nat) (fs:List Int) (most:Int) (w:World) (hlen:fs.length=len) (hf:ListAt w ao fs) (hl:len≤4611686018427387904):
 Calls Try.prog 101 #[.slice ao len cap,.int .i64 most] w fun e w'=>e=.returned (.int .i64 (wrF most fs))∧Ext w w':=by
 by_cases hm:most<(len:Int)
 ·rw[show wrF most fs=5 by rw[wrF,if_pos (by omega)]]
  go_enter Try.func101,Try.ntmps101
  go_wp2
  go_ret
  exact⟨rfl,Ext.refl w⟩
 ·have hm':(fs.length:Int)≤most:=by omega
  have HM:Hid ((fs.length:Int)≤most):=hm'
  clear hm'
  go_enter Try.func101,Try.ntmps101
  go_wp2
  go_loopw [13] (fun iv wd=>∃k:Nat,k≤len∧iv=.int .i64 k∧Hid (Wir.badF (-1) fs=Wir.badF (pvF fs k) (fs.drop k))∧Hid (0<k→0≤pvF fs k)∧Ext w wd) (fun iv _=>len - (intOf iv).toNat)
  case atStart=>exact⟨0,Nat.zero_le _,rfl,by rw[List.drop_zero];exact rfl,(fun h=>absurd h (by omega)),Ext.refl w⟩
  case round=>
   obtain⟨k,hk,rfl,HW,HN,hE⟩:=hrel
   by_cases hlt:k<len
   ·obtain⟨g,off,rfl,hg,hcs⟩:=(hf.ext hE).get (k:=k) (by omega)
    have i1:(k:Int)<(len:Int):=by omega
    have HST:Hid _:=badF_step (fs:=fs) (k:=k) (by omega)
    have HT:Hid ((fs.getD k 0≤pvF fs k∨11<fs.getD k 0)→wrF most fs=3):=fun hb=>by have:=HM.out;rw[wrF,if_neg (by omega),if_pos];rw[HW.out,HST.out,if_pos hb]
    have c0:=hcs k (by omega)
    have HNX:Hid (pvF fs (k+1)=fs.getD k 0):=rfl
    obtain⟨f,hfe⟩:∃f,fs.getD k 0=f:=⟨_,rfl⟩
    rw[hfe] at c0 HST HT HNX
    clear hfe
    cases b1:inB f 0 11
    ·have HF:Hid (wrF most fs=3):=HT.out (by
      rw[inB_false] at b1
      cases k with
      | zero=>show f≤ -1∨_;omega
      | succ k=>have:=HN.out (by omega);omega)
     clear HST HT HW hcs HNX HN
     go_wp2_with (go_at_call 98;refine(within_any _ _ _ _).mono ?_;rintro e w1 ⟨rfl,rfl⟩)
     go_ret
     exact⟨by rw[HF.out];first | done | rfl,hE⟩
    ·have hb:=inB_true.1 b1
     have HB:Hid (0≤f∧f≤11):=hb
     clear hb
     have HN2:Hid (0<k+1→0≤pvF fs (k+1)):=fun _=>by rw[HNX.out];exact HB.out.1
     by_cases hk0:k=0
     ·subst hk0
      rw[Nat.add_zero] at c0
      have HW2:Hid (Wir.badF (-1) fs=Wir.badF (pvF fs 1) (fs.drop 1)):=HW.out.trans (HST.out.trans (if_neg (by have:=HB.out;show ¬(f≤ -1∨_);omega)))
      clear HST HT HW hcs HNX HN
      go_wp2_with (go_at_call 98;refine(within_any _ _ _ _).mono ?_;rintro e w1 ⟨rfl,rfl⟩)
      exact⟨⟨1,by omega,by go_num,HW2,HN2,hE⟩,by simp[intOf];omega⟩
     ·obtain⟨j,rfl⟩:∃j,k=j+1:=⟨k - 1,by omega⟩
      have c1:=hcs j (by omega)
      have HP:Hid (pvF fs (j+1)=fs.getD j 0):=rfl
      obtain⟨q,hq⟩:∃q,fs.getD j 0=q:=⟨_,rfl⟩
      rw[hq] at c1 HP
      have i2:(j:Int)<(len:Int):=by omega
      have i0:(0:Int)<(j:Int)+1:=by omega
      by_cases hqf:f≤q
      ·have HF:Hid (wrF most fs=3):=HT.out (Or.inl (by rw[HP.out];exact hqf))
       clear HST HT HW hcs HNX HN HN2 HP hq
       go_wp2_with (go_at_call 98;refine(within_any _ _ _ _).mono ?_;rintro e w1 ⟨rfl,rfl⟩)
       go_ret
       exact⟨by rw[HF.out];first | done | rfl,hE⟩
      ·have HW2:Hid (Wir.badF (-1) fs=Wir.badF (pvF fs (j+1+1)) (fs.drop (j+1+1))):=HW.out.trans (HST.out.trans (if_neg (by have:=HB.out;rw[HP.out];omega)))
       clear HST HT HW hcs HNX HN HP hq
       go_wp2_with (go_at_call 98;refine(within_any _ _ _ _).mono ?_;rintro e w1 ⟨rfl,rfl⟩)
       exact⟨⟨j+1+1,by omega,by go_num,HW2,HN2,hE⟩,by simp[intOf];omega⟩
   ·have HF:Hid (wrF most fs=0):=by show wrF most fs=0;have:=HM.out;rw[wrF,if_neg (by omega),HW.out,badF_end (by omega)];rfl
    clear HW
    go_wp2
    go_ret
    exact⟨by rw[HF.out];first | done | rfl,hE⟩
end Go.Proofs.Ytolclgbpjiokfaa.Wi
namespace Go.Proofs.Ytolclgbpjiokfaa.Wi
open Go.RowKit Go.Maps Go.Deep Tb Rul
def ovl (o:Wir.Od) (ro fo:Option Addr) (rc fc:Nat):Value:=.agg #[.int .i64 o.k,.int .i64 o.n,.int .i64 o.v,.slice ro o.rs.length rc,.slice fo o.fs.length fc]
structure OAt (w:World) (o:Wir.Od) (ro fo:Option Addr):Prop where
 hr:RsAt w ro o.rs
 hf:ListAt w fo o.fs
 hk:I64 o.k
 rl:o.rs.length≤4611686018427387904
 fl:o.fs.length≤4611686018427387904
theorem OAt.ext {w w':World} {o:Wir.Od} {ro fo:Option Addr} (h:OAt w o ro fo) (E:Ext w w'):OAt w' o ro fo:=⟨h.hr.ext E,h.hf.ext E,h.hk,h.rl,h.fl⟩
theorem wrong_range {o:Wir.Od} (h:inB o.n 1 100000=false∨inB o.v 1 1000=false):Wir.wrong o=3:=by
 rw[inB_false,inB_false] at h
 rw[Wir.wrong,if_pos (by omega)]
theorem wrong_rest {o:Wir.Od} (h1:inB o.n 1 100000=true) (h2:inB o.v 1 1000=true):Wir.wrong o=if o.k=1 then wrR o.v 16 o.rs else if o.k=2 then wrF 12 o.fs else if o.k=3 then 0 else 1:=by
 rw[inB_true] at h1 h2
 rw[Wir.wrong,if_neg (by omega),wrR,wrF]
 by_cases k1:o.k=1
 ·rw[if_pos k1,if_pos k1]
  by_cases h:16<o.rs.length
  ·rw[if_pos h,if_pos (show(16:Int)<(o.rs.length:Int) by omega)]
  ·rw[if_neg h,if_neg (show ¬(16:Int)<(o.rs.length:Int) by omega)]
 ·rw[if_neg k1,if_neg k1]
  by_cases h:12<o.fs.length
  ·rw[if_pos h,if_pos (show(12:Int)<(o.fs.length:Int) by omega)]
  ·rw[if_neg h,if_neg (show ¬(12:Int)<(o.fs.length:Int) by omega)]
theorem set_two {w1:World} {b:Nat} {x y u:Value} (q:w1.cell? ⟨b,0,none⟩=some u):((w1.setCell ⟨b,0,none⟩ x).setCell ⟨b,1,none⟩ y).cell? ⟨b,0,none⟩=some x:=by
 rw[World.cell?_setCell_other _ _ _ _ (by simp),World.cell?_setCell_same _ _ _ q]
set_option maxRecDepth 100000 in
set_option maxHeartbeats 1000000 in
theorem Wrong_any (o:Wir.Od) (ro fo:Option Addr) (rc fc:Nat) (w:World) (h:OAt w o ro fo):
 Calls Try.prog 88 #[ovl o ro fo rc fc] w fun e w'=>e=.returned (.int .i64 (Wir.wrong o))∧Ext w w':=by
 obtain⟨k,n,v,rs,fs⟩:=o
 unfold ovl
 cases b1:inB n 1 100000
 ·have HF:Hid _:=wrong_range (o:=⟨k,n,v,rs,fs⟩) (Or.inl b1)
  go_enter Try.func88,Try.ntmps88
  go_wp2_with (go_at_call 98;refine(within_any _ _ _ _).mono ?_;rintro e w1 ⟨rfl,rfl⟩)
  go_ret
  exact⟨by rw[HF.out];first | done | rfl,(Ext.refl _).alloc _⟩
 ·cases b2:inB v 1 1000
  ·have HF:Hid _:=wrong_range (o:=⟨k,n,v,rs,fs⟩) (Or.inr b2)
   go_enter Try.func88,Try.ntmps88
   go_wp2_with (go_at_call 98;refine(within_any _ _ _ _).mono ?_;rintro e w1 ⟨rfl,rfl⟩)
   go_ret
   exact⟨by rw[HF.out];first | done | rfl,(Ext.refl _).alloc _⟩
  ·have HF:Hid _:=wrong_rest (o:=⟨k,n,v,rs,fs⟩) b1 b2
   have hk:I64 k:=h.hk
   go_enter Try.func88,Try.ntmps88
   go_upto_region 3 with(go_at_call 98;refine(within_any _ _ _ _).mono ?_;rintro e w1 ⟨rfl,rfl⟩)
   obtain⟨B,hB⟩:∃B,B=w.alloc (.cells #[.int .i64 k,.int .i64 n,.int .i64 v,.slice ro rs.length rc,.slice fo fs.length fc] 135):=⟨_,rfl⟩
   have HS:Hid (∀W,Ext B W→W.cell? ⟨w.heap.size,0,none⟩=some (.int .i64 k)∧W.cell? ⟨w.heap.size,2,none⟩=some (.int .i64 v)∧W.cell? ⟨w.heap.size,3,none⟩=some (.slice ro rs.length rc)∧W.cell? ⟨w.heap.size,4,none⟩=some (.slice fo fs.length fc)):=fun W hW=>by
    have hlt:w.heap.size<B.heap.size:=by rw[hB];simp
    refine⟨(hW.cells.1 _ _ hlt).trans ?_,(hW.cells.1 _ _ hlt).trans ?_,(hW.cells.1 _ _ hlt).trans ?_,(hW.cells.1 _ _ hlt).trans ?_⟩ <;> (rw[hB];simp)
   have hE0:Ext w B:=by rw[hB];exact(Ext.refl w).alloc _
   rw[←hB]
   clear hB
   have hR0:=Ext.refl B
   go_cut [3,4] (fun pv tv wc=>∃bs:Nat,pv=.pointer (some ⟨bs,0,none⟩)∧tv=.bool (isK k)∧wc.cell? ⟨bs,0,none⟩=some (.int .i64 (most k))∧Ext B wc)
   case first=>as_aux_lemma=>
    go_region_held3 (fun W=>W.cell? ⟨w.heap.size,0,none⟩=some (.int .i64 k))
     (first | exact(HS.out _ hR0.drew).1 | exact(HS.out _ (hR0.alloc _).drew).1 | exact(HS.out _ mk).1 | exact(HS.out _ (mk.alloc _)).1 | exact(HS.out _ ((mk.setCell (Nat.le_refl _) _).setCell (Nat.le_refl _) _)).1 | exact(HS.out _ (((mk.alloc _).setCell mk.size _).setCell mk.size _)).1 | exact(HS.out _ (mk.alloc _)).1)
     (first
      | (go_at_call 99;refine(shapes_any _).mono ?_;rintro e w1 ⟨m,rfl,hS,E1⟩
         have mk:Ext B w1:=(by first | exact hR0.drew.trans E1 | exact(hR0.alloc _).drew.trans E1)
         have q0:=fun h=>E1.cells.1 B.heap.size 0 h
         have q1:=fun h=>E1.cells.1 B.heap.size 1 h
         have f0:=fun h=>E1.cells.2 B.heap.size 0 h
         have f1:=fun h=>E1.cells.2 B.heap.size 1 h
         simp at q0 q1 f0 f1
         have r1:=(hS.look hk).1;have r2:=((hS.ext ((Ext.refl _).alloc (.cells #[.int .i64 0,.int .i64 0] 177))).look hk).1))
    all_goals(
     go_wp2
     go_meet
     case rel=>exact⟨_,rfl,rfl,by first | (simp;done) | exact set_two q0,by first | exact mk.alloc _ | exact(mk.setCell (Nat.le_refl _) _).setCell (Nat.le_refl _) _ | exact((mk.alloc _).setCell mk.size _).setCell mk.size _⟩)
   case rest=>
    obtain⟨bs,rfl,rfl,hc0,hW⟩:=hcut
    have hE:=hE0.trans hW
    have hor:=h.hr.ext hE
    have hof:=h.hf.ext hE
    obtain⟨p0,p2,p3,p4⟩:=HS.out _ hW
    clear HS hk
    by_cases h1:k=1
    ·subst h1
     have HF1:Hid (Wir.wrong ⟨1,n,v,rs,fs⟩=wrR v 16 rs):=HF.out
     rw[show isK 1=true from rfl]
     rw[show most 1=16 from rfl] at hc0
     clear HF
     go_wp2_with fail
     refine(wrongRules_any ro rs.length rc rs v 16 _ rfl hor h.rl).mono ?_
     rintro e w2 ⟨rfl,E2⟩
     go_wp2
     go_ret
     exact⟨by rw[HF1.out];first | done | rfl,hE.trans E2⟩
    ·by_cases h2:k=2
     ·subst h2
      have HF1:Hid (Wir.wrong ⟨2,n,v,rs,fs⟩=wrF 12 fs):=HF.out
      rw[show isK 2=true from rfl]
      rw[show most 2=12 from rfl] at hc0
      clear HF h1
      go_wp2_with fail
      refine(wrongFlows_any fo fs.length fc fs 12 _ rfl hof h.fl).mono ?_
      rintro e w2 ⟨rfl,E2⟩
      go_wp2
      go_ret
      exact⟨by rw[HF1.out];first | done | rfl,hE.trans E2⟩
     ·by_cases h3:k=3
      ·subst h3
       have HF1:Hid (Wir.wrong ⟨3,n,v,rs,fs⟩=0):=HF.out
       rw[show isK 3=true from rfl]
       clear HF h1 h2
       go_wp2
       go_ret
       exact⟨by rw[HF1.out];first | done | rfl,hE⟩
      ·have HF1:Hid (Wir.wrong ⟨k,n,v,rs,fs⟩=1):=HF.out.trans (by rw[if_neg h1,if_neg h2,if_neg h3])
       rw[show isK k=false by simp[isK,h1,h2,h3]]
       clear HF h1 h2 h3
       go_wp2
       go_ret
       exact⟨by rw[HF1.out];first | done | rfl,hE⟩
end Go.Proofs.Ytolclgbpjiokfaa.Wi
namespace Go.Proofs.Ytolclgbpjiokfaa.Ct
open Go.RowKit Go.Deep Stw Stp Tb Rul
def vd:Value:=.bool false
theorem getD_put {l:List Value} {i:Nat} {v:Value} (hi:i<l.length) (j:Nat):(if j=i then v else l.getD j vd)=(l.set i v).getD j vd:=by
 simp only[List.getD_eq_getElem?_getD,List.getElem?_set]
 by_cases h:j=i
 ·subst h;simp[hi]
 ·rw[if_neg h,if_neg (Ne.symm h)]
def RQ (w:World) (Q:Nat→Prop) (rs:List Ru) (v:Value):Prop:=∃o c,v=.slice o rs.length c∧(rs=[]∨∃b off,o=some ⟨b,off,none⟩∧Q b∧b<w.heap.size∧∀k,k<rs.length→w.cell? ⟨b,off+k*3,none⟩=some (.int .i64 (rs.getD k (0,0,0)).1)∧w.cell? ⟨b,off+k*3+1,none⟩=some (.int .i64 (rs.getD k (0,0,0)).2.1)∧w.cell? ⟨b,off+k*3+2,none⟩=some (.int .i64 (rs.getD k (0,0,0)).2.2))
theorem RQ.mono {w w':World} {Q Q':Nat→Prop} {rs:List Ru} {v:Value} (h:RQ w Q rs v) (H:∀b,Q b→b<w.heap.size→Q' b∧b<w'.heap.size∧w'.heap[b]? =w.heap[b]?):RQ w' Q' rs v:=by
 obtain⟨o,c,h1,h2⟩:=h
 refine⟨o,c,h1,h2.imp id (fun⟨b,off,k1,k2,k3,k4⟩=>?_)⟩
 obtain⟨r1,r2,r3⟩:=H b k2 k3
 exact⟨b,off,k1,r1,r2,fun i hi=>⟨(World.cell?_of_block (a:=⟨b,off+i*3,none⟩) r3).trans (k4 i hi).1,(World.cell?_of_block (a:=⟨b,off+i*3+1,none⟩) r3).trans (k4 i hi).2.1,(World.cell?_of_block (a:=⟨b,off+i*3+2,none⟩) r3).trans (k4 i hi).2.2⟩⟩
theorem RQ.rs {w:World} {Q:Nat→Prop} {rs:List Ru} {v:Value} (h:RQ w Q rs v):∃o c,v=.slice o rs.length c∧RsAt w o rs:=by
 obtain⟨o,c,h1,h2⟩:=h
 exact⟨o,c,h1,h2.imp id (fun⟨b,off,k1,_,k3,k4⟩=>⟨b,off,k1,k3,k4⟩)⟩
theorem RQ.nil (w:World) (Q:Nat→Prop):RQ w Q [] (.slice none 0 0):=⟨none,0,rfl,Or.inl rfl⟩
theorem LQ.nil (w:World) (Q:Nat→Prop):LQ w Q [] (.slice none 0 0):=⟨none,0,rfl,Or.inl rfl,Nat.zero_le _⟩
theorem RQ.one {w:World} {Q:Nat→Prop} {rs:List Ru} {v:Value} (h:RQ w Q rs v):v.oneCell'=true:=by
 obtain⟨o,c,rfl,_⟩:=h
 rfl
def LTs (w:World) (Q:Nat→Prop):List (Nat×Wir.Od)→List Value→Prop
 | [],[]=>True
 | x::r,a::b::c::d::e::f::vs=>(a=.int .i64 (x.1:Int)∧b=.int .i64 x.2.k∧c=.int .i64 x.2.n∧d=.int .i64 x.2.v∧RQ w Q x.2.rs e∧LQ w Q x.2.fs f)∧LTs w Q r vs
 | _,_=>False
theorem LTs.nil_of {w:World} {Q:Nat→Prop} {vs:List Value} (h:LTs w Q [] vs):vs=[]:=by
 cases vs with
 | nil=>rfl
 | cons=>simp[LTs] at h
theorem LTs.cons_of {w:World} {Q:Nat→Prop} {x:Nat×Wir.Od} {r:List (Nat×Wir.Od)} {vs:List Value} (h:LTs w Q (x::r) vs):∃e f us,vs=.int .i64 (x.1:Int)::.int .i64 x.2.k::.int .i64 x.2.n::.int .i64 x.2.v::e::f::us∧RQ w Q x.2.rs e∧LQ w Q x.2.fs f∧LTs w Q r us:=by
 match vs,h with
 | a::b::c::d::e::f::us,h=>
  obtain⟨⟨rfl,rfl,rfl,rfl,h3,h4⟩,h5⟩:=h
  exact⟨e,f,us,rfl,h3,h4,h5⟩
 | [],h=>simp[LTs] at h
 | [_],h=>simp[LTs] at h
 | [_,_],h=>simp[LTs] at h
 | [_,_,_],h=>simp[LTs] at h
 | [_,_,_,_],h=>simp[LTs] at h
 | [_,_,_,_,_],h=>simp[LTs] at h
theorem LTs.mono {w w':World} {Q Q':Nat→Prop} (H:∀b,Q b→b<w.heap.size→Q' b∧b<w'.heap.size∧w'.heap[b]? =w.heap[b]?):∀{out:List (Nat×Wir.Od)} {vs:List Value},LTs w Q out vs→LTs w' Q' out vs
 | [],vs,h=>by rw[h.nil_of];trivial
 | x::r,vs,h=>by
  obtain⟨e,f,us,rfl,h1,h2,h3⟩:=h.cons_of
  exact⟨⟨rfl,rfl,rfl,rfl,h1.mono H,h2.mono H⟩,LTs.mono H h3⟩
theorem LTs.len {w:World} {Q:Nat→Prop}:∀{out:List (Nat×Wir.Od)} {vs:List Value},LTs w Q out vs→vs.length=out.length*6
 | [],vs,h=>by rw[h.nil_of];rfl
 | x::r,vs,h=>by
  obtain⟨e,f,us,rfl,_,_,h3⟩:=h.cons_of
  have:=LTs.len h3
  simp only[List.length_cons]
  omega
theorem LTs.snoc {w:World} {Q:Nat→Prop} {x:Nat×Wir.Od} {e f:Value} (ke:RQ w Q x.2.rs e) (kf:LQ w Q x.2.fs f):∀{out:List (Nat×Wir.Od)} {vs:List Value},LTs w Q out vs→LTs w Q (out++[x]) (vs++[.int .i64 (x.1:Int),.int .i64 x.2.k,.int .i64 x.2.n,.int .i64 x.2.v,e,f])
 | [],vs,h=>by rw[h.nil_of];exact⟨⟨rfl,rfl,rfl,rfl,ke,kf⟩,trivial⟩
 | y::r,vs,h=>by
  obtain⟨c,d,us,rfl,h1,h2,h3⟩:=h.cons_of
  exact⟨⟨rfl,rfl,rfl,rfl,h1,h2⟩,LTs.snoc ke kf h3⟩
theorem LTs.get {w:World} {Q:Nat→Prop}:∀{out:List (Nat×Wir.Od)} {vs:List Value} {i:Nat} (hi:i<out.length),LTs w Q out vs→∃e f,vs[i*6]? =some (.int .i64 ((out[i].1:Nat):Int))∧vs[i*6+1]? =some (.int .i64 out[i].2.k)∧vs[i*6+2]? =some (.int .i64 out[i].2.n)∧vs[i*6+3]? =some (.int .i64 out[i].2.v)∧vs[i*6+4]? =some e∧vs[i*6+5]? =some f∧RQ w Q out[i].2.rs e∧LQ w Q out[i].2.fs f
 | [],_,_,hi,_=>by simp at hi
 | x::r,vs,0,_,h=>by
  obtain⟨e,f,us,rfl,h1,h2,h3⟩:=h.cons_of
  exact⟨e,f,rfl,rfl,rfl,rfl,rfl,rfl,h1,h2⟩
 | x::r,vs,i+1,hi,h=>by
  obtain⟨e,f,us,rfl,h1,h2,h3⟩:=h.cons_of
  obtain⟨c',d',k0,k1,k2,k3,k4,k5,k6,k7⟩:=LTs.get (i:=i) (by simpa using hi) h3
  have e6:(i+1)*6=i*6+6:=by omega
  refine⟨c',d',?_,?_,?_,?_,?_,?_,k6,k7⟩
  ·rw[e6];exact k0
  ·rw[e6];exact k1
  ·rw[e6];exact k2
  ·rw[e6];exact k3
  ·rw[e6];exact k4
  ·rw[e6];exact k5
def TosAt (w:World) (ao:Option Addr) (out:List (Nat×Wir.Od)):Prop:=
 out=[]∨∃b off,ao=some ⟨b,off,none⟩∧b<w.heap.size∧∀k (h:k<out.length),∃ro rc fo fc,w.cell? ⟨b,off+k*6,none⟩=some (.int .i64 ((out[k].1:Nat):Int))∧w.cell? ⟨b,off+k*6+1,none⟩=some (.int .i64 out[k].2.k)∧w.cell? ⟨b,off+k*6+2,none⟩=some (.int .i64 out[k].2.n)∧w.cell? ⟨b,off+k*6+3,none⟩=some (.int .i64 out[k].2.v)∧w.cell? ⟨b,off+k*6+4,none⟩=some (.slice ro out[k].2.rs.length rc)∧w.cell? ⟨b,off+k*6+5,none⟩=some (.slice fo out[k].2.fs.length fc)∧RsAt w ro out[k].2.rs∧ListAt w fo out[k].2.fs
theorem TosAt.ext {w w':World} {ao:Option Addr} {out:List (Nat×Wir.Od)} (h:TosAt w ao out) (E:Ext w w'):TosAt w' ao out:=by
 rcases h with h | ⟨b,off,h1,h2,h3⟩
 ·exact Or.inl h
 ·refine Or.inr ⟨b,off,h1,Nat.lt_of_lt_of_le h2 E.size,fun i hi=>?_⟩
  obtain⟨ro,rc,fo,fc,c0,c1,c2,c3,c4,c5,hr,hf⟩:=h3 i hi
  exact⟨ro,rc,fo,fc,(E.cells.1 _ _ h2).trans c0,(E.cells.1 _ _ h2).trans c1,(E.cells.1 _ _ h2).trans c2,(E.cells.1 _ _ h2).trans c3,(E.cells.1 _ _ h2).trans c4,(E.cells.1 _ _ h2).trans c5,hr.ext E,hf.ext E⟩
theorem tos_own {w:World} {base n:Nat} {e:TypeId} {v:Value} {vs:List Value} {out:List (Nat×Wir.Od)} {Q:Nat→Prop} (h:w.ownsRow base e 6 v n vs) (hp:LTs w Q out vs):∃fo fc,v=.slice fo out.length fc∧TosAt w fo out:=by
 have hl:=hp.len
 have hn:vs.length=n*6:=h.1
 rcases h.2 with⟨h1,h2⟩ | ⟨g,c,cur,hv,_⟩
 ·have:out=[]:=List.eq_nil_of_length_eq_zero (by omega)
  subst this
  exact⟨none,0,h1,Or.inl rfl⟩
 ·subst hv
  obtain rfl:n=out.length:=by omega
  refine⟨some ⟨g,0,none⟩,c,rfl,Or.inr ⟨g,0,rfl,(h.lt g rfl).2,fun i hi=>?_⟩⟩
  obtain⟨e',f',k0,k1,k2,k3,k4,k5,k6,k7⟩:=hp.get hi
  obtain⟨ro,rc,rfl,hr⟩:=k6.rs
  obtain⟨fo,fc,rfl,hf,_⟩:=k7.fv
  refine⟨ro,rc,fo,fc,?_,?_,?_,?_,?_,?_,hr,hf⟩
  ·rw[Nat.zero_add,h.cellAt _ (by omega)];exact k0
  ·rw[Nat.zero_add,h.cellAt _ (by omega)];exact k1
  ·rw[Nat.zero_add,h.cellAt _ (by omega)];exact k2
  ·rw[Nat.zero_add,h.cellAt _ (by omega)];exact k3
  ·rw[Nat.zero_add,h.cellAt _ (by omega)];exact k4
  ·rw[Nat.zero_add,h.cellAt _ (by omega)];exact k5
def chL (c:Co) (a:CA) (n:Nat) (wv tv:Value):List Value:=
 [.int .i64 c.st,.int .i64 c.now.v,.slice a.n.fo c.now.fs.length a.n.fc,.slice a.n.qo c.now.ps.length a.n.qc,.int .i64 c.nxt.v,.slice a.x.fo c.nxt.fs.length a.x.fc,.slice a.x.qo c.nxt.ps.length a.x.qc,.int .i64 c.num,wv,.int .i64 n,tv]
structure CSt (B:Nat) (X:Nat→Prop) (P:Nat) (w0 w:World) (g:Cg) (a:CA) (n:Nat) (wv tv:Value) (TV:List Value):Prop where
 row:w.rowIs P 157 11 (fun j=>(chL g.c a n wv tv).getD j vd)
 ownW:w.ownsRow w0.heap.size 3 1 wv g.c.wts.length (g.c.wts.map (Value.int .i64))
 ownT:w.ownsRow (P+1) 164 6 tv g.out.length TV
 wP:wv.ownBlock≠some P
 apart:∀b,wv.ownBlock=some b→tv.ownBlock≠some b
 lt:LTs w (fun b=>Qn P tv wv b∧X b) g.out TV
 bel:Ext w0 w
 hP:w0.heap.size≤P
 hB:B≤w0.heap.size
 hn:PlNew B w0 g.c.now a.n
 hx:PlNew B w0 g.c.nxt a.x
structure Kp (P:Nat) (w:World) (tv wv:Value) (w':World) (tv' wv':Value):Prop where
 size:w.heap.size≤w'.heap.size
 block:∀b,Qn P tv wv b→b<w.heap.size→Qn P tv' wv' b∧w'.heap[b]? =w.heap[b]?
theorem Kp.h {P:Nat} {w w':World} {tv wv tv' wv':Value} (k:Kp P w tv wv w' tv' wv'):∀b,Qn P tv wv b→b<w.heap.size→Qn P tv' wv' b∧b<w'.heap.size∧w'.heap[b]? =w.heap[b]?:=fun b hb hlt=>⟨(k.block b hb hlt).1,Nat.lt_of_lt_of_le hlt k.size,(k.block b hb hlt).2⟩
theorem Kp.hx {X:Nat→Prop} {P:Nat} {w w':World} {tv wv tv' wv':Value} (k:Kp P w tv wv w' tv' wv'):∀b,(Qn P tv wv b∧X b)→b<w.heap.size→(Qn P tv' wv' b∧X b)∧b<w'.heap.size∧w'.heap[b]? =w.heap[b]?:=fun b hb hlt=>⟨⟨(k.block b hb.1 hlt).1,hb.2⟩,Nat.lt_of_lt_of_le hlt k.size,(k.block b hb.1 hlt).2⟩
theorem Kp.ext {P:Nat} {w w':World} {tv wv:Value} (E:Ext w w'):Kp P w tv wv w' tv wv:=⟨E.size,fun b hb hlt=>⟨hb,Below.block E b hlt⟩⟩
theorem Kp.trans {P:Nat} {w w1 w2:World} {tv wv tv1 wv1 tv2 wv2:Value} (h:Kp P w tv wv w1 tv1 wv1) (k:Kp P w1 tv1 wv1 w2 tv2 wv2):Kp P w tv wv w2 tv2 wv2:=
 ⟨Nat.le_trans h.size k.size,fun b hb hlt=>by
  obtain⟨q1,e1⟩:=h.block b hb hlt
  obtain⟨q2,e2⟩:=k.block b q1 (Nat.lt_of_lt_of_le hlt h.size)
  exact⟨q2,e2.trans e1⟩⟩
theorem CSt.ext {B:Nat} {X:Nat→Prop} {P n:Nat} {w0 w w':World} {g:Cg} {a:CA} {wv tv:Value} {TV:List Value} (h:CSt B X P w0 w g a n wv tv TV) (E:Ext w w'):CSt B X P w0 w' g a n wv tv TV:=
 ⟨h.row.of_block (Below.block E _ h.row.lt),own_extU h.ownW E,own_extU h.ownT E,h.wP,h.apart,h.lt.mono (Kp.ext E).hx,h.bel.trans E,h.hP,h.hB,h.hn,h.hx⟩
theorem CSt.put {B:Nat} {X:Nat→Prop} {P n:Nat} {w0 w:World} {g g':Cg} {a a':CA} {wv tv:Value} {TV:List Value} (h:CSt B X P w0 w g a n wv tv TV) (i:Nat) (hi:i<11) (v:Value)
 (hl:(chL g.c a n wv tv).set i v=chL g'.c a' n wv tv) (hw:g'.c.wts=g.c.wts) (ho:g'.out=g.out) (hn:PlNew B w0 g'.c.now a'.n) (hx:PlNew B w0 g'.c.nxt a'.x):CSt B X P w0 (w.setCell ⟨P,i,none⟩ v) g' a' n wv tv TV:=by
 have hP:=h.row.lt
 have H:∀b,b≠P→(w.setCell ⟨P,i,none⟩ v).heap[b]? =w.heap[b]?:=fun b hb=>blk_setCell_other _ _ _ _ (by simpa using hb)
 refine⟨((h.row.set i v).congr (fun j _=>(getD_put (by simp[chL];omega) j).trans (by rw[hl]))),?_,?_,h.wP,h.apart,?_,h.bel.setCell (by simpa using h.hP) _,h.hP,h.hB,hn,hx⟩
 ·rw[hw]
  refine⟨h.ownW.1,?_⟩
  rcases h.ownW.2 with h2 | ⟨b,cap,cur,h1,h2,h3,h4⟩
  ·exact Or.inl h2
  ·exact Or.inr ⟨b,cap,cur,h1,h2,(H b (fun e=>h.wP (by rw[h1,e];rfl))).trans h3,h4⟩
 ·rw[ho];exact ownsRow_setCell_below h.ownT (by simp) _
 ·rw[ho];exact h.lt.mono (fun b hb hlt=>⟨hb,by simpa using hlt,H b (by have:=hb.1.1;omega)⟩)
theorem CSt.kput {P i:Nat} {w:World} {wv tv v:Value}:Kp P w tv wv (w.setCell ⟨P,i,none⟩ v) tv wv:=
 ⟨by simp,fun b hb _=>⟨hb,blk_setCell_other _ _ _ _ (by have:=hb.1;simp;omega)⟩⟩
theorem CSt.num {B:Nat} {X:Nat→Prop} {P n:Nat} {w0 w:World} {g:Cg} {a:CA} {wv tv:Value} {TV:List Value} (h:CSt B X P w0 w g a n wv tv TV) (x:Int) (o:Obj) (y:Value):
 CSt B X P w0 (((w.alloc o).setCell ⟨P,7,none⟩ (.int .i64 x)).setCell ⟨w.heap.size,1,none⟩ y) ⟨⟨g.c.st,g.c.now,g.c.nxt,x,g.c.wts⟩,g.out⟩ a n wv tv TV∧Kp P w tv wv (((w.alloc o).setCell ⟨P,7,none⟩ (.int .i64 x)).setCell ⟨w.heap.size,1,none⟩ y) tv wv:=by
 have hP:=h.row.lt
 have h1:CSt B X P w0 ((w.alloc o).setCell ⟨P,7,none⟩ (.int .i64 x)) ⟨⟨g.c.st,g.c.now,g.c.nxt,x,g.c.wts⟩,g.out⟩ a n wv tv TV:=(h.ext ((Ext.refl w).alloc o)).put 7 (by omega) _ rfl rfl rfl h.hn h.hx
 have hk:∀b,b<w.heap.size→(((w.alloc o).setCell ⟨P,7,none⟩ (.int .i64 x)).setCell ⟨w.heap.size,1,none⟩ y).heap[b]? =((w.alloc o).setCell ⟨P,7,none⟩ (.int .i64 x)).heap[b]?:=fun b hb=>blk_setCell_other _ _ _ _ (by simp;omega)
 have hq:∀b,b≠P→b<w.heap.size→(((w.alloc o).setCell ⟨P,7,none⟩ (.int .i64 x)).setCell ⟨w.heap.size,1,none⟩ y).heap[b]? =w.heap[b]?:=fun b hb hlt=>(hk b hlt).trans ((blk_setCell_other _ _ _ _ (by simpa using hb)).trans (blk_alloc_lt _ _ _ hlt))
 refine⟨⟨h1.row.of_block (hk P hP),?_,?_,h.wP,h.apart,h.lt.mono (fun b hb hlt=>⟨hb,by simp;omega,hq b (by have:=hb.1.1;omega) hlt⟩),(((h.bel.alloc o).setCell (by simpa using h.hP) _).setCell (by simpa using h.bel.size) _),h.hP,h.hB,h.hn,h.hx⟩,⟨by simp,fun b hb hlt=>⟨hb,hq b (by have:=hb.1;omega) hlt⟩⟩⟩
 ·refine⟨h.ownW.1,?_⟩
  rcases h.ownW.2 with h2 | ⟨b,cap,cur,e1,e2,e3,e4⟩
  ·exact Or.inl h2
  ·exact Or.inr ⟨b,cap,cur,e1,e2,(hq b (fun e=>h.wP (by rw[e1,e];rfl)) (h.ownW.lt b (by rw[e1];rfl)).2).trans e3,e4⟩
 ·refine⟨h.ownT.1,?_⟩
  rcases h.ownT.2 with h2 | ⟨b,cap,cur,e1,e2,e3,e4⟩
  ·exact Or.inl h2
  ·exact Or.inr ⟨b,cap,cur,e1,e2,(hq b (by omega) (h.ownT.lt b (by rw[e1];rfl)).2).trans e3,e4⟩
theorem CSt.pushW {B:Nat} {X:Nat→Prop} {P n g1 c:Nat} {w0 w w':World} {g:Cg} {a:CA} {wv tv:Value} {TV:List Value} {x:Int} {o:Obj} (h:CSt B X P w0 w g a n wv tv TV)
 (hown:w'.ownsRow w0.heap.size 3 1 (.slice (some ⟨g1,0,none⟩) (g.c.wts.length+1) c) (g.c.wts.length+1) (g.c.wts.map (Value.int .i64)++[.int .i64 x])) (hg:(w.alloc o).grownBy w' wv.ownBlock) (hat:wv.ownBlock=some g1∨g1=w.heap.size+1):
 w'.cell? ⟨P,8,none⟩=some wv∧w'.frozen? ⟨P,8,none⟩=false∧CSt B X P w0 (w'.setCell ⟨P,8,none⟩ (.slice (some ⟨g1,0,none⟩) (g.c.wts.length+1) c)) ⟨⟨g.c.st,g.c.now,g.c.nxt,g.c.num,g.c.wts++[x]⟩,g.out⟩ a n (.slice (some ⟨g1,0,none⟩) (g.c.wts.length+1) c) tv TV∧
 Kp P w tv wv (w'.setCell ⟨P,8,none⟩ (.slice (some ⟨g1,0,none⟩) (g.c.wts.length+1) c)) tv (.slice (some ⟨g1,0,none⟩) (g.c.wts.length+1) c)∧
 (∀b,b<w.heap.size→b≠P→wv.ownBlock≠some b→(w'.setCell ⟨P,8,none⟩ (.slice (some ⟨g1,0,none⟩) (g.c.wts.length+1) c)).heap[b]? =w.heap[b]?):=by
 have hP:=h.row.lt
 have hs:=hg.size
 rw[World.size_alloc] at hs
 have hneP:some P≠wv.ownBlock:=fun e=>h.wP e.symm
 have hbP:w'.heap[P]? =w.heap[P]?:=(hg.block P (by simp;omega) hneP).trans (blk_alloc_lt _ _ _ hP)
 have hr:=h.row.of_block hbP
 have hK:∀b,b<w.heap.size→b≠P→wv.ownBlock≠some b→(w'.setCell ⟨P,8,none⟩ (.slice (some ⟨g1,0,none⟩) (g.c.wts.length+1) c)).heap[b]? =w.heap[b]?:=fun b hlt hb hne=>
  (blk_setCell_other _ _ _ _ (by simpa using hb)).trans ((hg.block b (by simp;omega) (fun e=>hne e.symm)).trans (blk_alloc_lt _ _ _ hlt))
 have gP:g1≠P:=fun e=>by
  rcases hat with k | k
  ·exact h.wP (by rw[k,e])
  ·omega
 have H:∀b,Qn P tv wv b→b<w.heap.size→Qn P tv (.slice (some ⟨g1,0,none⟩) (g.c.wts.length+1) c) b∧b<(w'.setCell ⟨P,8,none⟩ (.slice (some ⟨g1,0,none⟩) (g.c.wts.length+1) c)).heap.size∧(w'.setCell ⟨P,8,none⟩ (.slice (some ⟨g1,0,none⟩) (g.c.wts.length+1) c)).heap[b]? =w.heap[b]?:=fun b hb hlt=>by
  have hb1:=hb.1
  refine⟨⟨hb.1,fun e=>?_,hb.2.2⟩,by simp;omega,hK b hlt (by omega) hb.2.1⟩
  have e':g1=b:=by simpa[Value.ownBlock] using e
  rcases hat with k | k
  ·exact hb.2.1 (by rw[k,e'])
  ·omega
 refine⟨hr.cell (i:=8) (by omega),hr.frozen 8,⟨((hr.set 8 _).congr (fun j _=>(getD_put (by simp[chL]) j).trans rfl)),?_,?_,fun e=>gP (by simpa[Value.ownBlock] using e),fun b e=>?_,h.lt.mono (fun b hb hlt=>⟨⟨(H b hb.1 hlt).1,hb.2⟩,(H b hb.1 hlt).2⟩),?_,h.hP,h.hB,h.hn,h.hx⟩,⟨by simp;omega,fun b hb hlt=>⟨(H b hb hlt).1,(H b hb hlt).2.2⟩⟩,hK⟩
 ·have hb1:(w'.setCell ⟨P,8,none⟩ (.slice (some ⟨g1,0,none⟩) (g.c.wts.length+1) c)).heap[g1]? =w'.heap[g1]?:=blk_setCell_other _ _ _ _ (by simpa using gP)
  simp only[List.length_append,List.length_cons,List.length_nil,List.map_append,List.map_cons,List.map_nil]
  refine⟨by simp,?_⟩
  rcases hown.2 with⟨h1,h2⟩ | ⟨b,cap,cur,e1,e2,e3,e4⟩
  ·cases h1
  ·cases e1
   exact Or.inr ⟨g1,c,cur,rfl,e2,hb1.trans e3,e4⟩
 ·refine ownsRow_setCell_below ((h.ownT.alloc o).kept hg ?_) (by simp) _
  cases hq:tv.ownBlock with
  | none=>exact Or.inl rfl
  | some b=>exact Or.inr (fun e=>h.apart b e.symm hq)
 ·have e':g1=b:=by simpa[Value.ownBlock] using e
  subst e'
  rcases hat with k | k
  ·exact h.apart g1 k
  ·intro hq;have:=(h.ownT.lt g1 hq).2;omega
 ·exact(Below.grown (h.bel.alloc o) hg (by have:=h.bel.size;simp;omega) (fun j hj=>(h.ownW.lt j hj).1)).setCell (by simpa using h.hP) _
theorem CSt.pushT {B:Nat} {X:Nat→Prop} {P n g1 c:Nat} {w0 w w':World} {g:Cg} {a:CA} {wv tv rv fv:Value} {TV:List Value} {x:Nat×Wir.Od} {o:Obj} (h:CSt B X P w0 w g a n wv tv TV) (kr:RQ w (fun b=>Qn P tv wv b∧X b) x.2.rs rv) (kf:LQ w (fun b=>Qn P tv wv b∧X b) x.2.fs fv)
 (hown:w'.ownsRow (P+1) 164 6 (.slice (some ⟨g1,0,none⟩) (g.out.length+1) c) (g.out.length+1) (TV++[.int .i64 (x.1:Int),.int .i64 x.2.k,.int .i64 x.2.n,.int .i64 x.2.v,rv,fv])) (hg:(w.alloc o).grownBy w' tv.ownBlock) (hat:tv.ownBlock=some g1∨g1=w.heap.size+1):
 w'.cell? ⟨P,10,none⟩=some tv∧w'.frozen? ⟨P,10,none⟩=false∧CSt B X P w0 (w'.setCell ⟨P,10,none⟩ (.slice (some ⟨g1,0,none⟩) (g.out.length+1) c)) ⟨g.c,g.out++[x]⟩ a n wv (.slice (some ⟨g1,0,none⟩) (g.out.length+1) c) (TV++[.int .i64 (x.1:Int),.int .i64 x.2.k,.int .i64 x.2.n,.int .i64 x.2.v,rv,fv])∧
 Kp P w tv wv (w'.setCell ⟨P,10,none⟩ (.slice (some ⟨g1,0,none⟩) (g.out.length+1) c)) (.slice (some ⟨g1,0,none⟩) (g.out.length+1) c) wv:=by
 have hP:=h.row.lt
 have hs:=hg.size
 rw[World.size_alloc] at hs
 have hneP:some P≠tv.ownBlock:=fun e=>by have:=(h.ownT.lt P e.symm).1;omega
 have hge:P+1≤g1:=(hown.lt g1 rfl).1
 have hbP:w'.heap[P]? =w.heap[P]?:=(hg.block P (by simp;omega) hneP).trans (blk_alloc_lt _ _ _ hP)
 have hr:=h.row.of_block hbP
 have H:∀b,Qn P tv wv b→b<w.heap.size→Qn P (.slice (some ⟨g1,0,none⟩) (g.out.length+1) c) wv b∧b<(w'.setCell ⟨P,10,none⟩ (.slice (some ⟨g1,0,none⟩) (g.out.length+1) c)).heap.size∧(w'.setCell ⟨P,10,none⟩ (.slice (some ⟨g1,0,none⟩) (g.out.length+1) c)).heap[b]? =w.heap[b]?:=fun b hb hlt=>by
  have hb1:=hb.1
  refine⟨⟨hb.1,hb.2.1,fun e=>?_⟩,by simp;omega,(blk_setCell_other _ _ _ _ (by simp;omega)).trans ((hg.block b (by simp;omega) (fun e=>hb.2.2 e.symm)).trans (blk_alloc_lt _ _ _ hlt))⟩
  have e':g1=b:=by simpa[Value.ownBlock] using e
  rcases hat with k | k
  ·exact hb.2.2 (by rw[k,e'])
  ·omega
 have HX:∀b,(Qn P tv wv b∧X b)→b<w.heap.size→(Qn P (.slice (some ⟨g1,0,none⟩) (g.out.length+1) c) wv b∧X b)∧b<(w'.setCell ⟨P,10,none⟩ (.slice (some ⟨g1,0,none⟩) (g.out.length+1) c)).heap.size∧(w'.setCell ⟨P,10,none⟩ (.slice (some ⟨g1,0,none⟩) (g.out.length+1) c)).heap[b]? =w.heap[b]?:=fun b hb hlt=>⟨⟨(H b hb.1 hlt).1,hb.2⟩,(H b hb.1 hlt).2⟩
 refine⟨hr.cell (i:=10) (by omega),hr.frozen 10,⟨((hr.set 10 _).congr (fun j _=>(getD_put (by simp[chL]) j).trans rfl)),?_,?_,h.wP,fun b e hq=>?_,LTs.snoc (kr.mono HX) (kf.mono HX) (h.lt.mono HX),?_,h.hP,h.hB,h.hn,h.hx⟩,⟨by simp;omega,fun b hb hlt=>⟨(H b hb hlt).1,(H b hb hlt).2.2⟩⟩⟩
 ·have h1:=(h.ownW.alloc o).kept hg (by
   cases hq:wv.ownBlock with
   | none=>exact Or.inl rfl
   | some b=>exact Or.inr (fun e=>h.apart b hq e.symm))
  refine⟨h1.1,?_⟩
  rcases h1.2 with h2 | ⟨b,cap,cur,e1,e2,e3,e4⟩
  ·exact Or.inl h2
  ·exact Or.inr ⟨b,cap,cur,e1,e2,(blk_setCell_other _ _ _ _ (by simp;exact fun e=>h.wP (by rw[e1,e];rfl))).trans e3,e4⟩
 ·simp only[List.length_append,List.length_cons,List.length_nil]
  exact ownsRow_setCell_below hown (by simp) _
 ·have e':g1=b:=by simpa[Value.ownBlock] using hq
  subst e'
  rcases hat with k | k
  ·exact h.apart g1 e k
  ·have:=(h.ownW.lt g1 e).2;omega
 ·exact(Below.grown (h.bel.alloc o) hg (by have:=h.bel.size;simp;omega) (fun j hj=>by have:=(h.ownT.lt j hj).1;have:=h.hP;omega)).setCell (by simpa using h.hP) _
def StOut (Q:Nat→Prop) (o:Option Wir.Od) (e:Ending) (w':World):Prop:=∃(k v:Int) (ro fo:Option Addr) (rl rc fl fc:Nat),e=.returned (.tuple #[.agg #[.int .i64 k,.int .i64 0,.int .i64 v,.slice ro rl rc,.slice fo fl fc],.bool o.isSome])∧∀x,o=some x→k=x.k∧v=x.v∧RQ w' Q x.rs (.slice ro rl rc)∧LQ w' Q x.fs (.slice fo fl fc)
theorem one6s (a b c d:Int) (o o':Option Addr) (l c' l' c2:Nat):∀u∈[Value.int .i64 a,.int .i64 b,.int .i64 c,.int .i64 d,.slice o l c',.slice o' l' c2],u.oneCell'=true:=by
 intro u hu
 simp at hu
 rcases hu with rfl | rfl | rfl | rfl | rfl | rfl <;> rfl
theorem one1i (a:Int):∀u∈[Value.int .i64 a],u.oneCell'=true:=by intro u hu;simp at hu;subst hu;rfl
theorem infoT:(Try.prog.info? 164).map (fun i=>(i.zero,i.size,i.bytes))=some (some (.agg #[.int .i64 0,.int .i64 0,.int .i64 0,.int .i64 0,.slice none 0 0,.slice none 0 0]),6,80):=by kernel_rfl
end Go.Proofs.Ytolclgbpjiokfaa.Ct
