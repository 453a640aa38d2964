/- What the document's own Serves answers, for every right net, every flow and every list; nothing that was there is changed. -/
import Derived.Test.YtkfapjenckhmkaaGreatDoorTTs
import Derived.Test.YtkfapjenckhmkaaGreatDoorTTt
import Derived.Test.YtkfapjenckhmkaaGreatDoorTTu
import Derived.Test.YtkfapjenckhmkaaGreatDoorU05
namespace Go.Proofs.YtkfapjenckhmkaaGreatDoor
open Go.RowKit Go.Maps Stw Go.Deep Stp
theorem svB_no {n:Int} {ls:List Lk} {fr to:Int} {via nt p:List Int} (h:pathB n ls p=false):svB n ls fr to via nt p=false:=by simp[svB,h]
theorem svB_fr {n:Int} {ls:List Lk} {fr to:Int} {via nt p:List Int} (h:(p.getD 0 0 == fr)=false):svB n ls fr to via nt p=false:=by simp only[svB,h,Bool.and_false,Bool.false_and]
theorem svB_to {n:Int} {ls:List Lk} {fr to:Int} {via nt p:List Int} (h:(p.getD (p.length - 1) 0 == to)=false):svB n ls fr to via nt p=false:=by simp only[svB,h,Bool.and_false,Bool.false_and]
theorem svB_sc {n:Int} {ls:List Lk} {fr to:Int} {via nt p:List Int} {β:Bool} (h1:pathB n ls p=true) (h2:(p.getD 0 0 == fr)=true) (h3:(p.getD (p.length - 1) 0 == to)=true) (h4:decide (sc via nt p=some via.length)=β):svB n ls fr to via nt p=β:=by simp only[svB,h1,h2,h3,h4,Bool.true_and]
theorem sc_take {via nt p:List Int} {k:Nat} (h:k<p.length):(p.take (k+1)).foldl (stp via nt) (some 0)=stp via nt ((p.take k).foldl (stp via nt) (some 0)) (p.getD k 0):=by
 rw[List.take_succ_eq_append_getElem h,List.foldl_append,getD_eq h];rfl
theorem sc_dead {via nt p:List Int} {k:Nat} (h:(p.take k).foldl (stp via nt) (some 0)=none):sc via nt p=none:=by
 unfold sc
 rw[←List.take_append_drop k p,List.foldl_append,h,sc_none]
set_option maxRecDepth 100000 in
set_option maxHeartbeats 2000000 in
theorem Serves_any (n:Int) (ao:Option Addr) (len cap:Nat) (ls:List Lk) (fr to:Int) (via nt:List Int) (vo no:Option Addr) (vc nc:Nat) (ps:List Int) (po:Option Addr) (pl pc:Nat) (w:World) (hlen:ls.length=len) (hl:NetAt w ao ls) (hx:len≤9223372036854775807) (hr:wrong n ls=(0,0))
 (hv:ListAt w vo via) (hvl:via.length≤4611686018427387904) (hn:ListAt w no nt) (hnl:nt.length≤4611686018427387904) (hpl:ps.length=pl) (hpx:pl*8≤140737488351232) (hp:ListAt w po ps):
 Calls Tryz.prog 10 #[.agg #[.int .i64 n,.slice ao len cap],.agg #[.int .i64 fr,.int .i64 to,.slice vo via.length vc,.slice no nt.length nc],.slice po pl pc] w fun e w'=>e=.returned (.bool (svB n ls fr to via nt ps))∧Ext w w':=by
 have HR:=hidp hr
 have hright:=right_of (by rw[hr]:(wrong n ls).1=0)
 clear hr
 have HL:=hidp (length_iff (ps:=ps) hright)
 go_enter Tryz.func10,Tryz.ntmps10
 go_wp2_with fail
 refine(refLength_any n ao po len cap pl pc ls ps _ hlen (hl.ext (((Ext.refl w).alloc _).alloc _)) hx HR.out hpl hpx (hp.ext (((Ext.refl w).alloc _).alloc _))).mono ?_
 rintro e w1 ⟨he,E1⟩
 have hw1:Ext w w1:=(((Ext.refl w).alloc _).alloc _).trans E1
 have hs1:w.heap.size+1<w1.heap.size:=by have:=E1.size;simp at this;omega
 cases hpb:pathB n ls ps
 ·rw[HL.out,hpb] at he
  subst he
  have HS:=hidp (svB_no (fr:=fr) (to:=to) (via:=via) (nt:=nt) hpb)
  clear hpb
  go_wp2
  go_region
  go_wp2
  go_ret
  exact⟨by rw[HS.out];rfl,hw1.drew⟩
 ·rw[HL.out,hpb] at he
  simp only[if_true] at he
  subst he
  obtain⟨hne,hrg,hnd,hch⟩:=(pathB_iff hright).1 hpb
  have hlp:ps.length≤8:=by
   have hb:=hright.bounds
   exact pth_len (C:=cost ls) (fr:=ps.getD 0 0) (to:=lst ps) (pth_of hright hpb)
  have hl0:0<ps.length:=List.length_pos_iff.2 hne
  obtain⟨b,off,rfl,hb,hat⟩:∃b off,po=some ⟨b,off,none⟩∧b<w.heap.size∧IntsAt w b off ps:=by
   rcases hp with rfl | h
   ·exact absurd rfl hne
   ·exact h
  have q1:=E1.cells.1
  have b0:w1.cell? ⟨w.heap.size+1,0,none⟩=some (.int .i64 fr):=(q1 _ _ (by simp)).trans (by simp)
  have b1:w1.cell? ⟨w.heap.size+1,1,none⟩=some (.int .i64 to):=(q1 _ _ (by simp)).trans (by simp)
  have b2:w1.cell? ⟨w.heap.size+1,2,none⟩=some (.slice vo via.length vc):=(q1 _ _ (by simp)).trans (by simp)
  have b3:w1.cell? ⟨w.heap.size+1,3,none⟩=some (.slice no nt.length nc):=(q1 _ _ (by simp)).trans (by simp)
  have p0:w1.cell? ⟨b,off,none⟩=some (.int .i64 (ps.getD 0 0)):=(hw1.cells.1 _ _ hb).trans (hat 0 hl0)
  have pz:w1.cell? ⟨b,off+(pl - 1),none⟩=some (.int .i64 (ps.getD (ps.length - 1) 0)):=(hw1.cells.1 _ _ hb).trans (by rw[←hpl];exact hat (ps.length - 1) (by omega))
  clear q1
  have hpl0:0<pl:=by omega
  have hpl8:pl≤8:=by omega
  have hbw:b<w1.heap.size:=by have:=hw1.size;omega
  have HH:=hidp (And.intro hnd (And.intro hpb hat))
  obtain⟨x0,hx0⟩:∃x0,x0=ps.getD 0 0:=⟨_,rfl⟩
  obtain⟨xz,hxz⟩:∃xz,xz=ps.getD (ps.length - 1) 0:=⟨_,rfl⟩
  rw[←hx0] at p0
  rw[←hxz] at pz
  have HX0:=hidp hx0
  have HXZ:=hidp hxz
  clear hx0 hxz hnd hpb hat hrg hch hne
  cases h1:(x0 == fr)
  ·have HS:=hidp (svB_fr (n:=n) (ls:=ls) (to:=to) (via:=via) (nt:=nt) (by rw[←HX0.out];exact h1))
   have h1':(x0 != fr)=true:=by simp only[bne,h1,Bool.not_false]
   go_wp2
   go_region
   go_wp2
   go_ret
   exact⟨by rw[HS.out];rfl,hw1.drew⟩
  ·have h1':(x0 != fr)=false:=by simp only[bne,h1,Bool.not_true]
   cases h2:(xz == to)
   ·have HS:=hidp (svB_to (n:=n) (ls:=ls) (fr:=fr) (via:=via) (nt:=nt) (by rw[←HXZ.out];exact h2))
    have h2':(xz != to)=true:=by simp only[bne,h2,Bool.not_false]
    go_wp2
    go_region
    go_wp2
    go_ret
    exact⟨by rw[HS.out];rfl,hw1.drew⟩
   ·have h2':(xz != to)=false:=by simp only[bne,h2,Bool.not_true]
    have HS:Hid (∀β,decide (sc via nt ps=some via.length)=β→svB n ls fr to via nt ps=β):=fun β h=>svB_sc HH.out.2.1 (by rw[←HX0.out];exact h1) (by rw[←HXZ.out];exact h2) h
    go_wp2
    go_region
    go_wp2
    go_loopw [9,41] (fun mv iv wr=>∃k m:Nat,k≤pl∧iv=.int .i64 k∧mv=.int .i64 m∧Sc via nt (ps.take k) m∧(ps.take k).foldl (stp via nt) (some 0)=some m∧wr=w1.drew) (fun _ iv _=>pl - (intOf iv).toNat)
    case atStart=>exact⟨0,0,Nat.zero_le _,rfl,rfl,Sc.start via nt,rfl,rfl⟩
    case round=>
     obtain⟨k,m,hk,rfl,rfl,hsc,hfo,rfl⟩:=hrel
     have hml:=hsc.le
     have hvw:ListAt w1.drew vo via:=hv.ext hw1.drew
     have hnw:ListAt w1.drew no nt:=hn.ext hw1.drew
     by_cases hlt:k<pl
     ·have pk:w1.drew.cell? ⟨b,off+k,none⟩=some (.int .i64 (ps.getD k 0)):=(hw1.drew.cells.1 _ _ hb).trans (HH.out.2.2 k (by omega))
      have HN:Hid (¬ps.getD k 0∈ps.take k):=(Stp.nodup_iff.1 HH.out.1) k (by omega)
      have HT:=hidp (sc_take (via:=via) (nt:=nt) (p:=ps) (k:=k) (by omega))
      have HT2:Hid (ps.take (k+1)=ps.take k++[ps.getD k 0]):=by rw[List.take_succ_eq_append_getElem (by omega:k<ps.length), ←getD_eq];exact hidp rfl
      obtain⟨x,hx1⟩:∃x,x=ps.getD k 0:=⟨_,rfl⟩
      rw[←hx1] at pk HN HT HT2
      clear hx1
      have HSc:=hidp hsc
      have HFo:=hidp hfo
      clear hsc hfo
      have i1:(k:Int)<(pl:Int):=by omega
      cases hnm:decide (x∈nt)
      ·have hnm':¬x∈nt:=of_decide_eq_false hnm
       have HNM:=hidp hnm'
       clear hnm'
       go_wp2_with fail
       refine(in_any no nc nt.length nt x _ rfl hnw hnl).mono ?_
       rintro e w2 ⟨he,rfl⟩
       rw[hnm] at he
       subst he
       cases hvm:decide (x∈via)
       ·have HVM:Hid (¬x∈via):=hidp (of_decide_eq_false hvm)
        go_wp2_with fail
        refine(in_any vo vc via.length via x _ rfl hvw hvl).mono ?_
        rintro e w3 ⟨he,rfl⟩
        rw[hvm] at he
        subst he
        clear hnm hvm
        go_wp2
        go_roundw
        case rel=>exact⟨k+1,m,by omega,by go_num,rfl,by rw[HT2.out];exact HSc.out.other HNM.out HVM.out,by rw[HT.out,HFo.out];exact stp_other HNM.out HVM.out,trivial⟩
        case measure=>simp[intOf];omega
       ·have HVM:Hid (x∈via):=hidp (of_decide_eq_true hvm)
        go_wp2_with fail
        refine(in_any vo vc via.length via x _ rfl hvw hvl).mono ?_
        rintro e w3 ⟨he,rfl⟩
        rw[hvm] at he
        subst he
        have hmlt:=HSc.out.left HVM.out HN.out
        obtain⟨bv,ov,rfl,hbv,hatv⟩:∃bv ov,vo=some ⟨bv,ov,none⟩∧bv<w1.heap.size∧IntsAt w1.drew bv ov via:=by
         rcases hvw with rfl | h
         ·simp at hmlt
         ·exact h
        have pv:=hatv m hmlt
        clear hatv hnm hvm
        obtain⟨y,hy⟩:∃y,y=via.getD m 0:=⟨_,rfl⟩
        rw[←hy] at pv
        have HY:=hidp hy
        clear hy
        have i2:(m:Int)<(via.length:Int):=by omega
        cases hyx:(y == x)
        ·have hyx':(y != x)=true:=by simp only[bne,hyx,Bool.not_false]
         have HNE:Hid (¬via.getD m 0=x):=by rw[←HY.out];exact hidp (by simpa using hyx)
         go_wp2
         go_ret
         have HD:=HS.out false (by rw[sc_dead (k:=k+1) (by rw[HT.out,HFo.out];exact stp_miss HNM.out HVM.out HNE.out)];simp)
         exact⟨by rw[HD];rfl,hw1.drew⟩
        ·have hyx':(y != x)=false:=by simp only[bne,hyx,Bool.not_true]
         have HEQ:Hid (via.getD m 0=x):=by rw[←HY.out];exact hidp (by simpa using hyx)
         go_wp2
         go_roundw
         case rel=>exact⟨k+1,m+1,by omega,by go_num,by go_num,by rw[HT2.out];exact HSc.out.next HNM.out hmlt HEQ.out,by rw[HT.out,HFo.out];exact stp_met HNM.out HVM.out HEQ.out,trivial⟩
         case measure=>simp[intOf];omega
      ·have HNM:Hid (x∈nt):=hidp (of_decide_eq_true hnm)
       go_wp2_with fail
       refine(in_any no nc nt.length nt x _ rfl hnw hnl).mono ?_
       rintro e w2 ⟨he,rfl⟩
       rw[hnm] at he
       subst he
       clear hnm
       go_wp2
       go_ret
       have HD:=HS.out false (by rw[sc_dead (k:=k+1) (by rw[HT.out,HFo.out];exact stp_bad HNM.out)];simp)
       exact⟨by rw[HD];rfl,hw1.drew⟩
     ·have hkk:ps.take k=ps:=List.take_of_length_le (by omega)
      rw[hkk] at hfo
      have HFo:Hid (sc via nt ps=some m):=hfo
      clear hkk hfo hsc
      cases hmv:((m:Int) == (via.length:Int))
      ·have HD:=hidp (HS.out false (by rw[HFo.out];simp at hmv ⊢;omega))
       go_wp2
       go_ret
       exact⟨by rw[HD.out];rfl,hw1.drew⟩
      ·have HD:=hidp (HS.out true (by rw[HFo.out];simp at hmv ⊢;omega))
       go_wp2
       go_ret
       exact⟨by rw[HD.out];rfl,hw1.drew⟩
end Go.Proofs.YtkfapjenckhmkaaGreatDoor
