/- What the document's own in answers; nothing that was there is changed. -/
import Derived.Test.YtkfapjenckhmkaaGreatDoorU03
namespace Go.Proofs.YtkfapjenckhmkaaGreatDoor
open Go.RowKit Go.Maps Stf Go.Sort Fw
set_option maxHeartbeats 1000000 in
theorem in_any (lo:Option Addr) (lc len:Nat) (L:List Int) (x:Int) (w:World) (hlen:L.length=len) (hL:ListAt w lo L) (hx:len≤4611686018427387904):
 Calls Tryz.prog 22 #[.slice lo len lc,.int .i64 x] w fun e w'=>e=.returned (.bool (decide (x∈L)))∧w'=w:=by
 go_enter Tryz.func22,Tryz.ntmps22
 go_wp2
 go_loopw [9] (fun iv wr=>∃k:Nat,k≤len∧iv=.int .i64 k∧(∀j,j<k→L.getD j 0≠x)∧wr=w) (fun iv _=>len - (intOf iv).toNat)
 case atStart=>exact⟨0,Nat.zero_le _,rfl,fun j hj=>by omega,rfl⟩
 case round=>
  obtain⟨k,hk,rfl,hpre,rfl⟩:=hrel
  by_cases hlt:k<len
  ·obtain⟨bk,off,rfl,hbk,hat⟩:∃bk off,lo=some ⟨bk,off,none⟩∧bk<wr.heap.size∧IntsAt wr bk off L:=by
    rcases hL with rfl | h
    ·simp at hlen;omega
    ·exact h
   have ce:=hat k (by omega)
   obtain⟨y,hy⟩:∃y,y=L.getD k 0:=⟨_,rfl⟩
   rw[←hy] at ce
   have HY:=hid hy
   have HP:=hid hpre
   have i1:(k:Int)<(len:Int):=by omega
   clear hy hpre hat
   cases hxy:(y == x)
   ·have hne:y≠x:=by simpa using hxy
    have HNE:=hid hne
    clear hne
    go_wp2
    refine⟨⟨k+1,by omega,by go_num,fun j hj=>?_,trivial⟩,by simp[intOf];omega⟩
    by_cases e:j=k
    ·subst e;rw[←HY.out];exact HNE.out
    ·exact HP.out j (by omega)
   ·have heq:y=x:=by simpa using hxy
    have hm:decide (x∈L)=true:=by
     rw[decide_eq_true_eq, ←heq,HY.out]
     simp[List.getD_eq_getElem?_getD,show k<L.length by omega]
    have HM:=hid hm
    clear heq hm
    go_wp2
    go_ret
    exact⟨by rw[HM.out];rfl,rfl⟩
  ·have hm:decide (x∈L)=false:=by
    rw[decide_eq_false_iff_not]
    intro hx
    obtain⟨i,hi,rfl⟩:=List.getElem_of_mem hx
    exact hpre i (by omega) (by simp[List.getD_eq_getElem?_getD,hi])
   have HM:=hid hm
   clear hm hpre
   go_wp2
   go_ret
   exact⟨by rw[HM.out];rfl,rfl⟩
end Go.Proofs.YtkfapjenckhmkaaGreatDoor
