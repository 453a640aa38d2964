/- What the document's own test of a path comes to: it is one of the net, begins and ends where it should, has none that it may not have, and meets all in order. -/
import Derived.Test.YtkfapjenckhmkaaGreatDoorU05
namespace Stp
open Stw
def stp (via nt:List Int) (o:Option Nat) (s:Int):Option Nat:=match o with
 | none=>none
 | some m=>if s∈nt then none else if s∈via then(if via.getD m 0=s then some (m+1) else none) else some m
def sc (via nt p:List Int):Option Nat:=p.foldl (stp via nt) (some 0)
theorem sc_none (via nt:List Int):∀q:List Int,q.foldl (stp via nt) none=none
 | []=>rfl
 | _::q=>sc_none via nt q
theorem stp_bad {via nt:List Int} {m:Nat} {s:Int} (h:s∈nt):stp via nt (some m) s=none:=by simp[stp,h]
theorem stp_other {via nt:List Int} {m:Nat} {s:Int} (h:¬s∈nt) (h1:¬s∈via):stp via nt (some m) s=some m:=by simp[stp,h,h1]
theorem stp_met {via nt:List Int} {m:Nat} {s:Int} (h:¬s∈nt) (h1:s∈via) (h2:via.getD m 0=s):stp via nt (some m) s=some (m+1):=by
 simp only[stp,h,h1,h2,if_true,if_false]
theorem stp_miss {via nt:List Int} {m:Nat} {s:Int} (h:¬s∈nt) (h1:s∈via) (h2:¬via.getD m 0=s):stp via nt (some m) s=none:=by
 simp only[stp,h,h1,h2,if_true,if_false]
theorem getD_some {via:List Int} {m:Nat} {s:Int} (hm:m<via.length):via[m]? =some s↔via.getD m 0=s:=by
 rw[List.getD_eq_getElem?_getD,List.getElem?_eq_getElem hm];simp
theorem mtv_le {via:List Int} {m:Nat} {s:Int} (h:m≤via.length):mtv via m s≤via.length:=by
 unfold mtv
 split
 ·rename_i h1
  have:=(List.getElem?_eq_some_iff.1 h1).1
  omega
 ·exact h
structure Sc (via nt q:List Int) (m:Nat):Prop where
 le:m≤via.length
 ok:∀x∈q,¬x∈nt
 met:metOf via 0 q=m
 all:∀i,i<m→via.getD i 0∈q
theorem Sc.start (via nt:List Int):Sc via nt [] 0:=⟨Nat.zero_le _,fun x hx=>(by cases hx),rfl,fun i hi=>by omega⟩
theorem metOf_snoc {via:List Int} {m:Nat} {q:List Int} {s:Int}:metOf via m (q++[s])=mtv via (metOf via m q) s:=by simp[metOf]
theorem mtv_no {via:List Int} {m:Nat} {s:Int} (h:¬s∈via):mtv via m s=m:=by
 unfold mtv
 rw[if_neg]
 intro h1
 exact h (List.mem_of_getElem? h1)
theorem Sc.other {via nt q:List Int} {m:Nat} {s:Int} (h:Sc via nt q m) (h1:¬s∈nt) (h2:¬s∈via):Sc via nt (q++[s]) m:=
 ⟨h.le,fun x hx=>by
  rcases List.mem_append.1 hx with hx | hx
  ·exact h.ok x hx
  ·simp at hx;subst hx;exact h1,
  by rw[metOf_snoc,h.met,mtv_no h2],fun i hi=>List.mem_append.2 (Or.inl (h.all i hi))⟩
theorem Sc.left {via nt q:List Int} {m:Nat} {s:Int} (h:Sc via nt q m) (h2:s∈via) (h3:¬s∈q):m<via.length:=by
 rcases Nat.lt_or_ge m via.length with h4 | h4
 ·exact h4
 ·obtain⟨i,hi,rfl⟩:=List.getElem_of_mem h2
  have:=h.all i (by omega)
  rw[getD_eq hi] at this
  exact absurd this h3
theorem Sc.next {via nt q:List Int} {m:Nat} {s:Int} (h:Sc via nt q m) (h1:¬s∈nt) (hm:m<via.length) (h3:via.getD m 0=s):Sc via nt (q++[s]) (m+1):=
 ⟨hm,fun x hx=>by
  rcases List.mem_append.1 hx with hx | hx
  ·exact h.ok x hx
  ·simp at hx;subst hx;exact h1,
  by rw[metOf_snoc,h.met,mtv,if_pos ((getD_some hm).2 h3)],fun i hi=>by
   by_cases e:i=m
   ·subst e;rw[h3];simp
   ·exact List.mem_append.2 (Or.inl (h.all i (by omega)))⟩
theorem metOf_le {via:List Int}:∀(q:List Int) (m:Nat),m≤metOf via m q
 | [],m=>Nat.le_refl _
 | s::q,m=>by
  have h1:=metOf_le (via:=via) q (mtv via m s)
  have h2:m≤mtv via m s:=by unfold mtv;split <;> omega
  exact Nat.le_trans h2 h1
theorem met_in {via:List Int}:∀{q:List Int} {m i:Nat},m≤i→i<metOf via m q→via.getD i 0∈q
 | [],m,i,h1,h2=>by have:i<m:=h2;omega
 | s::q,m,i,h1,h2=>by
  have h3:metOf via m (s::q)=metOf via (mtv via m s) q:=rfl
  rw[h3] at h2
  by_cases hv:via[m]? =some s
  ·have e:mtv via m s=m+1:=by rw[mtv,if_pos hv]
   rw[e] at h2
   by_cases hi:i=m
   ·subst hi
    have hm:=(List.getElem?_eq_some_iff.1 hv).1
    rw[(getD_some hm).1 hv]
    simp
   ·exact List.mem_cons_of_mem _ (met_in (by omega) h2)
  ·have e:mtv via m s=m:=by rw[mtv,if_neg hv]
   rw[e] at h2
   exact List.mem_cons_of_mem _ (met_in h1 h2)
theorem sc_ok {via nt:List Int}:∀{v u:List Int} {m:Nat},(u++v).Nodup→Sc via nt u m→(∀x∈v,¬x∈nt)→metOf via m v=via.length→v.foldl (stp via nt) (some m)=some via.length
 | [],u,m,_,_,_,h=>by
  have:m=via.length:=h
  simp[this]
 | s::v,u,m,hnd,hsc,hnt,h=>by
  have h1:=hnt s (by simp)
  have hnu:¬s∈u:=fun hm=>by
   have:=(List.nodup_append.1 hnd).2.2 s hm s (by simp)
   exact this rfl
  have hnv:¬s∈v:=(List.nodup_cons.1 (List.nodup_append.1 hnd).2.1).1
  have hnd':((u++[s])++v).Nodup:=by simpa using hnd
  by_cases hv:s∈via
  ·have hm:=hsc.left hv hnu
   by_cases he:via.getD m 0=s
   ·simp only[List.foldl_cons,stp_met h1 hv he]
    refine sc_ok hnd' (hsc.next h1 hm he) (fun x hx=>hnt x (by simp[hx])) ?_
    have e:mtv via m s=m+1:=by rw[mtv,if_pos ((getD_some hm).2 he)]
    rw[←e]
    exact h
   ·exfalso
    have e:mtv via m s=m:=by rw[mtv,if_neg (fun h=>he ((getD_some hm).1 h))]
    have h4:metOf via (mtv via m s) v=via.length:=h
    rw[e] at h4
    obtain⟨i,hi,hs⟩:=List.getElem_of_mem hv
    rcases Nat.lt_trichotomy i m with h6 | h6 | h6
    ·have:=hsc.all i h6
     rw[getD_eq hi,hs] at this
     exact hnu this
    ·subst h6
     exact he (by rw[getD_eq hi,hs])
    ·have:=met_in (via:=via) (q:=v) (m:=m) (i:=i) (by omega) (by omega)
     rw[getD_eq hi,hs] at this
     exact hnv this
  ·simp only[List.foldl_cons,stp_other h1 hv]
   refine sc_ok hnd' (hsc.other h1 hv) (fun x hx=>hnt x (by simp[hx])) ?_
   rw[←mtv_no (m:=m) hv]
   exact h
theorem sc_inv {via nt:List Int}:∀{v:List Int} {m k:Nat},m≤via.length→v.foldl (stp via nt) (some m)=some k→(∀x∈v,¬x∈nt)∧(k=via.length→metOf via m v=via.length)
 | [],m,k,_,h=>by
  injection h with h
  exact⟨fun x hx=>(by cases hx),fun e=>by rw[←e, ←h];rfl⟩
 | s::v,m,k,hm,h=>by
  simp only[List.foldl_cons] at h
  by_cases h1:s∈nt
  ·rw[stp_bad h1,sc_none] at h;cases h
  ·by_cases hv:s∈via
   ·by_cases he:via.getD m 0=s
    ·rw[stp_met h1 hv he] at h
     by_cases hlt:m<via.length
     ·obtain⟨h2,h3⟩:=sc_inv (by omega) h
      refine⟨fun x hx=>?_,fun e=>?_⟩
      ·rcases List.mem_cons.1 hx with rfl | hx
       ·exact h1
       ·exact h2 x hx
      ·have e1:mtv via m s=m+1:=by rw[mtv,if_pos ((getD_some hlt).2 he)]
       have h4:=h3 e
       rw[←e1] at h4
       exact h4
     ·
      have hk:∀{v:List Int} {a b:Nat},v.foldl (stp via nt) (some a)=some b→a≤b:=by
       intro v
       induction v with
       | nil=>intro a b h;injection h with h;omega
       | cons s v ih=>
        intro a b h
        simp only[List.foldl_cons] at h
        cases hs:stp via nt (some a) s with
        | none=>rw[hs,sc_none] at h;cases h
        | some c=>
         rw[hs] at h
         have h5:=ih h
         have h6:a≤c:=by
          unfold stp at hs
          simp only at hs
          split at hs
          ·cases hs
          ·split at hs
           ·split at hs
            ·injection hs with hs;omega
            ·cases hs
           ·injection hs with hs;omega
         omega
      have hmk:=hk h
      refine⟨fun x hx=>?_,fun e=>by omega⟩
      have hn:∀{v:List Int} {a b:Nat},v.foldl (stp via nt) (some a)=some b→∀x∈v,¬x∈nt:=by
       intro v
       induction v with
       | nil=>intro a b _ x hx;cases hx
       | cons s v ih=>
        intro a b h x hx
        simp only[List.foldl_cons] at h
        cases hs:stp via nt (some a) s with
        | none=>rw[hs,sc_none] at h;cases h
        | some c=>
         rw[hs] at h
         rcases List.mem_cons.1 hx with rfl | hx
         ·intro hm
          rw[stp_bad hm] at hs
          cases hs
         ·exact ih h x hx
      rcases List.mem_cons.1 hx with rfl | hx
      ·exact h1
      ·exact hn h x hx
    ·rw[stp_miss h1 hv he,sc_none] at h;cases h
   ·rw[stp_other h1 hv] at h
    obtain⟨h2,h3⟩:=sc_inv hm h
    refine⟨fun x hx=>?_,fun e=>?_⟩
    ·rcases List.mem_cons.1 hx with rfl | hx
     ·exact h1
     ·exact h2 x hx
    ·have h4:=h3 e
     rw[←mtv_no (m:=m) hv] at h4
     exact h4
def svB (n:Int) (ls:List Lk) (fr to:Int) (via nt p:List Int):Bool:=pathB n ls p && (p.getD 0 0 == fr) && (p.getD (p.length - 1) 0 == to) && decide (sc via nt p=some via.length)
theorem lst_getD {p:List Int} (h:p≠[]):lst p=p.getD (p.length - 1) 0:=by
 have h0:0<p.length:=List.length_pos_iff.2 h
 have:=lst_take (ps:=p) (k:=p.length) h0 (Nat.le_refl _)
 rwa [List.take_length] at this
theorem svB_iff {n:Int} {ls:List Lk} {fr to:Int} {via nt p:List Int} (hr:Right n ls) (hf:0≤fr∧fr<n):svB n ls fr to via nt p=true↔Srv (cost ls) fr to via nt p:=by
 simp only[svB,Bool.and_eq_true,beq_iff_eq,decide_eq_true_eq]
 constructor
 ·rintro⟨⟨⟨h1,h2⟩,h3⟩,h4⟩
  have hp:=pth_of hr h1
  have hne:=((pathB_iff hr).1 h1).1
  rw[lst_getD hne,h2,h3] at hp
  obtain⟨h5,h6⟩:=sc_inv (Nat.zero_le _) h4
  exact⟨hp,h5,h6 rfl⟩
 ·intro h
  have hp:=h.toPth.path hr hf
  have hne:=((pathB_iff hr).1 hp).1
  refine⟨⟨⟨hp,?_⟩,?_⟩,sc_ok (u:=[]) (by simpa using h.nd) (Sc.start via nt) h.not h.met⟩
  ·obtain⟨r,hr'⟩:=h.head
   rw[hr'];rfl
  ·rw[←lst_getD hne];exact h.last
end Stp
