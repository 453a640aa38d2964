/- RoomFull's walk. -/
import Derived.Test.YtkfapjenckhmkaaGreatDoorU25
import Derived.Test.YtkfapjenckhmkaaGreatDoorU35
namespace Go.Proofs.YtkfapjenckhmkaaGreatDoor.Rm
open Go.RowKit Go.Deep Stw Stp Tb Rul Ct
theorem hap_never {n:Nat} {ls:List Lk} {t:Nat} {W:Wd} {d:Dd} (h:Inv n ls t W) (ht:t≤1000) (hd:d.k=2∨d.k=3):(hap n ls W d).2=0∨(hap n ls W d).2=6:=by
 obtain⟨k,i,fs⟩:=d
 simp only at hd
 by_cases hi:0≤i∧i<(n:Int)
 ·obtain⟨s,rfl⟩:=Int.eq_ofNat_of_zero_le hi.1
  have hs:s<n:=by omega
  rcases hd with rfl | rfl
  ·have e:hap n ls W ⟨2,(s:Int),fs⟩=hap n ls W ⟨2,(s:Int),[]⟩:=rfl
   rw[e]
   rcases h.one hs with⟨h1,_⟩ | ⟨o,h1,_⟩ | ⟨k,h1,_⟩
   ·right
    show(hapO n W (s:Int)).2=6
    unfold hapO
    rw[if_neg (by omega),Int.toNat_natCast,h1]
   ·left;rw[order_step h ht hs h1]
   ·right
    show(hapO n W (s:Int)).2=6
    unfold hapO
    rw[if_neg (by omega),Int.toNat_natCast,h1]
  ·have e:hap n ls W ⟨3,(s:Int),fs⟩=hap n ls W ⟨3,(s:Int),[]⟩:=rfl
   rw[e]
   rcases h.one hs with⟨_,h1⟩ | ⟨o,_,h1⟩ | ⟨k,_,h1⟩
   ·right
    show(hapK n ls W (s:Int)).2=6
    unfold hapK
    rw[if_neg (by omega),Int.toNat_natCast,h1]
   ·right
    show(hapK n ls W (s:Int)).2=6
    unfold hapK
    rw[if_neg (by omega),Int.toNat_natCast,h1]
   ·left;rw[back_step h hs h1]
 ·right
  rcases hd with rfl | rfl
  ·show(hapO n W i).2=6
   unfold hapO
   rw[if_pos hi]
  ·show(hapK n ls W i).2=6
   unfold hapK
   rw[if_pos hi]
theorem run_at {n:Nat} {ls:List Lk} {ds:List Dd} {k:Nat} (hk:k<ds.length):(run n ls ds).2.getD k 0=(hap n ls (run n ls (ds.take k)).1 (ds.getD k dd0)).2:=by
 have h1:=(run_past (n:=n) (ls:=ls) (ds:=ds) (k:=k+1) (by omega)).2
 have h2:run n ls (ds.take (k+1))=stepR n ls (run n ls (ds.take k)) (ds.getD k dd0):=runR_take (n:=n) (ls:=ls) (q:=(wdN n,[])) hk
 have hl:(run n ls (ds.take k)).2.length=k:=by rw[run_len,List.length_take];omega
 have h3:((run n ls ds).2.take (k+1)).getD k 0=(run n ls ds).2.getD k 0:=by
  rw[List.getD_eq_getElem?_getD,List.getD_eq_getElem?_getD,List.getElem?_take,if_pos (by omega)]
 rw[←h3, ←h1,h2]
 show((run n ls (ds.take k)).2++[(hap n ls (run n ls (ds.take k)).1 (ds.getD k dd0)).2]).getD k 0=_
 rw[List.getD_eq_getElem?_getD,List.getElem?_append_right (by omega),hl,Nat.sub_self]
 rfl
theorem run_never {n:Nat} {ls:List Lk} {ds:List Dd} (hw:(wrong n ls).1=0) (hl:ds.length≤1000) {k:Nat} (hk:k<ds.length) (hd:(ds.getD k dd0).k=2∨(ds.getD k dd0).k=3):(run n ls ds).2.getD k 0=0∨(run n ls ds).2.getD k 0=6:=by
 rw[run_at hk]
 have hlt:(ds.take k).length≤1000:=by rw[List.length_take];omega
 exact hap_never (run_inv hw hlt) hlt hd
end Go.Proofs.YtkfapjenckhmkaaGreatDoor.Rm
namespace Go.Proofs.YtkfapjenckhmkaaGreatDoor.Rm
open Go.RowKit Go.Deep Stw Stp Tb Rul Ct
theorem plyN {N:Int} {ls:List Lk} {ds:List Dd} (h:(plyF N ls ds).1=0):∃n:Nat,N=(n:Int)∧n≤8∧(wrong n ls).1=0∧ds.length≤200∧plyF N ls ds=(0,0)∧plyW N ls ds=run n ls ds:=by
 obtain⟨h1,h2,h3,h4⟩:=plyF_right h
 have hb:=(right_of h1).bounds
 obtain⟨n,rfl⟩:=Int.eq_ofNat_of_zero_le (show 0≤N by omega)
 exact⟨n,rfl,by omega,h1,h2,h3,h4⟩
end Go.Proofs.YtkfapjenckhmkaaGreatDoor.Rm
namespace Go.Proofs.YtkfapjenckhmkaaGreatDoor.Rm
open Go.RowKit Go.Deep Stw Stp Tb Rul Ct
theorem getD_mem {α:Type} {l:List α} {z:α} {j:Nat} (hj:j<l.length):l.getD j z∈l:=by rw[List.getD_eq_getElem?_getD,List.getElem?_eq_getElem hj];exact List.getElem_mem _
theorem Inv.sw_tab {n:Nat} {ls:List Lk} {t:Nat} {W:Wd} {s:Nat} (h:Inv n ls t W) (hs:s<n):(Rul.wrong (W.sw.getD s Agt.sw0).rs).1=0∧(W.sw.getD s Agt.sw0).rs.length≤16:=by
 have h0:=h.sw_right hs
 have h1:(Rul.wrong (W.sw.getD s Agt.sw0).rs).1=0:=by
  unfold Agt.wrongS at h0
  split at h0
  ·rename_i h2;exact absurd h0 h2
  ·rename_i h2;simpa using h2
 exact⟨h1,(tab_iff.1 h1).1⟩
theorem Inv.sw_ver {n:Nat} {ls:List Lk} {t:Nat} {W:Wd} {s j:Nat} (h:Inv n ls t W) (hs:s<n) (hj:j<(W.sw.getD s Agt.sw0).rs.length):((W.sw.getD s Agt.sw0).rs.getD j (0,0,0)).1=W.co.now.v∨((W.sw.getD s Agt.sw0).rs.getD j (0,0,0)).1=W.co.nxt.v:=by
 have hm:(W.sw.getD s Agt.sw0).rs.getD j (0,0,0)∈(W.sw.getD s Agt.sw0).rs:=getD_mem hj
 exact(h.sw_mem hs hm).imp rls_ver rls_ver
theorem WoAt.sw_get {w:World} {W:Wd} {A:WA} {s:Nat} (h:WoAt w W A) (hs:s<W.sw.length):∃g off ro rc so sc,A.so=some ⟨g,off,none⟩∧g<w.heap.size∧w.cell? ⟨g,off+s*2,none⟩=some (.slice ro (W.sw.getD s Agt.sw0).rs.length rc)∧w.cell? ⟨g,off+s*2+1,none⟩=some (.slice so (W.sw.getD s Agt.sw0).st.length sc)∧Ag.SwAt w (W.sw.getD s Agt.sw0) ro so rc:=by
 rcases h.sw with h0 | ⟨g,off,h1,h2,h3⟩
 ·rw[h0] at hs;simp at hs
 ·obtain⟨ro,rc,so,sc,c0,c1,hx⟩:=h3 s hs
  exact⟨g,off,ro,rc,so,sc,h1,h2,c0,c1,hx⟩
end Go.Proofs.YtkfapjenckhmkaaGreatDoor.Rm
