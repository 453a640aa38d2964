/- What readList answers, for every text; nothing that was there is changed. -/
import Derived.Test.YtkfapjenckhmkaaGreatDoorRows
import Derived.Test.YtkfapjenckhmkaaGreatDoorTTe
import Derived.WalkKit
import Derived.WalkSpells
import Derived.WalkLawsBesides
import Derived.BigQuiet
import Derived.Deep.QuietTactic
import Derived.Deep.LoopGhost
import Derived.Deep.OwnRows
import Derived.Deep.RegionWith
import Derived.Test.YtkfapjenckhmkaaGreatDoorSh3
namespace Go.Proofs.YtkfapjenckhmkaaGreatDoor.Zg
open Go.RowKit Stz
def Ext (w w':World):Prop:=Below w.heap.size w w'
theorem Ext.refl (w:World):Ext w w:=Below.refl _ _
theorem Ext.trans {a b c:World} (h:Ext a b) (k:Ext b c):Ext a c:=Below.trans h (Below.mono k (Below.size h))
theorem Ext.alloc {a b:World} (h:Ext a b) (o:Obj):Ext a (b.alloc o):=Below.alloc h (Below.size h) o
theorem Ext.setCell {a b:World} (h:Ext a b) {p:Addr} (hp:a.heap.size≤p.block) (u:Value):Ext a (b.setCell p u):=Below.setCell h hp u
theorem Ext.drew {a b:World} (h:Ext a b):Ext a b.drew:=Below.drew h
theorem Ext.drewN {a b:World} (h:Ext a b) (n:Nat):Ext a (b.drewN n):=below_drewN h n
theorem Ext.size {a b:World} (h:Ext a b):a.heap.size≤b.heap.size:=Below.size h
theorem Ext.cells {W w1:World} (hb:Ext W w1):(∀b o,b<W.heap.size→w1.cell? ⟨b,o,none⟩=W.cell? ⟨b,o,none⟩)∧(∀b o,b<W.heap.size→w1.frozen? ⟨b,o,none⟩=W.frozen? ⟨b,o,none⟩):=
 ⟨fun b o h=>Below.cell hb (p:=⟨b,o,none⟩) h,fun b o h=>Below.frozen hb (p:=⟨b,o,none⟩) h⟩
def IntsAt (w:World) (b off:Nat) (ps:List Int):Prop:=∀k,k<ps.length→w.cell? ⟨b,off+k,none⟩=some (.int .i64 (ps.getD k 0))
def ListAt (w:World) (ao:Option Addr) (ps:List Int):Prop:=ps=[]∨∃b off,ao=some ⟨b,off,none⟩∧b<w.heap.size∧IntsAt w b off ps
theorem ListAt.ext {w w':World} {ao:Option Addr} {ps:List Int} (h:ListAt w ao ps) (k:Ext w w'):ListAt w' ao ps:=by
 rcases h with h | ⟨b,off,h1,h2,h3⟩
 ·exact Or.inl h
 ·exact Or.inr ⟨b,off,h1,Nat.lt_of_lt_of_le h2 k.size,fun i hi=>(k.cells.1 _ _ h2).trans (h3 i hi)⟩
theorem list_of_own {w:World} {base g n cap:Nat} {L:List Int} (h:w.ownsRow base 3 1 (.slice (some ⟨g,0,none⟩) n cap) n (L.map (Value.int .i64))):ListAt w (some ⟨g,0,none⟩) L∧L.length=n:=by
 have hl:L.length=n:=by have:=h.1;simp at this;omega
 refine⟨Or.inr ⟨g,0,rfl,(h.lt g rfl).2,fun k hk=>?_⟩,hl⟩
 rw[Nat.zero_add,h.cellAt k (by omega),List.getElem?_map,List.getElem?_eq_getElem hk]
 simp[List.getD_eq_getElem?_getD,hk]
theorem cell_at {W:World} {n:Nat} (h:W.heap.size=n) (v:Value) (T:TypeId):(W.alloc (.cells #[v] T)).cell? ⟨n,0,none⟩=some v:=by subst h;simp
theorem Tryz.info3:(Tryz.prog.info? 3).map (fun i=>(i.zero,i.size,i.bytes))=some (some (.int .i64 0),1,8):=by kernel_rfl
def I64 (a:Int):Prop:=(Lit.int .i64 a).wf=true
theorem i64_small {a:Int} (h0: -1000000≤a) (h1:a≤1000000):I64 a:=WalkArith.wf_i64 (by omega)
theorem hid {p:Prop} (h:p):Hid p:=h
def FV (w:World) (xs:List Int) (v:Value):Prop:=∃o c,v=.slice o xs.length c∧ListAt w o xs∧xs.length≤c
theorem FV.ext {w w':World} {xs:List Int} {v:Value} (h:FV w xs v) (k:Ext w w'):FV w' xs v:=by
 obtain⟨o,c,h1,h2,h3⟩:=h
 exact⟨o,c,h1,h2.ext k,h3⟩
end Go.Proofs.YtkfapjenckhmkaaGreatDoor.Zg
namespace Go.Proofs.YtkfapjenckhmkaaGreatDoor.Zg
open Go.RowKit Stz
theorem num_bad {l:Bs} (h:badNum l=true):num l=none:=by simp[num,h]
theorem num_nodig {l:Bs} (h:l.all dig=false):num l=none:=by simp[num,h]
theorem num_good {l:Bs} (h:badNum l=false) (hd:l.all dig=true):num l=some (dval 0 l:Nat):=by simp[num,h,hd]
theorem byte_at {s:ByteArray} {k:Nat} (h:k<s.size):s.data.toList[k]? =some s[k]:=by
 have:s[k]=s.data[k]:=rfl
 rw[this]
 simp[Array.getElem?_toList]
theorem take_snoc {l:Bs} {k:Nat} {c:UInt8} (h:l[k]? =some c):l.take (k+1)=l.take k++[c]:=by rw[List.take_add_one,h];rfl
set_option maxHeartbeats 1000000 in
theorem readNumber_any (s:ByteArray) (w:World) (hs:s.size≤1000000):
 Calls Tryz.prog 24 #[.string s] w fun e w'=>e=.returned (.tuple #[.int .i64 (numV s.data.toList),.bool (num s.data.toList).isSome])∧w'=w:=by
 have hl:s.data.toList.length=s.size:=(Lib.size_eq s).symm
 by_cases h0:badNum s.data.toList=true
 ·have hn:=num_bad h0
  have e1:numV s.data.toList=0:=by simp[numV,hn]
  have e2:(num s.data.toList).isSome=false:=by simp[hn]
  rw[e1,e2]
  simp only[badNum,hl,decide_eq_true_eq] at h0
  generalize hq:s.data.toList.head? =q at h0
  clear hn e1 e2
  have h0':s.size<1∨(¬s.size<1∧4<s.size)∨(1<s.size∧¬4<s.size∧q=some 48):=by
   by_cases k1:s.size<1
   ·exact Or.inl k1
   ·by_cases k2:4<s.size
    ·exact Or.inr (Or.inl ⟨k1,k2⟩)
    ·rcases h0 with h | h | h
     ·exact absurd h k1
     ·exact absurd h k2
     ·exact Or.inr (Or.inr ⟨h.1,k2,h.2⟩)
  rcases h0' with h | ⟨h,h'⟩ | ⟨h,h',h''⟩
  ·clear h0 hq
   go_enter Tryz.func24,Tryz.ntmps24
   go_wp2
   all_goals go_ret2
   all_goals exact⟨rfl,rfl⟩
  ·clear h0 hq
   go_enter Tryz.func24,Tryz.ntmps24
   go_wp2
   all_goals go_ret2
   all_goals exact⟨rfl,rfl⟩
  ·have hb:s[0].toNat=48:=by
    have:=byte_at (s:=s) (k:=0) (by omega)
    rw[←List.head?_eq_getElem?,hq,h''] at this
    injection this with this
    rw[←this];rfl
   clear h0 h'' hq
   go_enter Tryz.func24,Tryz.ntmps24
   go_wp2
   all_goals go_ret2
   all_goals exact⟨rfl,rfl⟩
 ·have hgood:badNum s.data.toList=false:=by simpa using h0
  simp only[badNum,hl,decide_eq_true_eq] at h0
  have h1:¬s.size<1:=by omega
  have h2:¬4<s.size:=by omega
  have h3:∀h:1<s.size,((s[0]'(Nat.lt_trans Nat.zero_lt_one h)).toNat:Int)≠48:=by
   intro h e
   have:=byte_at (s:=s) (k:=0) (by omega)
   rw[←List.head?_eq_getElem?] at this
   refine h0 (Or.inr (Or.inr ⟨h,?_⟩))
   rw[this]
   congr 1
   exact UInt8.toNat_inj.1 (by simpa using(by omega:s[0].toNat=48))
  have HG:=hid hgood
  clear h0 hgood
  rcases(show(∃h4:1<s.size,((s[0].toNat:Int) == 48)=false)∨¬1<s.size by
   by_cases h4:1<s.size
   ·exact Or.inl ⟨h4,by simpa using h3 h4⟩
   ·exact Or.inr h4) with⟨h4,h5⟩ | h4
  all_goals
   clear h3
   go_enter Tryz.func24,Tryz.ntmps24
   go_wp2
   go_loopw [4,26] (fun xv iv wr=>∃k:Nat,k≤s.size∧iv=.int .i64 k∧xv=.int .i64 (dval 0 (s.data.toList.take k):Nat)∧(s.data.toList.take k).all dig=true∧wr=w) (fun _ iv _=>s.size - (intOf iv).toNat)
   case atStart=>exact⟨0,Nat.zero_le _,rfl,rfl,rfl,rfl⟩
   case round=>
    obtain⟨k,hk,rfl,rfl,hall,rfl⟩:=hrel
    by_cases hlt:k<s.size
    ·have hb:=byte_at hlt
     have hx:=dval_lt _ 0 hall
     have hp:10 ^ (s.data.toList.take k).length≤10 ^ 3:=Nat.pow_le_pow_right (by omega) (by rw[List.length_take];omega)
     have hc:=(s[k]).toNat_lt
     generalize hcc:s[k]=c at hb hc
     generalize hxx:dval 0 (s.data.toList.take k)=x at hx
     have HA:=hid hall
     have HB:=hid hb
     have HX:=hid hxx
     have hx2:x<1000:=by omega
     clear hall hb hxx hx hp
     have i1:(k:Int)<(s.size:Int):=by omega
     by_cases hd:dig c=true
     ·have hd':48≤c.toNat∧c.toNat≤57:=of_decide_eq_true hd
      have d1:¬((c.toNat:Int)<48):=by omega
      have d2:¬(57<(c.toNat:Int)):=by omega
      go_wp2
      refine⟨⟨k+1,by omega,by go_num,?_,?_,trivial⟩,by simp[intOf];omega⟩
      ·rw[take_snoc HB.out,dval_snoc,HX.out]
       congr 1
       unfold dstep
       omega
      ·rw[take_snoc HB.out,List.all_append,HA.out]
       simpa using hd
     ·have hnd:s.data.toList.all dig=false:=by
       rw[List.all_eq_false]
       exact⟨c,List.mem_of_getElem? HB.out,hd⟩
      have hn:=num_nodig hnd
      have e1:numV s.data.toList=0:=by simp[numV,hn]
      have e2:(num s.data.toList).isSome=false:=by simp[hn]
      have E1:=hid e1
      have E2:=hid e2
      have hd':¬(48≤c.toNat∧c.toNat≤57):=fun h=>hd (decide_eq_true h)
      clear hn e1 e2 hnd
      by_cases d1:(c.toNat:Int)<48
      ·go_wp2
       go_ret2
       exact⟨by rw[E1.out,E2.out];rfl,rfl⟩
      ·have d2:57<(c.toNat:Int):=by omega
       go_wp2
       go_ret2
       exact⟨by rw[E1.out,E2.out];rfl,rfl⟩
    ·have hks:s.data.toList.take k=s.data.toList:=List.take_of_length_le (by omega)
     rw[hks] at hall ⊢
     have hn:=num_good HG.out hall
     have e1:numV s.data.toList=(dval 0 s.data.toList:Nat):=by simp[numV,hn]
     have e2:(num s.data.toList).isSome=true:=by simp[hn]
     have E1:=hid e1
     have E2:=hid e2
     clear hn e1 e2 hks hall
     go_wp2
     go_ret2
     exact⟨by rw[E1.out,E2.out];rfl,rfl⟩
end Go.Proofs.YtkfapjenckhmkaaGreatDoor.Zg
namespace Go.Proofs.YtkfapjenckhmkaaGreatDoor.Zg
open Go.RowKit Stz
theorem cell_lt {w:World} {a:Addr} {v:Value} (h:w.cell? a=some v):a.block<w.heap.size:=by
 rcases Nat.lt_or_ge a.block w.heap.size with h1 | h1
 ·exact h1
 ·have:w.heap[a.block]? =none:=by simp[h1]
  simp[World.cell?,this] at h
def MaxAt (w:World):Prop:=∃m,w.cell? ⟨Tryz.lays145_ren.g 1,0,none⟩=some (.int .i64 m)
theorem MaxAt.ext {w w':World} (h:MaxAt w) (k:Ext w w'):MaxAt w':=by
 obtain⟨m,hm⟩:=h
 exact⟨m,(k.cells.1 _ _ (cell_lt hm)).trans hm⟩
theorem split_parts (s:ByteArray) (w:World) (hs:s.size≤1000000) (hm:MaxAt w):
 Calls Tryz.prog 39 #[.string s,.string ⟨#[44]⟩] w fun e w'=>∃(b n:Nat) (P:List ByteArray),e=.returned (.slice (some ⟨b,0,none⟩) n n)∧P.length=n∧P.map (·.data.toList)=sp s.data.toList∧b<w'.heap.size∧
  (∀i (h:i<P.length),w'.cell? ⟨b,i,none⟩=some (.string P[i]))∧Ext w w':=by
 obtain⟨m,hm⟩:=hm
 refine(Tryz.split_any s ⟨#[44]⟩ m w (by omega) hm (by decide)).mono ?_
 rintro e w' ⟨rfl,rfl⟩
 have hd:=Lib.splitB_data ⟨#[44]⟩ 0 (Lib.countB s ⟨#[44]⟩) s
 have hc:Lib.countB s ⟨#[44]⟩=Lib.count s.data.toList [44]:=rfl
 refine⟨w.heap.size,_,Lib.splitB ⟨#[44]⟩ 0 (Lib.countB s ⟨#[44]⟩) s,rfl,Lib.splitB_all _ (by decide) 0 _ _ rfl,?_,by simp,fun i h=>?_,(Ext.refl w).alloc _⟩
 ·rw[hd,hc];exact split_sp _
 ·simp[h]
end Go.Proofs.YtkfapjenckhmkaaGreatDoor.Zg
namespace Go.Proofs.YtkfapjenckhmkaaGreatDoor.Zg
open Go.RowKit Stz
theorem parts_take {P:List ByteArray} {L:List Bs} (h:P.map (·.data.toList)=L) {k:Nat} (hk:k<P.length):L.take (k+1)=L.take k++[P[k].data.toList]:=by
 subst h
 rw[List.take_add_one,List.getElem?_map,List.getElem?_eq_getElem hk];rfl
theorem parts_mem {P:List ByteArray} {L:List Bs} (h:P.map (·.data.toList)=L) {k:Nat} (hk:k<P.length):P[k].data.toList∈L:=by
 subst h;exact List.mem_map.2 ⟨_,List.getElem_mem hk,rfl⟩
def IB (w:World) (b:Nat):Prop:=∃c z,w.heap[b]? =some (.cells c 3 z)
theorem IB.lt {w:World} {b:Nat} (h:IB w b):b<w.heap.size:=by
 obtain⟨c,z,h⟩:=h
 exact(Array.getElem?_eq_some_iff.1 h).1
theorem IB.ext {w w':World} {b:Nat} (h:IB w b) (k:Ext w w'):IB w' b:=by
 have hl:=h.lt
 obtain⟨c,z,h⟩:=h
 exact⟨c,z,(Below.block k b hl).trans h⟩
theorem IB.setCell {w:World} {b:Nat} (h:IB w b) {p:Addr} (hp:p.block≠b) (u:Value):IB (w.setCell p u) b:=by
 obtain⟨c,z,h⟩:=h
 refine⟨c,z,?_⟩
 rw[←h]
 simp[World.setCell,Array.getElem?_modify,hp]
def LB (B:Nat) (w:World) (xs:List Int) (v:Value):Prop:=∃o c,v=.slice o xs.length c∧xs.length≤c∧(xs=[]∨∃b,o=some ⟨b,0,none⟩∧B≤b∧IB w b∧IntsAt w b 0 xs)
theorem LB.fv {B:Nat} {w:World} {xs:List Int} {v:Value} (h:LB B w xs v):FV w xs v:=by
 obtain⟨o,c,h1,h2,h3⟩:=h
 refine⟨o,c,h1,?_,h2⟩
 rcases h3 with h3 | ⟨b,h4,_,h6,h7⟩
 ·exact Or.inl h3
 ·exact Or.inr ⟨b,0,h4,h6.lt,h7⟩
theorem LB.ext {B:Nat} {w w':World} {xs:List Int} {v:Value} (h:LB B w xs v) (k:Ext w w'):LB B w' xs v:=by
 obtain⟨o,c,h1,h2,h3⟩:=h
 refine⟨o,c,h1,h2,?_⟩
 rcases h3 with h3 | ⟨b,h4,h5,h6,h7⟩
 ·exact Or.inl h3
 ·exact Or.inr ⟨b,h4,h5,h6.ext k,fun i hi=>(k.cells.1 _ _ h6.lt).trans (h7 i hi)⟩
theorem LB.setCell {B:Nat} {w:World} {xs:List Int} {v:Value} (h:LB B w xs v) {p:Addr} (hp:p.block<B) (u:Value):LB B (w.setCell p u) xs v:=by
 obtain⟨o,c,h1,h2,h3⟩:=h
 refine⟨o,c,h1,h2,?_⟩
 rcases h3 with h3 | ⟨b,h4,h5,h6,h7⟩
 ·exact Or.inl h3
 ·refine Or.inr ⟨b,h4,h5,h6.setCell (by omega) _,fun i hi=>(show(w.setCell p u).cell? ⟨b,0+i,none⟩=w.cell? ⟨b,0+i,none⟩ from by rw[World.cell?_setCell_other];intro e;rw[e] at hp;simp at hp;omega).trans (h7 i hi)⟩
theorem LB.grown {B:Nat} {w w':World} {xs:List Int} {v:Value} (h:LB B w xs v) {g:Option Nat} (hg:w.grownBy w' g) (hne:∀b,g=some b→¬IB w b):LB B w' xs v:=by
 obtain⟨o,c,h1,h2,h3⟩:=h
 refine⟨o,c,h1,h2,?_⟩
 rcases h3 with h3 | ⟨b,h4,h5,h6,h7⟩
 ·exact Or.inl h3
 ·have hb:w'.heap[b]? =w.heap[b]?:=hg.block b h6.lt (fun e=>hne b e.symm h6)
  obtain⟨cs,z,h8⟩:=h6
  refine Or.inr ⟨b,h4,h5,⟨cs,z,hb.trans h8⟩,fun i hi=>?_⟩
  rw[←h7 i hi]
  simp only[World.cell?,hb]
theorem LB.mono {B B':Nat} {w:World} {xs:List Int} {v:Value} (h:LB B w xs v) (k:B'≤B):LB B' w xs v:=by
 obtain⟨o,c,h1,h2,h3⟩:=h
 refine⟨o,c,h1,h2,?_⟩
 rcases h3 with h3 | ⟨b,h4,h5,h6,h7⟩
 ·exact Or.inl h3
 ·exact Or.inr ⟨b,h4,by omega,h6,h7⟩
theorem lb_of_own {w:World} {B base g n cap:Nat} {L:List Int} (h:w.ownsRow base 3 1 (.slice (some ⟨g,0,none⟩) n cap) n (L.map (Value.int .i64))) (hB:B≤base) (hL:L.length=n) (hc:n≤cap):LB B w L (.slice (some ⟨g,0,none⟩) n cap):=by
 have hib:IB w g:=by
  rcases h.2 with⟨hnil,_⟩ | ⟨g',cap',cur,hv,hbase,hb,_⟩
  ·cases hnil
  ·cases hv
   exact⟨cur,_,hb⟩
 refine⟨_,_,by rw[hL],by omega,Or.inr ⟨g,rfl,by have:=(h.lt g rfl).1;omega,hib,fun k hk=>?_⟩⟩
 rw[Nat.zero_add,h.cellAt k (by omega),List.getElem?_map,List.getElem?_eq_getElem hk]
 simp[List.getD_eq_getElem?_getD,hk]
set_option maxHeartbeats 1000000 in
theorem readList_not (s:ByteArray) (w:World):
 Calls Tryz.prog 25 #[.string s,.bool false] w fun e w'=>e=.returned (.tuple #[.slice none 0 0,.bool true])∧w'=w:=by
 go_enter Tryz.func25,Tryz.ntmps25
 go_wp2
 go_ret2
 exact⟨rfl,rfl⟩
set_option maxHeartbeats 1000000 in
theorem readList_yes (s:ByteArray) (w:World) (hs:s.size≤1000000) (hm:MaxAt w):
 Calls Tryz.prog 25 #[.string s,.bool true] w fun e w'=>Ext w w'∧∃v,e=.returned (.tuple #[v,.bool (nums (sp s.data.toList)).isSome])∧LB w.heap.size w' ((nums (sp s.data.toList)).getD []) v:=by
 obtain⟨i3,hi3,hz0,hz1,hz2⟩:=info_parts Tryz.info3
 go_enter Tryz.func25,Tryz.ntmps25
 go_wp2_with (go_at_call 39;refine(split_parts s _ hs hm).mono ?_;rintro e w1 ⟨b,n,P,rfl,hn,hP,hb,hcell,hE⟩)
 have hlen:n≤1000001:=by
  have h1:=sp_count s.data.toList
  rw[←hP,List.length_map,hn] at h1
  have h2:=(Lib.size_eq s).symm
  omega
 have hpl:∀k (h:k<P.length),P[k].size≤1000000:=fun k h=>by
  have h1:=sp_len (parts_mem hP h)
  have h2:=Lib.size_eq s
  have h3:=Lib.size_eq P[k]
  omega
 have HP:=hid hP
 have HPL:=hid hpl
 have HC:=hid hcell
 clear hP hpl hcell
 go_loopw [6,16] (fun v iv wr=>∃(k:Nat) (xs:List Int),k≤n∧iv=.int .i64 k∧nums ((sp s.data.toList).take k)=some xs∧xs.length=k∧wr.ownsRow w1.heap.size 3 1 v k (xs.map (Value.int .i64))∧Ext w1 wr) (fun _ iv _=>n - (intOf iv).toNat)
 case atStart=>exact⟨0,[],Nat.zero_le _,rfl,rfl,rfl,World.ownsRow_nil _ _ _ _,Ext.refl _⟩
 case round=>
  obtain⟨k,xs,hk,rfl,hxs,hxl,hown,hext⟩:=hrel
  by_cases hlt:k<n
  ·have hlt':k<P.length:=by omega
   have ce:=(hext.cells.1 _ _ hb).trans (HC.out k hlt')
   have hps:=HPL.out k hlt'
   have ht:=parts_take HP.out hlt'
   have hmem:=parts_mem HP.out hlt'
   have hbr:b<wr.heap.size:=by have:=hext.size;omega
   generalize P[k]=p at ce hps ht hmem
   have HT:=hid ht
   have HM:=hid hmem
   have HX:=hid hxs
   clear ht hmem hxs
   cases hnp:num p.data.toList with
   | none=>
    have HN:=hid hnp
    have e1:numV p.data.toList=0:=by simp[numV,hnp]
    clear hnp
    go_wp2_with (go_at_call 24;refine(readNumber_any p _ hps).mono ?_;rintro e w2 ⟨rfl,rfl⟩;rw[e1,HN.out])
    go_ret2
    have hz:=nums_none HN.out HM.out
    exact⟨hE.trans hext,_,by rw[hz];rfl,none,0,by rw[hz];rfl,by rw[hz];simp,Or.inl (by rw[hz];rfl)⟩
   | some x=>
    have HN:=hid (nums_snoc hnp HX.out)
    have e1:numV p.data.toList=x:=by simp[numV,hnp]
    have E2:=hid hnp
    clear hnp
    go_wp2_with (first | (go_at_call 24;refine(readNumber_any p _ hps).mono ?_;rintro e w2 ⟨rfl,rfl⟩;rw[e1,E2.out]) | (at_builtin;refine wpList_append_own _ rfl _ _ 41 rfl w1.heap.size 3 i3 (.int .i64 0) 1 8 Tryz.underlying41 hi3 hz0 hz1 hz2 rfl (by decide) _ _ _ rfl (hown.alloc _) ⟨w2.heap.size,0,none⟩ 1 1 [.int .i64 x] rfl rfl ?c1 ?c2 ?c3 ?c4 ?c5 ?_) | go_in)
    case c1=>
     intro i u hu
     match i,hu with
     | 0,hu=>simp at hu;subst hu;exact cell_at rfl _ _
    case c2=>intro u hu;simp at hu;subst hu;rfl
    case c3=>unfold maxLen;omega
    case c4=>omega
    case c5=>have:=hext.size;simp;omega
    ·intro v' w5 hown5 hg5 _
     clear ce
     go_wp2
     go_roundw
     case rel=>
      refine⟨k+1,xs++[x],by omega,by go_num,by rw[HT.out];exact HN.out,by simp[hxl],by rw[List.map_append];simpa using hown5,?_⟩
      exact Below.grown ((hext).alloc _) hg5 (by have:=hext.size;simp;omega) (fun j hj=>(hown.lt j hj).1)
     case measure=>simp[intOf];omega
  ·have hkn:k=n:=by omega
   have hall:(sp s.data.toList).take k=sp s.data.toList:=List.take_of_length_le (by rw[←HP.out,List.length_map];omega)
   rw[hall] at hxs
   have HX:=hid hxs
   clear hxs hall
   have hq:=hown.2
   rcases hq with⟨rfl,hl0⟩ | ⟨g,gc,cur,rfl,_,_,hcap,_⟩
   ·have he0:xs=[]:=List.eq_nil_of_length_eq_zero (by omega)
    subst he0
    go_wp2
    go_ret2
    exact⟨hE.trans hext,_,by rw[HX.out];rfl,none,0,by rw[HX.out];rfl,by rw[HX.out];simp,Or.inl (by rw[HX.out];rfl)⟩
   ·have hlo:=lb_of_own hown hE.size hxl (by omega)
    go_wp2
    go_ret2
    exact⟨hE.trans hext,_,by rw[HX.out];rfl,by rw[HX.out];exact hlo⟩
theorem readList_any (s:ByteArray) (there:Bool) (w:World) (hs:s.size≤1000000) (hm:MaxAt w):
 Calls Tryz.prog 25 #[.string s,.bool there] w fun e w'=>Ext w w'∧∃v,e=.returned (.tuple #[v,.bool (lst there s.data.toList).isSome])∧LB w.heap.size w' ((lst there s.data.toList).getD []) v:=by
 cases there
 ·refine(readList_not s w).mono ?_
  rintro e w' ⟨rfl,rfl⟩
  exact⟨Ext.refl _,_,rfl,none,0,rfl,Nat.le_refl _,Or.inl rfl⟩
 ·exact readList_yes s w hs hm
end Go.Proofs.YtkfapjenckhmkaaGreatDoor.Zg
