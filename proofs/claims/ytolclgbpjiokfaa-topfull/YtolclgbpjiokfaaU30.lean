/- What Compact answers for a row of rules of one's own. -/
import Derived.Test.YtolclgbpjiokfaaU29
import Derived.Test.YtolclgbpjiokfaaU08
import Derived.Test.YtolclgbpjiokfaaU28
import Derived.Deep.AppendLies
import Derived.Laws.AppendOwnNone
import Derived.Lib.AppendZerosOnto
import Derived.Lib.Walk
import Derived.Lib.SliceRun
namespace Go.Proofs.Ytolclgbpjiokfaa.Tb
open Go.RowKit Go.Deep Rul Go.Sort
structure Kp (w wr:World) (b N n:Nat) (d dk:Array Ru):Prop where
 size:dk.size=d.size
 same:Sm (seg dk 0 n) (seg d 0 n)
 row:RW wr b N dk
 grown:w.grownBy wr (some b)
theorem Kp.step {w wr w1:World} {b N n a c:Nat} {d dk d1:Array Ru} (h:Kp w wr b N n d dk) (m:Mrg a c dk d1) (hac:a≤c) (hcn:c≤n) (r:RW w1 b N d1) (g:wr.grownBy w1 (some b)):Kp w w1 b N n d d1:=
 ⟨m.1.1.trans h.size,(m.whole hac hcn).trans h.same,r,Gb.trans h.grown g⟩
theorem ins_n (b N cap a c n:Nat) (d:Array Ru) (w:World) (hn:d.size=n) (h:RW w b N d) (hac:a≤c) (hcn:c≤n) (hsz:n≤1152921504606846976):
 Calls Try.prog 123 #[.slice (some ⟨b,0,none⟩) n cap,.int .i64 a,.int .i64 c,CB] w fun e w'=>e=.returned (.tuple #[])∧∃d',Mrg a c d d'∧RW w' b N d'∧w.grownBy w' (some b):=by
 subst hn;exact ins_any b N cap a c d w h hac hcn hsz
theorem sym_n (b N cap a m c n:Nat) (d:Array Ru) (w:World) (hn:d.size=n) (h:RW w b N d) (ham:a<m) (hmc:m<c) (hcn:c≤n) (hsz:n≤1152921504606846976) (sX:SortedIn lt a m d) (sY:SortedIn lt m c d):
 Calls Try.prog 124 #[.slice (some ⟨b,0,none⟩) n cap,.int .i64 a,.int .i64 m,.int .i64 c,CB] w fun e w'=>e=.returned (.tuple #[])∧∃d',Mrg a c d d'∧RW w' b N d'∧w.grownBy w' (some b):=by
 subst hn;exact sym_all b N cap _ a m c d w (Nat.le_refl _) h ham hmc hcn hsz sX sY
set_option maxRecDepth 100000 in
set_option maxHeartbeats 1600000 in
theorem stable_any (b N cap:Nat) (d:Array Ru) (w:World) (h:RW w b N d) (hsz:d.size≤1152921504606846976):
 Calls Try.prog 121 #[.slice (some ⟨b,0,none⟩) d.size cap,.int .i64 d.size,CB] w fun e w'=>e=.returned (.tuple #[])∧∃d',SortedIn lt 0 d.size d'∧Kp w w' b N d.size d d':=by
 obtain⟨n,hn1,hn2⟩:∃n,n≤d.size∧d.size≤n:=⟨d.size,Nat.le_refl _,Nat.le_refl _⟩
 have hn:d.size=n:=by omega
 have HN:Hid (d.size=n):=hn
 rw[hn]
 have K0:Kp w w b N n d d:=⟨rfl,Sm.refl _,h,Gb.refl _ _⟩
 clear hn
 go_enter Try.func121,Try.ntmps121
 go_wp2
 go_loopw [7,8] (fun av bv wr=>∃(a:Nat) (dk:Array Ru),a≤n∧av=.int .i64 a∧bv=.int .i64 ((a+20:Nat):Int)∧Hid (B0 20 a dk)∧Kp w wr b N n d dk) (fun av _ _=>n - (intOf av).toNat)
 case atStart=>exact⟨0,d,Nat.zero_le _,rfl,rfl,B0.start _ _,K0⟩
 case round=>
  obtain⟨a,dk,h1,rfl,rfl,HB,hk⟩:=hrel
  have hdk:=hk.size
  by_cases hlt:a+20≤n
  ·have i1:((a+20:Nat):Int)≤(n:Int):=by omega
   go_wp2_with fail
   refine(ins_n b N cap a (a+20) n dk _ (hdk.trans HN.out) hk.row (by omega) hlt (by omega)).mono ?_
   rintro _ w1 ⟨rfl,d1,m1,r1,g1⟩
   have K1:=hk.step m1 (by omega) hlt r1 g1
   have HB1:Hid (B0 20 (a+20) d1):=HB.out.step m1
   clear hk m1 r1 g1 K0 h
   go_wp2
   exact⟨⟨a+20,d1,hlt,by go_num,by go_num,HB1,K1⟩,by simp[intOf];omega⟩
  ·have i1:¬((a+20:Nat):Int)≤(n:Int):=by omega
   go_wp2_with fail
   refine(ins_n b N cap a n n dk _ (hdk.trans HN.out) hk.row h1 (Nat.le_refl _) (by omega)).mono ?_
   rintro _ w1 ⟨rfl,d1,m1,r1,g1⟩
   have K1:=hk.step m1 h1 (Nat.le_refl _) r1 g1
   have HB1:Hid (Bl 20 n d1):=HB.out.fin h1 (by omega) m1
   clear hk m1 r1 g1 K0 h hdk
   go_wp2
   go_loopw [6] (fun cv wr=>∃(c:Nat) (dk:Array Ru),20≤c∧c≤4611686018427387904∧cv=.int .i64 c∧Hid (Bl c n dk)∧Kp w wr b N n d dk) (fun cv _=>n - (intOf cv).toNat)
   case atStart=>exact⟨20,d1,Nat.le_refl _,by omega,rfl,HB1,K1⟩
   case round=>
    clear K1 HB1
    obtain⟨c,dk,c1,c2,rfl,HB1,hk⟩:=hrel
    by_cases hcn:c<n
    ·have i2:(c:Int)<(n:Int):=by omega
     have HB2:Hid (Bm c n 0 dk):=HB1.out.start
     go_wp2
     go_loopw [7,8] (fun av bv wr=>∃(a:Nat) (dk:Array Ru),a≤n∧av=.int .i64 a∧bv=.int .i64 ((a+2*c:Nat):Int)∧Hid (Bm c n a dk)∧Kp w wr b N n d dk) (fun av _ _=>n - (intOf av).toNat)
     case atStart=>exact⟨0,dk,Nat.zero_le _,rfl,by go_num,HB2,hk⟩
     case round=>
      clear hk HB2 HB1
      obtain⟨a,dk,a1,rfl,rfl,HB2,hk⟩:=hrel
      have hdk:=hk.size
      by_cases hac:a+2*c≤n
      ·have i3:((a+2*c:Nat):Int)≤(n:Int):=by omega
       have s1:=HB2.out.one (by omega)
       have s2:=HB2.out.two
       rw[Nat.min_eq_left hac] at s2
       have HS:Hid _:=And.intro s1 s2
       clear s1 s2
       have e1:IntKind.i64.wrap ((a:Int)+c)=((a+c:Nat):Int):=by rw[IntKind.wrap_i64];omega
       go_wp2_with fail
       refine(sym_n b N cap a (a+c) (a+2*c) n dk _ (hdk.trans HN.out) hk.row (by omega) (by omega) hac (by omega) HS.out.1 HS.out.2).mono ?_
       rintro _ w2 ⟨rfl,d2,m2,r2,g2⟩
       have K2:=hk.step m2 (by omega) hac r2 g2
       have HB3:Hid (Bm c n (a+2*c) d2):=HB2.out.step hac m2
       clear hk m2 r2 g2 HS HB2
       go_wp2
       exact⟨⟨a+2*c,d2,hac,by go_num,by go_num,HB3,K2⟩,by simp[intOf];omega⟩
      ·have i3:¬((a+2*c:Nat):Int)≤(n:Int):=by omega
       have e1:IntKind.i64.wrap ((a:Int)+c)=((a+c:Nat):Int):=by rw[IntKind.wrap_i64];omega
       by_cases ham:a+c<n
       ·have i4:((a+c:Nat):Int)<(n:Int):=by omega
        have s1:=HB2.out.one (by omega)
        have s2:=HB2.out.two
        rw[Nat.min_eq_right (by omega)] at s2
        have HS:Hid _:=And.intro s1 s2
        clear s1 s2
        go_wp2_with fail
        refine(sym_n b N cap a (a+c) n n dk _ (hdk.trans HN.out) hk.row (by omega) ham (Nat.le_refl _) (by omega) HS.out.1 HS.out.2).mono ?_
        rintro _ w2 ⟨rfl,d2,m2,r2,g2⟩
        have K2:=hk.step m2 (by omega) (Nat.le_refl _) r2 g2
        have HB3:Hid (Bl (2*c) n d2):=HB2.out.fin (by omega) m2
        clear hk m2 r2 g2 HS HB2
        go_wp2
        exact⟨⟨2*c,d2,by omega,by omega,by go_num,HB3,K2⟩,by simp[intOf];omega⟩
       ·have i4:¬((a+c:Nat):Int)<(n:Int):=by omega
        have HB3:Hid (Bl (2*c) n dk):=HB2.out.fin' (by omega) (by omega)
        go_wp2
        exact⟨⟨2*c,dk,by omega,by omega,by go_num,HB3,hk⟩,by simp[intOf];omega⟩
    ·have i2:¬(c:Int)<(n:Int):=by omega
     go_wp2
     go_end0
     have hn:d.size=n:=HN.out
     exact⟨rfl,dk,HB1.out.all (by omega),hk⟩
set_option maxHeartbeats 800000 in
theorem SortStable_any (b N cap n:Nat) (d:Array Ru) (w:World) (hn:d.size=n) (h:RW w b N d) (hsz:n≤1152921504606846976):
 Calls Try.prog 115 #[.slice (some ⟨b,0,none⟩) n cap,CB] w fun e w'=>e=.returned (.tuple #[])∧∃d',d'.toList=sst d.toList∧RW w' b N d'∧w.grownBy w' (some b):=by
 subst hn
 go_enter Try.func115,Try.ntmps115
 go_wp2_with fail
 refine(stable_any b N cap d _ h hsz).mono ?_
 rintro _ w1 ⟨rfl,d1,s1,k1⟩
 go_wp2
 go_end0
 refine⟨rfl,d1,sst_of ?_ ?_,k1.row,k1.grown⟩
 ·rw[←seg_all,k1.size,srt_seg];exact s1
 ·have:=k1.same
  rw[seg_all] at this
  rw[←seg_all d1,k1.size];exact this
end Go.Proofs.Ytolclgbpjiokfaa.Tb
namespace Go.Proofs.Ytolclgbpjiokfaa.Tb
open Go.RowKit Go.Deep Rul
set_option maxRecDepth 100000 in
set_option maxHeartbeats 800000 in
theorem SameRules_same (ao bo:Option Addr) (len ac bc:Nat) (rs:List Ru) (w:World) (hlen:rs.length=len) (ha:RsAt w ao rs) (hb:RsAt w bo rs) (hl:len≤4611686018427387904):
 Calls Try.prog 26 #[.slice ao len ac,.slice bo len bc] w fun e w'=>e=.returned (.bool true)∧Ext w w':=by
 go_enter Try.func26,Try.ntmps26
 go_wp2
 go_loopw [13] (fun iv wd=>∃k:Nat,k≤len∧iv=.int .i64 k∧Ext w wd) (fun iv _=>len - (intOf iv).toNat)
 case atStart=>exact⟨0,Nat.zero_le _,rfl,Ext.refl w⟩
 case round=>
  obtain⟨k,hk,rfl,hE⟩:=hrel
  by_cases hlt:k<len
  ·obtain⟨g,off,rfl,hg,hcs⟩:=(ha.ext hE).get (k:=k) (by omega)
   obtain⟨g',off',rfl,hg',hcs'⟩:=(hb.ext hE).get (k:=k) (by omega)
   have i1:(k:Int)<(len:Int):=by omega
   obtain⟨c0,c1,c2⟩:=hcs k (by omega)
   obtain⟨e0,e1,e2⟩:=hcs' k (by omega)
   obtain⟨r,hr⟩:∃r,rs.getD k r0=r:=⟨_,rfl⟩
   rw[hr] at c0 c1 c2 e0 e1 e2
   clear hr hcs hcs'
   go_wp2
   go_region
   go_wp2
   exact⟨⟨k+1,by omega,by go_num,hE.drew⟩,by simp[intOf];omega⟩
  ·have i1:¬(k:Int)<(len:Int):=by omega
   go_wp2
   go_ret
   exact⟨rfl,hE⟩
end Go.Proofs.Ytolclgbpjiokfaa.Tb
namespace Go.Proofs.Ytolclgbpjiokfaa.Tb
open Go.RowKit Go.Deep Rul Go.Sort
theorem drp_step {v:Int} {rs:List Ru} {k:Nat} (hk:k<rs.length):drp (rs.take (k+1)) v=if(rs.getD k r0).1=v then drp (rs.take k) v else drp (rs.take k) v++[rs.getD k r0]:=by
 have e:rs.getD k r0=rs[k]:=by simp[List.getD_eq_getElem?_getD,hk]
 rw[List.take_succ_eq_append_getElem hk,e,drp,List.filter_append]
 by_cases h:(rs[k]).1=v
 ·rw[if_pos h];simp[h,drp]
 ·rw[if_neg h];simp[h,drp]
theorem drp_le (rs:List Ru) (v:Int):(drp rs v).length≤rs.length:=List.length_filter_le _ _
set_option maxRecDepth 100000 in
set_option maxHeartbeats 800000 in
theorem Drop_any (ao:Option Addr) (len cap:Nat) (rs:List Ru) (v:Int) (w:World) (hlen:rs.length=len) (hf:RsAt w ao rs) (hl:len*24≤140737488351232):
 Calls Try.prog 106 #[.slice ao len cap,.int .i64 v] w fun e w'=>∃v',e=.returned v'∧RO w' w.heap.size v' (drp rs v)∧Ext w w':=by
 obtain⟨i3,hi3,hz0,hz1,hz2⟩:=infoR'
 go_enter Try.func106,Try.ntmps106
 go_wp2
 go_loopw [5,10] (fun ov iv wd=>∃k:Nat,k≤len∧iv=.int .i64 k∧Hid (RO wd w.heap.size ov (drp (rs.take k) v))∧Ext w wd) (fun _ iv _=>len - (intOf iv).toNat)
 case atStart=>exact⟨0,Nat.zero_le _,rfl,RO.nil _ _,Ext.refl w⟩
 case round=>
  obtain⟨k,hk,rfl,HO,hE⟩:=hrel
  by_cases hlt:k<len
  ·obtain⟨g,off,rfl,hg,hcs⟩:=(hf.ext hE).get (k:=k) (by omega)
   have i1:(k:Int)<(len:Int):=by omega
   have HST:Hid _:=drp_step (v:=v) (rs:=rs) (k:=k) (by omega)
   obtain⟨c0,c1,c2⟩:=hcs k (by omega)
   obtain⟨r,hr⟩:∃r,rs.getD k r0=r:=⟨_,rfl⟩
   rw[hr] at c0 c1 c2 HST
   clear hr hcs
   by_cases h1:r.1=v
   ·have HO2:Hid (RO (wr.alloc (.cells #[.int .i64 r.1,.int .i64 r.2.1,.int .i64 r.2.2] 63)) w.heap.size u5 (drp (rs.take (k+1)) v)):=by
     show RO _ _ _ _
     rw[HST.out,if_pos h1];exact HO.out.ext ((Ext.refl _).alloc _)
    have b1:(r.1 != v)=false:=by simpa using h1
    clear h1 HST
    go_wp2
    exact⟨⟨k+1,by omega,by go_num,HO2,hE.alloc _⟩,by simp[intOf];omega⟩
   ·have b1:(r.1 != v)=true:=by simpa using h1
    have hE0:=HO.out.ext (((Ext.refl wr).alloc (.cells #[.int .i64 r.1,.int .i64 r.2.1,.int .i64 r.2.2] 63)).alloc (.cells #[.int .i64 r.1,.int .i64 r.2.1,.int .i64 r.2.2] 63))
    have hdl:(drp (rs.take k) v).length≤k:=Nat.le_trans (drp_le _ _) (by simp;omega)
    have hEs:=hE.size
    go_wp2_with (first | (at_builtin;refine wpList_append_own _ rfl _ _ 57 rfl w.heap.size 63 i3 (.agg #[.int .i64 0,.int .i64 0,.int .i64 0]) 3 24 Try.underlying57 hi3 hz0 hz1 hz2 rfl (by decide) _ _ _ rfl hE0 ⟨wr.heap.size+1,0,none⟩ 1 1 [.int .i64 r.1,.int .i64 r.2.1,.int .i64 r.2.2] rfl rfl ?c1 ?c2 ?c3 ?c4 ?c5 ?_) | go_in)
    case c1=>exact cells3n (by simp) _ _ _ _
    case c2=>intro u hu;simp only[List.mem_cons,List.not_mem_nil,or_false] at hu;rcases hu with rfl | rfl | rfl <;> rfl
    case c3=>unfold maxLen;omega
    case c4=>omega
    case c5=>simp;omega
    ·intro v' w5 hown5 hg5 _
     have hE5:Ext w w5:=Below.grown ((hE.alloc _).alloc _) hg5 (by simp;omega) (fun j hj=>(HO.out.block j hj).1)
     have HO2:Hid (RO w5 w.heap.size v' (drp (rs.take (k+1)) v)):=by
      show RO _ _ _ _
      rw[HST.out,if_neg h1]
      unfold RO
      rw[rcs_append]
      simpa[rcs] using hown5
     clear hown5 hg5 hE0 HST h1
     go_wp2
     exact⟨⟨k+1,by omega,by go_num,HO2,hE5⟩,by simp[intOf];omega⟩
  ·have i1:¬(k:Int)<(len:Int):=by omega
   have hO:=HO.out
   rw[List.take_of_length_le (by omega)] at hO
   go_wp2
   go_ret
   exact⟨_,rfl,hO,hE⟩
end Go.Proofs.Ytolclgbpjiokfaa.Tb
namespace Go.Proofs.Ytolclgbpjiokfaa.Tb
open Go.RowKit Go.Deep Rul Go.Sort
set_option maxRecDepth 100000 in
set_option maxHeartbeats 800000 in
theorem Grow_any (n:Nat) (w:World) (hn:n*24≤140737488355328):
 Calls Try.prog 120 #[.slice none 0 0,.int .i64 n] w fun e w'=>∃v',e=.returned v'∧RO w' w.heap.size v' []∧Ext w w':=by
 by_cases h0:n=0
 ·subst h0
  go_enter Try.func120,Try.ntmps120
  go_wp2
  go_ret
  exact⟨_,rfl,RO.nil _ _,Ext.refl w⟩
 ·obtain⟨i3,hi3,hz0,hz1,hz2⟩:=infoR'
  have h:=Lib.run_append_grow_zeros (P:=Try.prog) w 57 3 57 63 i3 (.agg #[.int .i64 0,.int .i64 0,.int .i64 0]) .i64 .i64 Try.underlying57 Try.underlying3 hi3 hz0 none 0 0 [] (run_firstCells_none w.drew i3.size 0 0 0) n (by omega) (by omega) (by omega) (by omega)
   (by rw[hz2];omega) (by rw[hz2];exact growslice_fits (by omega) (by omega))
  have hG:n≤grownCap w (0+n) 0 63:=by have:=grownCap_ge w (0+n) 0 63;omega
  have hM:=grownCap_le_maxLen w (0+n) 0 63 (by unfold maxLen;omega)
  obtain⟨G,hGe⟩:∃G,G=grownCap w (0+n) 0 63:=⟨_,rfl⟩
  rw[←hGe] at h hG hM
  clear hGe
  have hown:RO (w.alloc (.cells (Builtin.zeroCells #[.int .i64 0,.int .i64 0,.int .i64 0] n++Builtin.zeroCells #[.int .i64 0,.int .i64 0,.int .i64 0] (G - n)) 63)).drew w.heap.size (.slice (some ⟨w.heap.size,0,none⟩) 0 G) []:=
   World.ownsRow_made w _ G (Nat.le_refl _) hM (by simp[Builtin.zeroCells];omega)
  have HO:Hid _:=hown
  clear hown
  go_enter Try.func120,Try.ntmps120
  go_wp2_with (at_builtin;refine Lib.wpList_append_run _ rfl _ _ _ _ rfl _ _ rfl rfl _ _ h ?_)
  go_ret
  exact⟨_,rfl,HO.out,((Ext.refl w).alloc _).drew⟩
theorem ne_cases {x y:Ru} (h:¬x=y):(x.1 == y.1)=false∨((x.1 == y.1)=true∧(x.2.1 == y.2.1)=false)∨((x.1 == y.1)=true∧(x.2.1 == y.2.1)=true∧(x.2.2 == y.2.2)=false):=by
 by_cases h1:x.1=y.1
 ·by_cases h2:x.2.1=y.2.1
  ·by_cases h3:x.2.2=y.2.2
   ·exact absurd (Prod.ext h1 (Prod.ext h2 h3)) h
   ·exact Or.inr (Or.inr ⟨by simpa using h1,by simpa using h2,by simpa using h3⟩)
  ·exact Or.inr (Or.inl ⟨by simpa using h1,by simpa using h2⟩)
 ·exact Or.inl (by simpa using h1)
end Go.Proofs.Ytolclgbpjiokfaa.Tb
namespace Go.Proofs.Ytolclgbpjiokfaa.Tb
open Go.RowKit Go.Deep Rul Go.Sort
def cat2 (ra rb:List Ru):Nat→List Ru
 | 0=>[]
 | 1=>ra
 | _=>ra++rb
set_option maxRecDepth 100000 in
set_option maxHeartbeats 400000 in
theorem Concat_any (s la ca lb cb:Nat) (ao bo:Option Addr) (ra rb:List Ru) (w:World) (s0:w.cell? ⟨s,0,none⟩=some (.slice ao la ca)) (s1:w.cell? ⟨s,1,none⟩=some (.slice bo lb cb))
 (ha:SlOk w ao la ca ra) (hb:SlOk w bo lb cb rb) (hl:(la+lb)*24≤140737488355328):
 Calls Try.prog 114 #[.slice (some ⟨s,0,none⟩) 2 2] w fun e w'=>∃v',e=.returned v'∧RO w' w.heap.size v' (ra++rb)∧Ext w w':=by
 obtain⟨i3,hi3,hz0,hz1,hz2⟩:=infoR'
 have hs:s<w.heap.size:=World.block_lt_of_cell? w _ s0
 go_enter Try.func114,Try.ntmps114
 go_wp2
 go_loopw [3,11] (fun sv iv wd=>∃k:Nat,k≤2∧iv=.int .i64 k∧sv=.int .i64 (if k=0 then 0 else if k=1 then la else(la:Int)+lb)∧w=wd) (fun _ iv _=>2 - (intOf iv).toNat)
 case atStart=>exact⟨0,by omega,rfl,rfl,rfl⟩
 case round=>
  obtain⟨k,hk,rfl,rfl,rfl⟩:=hrel
  match k,hk with
  | 0,_=>
   go_wp2
   exact⟨⟨1,by omega,by go_num,by simp,trivial⟩,by simp[intOf]⟩
  | 1,_=>
   go_wp2
   exact⟨⟨2,by omega,by go_num,by simp,trivial⟩,by simp[intOf]⟩
  | 2,_=>
   go_wp2_with fail
   have e0:((la+lb:Nat):Int)=(la:Int)+lb:=by omega
   refine(e0 ▸ Grow_any (la+lb) _ hl).mono ?_
   rintro e w1 ⟨v1,rfl,ho1,E1⟩
   have HO1:Hid (RO w1 w.heap.size v1 (cat2 ra rb 0)):=ho1
   clear ho1
   go_wp2
   go_loopw [6,27] (fun nv iv wd=>∃k:Nat,k≤2∧iv=.int .i64 k∧Hid (RO wd w.heap.size nv (cat2 ra rb k))∧Ext w wd) (fun _ iv _=>2 - (intOf iv).toNat)
   case atStart=>exact⟨0,by omega,rfl,HO1,E1⟩
   case round=>
    clear HO1 E1
    obtain⟨k,hk,rfl,HO,hE⟩:=hrel
    have s0':=(hE.cells.1 _ _ hs).trans s0
    have s1':=(hE.cells.1 _ _ hs).trans s1
    have hEs:=hE.size
    match k,hk with
    | 0,_=>
     have hO:RO wr w.heap.size u6 []:=HO.out
     cases ao with
     | none=>
      obtain⟨n1,n2⟩:=ha.hnil rfl
      have hra:ra=[]:=List.eq_nil_of_length_eq_zero (ha.hlen.trans n1)
      rw[n1,n2] at s0'
      clear n1 n2 s0
      have HO2:Hid (RO wr w.heap.size u6 (cat2 ra rb 1)):=by show RO _ _ _ ra;rw[hra];exact hO
      clear hra
      go_wp2_with (first | (at_builtin;refine wpList_append_own_none rfl _ _ 57 rfl w.heap.size 63 i3 3 Try.underlying57 hi3 _ _ _ rfl hO rfl ?_) | go_in)
      exact⟨⟨1,by omega,by go_num,HO2,hE⟩,by simp[intOf]⟩
     | some ad=>
      have hnw:=(ha.ext hE).news
      have hlen:=ha.hlen
      go_wp2_with (first | (at_builtin;refine wpList_append_own _ rfl _ _ 57 rfl w.heap.size 63 i3 (.agg #[.int .i64 0,.int .i64 0,.int .i64 0]) 3 24 Try.underlying57 hi3 hz0 hz1 hz2 rfl (by decide) _ _ _ rfl hO ad la ca (rcs ra) rfl (by rw[rcs_len,hlen]) hnw (rcs_one ra) ?c3 ?c4 ?c5 ?_) | go_in)
      case c3=>unfold maxLen;simp;omega
      case c4=>simp;omega
      case c5=>exact hEs
      ·intro v' w5 hown5 hg5 _
       have hE5:Ext w w5:=Below.grown hE hg5 hEs (fun j hj=>(hO.block j hj).1)
       have HO2:Hid (RO w5 w.heap.size v' (cat2 ra rb 1)):=by
        show RO _ _ _ ra
        have:=hO.more (ls:=ra) (w5:=w5) (v':=v') (by rw[hlen];simpa using hown5)
        simpa using this
       clear hown5 hg5
       go_wp2
       exact⟨⟨1,by omega,by go_num,HO2,hE5⟩,by simp[intOf]⟩
    | 1,_=>
     have hO:RO wr w.heap.size u6 ra:=HO.out
     cases bo with
     | none=>
      obtain⟨n1,n2⟩:=hb.hnil rfl
      have hrb:rb=[]:=List.eq_nil_of_length_eq_zero (hb.hlen.trans n1)
      rw[n1,n2] at s1'
      clear n1 n2 s1
      have HO2:Hid (RO wr w.heap.size u6 (cat2 ra rb 2)):=by show RO _ _ _ (ra++rb);rw[hrb,List.append_nil];exact hO
      clear hrb
      go_wp2_with (first | (at_builtin;refine wpList_append_own_none rfl _ _ 57 rfl w.heap.size 63 i3 3 Try.underlying57 hi3 _ _ _ rfl hO rfl ?_) | go_in)
      exact⟨⟨2,by omega,by go_num,HO2,hE⟩,by simp[intOf]⟩
     | some ad=>
      have hnw:=(hb.ext hE).news
      have hlen:=hb.hlen
      have hlen':=ha.hlen
      go_wp2_with (first | (at_builtin;refine wpList_append_own _ rfl _ _ 57 rfl w.heap.size 63 i3 (.agg #[.int .i64 0,.int .i64 0,.int .i64 0]) 3 24 Try.underlying57 hi3 hz0 hz1 hz2 rfl (by decide) _ _ _ rfl hO ad lb cb (rcs rb) rfl (by rw[rcs_len,hlen]) hnw (rcs_one rb) ?c3 ?c4 ?c5 ?_) | go_in)
      case c3=>unfold maxLen;omega
      case c4=>omega
      case c5=>exact hEs
      ·intro v' w5 hown5 hg5 _
       have hE5:Ext w w5:=Below.grown hE hg5 hEs (fun j hj=>(hO.block j hj).1)
       have HO2:Hid (RO w5 w.heap.size v' (cat2 ra rb 2)):=by
        show RO _ _ _ (ra++rb)
        exact hO.more (ls:=rb) (w5:=w5) (v':=v') (by rw[hlen,hlen'];exact hown5)
       clear hown5 hg5
       go_wp2
       exact⟨⟨2,by omega,by go_num,HO2,hE5⟩,by simp[intOf]⟩
    | 2,_=>
     go_wp2
     go_ret
     exact⟨_,rfl,HO.out,hE⟩
end Go.Proofs.Ytolclgbpjiokfaa.Tb
namespace Go.Proofs.Ytolclgbpjiokfaa.Tb
open Go.RowKit Go.Deep Rul Go.Sort
theorem Gb.setCells {a:World} {b:Nat}:∀(vs:List Value) (o:Nat) (w:World),a.grownBy w (some b)→a.grownBy (w.setCells b o vs) (some b)
 | [],_,_,h=>h
 | v::r,o,_,h=>Gb.setCells r (o+1) _ (Gb.set h o v)
theorem run_clear_rules (w:World) (ty:TypeId) (b o n c:Nat) (hn:0<n) (hc:∀j,j<n*3→(w.cell? ⟨b,o+j,none⟩).isSome=true) (hf:∀j,j<n*3→w.frozen? ⟨b,o+j,none⟩=false):
 (Builtin.clear_ #[57] ty #[.slice (some ⟨b,o,none⟩) n c]).run Try.prog w=.ok (.tuple #[]) (w.setCells b o (Builtin.zeroCells #[.int .i64 0,.int .i64 0,.int .i64 0] n).toList):=by
 have hsz:(Builtin.zeroCells #[Value.int .i64 0,.int .i64 0,.int .i64 0] n).toList.length=n*3:=by simp[Builtin.zeroCells]
 have hst:=run_storeCells_cells (P:=Try.prog) b o (Builtin.zeroCells #[.int .i64 0,.int .i64 0,.int .i64 0] n).toList 0 w (by rw[hsz];simpa using hc) (by rw[hsz];simpa using hf) (by
  intro v hv
  simp[Builtin.zeroCells] at hv
  obtain⟨i,_,rfl⟩:=hv
  have:i % 3=0∨i % 3=1∨i % 3=2:=by omega
  rcases this with e | e | e <;> rw[e] <;> rfl)
 simp only[Nat.add_zero] at hst
 obtain⟨m,rfl⟩:∃m,n=m+1:=⟨n - 1,by omega⟩
 simp[Builtin.clear_,run_underlying Try.underlying57,hst,Value.cells]
theorem take_get {l:List Ru} {k:Nat} (h:k<l.length):l.take (k+1)=l.take k++[l.getD k r0]:=by
 rw[List.take_succ_eq_append_getElem h]
 simp[List.getD_eq_getElem?_getD,h]
theorem take_last {l:List Ru} {k:Nat} (h:k<l.length):(l.take (k+1)).getLast? =some (l.getD k r0):=by rw[take_get h];simp
theorem dd_next {l:List Ru} {k:Nat} (h:k+1<l.length):dd (l.take (k+2))=if l.getD k r0=l.getD (k+1) r0 then dd (l.take (k+1)) else dd (l.take (k+1))++[l.getD (k+1) r0]:=by
 rw[take_get (k:=k+1) h,dd_snoc,take_last (by omega)]
 simp
theorem arr_get {d:Array Ru} {k:Nat} (h:k<d.size):d.toList.getD k r0=d[k]!:=by
 rw[getElem!_pos d k h];simp[List.getD_eq_getElem?_getD,h]
structure Cpt (d dk:Array Ru) (k j:Nat):Prop where
 size:dk.size=d.size
 le:k<j
 jn:j≤d.size
 same:∀t,j - 1≤t→dk[t]! =d[t]!
 done:dk.toList.take k=dd (d.toList.take j)
theorem Cpt.skip {d dk:Array Ru} {k j:Nat} (h:Cpt d dk k j) (hj:j<d.size) (e:d[j]! =d[j - 1]!):Cpt d dk k (j+1):=by
 have hle:=h.le
 refine⟨h.size,by omega,hj,fun t ht=>h.same t (by omega),?_⟩
 obtain⟨i,rfl⟩:∃i,j=i+1:=⟨j - 1,by omega⟩
 rw[dd_next (by simpa using hj),arr_get (by omega),arr_get hj,if_pos (by simpa using e.symm)]
 exact h.done
theorem take_set {d:Array Ru} {k:Nat} (h:k<d.size) (r:Ru):(d.setIfInBounds k r).toList.take (k+1)=d.toList.take k++[r]:=by
 refine List.ext_getElem (by simp;omega) fun i h1 h2=>?_
 simp at h1 h2
 by_cases e:i=k
 ·subst e
  simp[List.getElem_append]
  omega
 ·have:i<k:=by omega
  simp[show ¬k=i by omega,show i<min k d.size by omega]
theorem Cpt.keep {d dk:Array Ru} {k j:Nat} (h:Cpt d dk k j) (hj:j<d.size) (e:¬d[j]! =d[j - 1]!):Cpt d (dk.setIfInBounds k d[j]!) (k+1) (j+1):=by
 have hle:=h.le
 have hsz:=h.size
 refine⟨by simpa using h.size,by omega,hj,fun t ht=>?_,?_⟩
 ·have:(dk.setIfInBounds k d[j]!)[t]! =dk[t]!:=by
   by_cases ht2:t<dk.size
   ·rw[getElem!_pos _ t (by simpa using ht2),getElem!_pos dk t ht2,Array.getElem_setIfInBounds_ne (hj:=ht2) (h:=by omega)]
   ·rw[getElem!_neg _ t (by simpa using ht2),getElem!_neg dk t ht2]
  rw[this,h.same t (by omega)]
 ·rw[take_set (by omega)]
  obtain⟨i,rfl⟩:∃i,j=i+1:=⟨j - 1,by omega⟩
  rw[dd_next (by simpa using hj),arr_get (by omega),arr_get hj,if_neg (by intro h;exact e (by simpa using h.symm)),h.done]
theorem Cpt.first {d:Array Ru} {k:Nat} (hk:0<k) (hkn:k<d.size) (h:dd (d.toList.take k)=d.toList.take k) (e:d[k]! =d[k - 1]!):Cpt d d k (k+1):=by
 refine⟨rfl,by omega,hkn,fun _ _=>rfl,?_⟩
 obtain⟨i,rfl⟩:∃i,k=i+1:=⟨k - 1,by omega⟩
 rw[dd_next (by simpa using hkn),arr_get (by omega),arr_get hkn,if_pos (by simpa using e.symm),h]
theorem dd_grow {d:Array Ru} {k:Nat} (hk:0<k) (hkn:k<d.size) (h:dd (d.toList.take k)=d.toList.take k) (e:¬d[k]! =d[k - 1]!):dd (d.toList.take (k+1))=d.toList.take (k+1):=by
 obtain⟨i,rfl⟩:∃i,k=i+1:=⟨k - 1,by omega⟩
 rw[dd_next (by simpa using hkn),arr_get (by omega),arr_get hkn,if_neg (by intro h;exact e (by simpa using h.symm)),h, ←arr_get hkn,take_get (k:=i+1) (by simpa using hkn)]
theorem dd_short {l:List Ru} (h:l.length<2):dd l=l:=by
 match l,h with
 | [],_=>rfl
 | [a],_=>rfl
end Go.Proofs.Ytolclgbpjiokfaa.Tb
namespace Go.Proofs.Ytolclgbpjiokfaa.Tb
open Go.RowKit Go.Deep Rul Go.Sort
set_option maxRecDepth 100000 in
set_option maxHeartbeats 800000 in
theorem Compact_row (b N cap n:Nat) (d:Array Ru) (w:World) (h:RW w b N d) (hn:d.size=n) (h2:2≤n) (hcap:n≤cap) (hcx:cap≤9223372036854775807):
 Calls Try.prog 116 #[.slice (some ⟨b,0,none⟩) n cap] w fun e w'=>e=.returned (.slice (some ⟨b,0,none⟩) (dd d.toList).length cap)∧RsAt w' (some ⟨b,0,none⟩) (dd d.toList)∧w.grownBy w' (some b):=by
 have hn1:d.size≤n:=by omega
 have hn2:n≤d.size:=by omega
 have HN:Hid (d.size=n):=hn
 clear hn
 have HD:Hid (d.toList.length=d.size):=by show _=_;simp
 have K1:Hid (dd (d.toList.take 1)=d.toList.take 1):=dd_short (by simp;omega)
 go_enter Try.func116,Try.ntmps116
 go_wp2
 go_loopw [3] (fun kv wd=>∃k:Nat,1≤k∧k≤n∧kv=.int .i64 k∧Hid (dd (d.toList.take k)=d.toList.take k)∧RW wd b N d∧w.grownBy wd (some b)) (fun kv _=>n - (intOf kv).toNat)
 case atStart=>exact⟨1,by omega,by omega,rfl,K1,h,Gb.refl _ _⟩
 case round=>
  clear K1
  obtain⟨k,k1,k2,rfl,HK,hr,hg⟩:=hrel
  by_cases hlt:k<n
  ·obtain⟨k',rfl⟩:∃j,k=j+1:=⟨k - 1,by omega⟩
   have i1:((k':Int)+1)<(n:Int):=by omega
   have i2:(k':Int)<(n:Int):=by omega
   obtain⟨x,hx⟩:∃x,d[k'+1]! =x:=⟨_,rfl⟩
   obtain⟨y,hy⟩:∃x,d[k']! =x:=⟨_,rfl⟩
   obtain⟨x0,x1,x2⟩:=hr.cells (j:=k'+1) (by omega) hx
   obtain⟨y0,y1,y2⟩:=hr.cells (j:=k') (by omega) hy
   have HXY:Hid _:=And.intro hx hy
   clear hx hy
   by_cases hxy:x=y
   ·subst hxy
    go_wp2_with fail
    go_region
    go_wp2
    have HC:Hid (Cpt d d (k'+1) (k'+1+1)):=Cpt.first (by omega) (by omega) HK.out (by simp only[Nat.add_sub_cancel];rw[HXY.out.1,HXY.out.2])
    have hr1:=hr.drew
    have hg1:=Gb.drew hg
    clear hr hg x0 x1 x2 y0 y1 y2 h HK HXY
    go_loopw [3,5] (fun kv jv wd=>∃(k j:Nat) (dk:Array Ru),1≤j∧k'+1+j≤n∧kv=.int .i64 k∧jv=.int .i64 j∧Hid (Cpt d dk k (k'+1+j))∧RW wd b N dk∧w.grownBy wd (some b)) (fun _ jv _=>n - (intOf jv).toNat)
    case atStart=>exact⟨k'+1,1,d,Nat.le_refl _,by omega,rfl,rfl,HC,hr1,hg1⟩
    case round=>
     clear HC hr1 hg1
     obtain⟨k,j,dk,j1,j2,rfl,rfl,HC,hr,hg⟩:=hrel
     have hsz:=HC.out.size
     have hkj:=HC.out.le
     obtain⟨j',rfl⟩:∃i,j=i+1:=⟨j - 1,by omega⟩
     by_cases hjl:k'+1+(j'+1)<n
     ·have i4:((j':Int)+1)<((n - (k'+1):Nat):Int):=by omega
      have i5:(j':Int)<((n - (k'+1):Nat):Int):=by omega
      have i6:(k:Int)<(n:Int):=by omega
      obtain⟨p,hp⟩:∃x,dk[k'+1+(j'+1)]! =x:=⟨_,rfl⟩
      obtain⟨q,hq⟩:∃x,dk[k'+1+j']! =x:=⟨_,rfl⟩
      obtain⟨x0,x1,x2⟩:=hr.cells (j:=k'+1+(j'+1)) (by omega) hp
      obtain⟨y0,y1,y2⟩:=hr.cells (j:=k'+1+j') (by omega) hq
      rw[show(k'+1+(j'+1))*3=(k'+1)*3+(j'+1)*3 by omega] at x0 x1 x2
      rw[show(k'+1+j')*3=(k'+1)*3+j'*3 by omega] at y0 y1 y2
      have hp':d[k'+1+(j'+1)]! =p:=(HC.out.same _ (by omega)).symm.trans hp
      have hq':d[k'+1+(j'+1) - 1]! =q:=(HC.out.same _ (by omega)).symm.trans (by rw[show k'+1+(j'+1) - 1=k'+1+j' by omega];exact hq)
      have HPQ:Hid _:=And.intro hp' hq'
      clear hp hq hp' hq'
      by_cases hpq:p=q
      ·have HC2:Hid (Cpt d dk k (k'+1+(j'+1+1))):=HC.out.skip (by omega) (by rw[HPQ.out.1,HPQ.out.2];exact hpq)
       clear HC HPQ
       subst hpq
       go_wp2_with fail
       go_region
       go_wp2
       exact⟨⟨k,j'+1+1,dk,by omega,by omega,rfl,by go_num,HC2,hr.drew,Gb.drew hg⟩,by simp[intOf];omega⟩
      ·have HC2:Hid (Cpt d (dk.setIfInBounds k p) (k+1) (k'+1+(j'+1+1))):=by
        have:=HC.out.keep (by omega) (by rw[HPQ.out.1,HPQ.out.2];exact hpq)
        rwa [HPQ.out.1] at this
       have hput:=(hr.put (i:=k) (by omega) p).drew
       have hgp:=Gb.drew (Gb.set (Gb.set (Gb.set hg (k*3) (.int .i64 p.1)) (k*3+1) (.int .i64 p.2.1)) (k*3+2) (.int .i64 p.2.2))
       obtain⟨z0,z1,z2⟩:=hr.cells (j:=k) (by omega) rfl
       have fz:=hr.frozen
       have HP:Hid _:=And.intro hput hgp
       clear HC HPQ hput hgp hr hg
       rcases ne_cases hpq with e1 | ⟨e1,e2⟩ | ⟨e1,e2,e3⟩
       all_goals(
        clear hpq
        go_wp2_with fail
        go_region
        go_wp2
        exact⟨⟨k+1,j'+1+1,dk.setIfInBounds k p,by omega,by omega,by go_num,by go_num,HC2,HP.out.1,HP.out.2⟩,by simp[intOf];omega⟩)
     ·have i4:¬((j':Int)+1)<((n - (k'+1):Nat):Int):=by omega
      have i6:(k:Int)<(n:Int):=by omega
      have hdone:=HC.out.done
      rw[show k'+1+(j'+1)=n by omega,List.take_of_length_le (l:=d.toList) (i:=n) (by rw[HD.out,HN.out];exact Nat.le_refl _)] at hdone
      have hlen:(dd d.toList).length=k:=by rw[←hdone];simp;omega
      obtain⟨F,hF,hF2⟩:=hr.row
      have hfit:=hr.fit
      have hcl:∀ty,(Builtin.clear_ #[57] ty #[.slice (some ⟨b,k*3,none⟩) (n - k) (cap - k)]).run Try.prog wr=.ok (.tuple #[]) (wr.setCells b (k*3) (Builtin.zeroCells #[.int .i64 0,.int .i64 0,.int .i64 0] (n - k)).toList):=fun ty=>
       run_clear_rules wr ty b (k*3) (n - k) (cap - k) (by omega) (fun t ht=>by rw[hF.cell (by omega)];rfl) (fun t _=>hF.frozen _)
      have hfin:RsAt (wr.setCells b (k*3) (Builtin.zeroCells #[.int .i64 0,.int .i64 0,.int .i64 0] (n - k)).toList) (some ⟨b,0,none⟩) (dd d.toList):=by
       refine Or.inr ⟨b,0,rfl,?_,fun t ht=>?_⟩
       ·have:=(Gb.setCells (b:=b) (Builtin.zeroCells #[.int .i64 0,.int .i64 0,.int .i64 0] (n - k)).toList (k*3) wr (Gb.refl wr _)).size
        have:=hF.lt
        omega
       ·have htk:t<k:=by omega
        have e:(dd d.toList).getD t (0,0,0)=dk[t]!:=by
         rw[←hdone, ←arr_get (by omega)]
         simp[List.getD_eq_getElem?_getD,htk]
        obtain⟨c0,c1,c2⟩:=hr.cells (j:=t) (by omega) e.symm
        have ho:∀o,o<k*3→(wr.setCells b (k*3) (Builtin.zeroCells #[.int .i64 0,.int .i64 0,.int .i64 0] (n - k)).toList).cell? ⟨b,o,none⟩=wr.cell? ⟨b,o,none⟩:=fun o ho=>World.cell?_setCells_out b _ _ _ _ (fun _ _=>Or.inl ho)
        rw[Nat.zero_add,ho _ (by omega),ho _ (by omega),ho _ (by omega)]
        exact⟨c0,c1,c2⟩
      have hgf:=Gb.setCells (b:=b) (Builtin.zeroCells #[.int .i64 0,.int .i64 0,.int .i64 0] (n - k)).toList (k*3) wr hg
      have HF:Hid _:=And.intro hlen (And.intro hfin hgf)
      clear hlen hfin hgf hdone hF hF2 hr hg HC
      go_wp2
      go_ret
      rw[HF.out.1]
      exact⟨rfl,HF.out.2.1,HF.out.2.2⟩
   ·have HK2:Hid (dd (d.toList.take (k'+1+1))=d.toList.take (k'+1+1)):=dd_grow (by omega) (by omega) HK.out (by simp only[Nat.add_sub_cancel];rw[HXY.out.1,HXY.out.2];exact hxy)
    rcases ne_cases hxy with e1 | ⟨e1,e2⟩ | ⟨e1,e2,e3⟩
    all_goals(
     clear hxy
     go_wp2_with fail
     go_region
     go_wp2
     exact⟨⟨k'+1+1,by omega,by omega,by go_num,HK2,hr.drew,Gb.drew hg⟩,by simp[intOf];omega⟩)
  ·have i1:¬(k:Int)<(n:Int):=by omega
   have hkn:k=n:=by omega
   have hfin:dd d.toList=d.toList:=by
    have:=HK.out
    rwa [hkn,List.take_of_length_le (by rw[HD.out,HN.out];exact Nat.le_refl _)] at this
   have hlen:(dd d.toList).length=n:=by rw[hfin,HD.out,HN.out]
   have HF:Hid _:=And.intro hfin hlen
   clear hfin hlen
   go_wp2
   go_ret
   rw[HF.out.2,HF.out.1]
   exact⟨rfl,hr.rs,hg⟩
theorem RO.rw {w:World} {base:Nat} {v:Value} {rs:List Ru} (h:RO w base v rs) (hn:0<rs.length):∃b cap,v=.slice (some ⟨b,0,none⟩) rs.length cap∧base≤b∧rs.length≤cap∧cap≤maxLen∧RW w b (cap*3) rs.toArray:=by
 rcases h.2 with⟨_,h0⟩ | ⟨g,cap,cur,hv,hb,hg,hnc,hm,hc,ht⟩
 ·omega
 ·refine⟨g,cap,hv,hb,hnc,hm,by simp;omega,fun i=>cur.getD i (.int .i64 0),⟨cur,hg,hc,fun i hi=>?_⟩,fun j hj=>?_⟩
  ·have hi':i<cur.size:=by omega
   simp[Array.getD,hi']
  ·have hj':j<rs.length:=by simpa using hj
   have hget:∀i u,i<rs.length*3→(rcs rs)[i]? =some u→cur.getD i (.int .i64 0)=u:=fun i u hi hu=>by
    rw[←ht,List.getElem?_take_of_lt hi] at hu
    have hi':i<cur.size:=by omega
    have:cur[i]=u:=by simpa[hi'] using hu
    simp[Array.getD,hi',this]
   obtain⟨a0,a1,a2⟩:=rcs_at rs j hj'
   have e:rs.getD j r0=(rs.toArray)[j]!:=by rw[←arr_get (d:=rs.toArray) (by simpa using hj')]
   rw[e] at a0 a1 a2
   exact⟨hget _ _ (by omega) a0,hget _ _ (by omega) a1,hget _ _ (by omega) a2⟩
end Go.Proofs.Ytolclgbpjiokfaa.Tb
