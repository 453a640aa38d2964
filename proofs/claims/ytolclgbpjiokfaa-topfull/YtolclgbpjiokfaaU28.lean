/- What wrongStamps and Wrong answer of stamps, and of a switch. -/
import Derived.Test.YtolclgbpjiokfaaU27
import Derived.BigQuiet
import Derived.Deep.RegionHeld3
namespace Go.Proofs.Ytolclgbpjiokfaa.Tb
open Go.RowKit Go.Deep Rul
set_option maxHeartbeats 800000 in
theorem Or_any (x y r:Int) (g:Nat) (w:World) (hr:(if x=0 then y else x)=r) (h0:w.cell? ⟨g,0,none⟩=some (.int .i64 x)) (h1:w.cell? ⟨g,1,none⟩=some (.int .i64 y)):
 Calls Try.prog 58 #[.slice (some ⟨g,0,none⟩) 2 2] w fun e w'=>e=.returned (.int .i64 r)∧w'=w:=by
 subst hr
 go_enter Try.func58,Try.ntmps58
 go_wp2
 go_loopw [8] (fun iv wr=>∃k:Nat,k≤2∧iv=.int .i64 k∧wr=w∧(1≤k→x=0)∧(2≤k→y=0)) (fun iv _=>2 - (intOf iv).toNat)
 case atStart=>exact⟨0,by omega,rfl,rfl,by omega,by omega⟩
 case round=>
  obtain⟨k,hk,rfl,rfl,k1,k2⟩:=hrel
  match k,hk with
  | 0,_=>
   by_cases hx:x=0
   ·subst hx
    go_wp2
    exact⟨⟨1,by omega,rfl,trivial,fun _=>trivial,by omega⟩,by simp[intOf]⟩
   ·go_wp2
    go_ret
    exact⟨by simp,rfl⟩
  | 1,_=>
   have hx:=k1 (by omega)
   subst hx
   by_cases hy:y=0
   ·subst hy
    go_wp2
    exact⟨⟨2,by omega,rfl,trivial,fun _=>trivial,fun _=>trivial⟩,by simp[intOf]⟩
   ·go_wp2
    go_ret
    exact⟨by simp,rfl⟩
  | 2,_=>
   have hx:=k1 (by omega)
   have hy:=k2 (by omega)
   subst hx hy
   go_wp2
   go_ret
   exact⟨by simp,rfl⟩
theorem two_cells {W:World} {b:Nat} {x y:Int} {T:TypeId} (h:W.heap.size=b):(W.alloc (.cells #[.int .i64 x,.int .i64 y] T)).drew.cell? ⟨b,0,none⟩=some (.int .i64 x)∧(W.alloc (.cells #[.int .i64 x,.int .i64 y] T)).drew.cell? ⟨b,1,none⟩=some (.int .i64 y):=by
 subst h
 have e:∀(V:World) (a:Addr),V.drew.cell? a=V.cell? a:=fun _ _=>rfl
 rw[e,e]
 exact⟨by simp,by simp⟩
set_option maxRecDepth 100000 in
set_option maxHeartbeats 800000 in
theorem order_any (x y:Ru) (w:World):
 Calls Try.prog 43 #[.agg #[.int .i64 x.1,.int .i64 x.2.1,.int .i64 x.2.2],.agg #[.int .i64 y.1,.int .i64 y.2.1,.int .i64 y.2.2]] w fun e w'=>e=.returned (.int .i64 (cf x y))∧Ext w w':=by
 obtain⟨x0,x1,x2⟩:=x
 obtain⟨y0,y1,y2⟩:=y
 obtain⟨r,hr⟩:∃r,(if c3 x0 y0=0 then c3 x1 y1 else c3 x0 y0)=r:=⟨_,rfl⟩
 have e:cf (x0,x1,x2) (y0,y1,y2)=r:=hr
 rw[e]
 have HR:Hid _:=hr
 clear hr e
 have hE0:Ext w ((w.alloc (.cells #[.int .i64 x0,.int .i64 x1,.int .i64 x2] 63)).alloc (.cells #[.int .i64 y0,.int .i64 y1,.int .i64 y2] 63)):=((Ext.refl w).alloc _).alloc _
 have HS:Hid (∀W:World,Ext ((w.alloc (.cells #[.int .i64 x0,.int .i64 x1,.int .i64 x2] 63)).alloc (.cells #[.int .i64 y0,.int .i64 y1,.int .i64 y2] 63)) W→W.cell? ⟨w.heap.size,0,none⟩=some (.int .i64 x0)∧W.cell? ⟨w.heap.size,1,none⟩=some (.int .i64 x1)∧W.cell? ⟨w.heap.size+1,0,none⟩=some (.int .i64 y0)∧W.cell? ⟨w.heap.size+1,1,none⟩=some (.int .i64 y1)):=fun W h=>
  ⟨(h.cells.1 _ _ (by simp;omega)).trans (by simp),(h.cells.1 _ _ (by simp;omega)).trans (by simp),(h.cells.1 _ _ (by simp)).trans (by simp),(h.cells.1 _ _ (by simp)).trans (by simp)⟩
 go_enter Try.func43,Try.ntmps43
 go_wp2_with fail
 obtain⟨W0,hW0⟩:∃W0,W0=(w.alloc (.cells #[.int .i64 x0,.int .i64 x1,.int .i64 x2] 63)).alloc (.cells #[.int .i64 y0,.int .i64 y1,.int .i64 y2] 63):=⟨_,rfl⟩
 rw[←hW0] at HS hE0 ⊢
 clear hW0
 have hR0:=Ext.refl W0
 go_region_held3 (fun W=>W.cell? ⟨w.heap.size,0,none⟩=some (.int .i64 x0)∧W.cell? ⟨w.heap.size,1,none⟩=some (.int .i64 x1)∧W.cell? ⟨w.heap.size+1,0,none⟩=some (.int .i64 y0)∧W.cell? ⟨w.heap.size+1,1,none⟩=some (.int .i64 y1))
  (first | exact HS.out _ hR0.drew | exact HS.out _ (hR0.alloc _).drew)
  (first
   | (go_at_call 59;refine(Compare_any _ _ _).mono ?_;rintro e w1 ⟨rfl,rfl⟩)
   | (go_at_call 58;refine(Or_any (c3 x0 y0) (c3 x1 y1) r _ _ ?_ ?_ ?_).mono ?_;exact HR.out;exact(two_cells rfl).1;exact(two_cells rfl).2;rintro e w1 ⟨rfl,rfl⟩))
 all_goals(
  go_wp2
  go_ret
  exact⟨rfl,(hE0.alloc _).drew⟩)
end Go.Proofs.Ytolclgbpjiokfaa.Tb
namespace Go.Proofs.Ytolclgbpjiokfaa.Tb
open Go.RowKit Go.Deep Rul Go.Sort
abbrev CB:Value:=.func (.func 43) #[] #[]
theorem Gb.ext {w w':World} (h:Ext w w') {r:Option Nat}:w.grownBy w' r:=by
 obtain⟨⟨d,os⟩,rfl⟩:=regrown_of_below h
 exact⟨rfl,rfl,rfl,Below.size h,fun k hk _=>Below.block h k hk⟩
theorem order_re (x y:Ru) (w:World):∀d os,Calls Try.prog 43 #[.agg #[.int .i64 x.1,.int .i64 x.2.1,.int .i64 x.2.2],.agg #[.int .i64 y.1,.int .i64 y.2.1,.int .i64 y.2.2]] (grow (redrawn w d) os) fun e w''=>e=.returned (.int .i64 (cf x y))∧∃p:Regrown,w''=grow (redrawn w p.d) p.os:=fun d os=>
 Calls.regrown_of (order_any x y (grow (redrawn w d) os))
set_option maxRecDepth 100000 in
set_option maxHeartbeats 800000 in
theorem sym_one (b N cap a c:Nat) (d:Array Ru) (w:World) (h:RW w b N d) (hac:a+1<c) (hcn:c≤d.size) (hsz:d.size≤1152921504606846976) (hs:SortedIn lt (a+1) c d):
 Calls Try.prog 124 #[.slice (some ⟨b,0,none⟩) d.size cap,.int .i64 a,.int .i64 ((a+1:Nat):Int),.int .i64 c,CB] w fun e w'=>e=.returned (.tuple #[])∧∃d',Mrg a c d d'∧RW w' b N d'∧w.grownBy w' (some b):=by
 obtain⟨m,hm⟩:∃m,m=a+1:=⟨_,rfl⟩
 have wm:IntKind.i64.wrap ((m:Int) - a)=1:=by rw[IntKind.wrap_i64];omega
 rw[←hm] at hs ⊢
 have hm1:m≤a+1:=by omega
 have hm2:a+1≤m:=by omega
 have HM:Hid (m=a+1):=hm
 clear hm
 go_enter Try.func124,Try.ntmps124
 go_wp2
 go_loopw [10,11] (fun iv jv wr=>∃(i j:Nat),m≤i∧i≤j∧j≤c∧iv=.int .i64 i∧jv=.int .i64 j∧(∀t,m≤t→t<i→lt d[t]! d[a]! =true)∧(∀t,j≤t→t<c→lt d[t]! d[a]! =false)∧Ext w wr) (fun iv jv _=>(intOf jv).toNat - (intOf iv).toNat)
 case atStart=>exact⟨m,c,Nat.le_refl _,by omega,Nat.le_refl _,by go_num,rfl,fun t h1 h2=>by omega,fun t h1 h2=>by omega,Ext.refl w⟩
 case round=>
  obtain⟨i,j,h1,h2,h3,rfl,rfl,q1,q2,hext⟩:=hrel
  by_cases hlt:i<j
  ·have i1:(i:Int)<(j:Int):=by omega
   obtain⟨k,hk,k1,k2⟩:∃k:Nat,((i:Int)+j) / 2=k∧i≤k∧k<j:=⟨(i+j) / 2,by omega,by omega,by omega⟩
   obtain⟨x,hx⟩:∃x,d[k]! =x:=⟨_,rfl⟩
   obtain⟨y,hy⟩:∃x,d[a]! =x:=⟨_,rfl⟩
   obtain⟨x0,x1,x2⟩:=(h.ext hext).cells (j:=k) (by omega) hx
   obtain⟨y0,y1,y2⟩:=(h.ext hext).cells (j:=a) (by omega) hy
   have HQ:Hid _:=order_re x y wr
   have x0':=cell_regrown x0
   have x1':=cell_regrown x1
   have x2':=cell_regrown x2
   have y0':=cell_regrown y0
   have y1':=cell_regrown y1
   have y2':=cell_regrown y2
   have bk:(k:Int)<(d.size:Int):=by omega
   have ba:(a:Int)<(d.size:Int):=by omega
   clear x0 x1 x2 y0 y1 y2
   have HQ1:Hid _:=q1
   have HQ2:Hid _:=q2
   have HS:Hid _:=hs
   clear q1 q2 hs h
   by_cases hl:cf x y<0
   ·go_wp2_with fail
    refine wp_region_quiet_below (by kernel_rfl) (by kernel_rfl) ?_
    repeat(go_big_quiet_step (with_reducible exact HQ.out _ _))
    refine wpQuiet_nil ?_
    intro _ hw'
    obtain⟨⟨dq,oq⟩,hw''⟩:=hw'
    subst hw''
    clear x0' x1' x2' y0' y1' y2' HQ
    go_wp2
    refine⟨⟨k+1,j,by omega,by omega,h3,by go_num,rfl,fun t t1 t2=>?_,HQ2.out,hext.trans (below_regrown wr dq oq)⟩,by simp[intOf];omega⟩
    have:=cf_lt.1 hl
    rw[←hx, ←hy] at this
    by_cases e:t=k
    ·subst e;exact this
    ·exact lt_of_le_lt (HS.out t k (by omega) (by omega) (by omega)) this
   ·have hl2:decide (cf x y<0)=false:=decide_eq_false hl
    go_wp2_with fail
    refine wp_region_quiet_below (by kernel_rfl) (by kernel_rfl) ?_
    repeat(go_big_quiet_step (with_reducible exact HQ.out _ _))
    refine wpQuiet_nil ?_
    intro _ hw'
    obtain⟨⟨dq,oq⟩,hw''⟩:=hw'
    subst hw''
    clear x0' x1' x2' y0' y1' y2' HQ
    go_wp2
    refine⟨⟨i,k,h1,k1,by omega,rfl,by go_num,HQ1.out,fun t t1 t2=>?_,hext.trans (below_regrown wr dq oq)⟩,by simp[intOf];omega⟩
    have:=cf_ge.1 hl
    rw[←hx, ←hy] at this
    by_cases e:t=k
    ·subst e;exact this
    ·exact swo.ntrans _ _ _ (HS.out k t (by omega) (by omega) (by omega)) this
  ·have i1:¬(i:Int)<(j:Int):=by omega
   obtain rfl:i=j:=by omega
   have hr0:=h.ext hext
   have wi:IntKind.i64.wrap ((i:Int) - 1)=((i - 1:Nat):Int):=by rw[IntKind.wrap_i64];omega
   go_wp2
   go_loopw [13] (fun kv wk=>∃(k:Nat) (dk:Array Ru),a≤k∧k≤i - 1∧kv=.int .i64 k∧dk.size=d.size∧(∀t,a≤t→t<k→dk[t]! =d[t+1]!)∧dk[k]! =d[a]!∧(∀t,t<a∨k<t→dk[t]! =d[t]!)∧RW wk b N dk∧w.grownBy wk (some b)) (fun kv _=>i - 1 - (intOf kv).toNat)
   case atStart=>exact⟨a,d,Nat.le_refl _,by omega,rfl,rfl,fun t t1 t2=>by omega,rfl,fun t _=>rfl,hr0,Gb.ext hext⟩
   case round=>
    obtain⟨k,dk,k1,k2,rfl,k3,g1,g2,g3,hr,hg⟩:=hrel
    by_cases hkl:k<i - 1
    ·have i2:(k:Int)<((i - 1:Nat):Int):=by omega
     obtain⟨x,hx⟩:∃x,dk[k]! =x:=⟨_,rfl⟩
     obtain⟨y,hy⟩:∃x,dk[k+1]! =x:=⟨_,rfl⟩
     obtain⟨x0,x1,x2⟩:=hr.cells (j:=k) (by omega) hx
     obtain⟨y0,y1,y2⟩:=hr.cells (j:=k+1) (by omega) hy
     have fz:=hr.frozen
     have ba:(k:Int)<(d.size:Int):=by omega
     have bc:(k:Int)+1<(d.size:Int):=by omega
     have HR:Hid (RW wr b N dk):=hr
     have HG:Hid (w.grownBy wr (some b)):=hg
     have HD:Hid _:=And.intro g1 (And.intro g2 g3)
     clear hr hg g1 g2 g3 h hr0 q1 q2 hs
     go_wp2_with fail
     go_region
     go_wp2
     refine⟨⟨k+1,swp dk k (k+1),by omega,by omega,by go_num,by rw[size_swp];exact k3,fun t t1 t2=>?_,?_,fun t ht=>?_,?_,?_⟩,by simp[intOf];omega⟩
     ·by_cases e:t=k
      ·subst e;rw[swp_left _ _ _ (by omega) (by omega)];exact HD.out.2.2 _ (by omega)
      ·rw[swp_other _ _ _ _ (by omega) (by omega)];exact HD.out.1 t t1 (by omega)
     ·rw[swp_right _ _ _ (by omega)];exact HD.out.2.1
     ·rw[swp_other _ _ _ _ (by omega) (by omega)];exact HD.out.2.2 t (by omega)
     ·have:=(HR.out.swap (i:=k) (j:=k+1) (by omega) (by omega)).drew
      rw[hx,hy] at this
      exact this
     ·exact Gb.drew (Gb.swap HG.out _ _ _ _ _ _ _ _)
    ·have i2:¬(k:Int)<((i - 1:Nat):Int):=by omega
     have:k=i - 1:=by omega
     subst this
     go_wp2
     (try simp only[Exit.inBlock,Exit.then])
     refine bodyPost_ret (results_none rfl _ _ _) rfl ?_
     have hm:m=a+1:=HM.out
     exact⟨rfl,dk,mrg_front (by omega) (by omega) (hm ▸ hs) (hm ▸ q1) q2 k3 g1 g2 (fun t ht=>g3 t (by omega)),hr,hg⟩
end Go.Proofs.Ytolclgbpjiokfaa.Tb
namespace Go.Proofs.Ytolclgbpjiokfaa.Tb
open Go.RowKit Go.Deep Rul Go.Sort
theorem RW.rs {w:World} {b N:Nat} {d:Array Ru} (h:RW w b N d):RsAt w (some ⟨b,0,none⟩) d.toList:=by
 refine Or.inr ⟨b,0,rfl,h.lt,fun k hk=>?_⟩
 have hk':k<d.size:=by simpa using hk
 have e:d.toList.getD k (0,0,0)=d[k]!:=by rw[getElem!_pos d k hk'];simp[List.getD_eq_getElem?_getD,hk']
 rw[e]
 obtain⟨c0,c1,c2⟩:=h.cells hk' rfl
 simpa using⟨c0,c1,c2⟩
set_option maxHeartbeats 1600000 in
theorem inRange_any (r:Ru) (w:World):
 Calls Try.prog 42 #[.agg #[.int .i64 r.1,.int .i64 r.2.1,.int .i64 r.2.2]] w fun e w'=>e=.returned (.bool (inR r))∧Ext w w':=by
 obtain⟨v,f,n⟩:=r
 by_cases h1:1≤v
 ·by_cases h2:v≤1000
  ·by_cases h3:0≤f
   ·by_cases h4:f<12
    ·by_cases h5:0≤n
     ·by_cases h6:n<8
      ·have hv:inR (v,f,n)=true:=by simp only[inR];exact decide_eq_true ⟨h1,h2,h3,h4,h5,h6⟩
       rw[hv]
       go_enter Try.func42,Try.ntmps42
       go_wp2
       go_ret
       exact⟨by first | rfl | simp,(Ext.refl w).alloc _⟩
      ·have hv:inR (v,f,n)=false:=by simp only[inR];exact decide_eq_false (fun h=>by omega)
       rw[hv]
       go_enter Try.func42,Try.ntmps42
       go_wp2
       go_ret
       exact⟨by first | rfl | simp,(Ext.refl w).alloc _⟩
     ·have hv:inR (v,f,n)=false:=by simp only[inR];exact decide_eq_false (fun h=>by omega)
      rw[hv]
      go_enter Try.func42,Try.ntmps42
      go_wp2
      go_ret
      exact⟨by first | rfl | simp,(Ext.refl w).alloc _⟩
    ·have hv:inR (v,f,n)=false:=by simp only[inR];exact decide_eq_false (fun h=>by omega)
     rw[hv]
     go_enter Try.func42,Try.ntmps42
     go_wp2
     go_ret
     exact⟨by first | rfl | simp,(Ext.refl w).alloc _⟩
   ·have hv:inR (v,f,n)=false:=by simp only[inR];exact decide_eq_false (fun h=>by omega)
    rw[hv]
    go_enter Try.func42,Try.ntmps42
    go_wp2
    go_ret
    exact⟨by first | rfl | simp,(Ext.refl w).alloc _⟩
  ·have hv:inR (v,f,n)=false:=by simp only[inR];exact decide_eq_false (fun h=>by omega)
   rw[hv]
   go_enter Try.func42,Try.ntmps42
   go_wp2
   go_ret
   exact⟨by first | rfl | simp,(Ext.refl w).alloc _⟩
 ·have hv:inR (v,f,n)=false:=by simp only[inR];exact decide_eq_false (fun h=>by omega)
  rw[hv]
  go_enter Try.func42,Try.ntmps42
  go_wp2
  go_ret
  exact⟨by first | rfl | simp,(Ext.refl w).alloc _⟩
end Go.Proofs.Ytolclgbpjiokfaa.Tb
namespace Go.Proofs.Ytolclgbpjiokfaa.Tb
open Go.RowKit Go.Deep Rul Go.Sort
theorem fldF (a b:Int) (w:World):(Instr.field 44 (.agg #[.int .i64 a,.int .i64 b]) 0).run Try.prog w=.ok (.int .i64 a) w:=by kernel_rfl
def pv (rs:List Ru):Nat→Option Ru
 | 0=>none
 | k+1=>some (rs.getD k r0)
theorem wr_step {rs:List Ru} {k:Nat} (hk:k<rs.length):wr k (pv rs k) (rs.drop k)=if inR (rs.getD k r0)=false then(3,(k:Int)) else if(pv rs k).any (fun q=>!lt q (rs.getD k r0)) then(2,(k:Int)) else wr (k+1) (pv rs (k+1)) (rs.drop (k+1)):=by
 have e:rs.getD k r0=rs[k]:=by simp[List.getD_eq_getElem?_getD,hk]
 rw[List.drop_eq_getElem_cons hk,wr,pv,e]
theorem wr_end {rs:List Ru} {k:Nat} (hk:rs.length≤k):wr k (pv rs k) (rs.drop k)=(0,0):=by rw[List.drop_eq_nil_of_le hk,wr]
theorem fault_kept {w wr:World} {a b:Value} {T:TypeId} (h:Below (w.heap.size+1) (w.alloc (.cells #[a,b] T)) wr):wr.cell? ⟨w.heap.size,0,none⟩=some a∧wr.cell? ⟨w.heap.size,1,none⟩=some b∧wr.frozen? ⟨w.heap.size,0,none⟩=false∧wr.frozen? ⟨w.heap.size,1,none⟩=false∧w.heap.size<wr.heap.size:=by
 have k:w.heap.size<w.heap.size+1:=by omega
 refine⟨(h.cell (p:=⟨w.heap.size,0,none⟩) k).trans (by simp),(h.cell (p:=⟨w.heap.size,1,none⟩) k).trans (by simp),(h.frozen (p:=⟨w.heap.size,0,none⟩) k).trans (by simp),(h.frozen (p:=⟨w.heap.size,1,none⟩) k).trans (by simp),?_⟩
 have:=Below.size h
 simp at this
 omega
set_option maxHeartbeats 1000000 in
theorem Wrong_many (ao:Option Addr) (len cap:Nat) (w:World) (h:16<len) (hl:len≤9223372036854775807):
 Calls Try.prog 22 #[.slice ao len cap] w fun e w'=>e=.returned (.agg #[.int .i64 10,.int .i64 0])∧Ext w w':=by
 go_enter Try.func22,Try.ntmps22
 go_wp2
 exact bodyPost_ret (v:=.agg #[.int .i64 10,.int .i64 0]) (by simp[results,Try.results22,go_sem]) rfl ⟨rfl,(Ext.refl w).alloc _⟩
set_option maxRecDepth 100000 in
set_option maxHeartbeats 400000 in
theorem Wrong_few (ao:Option Addr) (len cap:Nat) (rs:List Ru) (w:World) (hlen:rs.length=len) (hf:RsAt w ao rs) (h16:¬16<len):
 Calls Try.prog 22 #[.slice ao len cap] w fun e w'=>e=.returned (.agg #[.int .i64 (Rul.wrong rs).1,.int .i64 (Rul.wrong rs).2])∧Ext w w':=by
 have hw0:Rul.wrong rs=Rul.wr 0 (pv rs 0) (rs.drop 0):=by rw[Rul.wrong,if_neg (by omega),List.drop_zero];rfl
 rw[hw0]
 go_enter Try.func22,Try.ntmps22
 go_wp2
 go_loopw [11] (fun iv wd=>∃k:Nat,k≤len∧iv=.int .i64 k∧Hid (Rul.wr 0 (pv rs 0) (rs.drop 0)=Rul.wr k (pv rs k) (rs.drop k))∧Below (w.heap.size+1) (w.alloc (.cells #[.int .i64 0,.int .i64 0] 44)) wd) (fun iv _=>len - (intOf iv).toNat)
 case atStart=>exact⟨0,Nat.zero_le _,rfl,rfl,Below.refl _ _⟩
 case round=>
  obtain⟨k,hk,rfl,HW,hbel⟩:=hrel
  obtain⟨z0,z1,y0,y1,hsz⟩:=fault_kept hbel
  have hEw:Ext w wr:=Below.trans ((Ext.refl w).alloc _) (hbel.mono (by omega))
  by_cases hlt:k<len
  ·obtain⟨g,off,rfl,hg,hcs⟩:=(hf.ext hEw).get (k:=k) (by omega)
   have i1:(k:Int)<(len:Int):=by omega
   have HST:Hid _:=wr_step (rs:=rs) (k:=k) (by omega)
   obtain⟨c0,c1,c2⟩:=hcs k (by omega)
   obtain⟨r,hr⟩:∃r,rs.getD k r0=r:=⟨_,rfl⟩
   rw[hr] at c0 c1 c2 HST
   have HR:Hid _:=hr
   clear hr hcs
   go_wp2_with fail
   refine(inRange_any r _).mono ?_
   rintro e w1 ⟨he,E1⟩
   have hbel1:Below (w.heap.size+1) (w.alloc (.cells #[.int .i64 0,.int .i64 0] 44)) w1:=(hbel.alloc (by omega) _).trans (Below.mono E1 (by simp;omega))
   obtain⟨z0',z1',y0',y1',hsz'⟩:=fault_kept hbel1
   have hE1:Ext w w1:=(hEw.alloc _).trans E1
   have b0:w1.cell? ⟨wr.heap.size,0,none⟩=some (.int .i64 r.1):=(E1.cells.1 _ _ (by simp)).trans (by simp)
   have b1:w1.cell? ⟨wr.heap.size,1,none⟩=some (.int .i64 r.2.1):=(E1.cells.1 _ _ (by simp)).trans (by simp)
   have b2:w1.cell? ⟨wr.heap.size,2,none⟩=some (.int .i64 r.2.2):=(E1.cells.1 _ _ (by simp)).trans (by simp)
   have hf1:=hf.ext hE1
   clear z0 z1 y0 y1 c0 c1 c2
   cases hin:inR r with
   | false=>
    rw[hin] at he
    subst he
    have hfin:Rul.wr 0 (pv rs 0) (rs.drop 0)=(3,(k:Int)):=by rw[HW.out,HST.out,if_pos hin]
    have HF:Hid _:=hfin
    clear hfin hin
    go_wp2
    refine bodyPost_ret (v:=.agg #[.int .i64 3,.int .i64 k]) (by simp[results,Try.results22,go_sem,z0',z1']) rfl ⟨by rw[HF.out],?_⟩
    exact(hE1.setCell (Nat.le_refl _) _).setCell (Nat.le_refl _) _
   | true=>
    rw[hin] at he
    subst he
    have HST2:Hid _:=HST.out.trans (if_neg (by rw[hin];simp))
    clear HST hin
    by_cases hk0:k=0
    ·subst hk0
     have HW2:Hid (Rul.wr 0 (pv rs 0) (rs.drop 0)=Rul.wr 1 (pv rs 1) (rs.drop 1)):=HW.out.trans (HST2.out.trans (if_neg (by simp[pv])))
     clear HST2 HW
     go_wp2_with fail
     refine wp_region_quiet_below (by kernel_rfl) (by kernel_rfl) ?_
     repeat(go_big_quiet_step (fail))
     refine wpQuiet_nil ?_
     intro _ hw'
     obtain⟨⟨dq,oq⟩,hw''⟩:=hw'
     subst hw''
     go_wp2
     exact⟨⟨1,by omega,by go_num,HW2,hbel1.trans (Below.mono (below_regrown w1 dq oq) (by omega))⟩,by simp[intOf];omega⟩
    ·obtain⟨k,rfl⟩:∃j,k=j+1:=⟨k - 1,by omega⟩
     obtain⟨g,off,e,hg,hcs⟩:=hf1.get (k:=k) (by omega)
     cases e
     obtain⟨c0,c1,c2⟩:=hcs k (by omega)
     obtain⟨q,hq⟩:∃q,rs.getD k r0=q:=⟨_,rfl⟩
     rw[hq] at c0 c1 c2
     have HP:Hid (pv rs (k+1)=some q):=by show some (rs.getD k r0)=_;rw[hq]
     have HQ:Hid _:=order_re q r w1
     have x0':=cell_regrown c0
     have x1':=cell_regrown c1
     have x2':=cell_regrown c2
     have v0':=cell_regrown b0
     have v1':=cell_regrown b1
     have v2':=cell_regrown b2
     have bk:(k:Int)<(len:Int):=by omega
     have i0:(0:Int)<(k:Int)+1:=by omega
     clear c0 c1 c2 hcs hq b0 b1 b2 hk0
     cases hlq:lt q r with
     | true=>
      have HW2:Hid (Rul.wr 0 (pv rs 0) (rs.drop 0)=Rul.wr (k+1+1) (pv rs (k+1+1)) (rs.drop (k+1+1))):=HW.out.trans (HST2.out.trans (if_neg (by rw[HP.out];simp[hlq])))
      have hl:¬cf q r≥0:=by rw[cf_ge,hlq];simp
      clear HST2 HW HP hlq
      have hl2:decide (cf q r≥0)=false:=decide_eq_false hl
      go_wp2_with fail
      refine wp_region_quiet_below (by kernel_rfl) (by kernel_rfl) ?_
      repeat(go_big_quiet_step (with_reducible exact HQ.out _ _))
      refine wpQuiet_nil ?_
      intro _ hw'
      obtain⟨⟨dq,oq⟩,hw''⟩:=hw'
      subst hw''
      clear x0' x1' x2' v0' v1' v2' HQ
      go_wp2
      exact⟨⟨k+1+1,by omega,by go_num,HW2,hbel1.trans (Below.mono (below_regrown w1 dq oq) (by omega))⟩,by simp[intOf];omega⟩
     | false=>
      have hfin:Rul.wr 0 (pv rs 0) (rs.drop 0)=(2,((k+1:Nat):Int)):=HW.out.trans (HST2.out.trans (if_pos (by rw[HP.out];simp[hlq])))
      have HF:Hid _:=hfin
      have hl:cf q r≥0:=cf_ge.2 hlq
      clear HST2 HW HP hlq hfin
      go_wp2_with fail
      refine wp_region_quiet_below (by kernel_rfl) (by kernel_rfl) ?_
      repeat(go_big_quiet_step (with_reducible exact HQ.out _ _))
      refine wpQuiet_nil ?_
      intro _ hw'
      obtain⟨⟨dq,oq⟩,hw''⟩:=hw'
      subst hw''
      clear x0' x1' x2' v0' v1' v2' HQ
      have hbel2:=hbel1.trans (Below.mono (below_regrown w1 dq oq) (by omega))
      obtain⟨z0,z1,y0,y1,hsz2⟩:=fault_kept hbel2
      have hE2:Ext w (grow (redrawn w1 dq) oq):=hE1.trans (below_regrown w1 dq oq)
      clear z0' z1' y0' y1'
      generalize grow (redrawn w1 dq) oq=wq at z0 z1 y0 y1 hE2 ⊢
      go_wp2
      refine bodyPost_ret (v:=.agg #[.int .i64 2,.int .i64 ((k+1:Nat):Int)]) (by simp[results,Try.results22,go_sem,z0,z1]) rfl ⟨by rw[HF.out],?_⟩
      exact(hE2.setCell (Nat.le_refl _) _).setCell (Nat.le_refl _) _
  ·have hfin:Rul.wr 0 (pv rs 0) (rs.drop 0)=(0,0):=by rw[HW.out,wr_end (by omega)]
   have HF:Hid _:=hfin
   clear hfin
   go_wp2
   refine bodyPost_ret (v:=.agg #[.int .i64 0,.int .i64 0]) (by simp[results,Try.results22,go_sem,z0,z1]) rfl ⟨by rw[HF.out],?_⟩
   exact(hEw.setCell (Nat.le_refl _) _).setCell (Nat.le_refl _) _
theorem wrong_many {rs:List Ru} (h:16<rs.length):Rul.wrong rs=(10,0):=by rw[Rul.wrong,if_pos h]
theorem Wrong_any (ao:Option Addr) (len cap:Nat) (rs:List Ru) (w:World) (hlen:rs.length=len) (hf:RsAt w ao rs) (hl:len≤9223372036854775807):
 Calls Try.prog 22 #[.slice ao len cap] w fun e w'=>e=.returned (.agg #[.int .i64 (Rul.wrong rs).1,.int .i64 (Rul.wrong rs).2])∧Ext w w':=by
 by_cases h:16<len
 ·rw[wrong_many (by omega)]
  exact Wrong_many ao len cap w h hl
 ·exact Wrong_few ao len cap rs w hlen hf h
end Go.Proofs.Ytolclgbpjiokfaa.Tb
namespace Go.Proofs.Ytolclgbpjiokfaa.Ag
open Go.RowKit Go.Deep Tb Rul
set_option maxRecDepth 100000 in
set_option maxHeartbeats 1600000 in
theorem wrongStamps_any (so:Option Addr) (sc:Nat) (st:List (Int×Int)) (w:World) (HS0:StAt w so st) (hsl:st.length*16≤140737488351232):
 Calls Try.prog 97 #[.slice so st.length sc] w fun e w'=>e=.returned (.int .i64 (Agt.wst none st))∧Ext w w':=by
 have HS:Hid (StAt w so st):=HS0
 clear HS0
 have HX:Hid (Agt.wst none st=Agt.wst (pvS st 0) (st.drop 0)):=by show _=_;rw[List.drop_zero];rfl
 go_enter Try.func97,Try.ntmps97
 go_wp2
 go_loopw [7] (fun iv wd=>∃k:Nat,k≤st.length∧iv=.int .i64 k∧Hid (Agt.wst none st=Agt.wst (pvS st k) (st.drop k))∧Ext w wd) (fun iv _=>st.length - (intOf iv).toNat)
 case atStart=>exact⟨0,Nat.zero_le _,rfl,HX,Ext.refl w⟩
 case round=>
  obtain⟨k,hk,rfl,HW,hE⟩:=hrel
  clear HX
  by_cases hlt:k<st.length
  ·obtain⟨g,off,rfl,hg,hcs⟩:=(StAt.ext HS.out hE).get hlt
   have i1:(k:Int)<(st.length:Int):=by omega
   have HST:Hid _:=HW.out.trans (wst_step (st:=st) (p:=pvS st k) (k:=k) hlt)
   have HNX:Hid (pvS st (k+1)=some (st.getD k s0).1):=rfl
   obtain⟨c0,c1⟩:=hcs k hlt
   obtain⟨x,hx⟩:∃x,st.getD k s0=x:=⟨_,rfl⟩
   rw[hx] at c0 c1 HST HNX
   obtain⟨x1,x2⟩:=x
   simp only at c0 c1
   have HCS:Hid _:=hcs
   clear hx hcs HW
   by_cases z1:x1<0
   ·have HF:Hid (Agt.wst none st=3):=HST.out.trans (if_pos (decide_eq_true (Or.inl z1)))
    clear HST HNX
    go_wp2
    go_ret
    exact⟨by rw[HF.out];first | done | rfl,hE.alloc _⟩
   ·by_cases z2:11<x1
    ·have HF:Hid (Agt.wst none st=3):=HST.out.trans (if_pos (decide_eq_true (Or.inr (Or.inl z2))))
     have z2':12≤x1:=by omega
     clear HST HNX z2
     go_wp2
     go_ret
     exact⟨by rw[HF.out];first | done | rfl,hE.alloc _⟩
    ·have z2':¬12≤x1:=by omega
     by_cases z3:x2<1
     ·have HF:Hid (Agt.wst none st=3):=HST.out.trans (if_pos (decide_eq_true (Or.inr (Or.inr (Or.inl z3)))))
      clear HST HNX z2
      go_wp2
      go_ret
      exact⟨by rw[HF.out];first | done | rfl,hE.alloc _⟩
     ·by_cases z4:1000<x2
      ·have HF:Hid (Agt.wst none st=3):=HST.out.trans (if_pos (decide_eq_true (Or.inr (Or.inr (Or.inr z4)))))
       clear HST HNX z2
       go_wp2
       go_ret
       exact⟨by rw[HF.out];first | done | rfl,hE.alloc _⟩
      ·have HS2:Hid (Agt.wst none st=if(pvS st k).any (fun q=>decide (x1≤q))=true then 2 else Agt.wst (some x1) (st.drop (k+1))):=HST.out.trans (if_neg (by rw[show Agt.badS (x1,x2)=false from decide_eq_false (by simp only;omega)];exact Bool.false_ne_true))
       clear HST z2
       by_cases k0:k=0
       ·subst k0
        have HW2:Hid (Agt.wst none st=Agt.wst (pvS st 1) (st.drop 1)):=by
         show _=_
         rw[HS2.out,if_neg (by simp[pvS])]
         rw[show pvS st 1=some x1 from HNX.out]
        simp only[Nat.zero_mul,Nat.add_zero] at c0 c1
        clear HS2 HNX HCS
        go_wp2_with fail
        go_quiet (fail)
        go_wp2
        exact⟨⟨1,by omega,by go_num,HW2,(hE.alloc _).drewN _⟩,by simp[intOf];omega⟩
       ·obtain⟨j,rfl⟩:∃j,k=j+1:=⟨k - 1,by omega⟩
        obtain⟨d0,d1⟩:=HCS.out j (by omega)
        have HP:Hid (pvS st (j+1)=some (st.getD j s0).1):=rfl
        obtain⟨q,hq⟩:∃q,(st.getD j s0).1=q:=⟨_,rfl⟩
        rw[hq] at d0 HP
        have i2:(j:Int)<(st.length:Int):=by omega
        have i0:(0:Int)<(j:Int)+1:=by omega
        clear HCS hq d1
        by_cases z5:x1≤q
        ·have HF:Hid (Agt.wst none st=2):=HS2.out.trans (if_pos (by rw[HP.out];simpa using z5))
         clear HS2 HP HNX
         go_wp2_with fail
         go_quiet (fail)
         go_wp2
         go_ret
         exact⟨by rw[HF.out];first | done | rfl,(hE.alloc _).drewN _⟩
        ·have HW2:Hid (Agt.wst none st=Agt.wst (pvS st (j+1+1)) (st.drop (j+1+1))):=by show _=_;rw[HNX.out];exact HS2.out.trans (if_neg (by rw[HP.out];simpa using z5))
         clear HS2 HP HNX
         go_wp2_with fail
         go_quiet (fail)
         go_wp2
         exact⟨⟨j+1+1,by omega,by go_num,HW2,(hE.alloc _).drewN _⟩,by simp[intOf];omega⟩
  ·have HF:Hid (Agt.wst none st=0):=HW.out.trans (wst_end (by omega))
   have i1:¬(k:Int)<(st.length:Int):=by omega
   clear HW
   go_wp2
   go_ret
   exact⟨by rw[HF.out];first | done | rfl,hE⟩
set_option maxRecDepth 100000 in
set_option maxHeartbeats 1600000 in
theorem Wrong_any (s:Agt.Sw) (ro so:Option Addr) (rc sc:Nat) (w:World) (h:SwAt w s ro so rc):
 Calls Try.prog 87 #[svl s ro so rc sc] w fun e w'=>e=.returned (.int .i64 (Agt.wrongS s))∧Ext w w':=by
 obtain⟨rs,st⟩:=s
 unfold svl
 have hsl:st.length*16≤140737488351232:=h.sl
 have hrl:rs.length*24≤140737488351232:=h.rl
 have HS:Hid (StAt w so st):=h.hs
 have HR:Hid (RsAt w ro rs):=h.hr.hat
 clear h
 have HX:Hid (Agt.wrongS ⟨rs,st⟩=if(Rul.wrong rs).1≠0 then(Rul.wrong rs).1 else Agt.wst none st):=rfl
 go_enter Try.func87,Try.ntmps87
 go_wp2_with fail
 obtain⟨B,hB⟩:∃B,B=w.alloc (.cells #[.slice ro rs.length rc,.slice so st.length sc] 60):=⟨_,rfl⟩
 have hE0:Ext w B:=by rw[hB];exact(Ext.refl w).alloc _
 have HK:Hid (∀W,Ext B W→W.cell? ⟨w.heap.size,1,none⟩=some (.slice so st.length sc)):=fun W hW=>by
  have l0:w.heap.size<B.heap.size:=by rw[hB];simp
  exact(hW.cells.1 _ _ l0).trans (by rw[hB];simp)
 rw[←hB]
 clear hB
 refine(Tb.Wrong_any ro rs.length rc rs _ rfl (RsAt.ext HR.out hE0) (by omega)).mono ?_
 rintro e w1 ⟨rfl,E1⟩
 obtain⟨y,hy⟩:∃y,Rul.wrong rs=y:=⟨_,rfl⟩
 rw[hy] at HX ⊢
 obtain⟨y1,y2⟩:=y
 clear hy
 have q0:=HK.out _ (E1.alloc (.cells #[.int .i64 y1,.int .i64 y2] 44))
 by_cases hz:y1=0
 ·have HX2:Hid (Agt.wrongS ⟨rs,st⟩=Agt.wst none st):=HX.out.trans (if_neg (by simpa using hz))
  have b0:(y1 != 0)=false:=by simpa using hz
  clear HX hz
  go_wp2_with fail
  refine(wrongStamps_any so sc st _ (StAt.ext HS.out (hE0.trans (E1.alloc _))) hsl).mono ?_
  rintro e w2 ⟨rfl,E2⟩
  go_wp2
  go_ret
  exact⟨by rw[HX2.out];first | done | rfl,(hE0.trans (E1.alloc _)).trans E2⟩
 ·have HX2:Hid (Agt.wrongS ⟨rs,st⟩=y1):=HX.out.trans (if_pos hz)
  have b0:(y1 != 0)=true:=by simpa using hz
  clear HX hz
  go_wp2
  go_ret
  exact⟨by rw[HX2.out];first | done | rfl,(hE0.trans E1).alloc _⟩
end Go.Proofs.Ytolclgbpjiokfaa.Ag
