/- What the laws of chapter 8 ask first: two, do, alive. -/
import Derived.Test.YtolclgbpjiokfaaU26
import Derived.Test.YtolclgbpjiokfaaU27
import Derived.Test.YtolclgbpjiokfaaU34
import Derived.Test.YtolclgbpjiokfaaU23
import Derived.Deep.RegionHeld3
namespace Go.Proofs.Ytolclgbpjiokfaa.Rm
open Go.RowKit Go.Deep Stw Stp Tb Rul Ct
theorem order_any (tl:List Value) (n:Nat) (ls:List Lk) (t:Nat) (w0:World) (P:Nat) (tg:Nat→Nat) (w:World) (W:Wd) (a:CA) (sb ob bb:Nat) (kv lv:Value) (i:Int) (h:WSt 95 tl w0 P n tg w W a sb ob bb kv lv) (hI:Inv n ls t W) (ht:t≤900):
 Calls Try.prog 52 #[.pointer (some ⟨P,0,none⟩),.int .i64 i] w fun e w'=>MOut tl w0 P n tg w sb ob bb (hapO n W i) e w':=by
 by_cases hi:0≤i∧i<(n:Int)
 ·obtain⟨s,rfl⟩:=Int.eq_ofNat_of_zero_le hi.1
  cases ho:W.od.getD s [] with
  | nil=>exact order_nil tl n w0 P tg w W a sb ob bb kv lv s h (by omega) ho
  | cons o r=>exact order_some tl n s ls o r t w0 P tg w W a sb ob bb kv lv h hI ht (by omega) ho
 ·exact order_out tl n w0 P tg w W a sb ob bb kv lv i h hi
theorem back_any (n len cap:Nat) (ls:List Lk) (ao:Option Addr) (t:Nat) (w0:World) (P:Nat) (tg:Nat→Nat) (w:World) (W:Wd) (a:CA) (sb ob bb:Nat) (kv lv:Value) (i:Int) (h:WSt 95 [.int .i64 (n:Int),.slice ao len cap] w0 P n tg w W a sb ob bb kv lv) (hI:Inv n ls t W) (ht:t≤900) (hlen:ls.length=len) (hnet:NetAt w0 ao ls) (hx:len≤9223372036854775807):
 Calls Try.prog 53 #[.pointer (some ⟨P,0,none⟩),.int .i64 i] w fun e w'=>MOut [.int .i64 (n:Int),.slice ao len cap] w0 P n tg w sb ob bb (hapK n ls W i) e w':=by
 by_cases hi:0≤i∧i<(n:Int)
 ·obtain⟨s,rfl⟩:=Int.eq_ofNat_of_zero_le hi.1
  cases hb:W.bk.getD s [] with
  | nil=>exact back_nil _ n ls w0 P tg w W a sb ob bb kv lv s h (by omega) hb
  | cons k r=>exact back_some n len cap s k r ls ao t w0 P tg w W a sb ob bb kv lv h hI ht hlen hnet hx (by omega) hb
 ·exact back_out _ n ls w0 P tg w W a sb ob bb kv lv i h hi
theorem begin_any (tl:List Value) (n:Nat) (ls:List Lk) (t:Nat) (w0:World) (P:Nat) (tg:Nat→Nat) (w:World) (W:Wd) (a:CA) (sb ob bb:Nat) (kv lv:Value) (f:Int) (h:WSt 95 tl w0 P n tg w W a sb ob bb kv lv) (hI:Inv n ls t W):
 Calls Try.prog 54 #[.pointer (some ⟨P,0,none⟩),.int .i64 f] w fun e w'=>MOut tl w0 P n tg w sb ob bb (hapB W f) e w':=by
 by_cases hm:40≤W.pk.length
 ·exact begin_many tl n w0 P tg w W a sb ob bb kv lv f h hm
 ·cases hf:frm W.co f with
  | none=>exact begin_none tl n w0 P tg w W a sb ob bb kv lv f h hm hf
  | some x=>exact begin_some tl n ls t w0 P tg w W a sb ob bb kv lv f x h hI hm hf
theorem move_any (tl:List Value) (n:Nat) (ls:List Lk) (t:Nat) (w0:World) (P:Nat) (tg:Nat→Nat) (w:World) (W:Wd) (a:CA) (sb ob bb:Nat) (kv lv:Value) (i:Int) (h:WSt 95 tl w0 P n tg w W a sb ob bb kv lv) (hI:Inv n ls t W):
 Calls Try.prog 55 #[.pointer (some ⟨P,0,none⟩),.int .i64 i] w fun e w'=>MOut tl w0 P n tg w sb ob bb (hapM W i) e w':=by
 by_cases hi:0≤i∧i<(W.pk.length:Int)
 ·obtain⟨s,rfl⟩:=Int.eq_ofNat_of_zero_le hi.1
  cases hd:(W.pk.getD s pk0).dn with
  | true=>exact move_done tl n w0 P tg w W a sb ob bb kv lv s h (by omega) hd
  | false=>exact move_some tl n ls t w0 P tg w W a sb ob bb kv lv s h hI (by omega) hd
 ·exact move_out tl n w0 P tg w W a sb ob bb kv lv i h hi
theorem MOut.from {tl:List Value} {w0:World} {P n:Nat} {tg:Nat→Nat} {w w1:World} {sb ob bb:Nat} {R:Wd×Int} {e:Ending} {w':World} (h:MOut tl w0 P n tg w1 sb ob bb R e w') (E:Ext w w1):MOut tl w0 P n tg w sb ob bb R e w':=by
 obtain⟨h1,tg',a',kv',lv',h2,h3⟩:=h
 exact⟨h1,tg',a',kv',lv',h2,(Kpt.ext E).trans h3⟩
set_option maxRecDepth 100000 in
set_option maxHeartbeats 2000000 in
theorem happen_any (n len cap:Nat) (ls:List Lk) (ao:Option Addr) (t:Nat) (w0:World) (P:Nat) (tg:Nat→Nat) (w:World) (W:Wd) (a:CA) (sb ob bb:Nat) (kv lv:Value) (d:Dd) (fo:Option Addr) (fc:Nat) (h:WSt 95 [.int .i64 (n:Int),.slice ao len cap] w0 P n tg w W a sb ob bb kv lv) (hI:Inv n ls t W) (ht:t≤900) (hlen:ls.length=len) (hnet:NetAt w0 ao ls) (hx:len≤9223372036854775807) (hf:Fw.FlowsAt w0 fo d.fs) (hS:Fw.Sm d.fs) (hlx:d.fs.length≤9223372036854775807):
 Calls Try.prog 39 #[.pointer (some ⟨P,0,none⟩),.agg #[.int .i64 d.k,.int .i64 d.n,.slice fo d.fs.length fc]] w fun e w'=>MOut [.int .i64 (n:Int),.slice ao len cap] w0 P n tg w sb ob bb (hap n ls W d) e w':=by
 obtain⟨k,i,fs⟩:=d
 simp only at hf hS hlx ⊢
 obtain⟨w1,hw1⟩:∃w1,w1=w.alloc (.cells #[.int .i64 k,.int .i64 i,.slice fo fs.length fc] 66):=⟨_,rfl⟩
 have E1:Ext w w1:=by rw[hw1];exact(Ext.refl w).alloc _
 have h1:=h.toExt E1
 have HA:=hidp (ask_any n len cap fo fc fs ls ao t w0 P tg w1 W a sb ob bb kv lv h1 hI ht hlen hnet hx hf hS hlx)
 have HO:=hidp (order_any _ n ls t w0 P tg w1 W a sb ob bb kv lv i h1 hI ht)
 have HB:=hidp (back_any n len cap ls ao t w0 P tg w1 W a sb ob bb kv lv i h1 hI ht hlen hnet hx)
 have HG:=hidp (begin_any _ n ls t w0 P tg w1 W a sb ob bb kv lv i h1 hI)
 have HM:=hidp (move_any _ n ls t w0 P tg w1 W a sb ob bb kv lv i h1 hI)
 have HD:=hidp (drop_any n len cap ls ao t w0 P tg w1 W a sb ob bb kv lv h1 hI (by omega) hlen hnet hx)
 have HW:=hidp h
 rw[hw1] at HA HO HB HG HM HD
 have HE:=hidp E1
 clear h h1 hI hlen hnet hx hf hS hlx E1
 by_cases k1:k=1
 ·have HH:Hid (hap n ls W ⟨k,i,fs⟩=hapA n ls W fs):=by show _=_;unfold hap;rw[if_pos k1]
  subst k1
  go_enter Try.func39,Try.ntmps39
  go_wp2_with fail
  refine Calls.mono HA.out ?_
  rintro e w2 hM
  obtain⟨rfl,hM2⟩:=hM
  have HM2:=hidp hM2
  clear hM2
  go_wp2
  go_ret
  rw[HH.out]
  exact MOut.from ⟨rfl,HM2.out⟩ (by rw[←hw1];exact HE.out)
 ·by_cases k2:k=2
  ·have HH:Hid (hap n ls W ⟨k,i,fs⟩=hapO n W i):=by show _=_;unfold hap;rw[if_neg k1,if_pos k2]
   subst k2
   go_enter Try.func39,Try.ntmps39
   go_wp2_with fail
   refine Calls.mono HO.out ?_
   rintro e w2 hM
   obtain⟨rfl,hM2⟩:=hM
   have HM2:=hidp hM2
   clear hM2
   go_wp2
   go_ret
   rw[HH.out]
   exact MOut.from ⟨rfl,HM2.out⟩ (by rw[←hw1];exact HE.out)
  ·by_cases k3:k=3
   ·have HH:Hid (hap n ls W ⟨k,i,fs⟩=hapK n ls W i):=by show _=_;unfold hap;rw[if_neg k1,if_neg k2,if_pos k3]
    subst k3
    go_enter Try.func39,Try.ntmps39
    go_wp2_with fail
    refine Calls.mono HB.out ?_
    rintro e w2 hM
    obtain⟨rfl,hM2⟩:=hM
    have HM2:=hidp hM2
    clear hM2
    go_wp2
    go_ret
    rw[HH.out]
    exact MOut.from ⟨rfl,HM2.out⟩ (by rw[←hw1];exact HE.out)
   ·by_cases k4:k=4
    ·have HH:Hid (hap n ls W ⟨k,i,fs⟩=hapB W i):=by show _=_;unfold hap;rw[if_neg k1,if_neg k2,if_neg k3,if_pos k4]
     subst k4
     go_enter Try.func39,Try.ntmps39
     go_wp2_with fail
     refine Calls.mono HG.out ?_
     rintro e w2 hM
     obtain⟨rfl,hM2⟩:=hM
     have HM2:=hidp hM2
     clear hM2
     go_wp2
     go_ret
     rw[HH.out]
     exact MOut.from ⟨rfl,HM2.out⟩ (by rw[←hw1];exact HE.out)
    ·by_cases k5:k=5
     ·have HH:Hid (hap n ls W ⟨k,i,fs⟩=hapM W i):=by show _=_;unfold hap;rw[if_neg k1,if_neg k2,if_neg k3,if_neg k4,if_pos k5]
      subst k5
      go_enter Try.func39,Try.ntmps39
      go_wp2_with fail
      refine Calls.mono HM.out ?_
      rintro e w2 hM
      obtain⟨rfl,hM2⟩:=hM
      have HM2:=hidp hM2
      clear hM2
      go_wp2
      go_ret
      rw[HH.out]
      exact MOut.from ⟨rfl,HM2.out⟩ (by rw[←hw1];exact HE.out)
     ·by_cases k6:k=6
      ·have HH:Hid (hap n ls W ⟨k,i,fs⟩=hapD n ls W):=by show _=_;unfold hap;rw[if_neg k1,if_neg k2,if_neg k3,if_neg k4,if_neg k5,if_pos k6]
       subst k6
       go_enter Try.func39,Try.ntmps39
       go_wp2_with fail
       refine Calls.mono HD.out ?_
       rintro e w2 hM
       obtain⟨rfl,hM2⟩:=hM
       have HM2:=hidp hM2
       clear hM2
       go_wp2
       go_ret
       rw[HH.out]
       exact MOut.from ⟨rfl,HM2.out⟩ (by rw[←hw1];exact HE.out)
      ·have HH:Hid (hap n ls W ⟨k,i,fs⟩=(W,1)):=by show _=_;unfold hap;rw[if_neg k1,if_neg k2,if_neg k3,if_neg k4,if_neg k5,if_neg k6]
       have b1:(k == 1)=false:=by simpa using k1
       have b2:(k == 2)=false:=by simpa using k2
       have b3:(k == 3)=false:=by simpa using k3
       have b4:(k == 4)=false:=by simpa using k4
       have b5:(k == 5)=false:=by simpa using k5
       have b6:(k == 6)=false:=by simpa using k6
       clear HA HO HB HG HM HD
       go_enter Try.func39,Try.ntmps39
       go_wp2
       go_ret
       rw[HH.out, ←hw1]
       exact⟨rfl,tg,a,kv,lv,HW.out.toExt HE.out,Kpt.ext HE.out⟩
end Go.Proofs.Ytolclgbpjiokfaa.Rm
namespace Go.Proofs.Ytolclgbpjiokfaa.Rm
open Go.RowKit Go.Deep Stw Stp Tb Rul Ct
def Pw (w:World) (N:Int) (nv:Value):World:=((w.alloc (.cells #[.int .i64 N,nv] 24)).alloc (.cells #[.int .i64 0,.int .i64 0,.slice none 0 0,.slice none 0 0,.int .i64 0,.slice none 0 0,.slice none 0 0,.int .i64 0,.slice none 0 0,.slice none 0 0,.slice none 0 0,.slice none 0 0,.slice none 0 0,.slice none 0 0] 40)).alloc (.cells #[.int .i64 0,.int .i64 0] 44)
structure PBx (W:World) (b:Nat) (N:Int) (nv:Value):Prop where
 n0:W.cell? ⟨b,0,none⟩=some (.int .i64 N)
 n1:W.cell? ⟨b,1,none⟩=some nv
 w:W.heap[b+1]? =some (.cells #[.int .i64 0,.int .i64 0,.slice none 0 0,.slice none 0 0,.int .i64 0,.slice none 0 0,.slice none 0 0,.int .i64 0,.slice none 0 0,.slice none 0 0,.slice none 0 0,.slice none 0 0,.slice none 0 0,.slice none 0 0] 40 (0,0))
 f:W.heap[b+1+1]? =some (.cells #[.int .i64 0,.int .i64 0] 44 (0,0))
theorem PBx.lt {W:World} {b:Nat} {N:Int} {nv:Value} (h:PBx W b N nv):b+1+1<W.heap.size:=(Array.getElem?_eq_some_iff.1 h.f).1
theorem PBx.ext {W V:World} {b:Nat} {N:Int} {nv:Value} (h:PBx W b N nv) (E:Ext W V):PBx V b N nv:=by
 have hl:=h.lt
 exact⟨(E.cells.1 _ _ (by omega)).trans h.n0,(E.cells.1 _ _ (by omega)).trans h.n1,(Below.block E _ (by omega)).trans h.w,(Below.block E _ hl).trans h.f⟩
theorem Pw_ext (w:World) (N:Int) (nv:Value):Ext w (Pw w N nv):=(((Ext.refl w).alloc _).alloc _).alloc _
theorem Pw_box (w:World) (N:Int) (nv:Value):PBx (Pw w N nv) w.heap.size N nv:=by
 unfold Pw
 refine⟨?_,?_,?_,?_⟩
 ·first | (simp;done) | (simp[go_sem];done)
 ·first | (simp;done) | (simp[go_sem];done)
 ·rw[blk_alloc_lt _ _ _ (by simp)];exact new_at (by simp)
 ·exact new_at (by simp)
def W16 (V:World) (X Y:Nat) (x0 x1 x2 x3 x4 x5 x6 x7 x8 x9 x10 x11 x12 x13 y0 y1:Value):World:=(((((((((((((((V.setCell ⟨X,0,none⟩ x0).setCell ⟨X,1,none⟩ x1).setCell ⟨X,2,none⟩ x2).setCell ⟨X,3,none⟩ x3).setCell ⟨X,4,none⟩ x4).setCell ⟨X,5,none⟩ x5).setCell ⟨X,6,none⟩ x6).setCell ⟨X,7,none⟩ x7).setCell ⟨X,8,none⟩ x8).setCell ⟨X,9,none⟩ x9).setCell ⟨X,10,none⟩ x10).setCell ⟨X,11,none⟩ x11).setCell ⟨X,12,none⟩ x12).setCell ⟨X,13,none⟩ x13).setCell ⟨Y,0,none⟩ y0).setCell ⟨Y,1,none⟩ y1
theorem W16_block {V:World} {X Y:Nat} {x0 x1 x2 x3 x4 x5 x6 x7 x8 x9 x10 x11 x12 x13 y0 y1:Value}:∀b,b≠X→b≠Y→(W16 V X Y x0 x1 x2 x3 x4 x5 x6 x7 x8 x9 x10 x11 x12 x13 y0 y1).heap[b]? =V.heap[b]?:=fun b h1 h2=>by
 unfold W16
 iterate 2 rw[blk_setCell_other _ _ _ _ h2]
 iterate 14 rw[blk_setCell_other _ _ _ _ h1]
theorem W16_size {V:World} {X Y:Nat} {x0 x1 x2 x3 x4 x5 x6 x7 x8 x9 x10 x11 x12 x13 y0 y1:Value}:(W16 V X Y x0 x1 x2 x3 x4 x5 x6 x7 x8 x9 x10 x11 x12 x13 y0 y1).heap.size=V.heap.size:=by
 unfold W16;simp
theorem W16_ext {w V:World} {X Y:Nat} {x0 x1 x2 x3 x4 x5 x6 x7 x8 x9 x10 x11 x12 x13 y0 y1:Value} (h:Ext w V) (h1:w.heap.size≤X) (h2:w.heap.size≤Y):Ext w (W16 V X Y x0 x1 x2 x3 x4 x5 x6 x7 x8 x9 x10 x11 x12 x13 y0 y1):=by
 unfold W16
 iterate 2 refine Ext.setCell ?_ h2 _
 iterate 14 refine Ext.setCell ?_ h1 _
 exact h
theorem WSt.fin {T:TypeId} {tl:List Value} {w0 w:World} {P n:Nat} {tg:Nat→Nat} {W:Wd} {a:CA} {sb ob bb:Nat} {kv lv cv:Value} {came:List Int} {X Y:Nat} {x0 x1 x2 x3 x4 x5 x6 x7 x8 x9 x10 x11 x12 x13 y0 y1:Value} (h:WSt T tl w0 P n tg w W a sb ob bb kv lv) (hc:CamAt tg w came cv) (hX:tg X=8) (hY:tg Y=8):
 WSt T tl w0 P n tg (W16 w X Y x0 x1 x2 x3 x4 x5 x6 x7 x8 x9 x10 x11 x12 x13 y0 y1) W a sb ob bb kv lv∧CamAt tg (W16 w X Y x0 x1 x2 x3 x4 x5 x6 x7 x8 x9 x10 x11 x12 x13 y0 y1) came cv:=by
 have k:KeepP (fun x=>x≠8) tg tg w (W16 w X Y x0 x1 x2 x3 x4 x5 x6 x7 x8 x9 x10 x11 x12 x13 y0 y1):=⟨Nat.le_of_eq W16_size.symm,fun b _ hb=>⟨rfl,W16_block b (fun e=>hb (by rw[e];exact hX)) (fun e=>hb (by rw[e];exact hY))⟩⟩
 exact⟨h.keepW (k.mono (fun x hx=>hx.2)) (fun b hb=>h.nw b (by rwa [W16_size] at hb)) h.base (W16_ext h.ext (h.base X (by rw[hX];decide)) (h.base Y (by rw[hY];decide))),hc.keep k (by decide)⟩
theorem infoEr:(Try.prog.info? 42).map (fun i=>(i.zero,i.size,i.bytes))=some (some (.int .i64 0),1,8):=by kernel_rfl
def PlyI (w w3:World) (n len cap:Nat) (ao:Option Addr) (P sb ob bb:Nat) (q:Wd×List Int) (cv:Value) (wd:World):Prop:=
 ∃(tg:Nat→Nat) (a:CA) (kv lv:Value),WSt 95 [.int .i64 (n:Int),.slice ao len cap] w P n tg wd q.1 a sb ob bb kv lv∧CamAt tg wd q.2 cv∧tg (w.heap.size+1)=8∧tg (w.heap.size+1+1)=8∧wd.heap[w.heap.size+1]? =w3.heap[w.heap.size+1]?∧wd.heap[w.heap.size+1+1]? =w3.heap[w.heap.size+1+1]?
theorem keep8 {tg tg':Nat→Nat} {w wr w3:World} {X:Nat} {B:Obj} (hb:w3.heap[X]? =some B) (t:tg X=8) (e:wr.heap[X]? =w3.heap[X]?) (K:KeepP (fun x=>x=8) tg tg' wr w):tg' X=8∧w.heap[X]? =w3.heap[X]?:=by
 have hl:X<wr.heap.size:=(Array.getElem?_eq_some_iff.1 (e.trans hb)).1
 have h:=K.blk X hl t
 exact⟨h.1.trans t,h.2.trans e⟩
theorem PlyOut.of {T:TypeId} {tl:List Value} {w wr:World} {P n:Nat} {tg:Nat→Nat} {W:Wd} {a:CA} {sb ob bb:Nat} {ko lo:Option Addr} {kc lc:Nat} {v:Value} {came:List Int} {X Y:Nat} {x0 x1 x2 x3 x4 x5 x6 x7 x8 x9 x10 x11 x12 x13 y0 y1:Value} (h:WSt T tl w P n tg wr W a sb ob bb (.slice ko W.pk.length kc) (.slice lo W.pn.length lc)) (hc:CamAt tg wr came v) (hX:tg X=8) (hY:tg Y=8) (hs:W.sw.length=n) (ho:W.od.length=n) (hb:W.bk.length=n):
 PlyOut w W came (0,0) (.returned (.tuple #[.agg #[.int .i64 W.co.st,.int .i64 W.co.now.v,.slice a.n.fo W.co.now.fs.length a.n.fc,.slice a.n.qo W.co.now.ps.length a.n.qc,.int .i64 W.co.nxt.v,.slice a.x.fo W.co.nxt.fs.length a.x.fc,.slice a.x.qo W.co.nxt.ps.length a.x.qc,.int .i64 W.co.num,.slice a.wo W.co.wts.length a.wc,.slice (some ⟨sb,0,none⟩) n n,.slice (some ⟨ob,0,none⟩) n n,.slice (some ⟨bb,0,none⟩) n n,.slice ko W.pk.length kc,.slice lo W.pn.length lc],v,.agg #[.int .i64 0,.int .i64 0]])) (W16 wr X Y x0 x1 x2 x3 x4 x5 x6 x7 x8 x9 x10 x11 x12 x13 y0 y1):=by
 obtain⟨h1,h2⟩:=h.fin (x0:=x0) (x1:=x1) (x2:=x2) (x3:=x3) (x4:=x4) (x5:=x5) (x6:=x6) (x7:=x7) (x8:=x8) (x9:=x9) (x10:=x10) (x11:=x11) (x12:=x12) (x13:=x13) (y0:=y0) (y1:=y1) hc hX hY
 obtain⟨ko',kc',lo',lc',e1,e2,hwo⟩:=h1.look hs ho hb
 cases e1
 cases e2
 obtain⟨co,cc,rfl,hl⟩:=h2.list
 refine⟨_,co,cc,?_,h1.ext,hwo,hl⟩
 unfold wvl
 rw[hs,ho,hb]
set_option maxRecDepth 100000 in
set_option maxHeartbeats 4000000 in
theorem Play_any (N:Int) (ao:Option Addr) (len cap:Nat) (ls:List Lk) (lo:Option Addr) (lc:Nat) (ds:List Dd) (w:World) (hlen:ls.length=len) (hl:NetAt w ao ls) (hx:len≤9223372036854775807) (hd:DosAt w lo ds) (hS:DsSm ds) (hdl:ds.length≤9223372036854775807):
 Calls Try.prog 18 #[.agg #[.int .i64 N,.slice ao len cap],.slice lo ds.length lc] w fun e w'=>PlyOut w (plyW N ls ds).1 (plyW N ls ds).2 (plyF N ls ds) e w':=by
 obtain⟨i0,hi0,hz00,hz01,hz02⟩:=info_parts infoEr
 have HA:=hidp (Pw_box w N (.slice ao len cap))
 have hE0:=Pw_ext w N (.slice ao len cap)
 go_enter Try.func18,Try.ntmps18
 go_wp2_with fail
 unfold Pw at HA hE0
 obtain⟨W1,hW1⟩:∃W1,W1=((w.alloc (.cells #[.int .i64 N,.slice ao len cap] 24)).alloc (.cells #[.int .i64 0,.int .i64 0,.slice none 0 0,.slice none 0 0,.int .i64 0,.slice none 0 0,.slice none 0 0,.int .i64 0,.slice none 0 0,.slice none 0 0,.slice none 0 0,.slice none 0 0,.slice none 0 0,.slice none 0 0] 40)).alloc (.cells #[.int .i64 0,.int .i64 0] 44):=⟨_,rfl⟩
 rw[←hW1] at HA hE0 ⊢
 clear hW1
 refine(Wrong_any N ao len cap ls W1 hlen (hl.ext hE0) hx).mono ?_
 rintro e w2 ⟨rfl,E2⟩
 have HA2:=hidp (HA.out.ext E2)
 have hl2:=HA2.out.lt
 have hE2:=hE0.trans E2
 have hl20:w.heap.size<w2.heap.size:=by omega
 have hl21:w.heap.size+1<w2.heap.size:=by omega
 have zw:=box_cell HA2.out.w
 have zf:=box_cell HA2.out.f
 have fw:=box_frozen HA2.out.w
 have ff:=box_frozen HA2.out.f
 have r0:=zw 0
 have r1:=zw 1
 have r2:=zw 2
 have r3:=zw 3
 have r4:=zw 4
 have r5:=zw 5
 have r6:=zw 6
 have r7:=zw 7
 have r8:=zw 8
 have r9:=zw 9
 have r10:=zw 10
 have r11:=zw 11
 have r12:=zw 12
 have r13:=zw 13
 have q0:=zf 0
 have q1:=zf 1
 simp only[List.getElem?_toArray,List.getElem?_cons_zero,List.getElem?_cons_succ] at r0 r1 r2 r3 r4 r5 r6 r7 r8 r9 r10 r11 r12 r13 q0 q1
 clear zw zf
 by_cases hr:(wrong N ls).1=0
 ·have hright:=right_of hr
  have hbd:=hright.bounds
  obtain⟨n,rfl⟩:=Int.eq_ofNat_of_zero_le (show 0≤N by omega)
  have hn8:n≤8:=by omega
  have HWR:=hidp hr
  rw[hright.wrong]
  clear hr hright hbd
  by_cases hm:200<ds.length
  ·have HF:Hid (plyF n ls ds=(5,0)):=by show _=_;unfold plyF;rw[if_neg (by simpa using HWR.out),if_pos hm]
   have HW:Hid (plyW n ls ds=(wd0,[])):=by show _=_;unfold plyW;rw[HF.out,if_pos (by decide)]
   have b0:(200:Int)<(ds.length:Int):=by omega
   clear hm
   go_wp2
   refine bodyPost_ret (v:=.tuple #[.agg #[.int .i64 0,.int .i64 0,.slice none 0 0,.slice none 0 0,.int .i64 0,.slice none 0 0,.slice none 0 0,.int .i64 0,.slice none 0 0,.slice none 0 0,.slice none 0 0,.slice none 0 0,.slice none 0 0,.slice none 0 0],.slice none 0 0,.agg #[.int .i64 5,.int .i64 0]]) (by simp[results,Try.results18,go_sem,r0,r1,r2,r3,r4,r5,r6,r7,r8,r9,r10,r11,r12,r13,q0,q1,hl2,hl21]) rfl ?_
   rw[HW.out,HF.out]
   refine⟨wa0,none,0,rfl,?_,WoAt.zero _,Or.inl rfl⟩
   refine Ext.alloc ?_ _
   iterate 16 refine Ext.setCell ?_ (by simp only;omega) _
   exact hE2
  ·have HF:=hidp (plyF_of (n:=(n:Int)) (ds:=ds) HWR.out (by omega))
   have b0:¬(200:Int)<(ds.length:Int):=by omega
   have n0:=HA2.out.n0
   have n1:=HA2.out.n1
   go_wp2_with fail
   refine(playedIn_any n ao len cap _ hn8).mono ?_
   rintro e w3 ⟨P,sb,ob,bb,rfl,hP1,hP2,hP3,hP4,hrow,hb1,hb2,hb3,E3⟩
   have hA3:=HA2.out.ext (((Ext.refl w2).alloc _).trans E3)
   have hE3:Ext w w3:=hE2.trans (((Ext.refl w2).alloc _).trans E3)
   have hPw:w.heap.size+1+1<P:=by simp at hP1;omega
   have hx8:=tg0_xy (P:=P) (sb:=sb) (ob:=ob) (bb:=bb) (X:=w.heap.size+1) (Y:=w.heap.size+1+1) (by omega) (by omega) hP2 hP3 hP4
   have HST:Hid (PlyI w w3 n len cap ao P sb ob bb (run n ls (ds.take 0)) (.slice none 0 0) w3):=⟨_,ca0,_,_,WSt.start (X:=w.heap.size+1) (Y:=w.heap.size+1+1) (by omega) (by omega) (by omega) (by omega) hP2 hP3 hP4 hrow hb1 hb2 hb3 hE3,RwT.nil _ _ _ _ _,hx8.1,hx8.2,rfl,rfl⟩
   have HBW:=hidp hA3
   have HDS:=hidp hd
   have HSM:=hidp hS
   have HNT:=hidp hl
   clear hA3 hE3 hx8 hrow hb1 hb2 hb3 E3 hP1 hd hS hl HA2 HA fw ff r0 r1 r2 r3 r4 r5 r6 r7 r8 r9 r10 r11 r12 r13 q0 q1 n0 n1 E2 hE2 hE0
   go_wp2
   go_loopw [9,28] (fun cv iv wd=>∃(k:Nat) (v:Value),k≤ds.length∧iv=.int .i64 k∧cv=v∧Hid (PlyI w w3 n len cap ao P sb ob bb (run n ls (ds.take k)) v wd)) (fun _ iv _=>ds.length - (intOf iv).toNat)
   case atStart=>exact⟨0,_,Nat.zero_le _,rfl,rfl,HST.out⟩
   case round=>
    obtain⟨k,v,hk,rfl,hcv,HI⟩:=hrel
    obtain rfl:=hcv.symm
    by_cases hlt:k<ds.length
    ·have i1:(k:Int)<(ds.length:Int):=by omega
     obtain⟨tg,a,kv,lv,hW,hC,t8,t8',e8,e8'⟩:=HI.out
     obtain⟨db,doff,fo,fc,rfl,hdb,c0,c1,c2,hfl⟩:=(HDS.out).get hlt
     have hdb':db<wr.heap.size:=Nat.lt_of_lt_of_le hdb hW.ext.size
     have d0:=(hW.ext.cells.1 _ _ hdb).trans c0
     have d1:=(hW.ext.cells.1 _ _ hdb).trans c1
     have d2:=(hW.ext.cells.1 _ _ hdb).trans c2
     have hmem:ds.getD k dd0∈ds:=by rw[List.getD_eq_getElem?_getD,List.getElem?_eq_getElem hlt];exact List.getElem_mem _
     have hsm:=HSM.out _ hmem
     have HRT:Hid (run n ls (ds.take (k+1))=stepR n ls (run n ls (ds.take k)) (ds.getD k dd0)):=runR_take (n:=n) (ls:=ls) (q:=(wdN n,[])) hlt
     generalize ds.getD k dd0=d at d0 d1 d2 hfl hsm HRT
     obtain⟨dk,dn,dfs⟩:=d
     simp only at d0 d1 d2 hfl hsm
     have hinv:=run_inv (n:=n) (ls:=ls) (ds:=ds.take k) HWR.out (by rw[List.length_take];omega)
     have hcl:(run n ls (ds.take k)).2.length=k:=by rw[run_len,List.length_take];omega
     have HCL:=hidp hcl
     have HHP:Hid (∀V,Ext wr V→Calls Try.prog 39 #[.pointer (some ⟨P,0,none⟩),.agg #[.int .i64 dk,.int .i64 dn,.slice fo dfs.length fc]] V fun e w'=>MOut [.int .i64 (n:Int),.slice ao len cap] w P n tg V sb ob bb (hap n ls (run n ls (ds.take k)).1 ⟨dk,dn,dfs⟩) e w'):=fun V hV=>happen_any n len cap ls ao _ w P tg V _ a sb ob bb kv lv ⟨dk,dn,dfs⟩ fo fc (hW.toExt hV) hinv (by rw[List.length_take];omega) hlen HNT.out hx hfl hsm.1 hsm.2
     have HC:=hidp hC
     have HW0:=hidp hW
     have H8:=hidp (And.intro t8 (And.intro t8' (And.intro e8 e8')))
     clear hW hC t8 t8' e8 e8' hinv hsm hfl c0 c1 c2 hmem HI hcl
     generalize run n ls (ds.take k)=q at HC HW0 HHP HRT HCL
     obtain⟨QW,came⟩:=q
     go_wp2_with fail
     refine Calls.mono (HHP.out _ ((Ext.refl wr).alloc _)) ?_
     rintro e w5 ⟨rfl,tg5,a5,kv5,lv5,hW5,hK5⟩
     obtain⟨er,her⟩:∃er,er=(hap n ls (QW,came).1 ⟨dk,dn,dfs⟩).2:=⟨_,rfl⟩
     rw[←her]
     have HER:=hidp her
     have HW5:=hidp hW5
     have HKK:Hid (Kpt tg tg5 wr w5):=(Kpt.ext ((Ext.refl wr).alloc _)).trans hK5
     have HC5:=hidp (HC.out.keep HKK.out (Or.inr (Or.inl rfl)))
     have hcl:came.length=k:=HCL.out
     have EP:Ext w5 (w5.alloc (.cells #[.int .i64 er] 42)):=(Ext.refl w5).alloc _
     clear her hW5 hK5
     go_wp2_with (first | (at_builtin;refine wpList_append_rw _ rfl _ _ 41 rfl 42 i0 _ 1 8 Try.underlying41 hi0 hz00 hz01 hz02 rfl (by decide) _ came.length (came.map (Value.int .i64)) rfl (HC5.out.keep (KeepP.ext (S:=fun _=>True) EP) trivial).row ⟨w5.heap.size,0,none⟩ 1 [.int .i64 er] rfl rfl (news1 rfl (Ext.refl _)) (one1i _) (by unfold maxLen;omega) (by omega) ?_) | fail)
     intro g7 off7 cap7 w7 hr7 hg7 hat7
     obtain⟨tg7,hW7,hC7,hK7⟩:=WSt.pushE (HW5.out.toExt EP) (HC5.out.keep (KeepP.ext (S:=fun _=>True) EP) trivial) (by rw[hcl];exact hr7) hg7 (by simpa using hat7)
     have K8:KeepP (fun x=>x=8) tg tg7 wr w7:=(HKK.out.mono (fun x hx=>Or.inr (Or.inr hx))).trans ((KeepP.ext EP).trans (hK7.mono (fun x hx=>by omega)))
     have z8:=keep8 HBW.out.w H8.out.1 H8.out.2.2.1 K8
     have z8':=keep8 HBW.out.f H8.out.2.1 H8.out.2.2.2 K8
     have HST7:Hid (PlyI w w3 n len cap ao P sb ob bb (run n ls (ds.take (k+1))) (.slice (some ⟨g7,off7,none⟩) (k+1) cap7) w7):=by
      show PlyI w w3 n len cap ao P sb ob bb _ _ w7
      rw[HRT.out]
      refine⟨tg7,a5,kv5,lv5,hW7,?_,z8.1,z8'.1,z8.2,z8'.2⟩
      show CamAt tg7 w7 (came++[(hap n ls (QW,came).1 ⟨dk,dn,dfs⟩).2]) _
      rw[←HER.out]
      rw[hcl] at hC7
      exact hC7
     clear hW7 hC7 hK7 K8 z8 z8' hr7 hg7 hat7
     go_wp2
     refine⟨⟨k+1,_,by omega,by simp[go_sem],rfl,HST7.out⟩,?_⟩
     simp[intOf]
     omega
    ·have hke:k=ds.length:=by omega
     have i1:¬(k:Int)<(ds.length:Int):=by omega
     obtain⟨tg,a,kv,lv,hW,hC,t8,t8',e8,e8'⟩:=HI.out
     have hinv:=run_inv (n:=n) (ls:=ls) (ds:=ds.take k) HWR.out (by rw[List.length_take];omega)
     have HRE:Hid (plyW (n:Int) ls ds=run n ls (ds.take k)):=by
      show _=_
      rw[HF.out.2,hke,List.take_length]
      rfl
     obtain⟨ko,kc,lo2,lc2,hkv,hlv,hwo⟩:=hW.look hinv.lsw hinv.lod hinv.lbk
     have hlsw:=hinv.lsw
     have hlod:=hinv.lod
     have hlbk:=hinv.lbk
     clear hinv hwo
     generalize run n ls (ds.take k)=q at hW hC HRE hkv hlv hlsw hlod hlbk
     obtain⟨W,came⟩:=q
     simp only at hW hC hkv hlv hlsw hlod hlbk
     subst hkv hlv
     have p0:wr.cell? ⟨P,0,none⟩=some (.int .i64 W.co.st):=hW.row.cell (i:=0) (by simp)
     have p1:wr.cell? ⟨P,1,none⟩=some (.int .i64 W.co.now.v):=hW.row.cell (i:=1) (by simp)
     have p2:wr.cell? ⟨P,2,none⟩=some (.slice a.n.fo W.co.now.fs.length a.n.fc):=hW.row.cell (i:=2) (by simp)
     have p3:wr.cell? ⟨P,3,none⟩=some (.slice a.n.qo W.co.now.ps.length a.n.qc):=hW.row.cell (i:=3) (by simp)
     have p4:wr.cell? ⟨P,4,none⟩=some (.int .i64 W.co.nxt.v):=hW.row.cell (i:=4) (by simp)
     have p5:wr.cell? ⟨P,5,none⟩=some (.slice a.x.fo W.co.nxt.fs.length a.x.fc):=hW.row.cell (i:=5) (by simp)
     have p6:wr.cell? ⟨P,6,none⟩=some (.slice a.x.qo W.co.nxt.ps.length a.x.qc):=hW.row.cell (i:=6) (by simp)
     have p7:wr.cell? ⟨P,7,none⟩=some (.int .i64 W.co.num):=hW.row.cell (i:=7) (by simp)
     have p8:wr.cell? ⟨P,8,none⟩=some (.slice a.wo W.co.wts.length a.wc):=hW.row.cell (i:=8) (by simp)
     have p9:wr.cell? ⟨P,9,none⟩=some (.slice (some ⟨sb,0,none⟩) n n):=hW.row.cell (i:=9) (by simp)
     have p10:wr.cell? ⟨P,10,none⟩=some (.slice (some ⟨ob,0,none⟩) n n):=hW.row.cell (i:=10) (by simp)
     have p11:wr.cell? ⟨P,11,none⟩=some (.slice (some ⟨bb,0,none⟩) n n):=hW.row.cell (i:=11) (by simp)
     have p12:wr.cell? ⟨P,12,none⟩=some (.slice ko W.pk.length kc):=hW.row.cell (i:=12) (by simp)
     have p13:wr.cell? ⟨P,13,none⟩=some (.slice lo2 W.pn.length lc2):=hW.row.cell (i:=13) (by simp)
     have zw:=box_cell (e8.trans HBW.out.w)
     have zf:=box_cell (e8'.trans HBW.out.f)
     have fw:=box_frozen (e8.trans HBW.out.w)
     have ff:=box_frozen (e8'.trans HBW.out.f)
     have r0:=zw 0
     have r1:=zw 1
     have r2:=zw 2
     have r3:=zw 3
     have r4:=zw 4
     have r5:=zw 5
     have r6:=zw 6
     have r7:=zw 7
     have r8:=zw 8
     have r9:=zw 9
     have r10:=zw 10
     have r11:=zw 11
     have r12:=zw 12
     have r13:=zw 13
     have q0:=zf 0
     have q1:=zf 1
     simp only[List.getElem?_toArray,List.getElem?_cons_zero,List.getElem?_cons_succ] at r0 r1 r2 r3 r4 r5 r6 r7 r8 r9 r10 r11 r12 r13 q0 q1
     have HW:=hidp hW
     have HC:=hidp hC
     have HT:=hidp (And.intro t8 t8')
     have HX:=hidp (And.intro hlsw (And.intro hlod hlbk))
     clear zw zf hW hC t8 t8' e8 e8' hlsw hlod hlbk HI HST HDS HSM HNT
     go_wp2
     refine bodyPost_ret (v:=.tuple #[.agg #[.int .i64 W.co.st,.int .i64 W.co.now.v,.slice a.n.fo W.co.now.fs.length a.n.fc,.slice a.n.qo W.co.now.ps.length a.n.qc,.int .i64 W.co.nxt.v,.slice a.x.fo W.co.nxt.fs.length a.x.fc,.slice a.x.qo W.co.nxt.ps.length a.x.qc,.int .i64 W.co.num,.slice a.wo W.co.wts.length a.wc,.slice (some ⟨sb,0,none⟩) n n,.slice (some ⟨ob,0,none⟩) n n,.slice (some ⟨bb,0,none⟩) n n,.slice ko W.pk.length kc,.slice lo2 W.pn.length lc2],v,.agg #[.int .i64 0,.int .i64 0]]) (by simp[results,Try.results18,go_sem,r0,r1,r2,r3,r4,r5,r6,r7,r8,r9,r10,r11,r12,r13,q0,q1]) rfl ?_
     rw[HRE.out,HF.out.1]
     exact PlyOut.of HW.out HC.out HT.out.1 HT.out.2 HX.out.1 HX.out.2.1 HX.out.2.2
 ·have HF:Hid (plyF N ls ds=wrong N ls):=by show _=_;unfold plyF;rw[if_pos hr]
  have HW:Hid (plyW N ls ds=(wd0,[])):=by show _=_;unfold plyW;rw[HF.out,if_pos hr]
  have b0:((wrong N ls).1 != 0)=true:=by simpa using hr
  clear hr
  go_wp2
  go_region
  go_wp2
  refine bodyPost_ret (v:=.tuple #[.agg #[.int .i64 0,.int .i64 0,.slice none 0 0,.slice none 0 0,.int .i64 0,.slice none 0 0,.slice none 0 0,.int .i64 0,.slice none 0 0,.slice none 0 0,.slice none 0 0,.slice none 0 0,.slice none 0 0,.slice none 0 0],.slice none 0 0,.agg #[.int .i64 (wrong N ls).1,.int .i64 (wrong N ls).2]]) (by simp[results,Try.results18,go_sem,r0,r1,r2,r3,r4,r5,r6,r7,r8,r9,r10,r11,r12,r13,q0,q1,hl2,hl21]) rfl ?_
  rw[HW.out,HF.out]
  refine⟨wa0,none,0,rfl,?_,WoAt.zero _,Or.inl rfl⟩
  refine Ext.drew (Ext.alloc ?_ _)
  iterate 16 refine Ext.setCell ?_ (by simp only;omega) _
  exact hE2
end Go.Proofs.Ytolclgbpjiokfaa.Rm
namespace Go.Proofs.Ytolclgbpjiokfaa.Rm
open Go.RowKit Go.Deep Stw Stp Tb Rul Ct
def n2:List Lk:=[⟨0,1,1⟩]
def f1:List Stf.Fl:=[⟨0,1,[],[]⟩]
theorem two_net {W:World} {b:Nat} (h:W.heap.size=b):NetAt (W.alloc (.cells #[.int .i64 0,.int .i64 1,.int .i64 1] 88)) (some ⟨b,0,none⟩) n2:=by
 subst h
 refine Or.inr ⟨_,0,rfl,by simp,fun k hk=>?_⟩
 have hk1:k<1:=hk
 match k,hk1 with
 | 0,_=>simp[n2]
set_option maxHeartbeats 1000000 in
theorem two_any (w:World):Calls Try.prog 36 #[] w fun e w'=>∃ao,e=.returned (.agg #[.int .i64 2,.slice ao 1 1])∧Hid (NetAt w' ao n2)∧Ext w w':=by
 go_enter Try.func36,Try.ntmps36
 go_wp2
 refine bodyPost_ret (v:=.agg #[.int .i64 2,.slice (some ⟨w.heap.size+1,0,none⟩) 1 1]) (by simp[results,Try.results36,go_sem]) rfl ⟨_,rfl,two_net (by simp),((Ext.refl w).alloc _).alloc _⟩
theorem f1_at {W:World} {b:Nat} (h:W.heap.size=b):Fw.FlowsAt (W.alloc (.cells #[.int .i64 0,.int .i64 1,.slice none 0 0,.slice none 0 0] 55)) (some ⟨b,0,none⟩) f1:=by
 subst h
 refine Or.inr ⟨_,0,rfl,by simp,fun k hk=>?_⟩
 have hk1:k<1:=hk
 match k,hk1 with
 | 0,_=>exact⟨.slice none 0 0,.slice none 0 0,by simp[f1],by simp[f1],by simp,by simp,⟨none,0,rfl,Or.inl rfl,Nat.le_refl _⟩,⟨none,0,rfl,Or.inl rfl,Nat.le_refl _⟩⟩
theorem f1_sm:Fw.Sm f1:=fun k h=>by
 have hk1:k<1:=h
 match k,hk1 with
 | 0,_=>simp[f1]
def doW (w:World) (k n:Int):World:=w.alloc (.cells #[.int .i64 k,.int .i64 n,.slice none 0 0] 66)
theorem doW_ext {w0 w:World} {k n:Int} (h:Ext w0 w):Ext w0 (doW w k n):=h.alloc _
set_option maxHeartbeats 1000000 in
theorem do_any (k n:Int) (w:World):Calls Try.prog 24 #[.int .i64 k,.int .i64 n] w fun e w'=>e=.returned (.agg #[.int .i64 k,.int .i64 n,.slice none 0 0])∧w'=doW w k n:=by
 go_enter Try.func24,Try.ntmps24
 go_wp2
 refine bodyPost_ret (v:=.agg #[.int .i64 k,.int .i64 n,.slice none 0 0]) (by simp[results,Try.results24,go_sem]) rfl ⟨rfl,rfl⟩
def dsA:List Dd:=[⟨1,0,f1⟩,⟨2,0,[]⟩,⟨3,0,[]⟩,⟨2,0,[]⟩,⟨3,0,[]⟩,⟨4,0,[]⟩,⟨5,0,[]⟩]
theorem dsA_at {W:World} {b:Nat} {fo:Option Addr} (h:W.heap.size=b) (hf:Fw.FlowsAt W fo f1):DosAt (W.alloc (.cells #[.int .i64 1,.int .i64 0,.slice fo 1 1,.int .i64 2,.int .i64 0,.slice none 0 0,.int .i64 3,.int .i64 0,.slice none 0 0,.int .i64 2,.int .i64 0,.slice none 0 0,.int .i64 3,.int .i64 0,.slice none 0 0,.int .i64 4,.int .i64 0,.slice none 0 0,.int .i64 5,.int .i64 0,.slice none 0 0] 66)) (some ⟨b,0,none⟩) dsA:=by
 subst h
 refine Or.inr ⟨_,0,rfl,by simp,fun k hk=>?_⟩
 have hk1:k<7:=hk
 match k,hk1 with
 | 0,_=>exact⟨fo,1,by simp[dsA],by simp[dsA],by simp[dsA,f1],hf.ext ((Ext.refl W).alloc _)⟩
 | 1,_=>exact⟨none,0,by simp[dsA],by simp[dsA],by simp[dsA],Or.inl rfl⟩
 | 2,_=>exact⟨none,0,by simp[dsA],by simp[dsA],by simp[dsA],Or.inl rfl⟩
 | 3,_=>exact⟨none,0,by simp[dsA],by simp[dsA],by simp[dsA],Or.inl rfl⟩
 | 4,_=>exact⟨none,0,by simp[dsA],by simp[dsA],by simp[dsA],Or.inl rfl⟩
 | 5,_=>exact⟨none,0,by simp[dsA],by simp[dsA],by simp[dsA],Or.inl rfl⟩
 | 6,_=>exact⟨none,0,by simp[dsA],by simp[dsA],by simp[dsA],Or.inl rfl⟩
theorem dsA_sm:DsSm dsA:=by
 intro d hd
 simp only[dsA,List.mem_cons,List.not_mem_nil,or_false] at hd
 rcases hd with rfl | rfl | rfl | rfl | rfl | rfl | rfl
 ·exact⟨f1_sm,by decide⟩
 all_goals exact⟨fun k h=>absurd h (by simp),by decide⟩
theorem dsA_f:plyF 2 n2 dsA=(0,0):=by decide+kernel
theorem dsA_c:(plyW 2 n2 dsA).2.length=7:=by decide+kernel
theorem dsA_p:(plyW 2 n2 dsA).1.pk.length=1:=by decide+kernel
theorem dsA_t:((plyW 2 n2 dsA).1.pk.getD 0 pk0).tr=[0,1]:=by decide+kernel
theorem dsA_s:(plyW 2 n2 dsA).1.co.st=3:=by decide+kernel
set_option maxRecDepth 100000 in
set_option maxHeartbeats 4000000 in
theorem alive_any (w:World):Calls Try.prog 17 #[] w fun e w'=>e=.returned (.bool true)∧Ext w w':=by
 go_enter Try.func17,Try.ntmps17
 go_wp2_with fail
 iterate 6
  refine(do_any _ _ _).mono ?_
  rintro e _ ⟨rfl,rfl⟩
  go_wp2_with fail
 have HD:=hidp (dsA_at (W:=doW (doW (doW (doW (doW (doW (w.alloc (.cells #[.int .i64 0,.int .i64 1,.slice none 0 0,.slice none 0 0] 55)) 2 0) 3 0) 2 0) 3 0) 4 0) 5 0) rfl ((f1_at (W:=w) rfl).ext (doW_ext (doW_ext (doW_ext (doW_ext (doW_ext (doW_ext (Ext.refl _)))))))))
 have E0:Ext w (doW (doW (doW (doW (doW (doW (w.alloc (.cells #[.int .i64 0,.int .i64 1,.slice none 0 0,.slice none 0 0] 55)) 2 0) 3 0) 2 0) 3 0) 4 0) 5 0):=doW_ext (doW_ext (doW_ext (doW_ext (doW_ext (doW_ext ((Ext.refl w).alloc _))))))
 generalize doW (doW (doW (doW (doW (doW (w.alloc (.cells #[.int .i64 0,.int .i64 1,.slice none 0 0,.slice none 0 0] 55)) 2 0) 3 0) 2 0) 3 0) 4 0) 5 0=w1 at HD E0 ⊢
 refine(two_any _).mono ?_
 rintro e w3 ⟨ao,rfl,HN,E3⟩
 have hE1:=(Ext.refl w1).alloc (.cells #[.int .i64 1,.int .i64 0,.slice (some ⟨w.heap.size,0,none⟩) 1 1,.int .i64 2,.int .i64 0,.slice none 0 0,.int .i64 3,.int .i64 0,.slice none 0 0,.int .i64 2,.int .i64 0,.slice none 0 0,.int .i64 3,.int .i64 0,.slice none 0 0,.int .i64 4,.int .i64 0,.slice none 0 0,.int .i64 5,.int .i64 0,.slice none 0 0] 66)
 have E03:=E0.trans (hE1.trans E3)
 have HD3:=hidp (HD.out.ext E3)
 clear HD E0 hE1 E3
 go_wp2_with fail
 refine(Play_any 2 ao 1 1 n2 (some ⟨w1.heap.size,0,none⟩) 7 dsA w3 rfl HN.out (by omega) HD3.out dsA_sm (by decide)).mono ?_
 intro e w4 hP
 have hc:=dsA_c
 have hp:=dsA_p
 have ht:=dsA_t
 have hs:=dsA_s
 rw[dsA_f] at hP
 generalize plyW 2 n2 dsA=q at hP hc hp ht hs
 obtain⟨W,came⟩:=q
 obtain⟨A,co,cc,rfl,E4,HP⟩:=hP
 simp only at hc hp ht hs HP
 unfold wvl
 rw[hs,hc,hp]
 have hk:0<W.pk.length:=by omega
 obtain⟨g,off,hko,hg,hcs⟩:=(HP.out.1.pk).resolve_left (fun h=>by rw[h] at hk;simp at hk)
 obtain⟨tO,tc,c0,c1,c2,c3,hT,_⟩:=hcs 0 hk
 rw[ht] at c2 hT
 rw[hko]
 have c2':w4.cell? ⟨g,off+2,none⟩=some (.slice tO 2 tc):=by simpa using c2
 have HT:=hidp hT
 have hE:=E03.trans E4
 clear c0 c1 c2 c3 hT hcs hk HP
 go_wp2_with fail
 obtain⟨W6,hW6⟩:∃W6,W6=w4.alloc (.cells #[.int .i64 3,.int .i64 W.co.now.v,.slice A.ca.n.fo W.co.now.fs.length A.ca.n.fc,.slice A.ca.n.qo W.co.now.ps.length A.ca.n.qc,.int .i64 W.co.nxt.v,.slice A.ca.x.fo W.co.nxt.fs.length A.ca.x.fc,.slice A.ca.x.qo W.co.nxt.ps.length A.ca.x.qc,.int .i64 W.co.num,.slice A.ca.wo W.co.wts.length A.ca.wc,.slice A.so W.sw.length A.sc,.slice A.oo W.od.length A.oc,.slice A.bo W.bk.length A.bc,.slice (some ⟨g,off,none⟩) 1 A.kc,.slice A.lo W.pn.length A.lc] 40):=⟨_,rfl⟩
 have hz:W6.heap.size=w4.heap.size+1:=by rw[hW6];simp
 have h6:W6.cell? ⟨w4.heap.size,0,none⟩=some (.int .i64 3):=by rw[hW6];simp
 have E6:Ext w4 W6:=by rw[hW6];exact(Ext.refl w4).alloc _
 rw[←hW6]
 clear hW6
 have E7:=((Ext.refl W6).alloc (.cells #[.int .i64 0,.int .i64 0] 44)).alloc (.cells #[.int .i64 0,.int .i64 1] 3)
 refine(Ints_any tO (some ⟨w4.heap.size+1+1,0,none⟩) 2 2 tc 2 [0,1] [0,1] _ rfl rfl (by omega) (HT.out.ext (E6.trans E7)) (Or.inr ⟨_,0,rfl,by simp[hz],fun k hk=>?_⟩)).mono ?_
 ·have hk1:k<2:=hk
  match k,hk1 with
  | 0,_=>simp[←hz]
  | 1,_=>simp[←hz]
 rintro e w8 ⟨rfl,E8⟩
 have h8:w8.cell? ⟨w4.heap.size,0,none⟩=some (.int .i64 3):=((E7.trans E8).cells.1 _ _ (by omega)).trans h6
 have hE8:Ext w w8:=hE.trans (E6.trans (E7.trans E8))
 clear h6 E7 E8 c2'
 go_wp2
 go_ret
 exact⟨rfl,hE8⟩
end Go.Proofs.Ytolclgbpjiokfaa.Rm
