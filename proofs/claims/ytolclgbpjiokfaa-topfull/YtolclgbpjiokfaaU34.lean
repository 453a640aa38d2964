/- What move makes of a world. -/
import Derived.Test.YtolclgbpjiokfaaU33
import Derived.Test.YtolclgbpjiokfaaU20
import Derived.Test.YtolclgbpjiokfaaU23
import Derived.Test.YtolclgbpjiokfaaU28
import Derived.Test.YtolclgbpjiokfaaU08
import Derived.Deep.AppendLies
import Derived.Laws.AppendOwnNone
namespace Go.Proofs.Ytolclgbpjiokfaa.Rm
open Go.RowKit Go.Deep Stw Stp Tb Rul Ct
theorem flow_from {w:World} {fo:Option Addr} {fs:List Stf.Fl} (h:Fw.FlowsAt w fo fs) {k:Nat} (hk:k<fs.length):∃b off,fo=some ⟨b,off,none⟩∧b<w.heap.size∧w.cell? ⟨b,off+k*4,none⟩=some (.int .i64 (fs.getD k Fw.f0).fr):=by
 rcases h with h | ⟨b,off,h1,h2,h3⟩
 ·rw[h] at hk;simp at hk
 ·obtain⟨_,_,c0,_⟩:=h3 k hk
  exact⟨b,off,h1,h2,by rw[c0];simp[List.getD_eq_getElem?_getD,hk]⟩
def frV (o:Option Int):Value:=.tuple #[.int .i64 (o.getD 0),.bool o.isSome]
theorem frm_nxt {c:Co} {f:Int} (h:0≤f∧f<(c.nxt.fs.length:Int)):frm c f=some (c.nxt.fs.getD f.toNat Fw.f0).fr:=by unfold frm;rw[if_pos h]
theorem frm_now {c:Co} {f:Int} (h:¬(0≤f∧f<(c.nxt.fs.length:Int))) (h2:0≤f∧f<(c.now.fs.length:Int)):frm c f=some (c.now.fs.getD f.toNat Fw.f0).fr:=by unfold frm;rw[if_neg h,if_pos h2]
theorem frm_none {c:Co} {f:Int} (h:¬(0≤f∧f<(c.nxt.fs.length:Int))) (h2:¬(0≤f∧f<(c.now.fs.length:Int))):frm c f=none:=by unfold frm;rw[if_neg h,if_neg h2]
set_option maxRecDepth 100000 in
set_option maxHeartbeats 2000000 in
theorem fromOf_any (tl:List Value) (n:Nat) (w0:World) (P:Nat) (tg:Nat→Nat) (w:World) (W:Wd) (a:CA) (sb ob bb:Nat) (kv lv:Value) (f:Int) (h:WSt 95 tl w0 P n tg w W a sb ob bb kv lv):
 Calls Try.prog 72 #[.pointer (some ⟨P,0,none⟩),.int .i64 f] w fun e w'=>e=.returned (frV (frm W.co f))∧Ext w w':=by
 have hP:=h.row.lt
 have q1:w.cell? ⟨P,1,none⟩=some (.int .i64 W.co.now.v):=h.row.cell (i:=1) (by omega)
 have q2:w.cell? ⟨P,2,none⟩=some (.slice a.n.fo W.co.now.fs.length a.n.fc):=h.row.cell (i:=2) (by omega)
 have q3:w.cell? ⟨P,3,none⟩=some (.slice a.n.qo W.co.now.ps.length a.n.qc):=h.row.cell (i:=3) (by omega)
 have q4:w.cell? ⟨P,4,none⟩=some (.int .i64 W.co.nxt.v):=h.row.cell (i:=4) (by omega)
 have q5:w.cell? ⟨P,5,none⟩=some (.slice a.x.fo W.co.nxt.fs.length a.x.fc):=h.row.cell (i:=5) (by omega)
 have q6:w.cell? ⟨P,6,none⟩=some (.slice a.x.qo W.co.nxt.ps.length a.x.qc):=h.row.cell (i:=6) (by omega)
 have HCO:=hidp h.co.at
 clear h
 go_enter Try.func72,Try.ntmps72
 go_wp2
 go_region
 obtain⟨w1,hw1⟩:∃w1,w1=(w.alloc (.cells #[.int .i64 W.co.nxt.v,.slice a.x.fo W.co.nxt.fs.length a.x.fc,.slice a.x.qo W.co.nxt.ps.length a.x.qc,.int .i64 W.co.now.v,.slice a.n.fo W.co.now.fs.length a.n.fc,.slice a.n.qo W.co.now.ps.length a.n.qc] 30)).drew:=⟨_,rfl⟩
 have E1:Ext w w1:=by rw[hw1];exact((Ext.refl w).alloc _).drew
 have HB:Hid (∀V,Ext w1 V→V.cell? ⟨w.heap.size,0,none⟩=some (.int .i64 W.co.nxt.v)∧V.cell? ⟨w.heap.size,1,none⟩=some (.slice a.x.fo W.co.nxt.fs.length a.x.fc)∧V.cell? ⟨w.heap.size,2,none⟩=some (.slice a.x.qo W.co.nxt.ps.length a.x.qc)∧V.cell? ⟨w.heap.size,3,none⟩=some (.int .i64 W.co.now.v)∧V.cell? ⟨w.heap.size,4,none⟩=some (.slice a.n.fo W.co.now.fs.length a.n.fc)∧V.cell? ⟨w.heap.size,5,none⟩=some (.slice a.n.qo W.co.now.ps.length a.n.qc)):=fun V hV=>by
  have l0:w.heap.size<w1.heap.size:=by rw[hw1];simp
  have hc:∀o,V.cell? ⟨w.heap.size,o,none⟩=w1.cell? ⟨w.heap.size,o,none⟩:=fun o=>hV.cells.1 _ _ l0
  rw[hc,hc,hc,hc,hc,hc,hw1]
  simp
 have HL:Hid (w.heap.size<w1.heap.size):=by show _<_;rw[hw1];simp
 rw[←hw1]
 clear hw1 q1 q2 q3 q4 q5 q6
 go_wp2
 go_loopw [22] (fun iv wd=>∃k:Nat,k≤2∧iv=.int .i64 k∧Ext w1 wd∧Hid ((1≤k→¬(0≤f∧f<(W.co.nxt.fs.length:Int)))∧(2≤k→¬(0≤f∧f<(W.co.now.fs.length:Int))))) (fun iv _=>2 - (intOf iv).toNat)
 case atStart=>exact⟨0,by omega,rfl,Ext.refl _,fun h=>by omega,fun h=>by omega⟩
 case round=>
  obtain⟨k,hk,rfl,hE,HK⟩:=hrel
  obtain⟨b0,b1,b2,b3,b4,b5⟩:=HB.out _ hE
  have hlw:w.heap.size<wr.heap.size:=Nat.lt_of_lt_of_le HL.out hE.size
  have HCW:=hidp (HCO.out.ext (E1.trans hE))
  by_cases hlt:k<2
  ·have i1:(k:Int)<2:=by omega
   by_cases hk0:k=0
   ·subst hk0
    by_cases hf:0≤f∧f<(W.co.nxt.fs.length:Int)
    ·have HF:=hidp (frm_nxt (c:=W.co) hf)
     obtain⟨m,rfl⟩:=Int.eq_ofNat_of_zero_le hf.1
     obtain⟨b,off,hfo,hb,cf⟩:=flow_from HCW.out.hx.hf (k:=m) (by omega)
     have j1:(0:Int)≤(m:Int):=by omega
     have j2:(m:Int)<(W.co.nxt.fs.length:Int):=hf.2
     have d1:decide ((0:Int)≤(m:Int))=true:=decide_eq_true j1
     have d2:decide ((m:Int)<(W.co.nxt.fs.length:Int))=true:=decide_eq_true j2
     rw[hfo] at b1
     clear hf
     go_wp2
     go_ret2
     exact⟨by rw[HF.out];rfl,((E1.trans hE).alloc _)⟩
    ·have hfn:=hidp hf
     by_cases h0:0≤f
     ·have d1:decide (0≤f)=true:=decide_eq_true h0
      have d2:decide (f<(W.co.nxt.fs.length:Int))=false:=decide_eq_false (fun e=>hf ⟨h0,e⟩)
      clear hf
      go_wp2
      exact⟨⟨1,by omega,by go_num,hE.alloc _,fun _=>hfn.out,fun h=>by omega⟩,by simp[intOf]⟩
     ·have d1:decide (0≤f)=false:=decide_eq_false h0
      clear hf
      go_wp2
      exact⟨⟨1,by omega,by go_num,hE.alloc _,fun _=>hfn.out,fun h=>by omega⟩,by simp[intOf]⟩
   ·have hk1:k=1:=by omega
    subst hk1
    have HN:=hidp (HK.out.1 (by omega))
    by_cases hf:0≤f∧f<(W.co.now.fs.length:Int)
    ·have HF:=hidp (frm_now (c:=W.co) HN.out hf)
     obtain⟨m,rfl⟩:=Int.eq_ofNat_of_zero_le hf.1
     obtain⟨b,off,hfo,hb,cf⟩:=flow_from HCW.out.hn.hf (k:=m) (by omega)
     have j1:(0:Int)≤(m:Int):=by omega
     have j2:(m:Int)<(W.co.now.fs.length:Int):=hf.2
     have d1:decide ((0:Int)≤(m:Int))=true:=decide_eq_true j1
     have d2:decide ((m:Int)<(W.co.now.fs.length:Int))=true:=decide_eq_true j2
     rw[hfo] at b4
     clear hk0
     clear hf
     go_wp2
     go_ret2
     exact⟨by rw[HF.out];rfl,((E1.trans hE).alloc _)⟩
    ·clear hk0
     have hfn:=hidp hf
     by_cases h0:0≤f
     ·have d1:decide (0≤f)=true:=decide_eq_true h0
      have d2:decide (f<(W.co.now.fs.length:Int))=false:=decide_eq_false (fun e=>hf ⟨h0,e⟩)
      clear hf
      go_wp2
      exact⟨⟨2,by omega,by go_num,hE.alloc _,fun _=>HK.out.1 (by omega),fun _=>hfn.out⟩,by simp[intOf]⟩
     ·have d1:decide (0≤f)=false:=decide_eq_false h0
      clear hf
      go_wp2
      exact⟨⟨2,by omega,by go_num,hE.alloc _,fun _=>HK.out.1 (by omega),fun _=>hfn.out⟩,by simp[intOf]⟩
  ·have hk2:k=2:=by omega
   subst hk2
   have HF:=hidp (frm_none (c:=W.co) (HK.out.1 (by omega)) (HK.out.2 (by omega)))
   clear hk
   go_wp2
   go_ret2
   exact⟨by rw[HF.out];rfl,E1.trans hE⟩
end Go.Proofs.Ytolclgbpjiokfaa.Rm
namespace Go.Proofs.Ytolclgbpjiokfaa.Ag
open Go.RowKit Go.Deep Tb Rul
set_option maxHeartbeats 400000 in
theorem isFlow_any (x1 x2 f:Int) (p:Nat) (w:World) (hp:w.cell? ⟨p,0,none⟩=some (.int .i64 f)) (hl:p<w.heap.size):
 Calls Try.prog 93 #[.agg #[.int .i64 x1,.int .i64 x2],.pointer (some ⟨p,0,none⟩)] w fun e w'=>e=.returned (.bool (x1 == f))∧Ext w w':=by
 go_enter Try.func93,Try.ntmps93
 go_wp2
 go_ret
 exact⟨rfl,(Ext.refl w).alloc _⟩
def IxOut (st:List (Int×Int)) (f r:Int):Prop:=(r= -1∧Agt.ver st f=0)∨∃k:Nat,k<st.length∧r=k∧Agt.ver st f=(st.getD k s0).2
set_option maxRecDepth 100000 in
set_option maxHeartbeats 800000 in
theorem IndexFunc_any (so:Option Addr) (sc:Nat) (st:List (Int×Int)) (f:Int) (p:Nat) (w:World) (HS0:StAt w so st) (hsl:st.length*16≤140737488351232) (hp0:w.cell? ⟨p,0,none⟩=some (.int .i64 f)) (hl0:p<w.heap.size):
 Calls Try.prog 92 #[.slice so st.length sc,.func (.func 93) #[] #[.pointer (some ⟨p,0,none⟩)]] w fun e w'=>∃r,e=.returned (.int .i64 r)∧Hid (IxOut st f r)∧Ext w w':=by
 have HS:Hid (StAt w so st):=HS0
 have HP:Hid (∀W,Ext w W→W.cell? ⟨p,0,none⟩=some (.int .i64 f)∧p<W.heap.size):=fun W hW=>⟨(hW.cells.1 _ _ hl0).trans hp0,Nat.lt_of_lt_of_le hl0 hW.size⟩
 have HX:Hid (Agt.ver st f=Agt.ver (st.drop 0) f):=by show _=_;rw[List.drop_zero]
 clear HS0 hp0 hl0
 go_enter Try.func92,Try.ntmps92
 go_wp2
 go_loopw [8] (fun iv wd=>∃k:Nat,k≤st.length∧iv=.int .i64 k∧Hid (Agt.ver st f=Agt.ver (st.drop k) f)∧Ext w wd) (fun iv _=>st.length - (intOf iv).toNat)
 case atStart=>exact⟨0,Nat.zero_le _,rfl,HX,Ext.refl w⟩
 case round=>
  obtain⟨k,hk,rfl,HW,hE⟩:=hrel
  clear HX
  by_cases hlt:k<st.length
  ·obtain⟨g,off,rfl,hg,hcs⟩:=(StAt.ext HS.out hE).get hlt
   have i1:(k:Int)<(st.length:Int):=by omega
   have HST:Hid _:=HW.out.trans (ver_step (st:=st) (f:=f) (k:=k) hlt)
   obtain⟨c0,c1⟩:=hcs k hlt
   have HV:Hid ((st.getD k s0).1=f→IxOut st f k):=fun h=>Or.inr ⟨k,hlt,rfl,HST.out.trans (if_pos h)⟩
   obtain⟨x,hx⟩:∃x,st.getD k s0=x:=⟨_,rfl⟩
   rw[hx] at c0 c1 HST HV
   obtain⟨x1,x2⟩:=x
   simp only at c0 c1
   clear hx hcs HW
   obtain⟨p0,pl⟩:=HP.out _ hE
   go_wp2_with fail
   refine(isFlow_any x1 x2 f p _ p0 pl).mono ?_
   rintro e w1 ⟨rfl,E1⟩
   clear p0 pl
   by_cases h1:x1=f
   ·have HF:Hid (IxOut st f k):=HV.out h1
    have b1:(x1 == f)=true:=by simpa using h1
    rw[b1]
    clear h1 HST HV b1
    go_wp2
    go_ret
    exact⟨_,rfl,HF,hE.trans E1⟩
   ·have HW2:Hid (Agt.ver st f=Agt.ver (st.drop (k+1)) f):=HST.out.trans (if_neg h1)
    have b1:(x1 == f)=false:=by simpa using h1
    rw[b1]
    clear h1 HST HV b1
    go_wp2
    exact⟨⟨k+1,by omega,by go_num,HW2,hE.trans E1⟩,by simp[intOf];omega⟩
  ·have HF:Hid (IxOut st f (-1)):=Or.inl ⟨rfl,by rw[HW.out,List.drop_eq_nil_of_le (by omega)];rfl⟩
   have i1:¬(k:Int)<(st.length:Int):=by omega
   clear HW
   go_wp2
   go_ret
   exact⟨_,rfl,HF,hE⟩
set_option maxRecDepth 100000 in
set_option maxHeartbeats 800000 in
theorem Version_any (s:Agt.Sw) (ro so:Option Addr) (rc sc:Nat) (f:Int) (w:World) (h:SwAt w s ro so rc):
 Calls Try.prog 73 #[svl s ro so rc sc,.int .i64 f] w fun e w'=>e=.returned (.int .i64 (Agt.ver s.st f))∧Ext w w':=by
 obtain⟨rs,st⟩:=s
 unfold svl
 have hsl:st.length*16≤140737488351232:=h.sl
 have HS:Hid (StAt w so st):=h.hs
 clear h
 show Calls _ _ _ _ fun e w'=>e=.returned (.int .i64 (Agt.ver st f))∧Ext w w'
 go_enter Try.func73,Try.ntmps73
 go_wp2_with fail
 obtain⟨B,hB⟩:∃B,B=(w.alloc (.cells #[.slice ro rs.length rc,.slice so st.length sc] 60)).alloc (.cells #[.int .i64 f] 3):=⟨_,rfl⟩
 have hE0:Ext w B:=by rw[hB];exact((Ext.refl w).alloc _).alloc _
 have HK:Hid (∀W,Ext B W→W.cell? ⟨w.heap.size,1,none⟩=some (.slice so st.length sc)):=fun W hW=>by
  have l0:w.heap.size<B.heap.size:=by rw[hB];simp;omega
  exact(hW.cells.1 _ _ l0).trans (by rw[hB];simp)
 have p0:B.cell? ⟨w.heap.size+1,0,none⟩=some (.int .i64 f):=by rw[hB];simp
 have pl:w.heap.size+1<B.heap.size:=by rw[hB];simp
 rw[←hB]
 clear hB
 refine(IndexFunc_any so sc st f (w.heap.size+1) _ (StAt.ext HS.out hE0) hsl p0 pl).mono ?_
 rintro e w1 ⟨r,rfl,HI,E1⟩
 clear p0 pl
 rcases HI.out with⟨rfl,hv⟩ | ⟨k,hk,rfl,hv⟩
 ·have HF:Hid _:=hv
  clear hv HI
  go_wp2
  go_ret
  exact⟨by rw[HF.out];first | done | rfl,hE0.trans E1⟩
 ·have HF:Hid _:=hv
  clear hv HI
  obtain⟨g,off,rfl,hg,hcs⟩:=(StAt.ext HS.out (hE0.trans E1)).get hk
  have i1:(k:Int)<(st.length:Int):=by omega
  obtain⟨c0,c1⟩:=hcs k hk
  obtain⟨x,hx⟩:∃x,st.getD k s0=x:=⟨_,rfl⟩
  rw[hx] at c0 c1 HF
  clear hx hcs
  have q0:=HK.out _ E1
  go_wp2
  go_ret
  exact⟨by rw[HF.out];first | done | rfl,hE0.trans E1⟩
end Go.Proofs.Ytolclgbpjiokfaa.Ag
namespace Go.Proofs.Ytolclgbpjiokfaa.Rm
open Go.RowKit Go.Deep Stw Stp Tb Rul Ct
theorem sat_of {f:Int}:∀{sw:List Agt.Sw} {b k:Nat},k<sw.length→(∀j,j<k→Agt.ver (sw.getD j Agt.sw0).st f=0)→Agt.ver (sw.getD k Agt.sw0).st f≠0→sat f b sw=some (b+k,Agt.ver (sw.getD k Agt.sw0).st f)
 | [],_,_,h,_,_=>by simp at h
 | y::r,b,0,_,_,h=>by
  unfold sat
  rw[if_pos (by simpa using h)]
  simp
 | y::r,b,k+1,hk,h1,h2=>by
  have h0:=h1 0 (by omega)
  unfold sat
  rw[if_neg (by simpa using h0),sat_of (k:=k) (by simpa using hk) (fun j hj=>by have:=h1 (j+1) (by omega);rwa [List.getD_cons_succ] at this) (by rwa [List.getD_cons_succ] at h2),List.getD_cons_succ]
  congr 2
  omega
theorem sat_no {f:Int}:∀{sw:List Agt.Sw} {b:Nat},(∀j,j<sw.length→Agt.ver (sw.getD j Agt.sw0).st f=0)→sat f b sw=none
 | [],_,_=>rfl
 | y::r,b,h=>by
  have h0:=h 0 (by simp)
  unfold sat
  rw[if_neg (by simpa using h0)]
  exact sat_no (fun j hj=>by have:=h (j+1) (by simpa using hj);rwa [List.getD_cons_succ] at this)
theorem hapB_many {W:Wd} {f:Int} (h:40≤W.pk.length):hapB W f=(W,5):=by unfold hapB;rw[if_pos h]
theorem hapB_none {W:Wd} {f:Int} (h:¬40≤W.pk.length) (hf:frm W.co f=none):hapB W f=(W,6):=by unfold hapB;rw[if_neg h,hf]
theorem hapB_some {W:Wd} {f x:Int} (h:¬40≤W.pk.length) (hf:frm W.co f=some x):hapB W f=(⟨W.co,W.sw,W.od,W.bk,W.pk++[newP W.sw f x],W.pn⟩,0):=by unfold hapB;rw[if_neg h,hf]
theorem infoPk:(Try.prog.info? 48).map (fun i=>(i.zero,i.size,i.bytes))=some (some (.agg #[.int .i64 0,.int .i64 0,.slice none 0 0,.bool false]),4,48):=by kernel_rfl
theorem news4 {w W:World} {H:Nat} (hH:w.heap.size=H) {a b c d:Value} {T:TypeId} (E:Ext (w.alloc (.cells #[a,b,c,d] T)) W):∀(j:Nat) (u:Value),[a,b,c,d][j]? =some u→W.cell? ((⟨H,0,none⟩:Addr).add j)=some u:=fun j u hu=>by
 have hb:(w.alloc (.cells #[a,b,c,d] T)).heap[H]? =some (.cells #[a,b,c,d] T (0,0)):=by rw[←hH];exact blk_alloc_new _ _
 have hb2:W.heap[H]? =some (.cells #[a,b,c,d] T (0,0)):=(Below.block E H (by simp;omega)).trans hb
 have hadd:(⟨H,0,none⟩:Addr).add j=⟨H,j,none⟩:=by unfold Addr.add;split <;> simp_all
 rw[hadd,cell_of_row _ _ _ _ _ _ hb2]
 have:j<4:=(List.getElem?_eq_some_iff.1 hu).1
 obtain rfl | rfl | rfl | rfl:j=0∨j=1∨j=2∨j=3:=by omega
 all_goals exact hu
theorem one4k (a b:Int) (o:Option Addr) (l c:Nat) (d:Bool):∀u∈[Value.int .i64 a,.int .i64 b,.slice o l c,.bool d],u.oneCell'=true:=by
 intro u hu
 simp at hu
 rcases hu with rfl | rfl | rfl | rfl <;> rfl
set_option maxHeartbeats 800000 in
theorem begin_many (tl:List Value) (n:Nat) (w0:World) (P:Nat) (tg:Nat→Nat) (w:World) (W:Wd) (a:CA) (sb ob bb:Nat) (kv lv:Value) (f:Int) (h:WSt 95 tl w0 P n tg w W a sb ob bb kv lv) (hm:40≤W.pk.length):
 Calls Try.prog 54 #[.pointer (some ⟨P,0,none⟩),.int .i64 f] w fun e w'=>MOut tl w0 P n tg w sb ob bb (hapB W f) e w':=by
 have HW:=hidp h
 have HD:=hidp (hapB_many (f:=f) hm)
 obtain⟨xs,hrw,_⟩:=h.pks
 obtain⟨ko,kc,rfl⟩:=hrw.rw.form
 have c12:w.cell? ⟨P,12,none⟩=some (.slice ko W.pk.length kc):=h.row.cell (i:=12) (by omega)
 have i1:(40:Int)≤(W.pk.length:Int):=by omega
 clear h hrw
 go_enter Try.func54,Try.ntmps54
 go_wp2
 go_ret
 rw[HD.out]
 exact⟨rfl,tg,a,_,lv,HW.out,KeepP.refl _ _ _⟩
set_option maxHeartbeats 800000 in
theorem begin_none (tl:List Value) (n:Nat) (w0:World) (P:Nat) (tg:Nat→Nat) (w:World) (W:Wd) (a:CA) (sb ob bb:Nat) (kv lv:Value) (f:Int) (h:WSt 95 tl w0 P n tg w W a sb ob bb kv lv) (hm:¬40≤W.pk.length) (hf:frm W.co f=none):
 Calls Try.prog 54 #[.pointer (some ⟨P,0,none⟩),.int .i64 f] w fun e w'=>MOut tl w0 P n tg w sb ob bb (hapB W f) e w':=by
 have HW:=hidp h
 have HD:=hidp (hapB_none hm hf)
 obtain⟨xs,hrw,_⟩:=h.pks
 obtain⟨ko,kc,rfl⟩:=hrw.rw.form
 have c12:w.cell? ⟨P,12,none⟩=some (.slice ko W.pk.length kc):=h.row.cell (i:=12) (by omega)
 have i1:¬(40:Int)≤(W.pk.length:Int):=by omega
 have HF:Hid (Calls Try.prog 72 #[.pointer (some ⟨P,0,none⟩),.int .i64 f] w fun e w'=>e=.returned (.tuple #[.int .i64 0,.bool false])∧Ext w w'):=by
  have:=fromOf_any tl n w0 P tg w W a sb ob bb _ lv f h
  rw[hf] at this
  exact this
 clear h hrw hm hf
 go_enter Try.func54,Try.ntmps54
 go_wp2_with fail
 refine Calls.mono HF.out ?_
 rintro e w1 ⟨rfl,E1⟩
 go_wp2
 go_ret
 rw[HD.out]
 exact⟨rfl,tg,a,_,lv,HW.out.toExt E1,Kpt.ext E1⟩
set_option maxRecDepth 100000 in
set_option maxHeartbeats 2000000 in
theorem begin_some (tl:List Value) (n:Nat) (ls:List Lk) (t:Nat) (w0:World) (P:Nat) (tg:Nat→Nat) (w:World) (W:Wd) (a:CA) (sb ob bb:Nat) (kv lv:Value) (f x:Int) (h:WSt 95 tl w0 P n tg w W a sb ob bb kv lv) (hI:Inv n ls t W) (hm:¬40≤W.pk.length) (hf:frm W.co f=some x):
 Calls Try.prog 54 #[.pointer (some ⟨P,0,none⟩),.int .i64 f] w fun e w'=>MOut tl w0 P n tg w sb ob bb (hapB W f) e w':=by
 obtain⟨i0,hi0,hz00,hz01,hz02⟩:=info_parts infoPk
 have HW:=hidp h
 have HD:=hidp (hapB_some hm hf)
 obtain⟨xs,hrw,hpk⟩:=h.pks
 obtain⟨ko,kc,rfl⟩:=hrw.rw.form
 have HRW:=hidp hrw
 have HPK:=hidp hpk
 have HSL:=hidp hI.lsw
 have hn8:=hI.n8.2
 have hP:=h.row.lt
 have c12:w.cell? ⟨P,12,none⟩=some (.slice ko W.pk.length kc):=h.row.cell (i:=12) (by omega)
 have i1:¬(40:Int)≤(W.pk.length:Int):=by omega
 have hpl:W.pk.length≤40:=by omega
 have HF:Hid (Calls Try.prog 72 #[.pointer (some ⟨P,0,none⟩),.int .i64 f] w fun e w'=>e=.returned (.tuple #[.int .i64 x,.bool true])∧Ext w w'):=by
  have:=fromOf_any tl n w0 P tg w W a sb ob bb _ lv f h
  rw[hf] at this
  exact this
 clear h hrw hm hf hpk hI
 go_enter Try.func54,Try.ntmps54
 go_wp2_with fail
 refine Calls.mono HF.out ?_
 rintro e w1 ⟨rfl,E1⟩
 have c9:w1.cell? ⟨P,9,none⟩=some (.slice (some ⟨sb,0,none⟩) n n):=(E1.cells.1 _ _ hP).trans (HW.out.row.cell (i:=9) (by omega))
 clear HF c12
 go_wp2
 go_loopw [5,7,32] (fun av vv iv wd=>av=.int .i64 x∧vv=.int .i64 0∧∃k:Nat,k≤n∧iv=.int .i64 k∧Ext w wd∧Hid (∀j,j<k→Agt.ver (W.sw.getD j Agt.sw0).st f=0)) (fun _ _ iv _=>n - (intOf iv).toNat)
 case atStart=>exact⟨rfl,rfl,0,Nat.zero_le _,rfl,E1,fun j hj=>by omega⟩
 case round=>
  obtain⟨rfl,rfl,k,hk,rfl,hE,HK⟩:=hrel
  clear c9
  by_cases hlt:k<n
  ·have k1:(k:Int)<(n:Int):=by omega
   obtain⟨ro,rc,so,sc,s0,s1,_,hsl,hsw⟩:=(HW.out.toExt hE).sws.get hlt
   have HSW:=hidp hsw
   obtain⟨y,hy⟩:∃y,y=W.sw.getD k Agt.sw0:=⟨_,rfl⟩
   have HY:=hidp hy
   rw[←hy] at s0 s1 HSW
   have HV:Hid (∀V,Ext wr V→Calls Try.prog 73 #[.agg #[.slice ro y.rs.length rc,.slice so y.st.length sc],.int .i64 f] V fun e w'=>e=.returned (.int .i64 (Agt.ver y.st f))∧Ext V w'):=fun V hV=>Ag.Version_any y ro so rc sc f V ((HSW.out.keep (KeepP.ext (S:=fun _=>True) hV) trivial).at)
   clear hsw hy
   go_wp2_with fail
   refine Calls.mono (HV.out _ ((Ext.refl wr).alloc _)) ?_
   rintro e w2 ⟨rfl,E2⟩
   have EW:Ext w w2:=(hE.alloc _).trans E2
   by_cases hv:Agt.ver y.st f=0
   ·have HK2:Hid (∀j,j<k+1→Agt.ver (W.sw.getD j Agt.sw0).st f=0):=fun j hj=>by
     by_cases e:j=k
     ·rw[e, ←HY.out];exact hv
     ·exact HK.out j (by omega)
    rw[hv]
    clear hv
    go_wp2
    exact⟨⟨rfl,rfl,k+1,by omega,by go_num,EW,HK2⟩,by simp[intOf];omega⟩
   ·have HN:Hid (newP W.sw f x=⟨f,Agt.ver y.st f,[(k:Int)],false⟩):=by
     show _=_
     unfold newP
     rw[sat_of (b:=0) (k:=k) (by rw[HSL.out];exact hlt) HK.out (by rw[←HY.out];exact hv), ←HY.out]
     simp
    have b1:(Agt.ver y.st f != 0)=true:=by simpa using hv
    have b2:(Agt.ver y.st f == 0)=false:=by simpa using hv
    clear hv s0 s1
    have c12:w2.cell? ⟨P,12,none⟩=some (.slice ko W.pk.length kc):=(EW.cells.1 _ _ hP).trans (HW.out.row.cell (i:=12) (by omega))
    have hP2:P<w2.heap.size:=Nat.lt_of_lt_of_le hP EW.size
    have f12:w2.frozen? ⟨P,12,none⟩=false:=(EW.cells.2 _ _ hP).trans (HW.out.row.frozen 12)
    have EP:Ext w ((w2.alloc (.cells #[.int .i64 (k:Int)] 3)).alloc (.cells #[.int .i64 f,.int .i64 (Agt.ver y.st f),.slice (some ⟨w2.heap.size,0,none⟩) 1 1,.bool false] 48)):=((EW).alloc _).alloc _
    go_wp2_with (first | (at_builtin;refine wpList_append_rw _ rfl _ _ 37 rfl 48 i0 _ 4 48 Try.underlying37 hi0 hz00 hz01 hz02 rfl (by decide) _ W.pk.length xs rfl (HRW.out.keep (KeepP.ext (S:=fun _=>True) EP) trivial).rw ⟨w2.heap.size+1,0,none⟩ 1 [.int .i64 f,.int .i64 (Agt.ver y.st f),.slice (some ⟨w2.heap.size,0,none⟩) 1 1,.bool false] rfl rfl (news4 (by simp) (Ext.refl _)) (one4k _ _ _ _ _ _) (by unfold maxLen;omega) (by omega) ?_) | fail)
    intro g7 off7 cap7 w7 hr7 hg7 hat7
    have HPU:=hidp (WSt.pushK (f:=f) (v:=(Agt.ver y.st f)) (x:=(k:Int)) (d:=false) (w1:=(w2.alloc (.cells #[.int .i64 (k:Int)] 3)).alloc (.cells #[.int .i64 f,.int .i64 (Agt.ver y.st f),.slice (some ⟨w2.heap.size,0,none⟩) 1 1,.bool false] 48)) (HW.out.toExt (EW)) (((Ext.refl _).alloc _).alloc _) (HRW.out.keep (KeepP.ext (S:=fun _=>True) (EW)) trivial) (fun i hi=>by
     obtain⟨tv,a0,a1,a2,a3,a4⟩:=HPK.out i hi
     exact⟨tv,a0,a1,a2,a3,a4.keep (KeepP.ext (S:=fun _=>True) (EW)) trivial⟩) ((blk_alloc_lt _ _ _ (by simp)).trans (blk_alloc_new _ _)) hr7 hg7 (hat7.imp id (fun e=>by rw[e];simp)))
    have t1:=HW.out.tP
    have gP:=grown_keep hg7 HRW.out.tg (b:=P) (by rw[t1];decide) (Nat.lt_of_lt_of_le hP EP.size)
    have c7:w7.cell? ⟨P,12,none⟩=some (.slice ko W.pk.length kc):=(gP.1 12).trans ((EP.cells.1 _ _ hP).trans (HW.out.row.cell (i:=12) (by omega)))
    have f7:w7.frozen? ⟨P,12,none⟩=false:=(gP.2 12).trans ((EP.cells.2 _ _ hP).trans (HW.out.row.frozen 12))
    have hP7:P<w7.heap.size:=Nat.lt_of_lt_of_le (Nat.lt_of_lt_of_le hP EP.size) hg7.size
    clear gP hr7 hg7 hat7 t1
    go_wp2
    go_ret
    rw[HD.out,HN.out]
    obtain⟨tg7,hW7,hK7⟩:=HPU.out
    exact⟨rfl,tg7,a,_,lv,hW7,(Kpt.ext (EW)).trans hK7⟩
  ·have hkn:k=n:=by omega
   have HN:Hid (newP W.sw f x=⟨f,0,[x],true⟩):=by
    show _=_
    unfold newP
    rw[sat_no (fun j hj=>HK.out j (by rw[HSL.out] at hj;omega))]
   have k1:¬(k:Int)<(n:Int):=by omega
   clear hkn
   have c12:wr.cell? ⟨P,12,none⟩=some (.slice ko W.pk.length kc):=(hE.cells.1 _ _ hP).trans (HW.out.row.cell (i:=12) (by omega))
   have hP2:P<wr.heap.size:=Nat.lt_of_lt_of_le hP hE.size
   have f12:wr.frozen? ⟨P,12,none⟩=false:=(hE.cells.2 _ _ hP).trans (HW.out.row.frozen 12)
   have EP:Ext w ((wr.alloc (.cells #[.int .i64 x] 3)).alloc (.cells #[.int .i64 f,.int .i64 0,.slice (some ⟨wr.heap.size,0,none⟩) 1 1,.bool true] 48)):=((hE).alloc _).alloc _
   go_wp2_with (first | (at_builtin;refine wpList_append_rw _ rfl _ _ 37 rfl 48 i0 _ 4 48 Try.underlying37 hi0 hz00 hz01 hz02 rfl (by decide) _ W.pk.length xs rfl (HRW.out.keep (KeepP.ext (S:=fun _=>True) EP) trivial).rw ⟨wr.heap.size+1,0,none⟩ 1 [.int .i64 f,.int .i64 0,.slice (some ⟨wr.heap.size,0,none⟩) 1 1,.bool true] rfl rfl (news4 (by simp) (Ext.refl _)) (one4k _ _ _ _ _ _) (by unfold maxLen;omega) (by omega) ?_) | fail)
   intro g7 off7 cap7 w7 hr7 hg7 hat7
   have HPU:=hidp (WSt.pushK (f:=f) (v:=0) (x:=x) (d:=true) (w1:=(wr.alloc (.cells #[.int .i64 x] 3)).alloc (.cells #[.int .i64 f,.int .i64 0,.slice (some ⟨wr.heap.size,0,none⟩) 1 1,.bool true] 48)) (HW.out.toExt (hE)) (((Ext.refl _).alloc _).alloc _) (HRW.out.keep (KeepP.ext (S:=fun _=>True) (hE)) trivial) (fun i hi=>by
    obtain⟨tv,a0,a1,a2,a3,a4⟩:=HPK.out i hi
    exact⟨tv,a0,a1,a2,a3,a4.keep (KeepP.ext (S:=fun _=>True) (hE)) trivial⟩) ((blk_alloc_lt _ _ _ (by simp)).trans (blk_alloc_new _ _)) hr7 hg7 (hat7.imp id (fun e=>by rw[e];simp)))
   have t1:=HW.out.tP
   have gP:=grown_keep hg7 HRW.out.tg (b:=P) (by rw[t1];decide) (Nat.lt_of_lt_of_le hP EP.size)
   have c7:w7.cell? ⟨P,12,none⟩=some (.slice ko W.pk.length kc):=(gP.1 12).trans ((EP.cells.1 _ _ hP).trans (HW.out.row.cell (i:=12) (by omega)))
   have f7:w7.frozen? ⟨P,12,none⟩=false:=(gP.2 12).trans ((EP.cells.2 _ _ hP).trans (HW.out.row.frozen 12))
   have hP7:P<w7.heap.size:=Nat.lt_of_lt_of_le (Nat.lt_of_lt_of_le hP EP.size) hg7.size
   clear gP hr7 hg7 hat7 t1
   go_wp2
   go_ret
   rw[HD.out,HN.out]
   obtain⟨tg7,hW7,hK7⟩:=HPU.out
   exact⟨rfl,tg7,a,_,lv,hW7,(Kpt.ext (hE)).trans hK7⟩
end Go.Proofs.Ytolclgbpjiokfaa.Rm
namespace Go.Proofs.Ytolclgbpjiokfaa.Tb
open Go.RowKit Go.Deep Rul Go.Sort
theorem nxt_step {v f:Int} {rs:List Ru} {k:Nat} (hk:k<rs.length):nxt v f (rs.drop k)=if(rs.getD k r0).1=v∧(rs.getD k r0).2.1=f then((rs.getD k r0).2.2,true) else nxt v f (rs.drop (k+1)):=by
 have e:rs.getD k r0=rs[k]:=by simp[List.getD_eq_getElem?_getD,hk]
 rw[List.drop_eq_getElem_cons hk,nxt,e]
set_option maxRecDepth 100000 in
set_option maxHeartbeats 400000 in
theorem Next_any (ao:Option Addr) (len cap:Nat) (rs:List Ru) (v f:Int) (w:World) (hlen:rs.length=len) (hf:RsAt w ao rs) (hl:len≤4611686018427387904):
 Calls Try.prog 74 #[.slice ao len cap,.int .i64 v,.int .i64 f] w fun e w'=>e=.returned (.tuple #[.int .i64 (nxt v f rs).1,.bool (nxt v f rs).2])∧Ext w w':=by
 have hw0:nxt v f rs=nxt v f (rs.drop 0):=by rw[List.drop_zero]
 rw[hw0]
 go_enter Try.func74,Try.ntmps74
 go_wp2
 go_loopw [12] (fun iv wd=>∃k:Nat,k≤len∧iv=.int .i64 k∧Hid (nxt v f (rs.drop 0)=nxt v f (rs.drop k))∧Ext w wd) (fun iv _=>len - (intOf iv).toNat)
 case atStart=>exact⟨0,Nat.zero_le _,rfl,rfl,Ext.refl w⟩
 case round=>
  obtain⟨k,hk,rfl,HW,hE⟩:=hrel
  by_cases hlt:k<len
  ·obtain⟨g,off,rfl,hg,hcs⟩:=(hf.ext hE).get (k:=k) (by omega)
   have i1:(k:Int)<(len:Int):=by omega
   have HST:Hid _:=nxt_step (v:=v) (f:=f) (rs:=rs) (k:=k) (by omega)
   obtain⟨c0,c1,c2⟩:=hcs k (by omega)
   obtain⟨r,hr⟩:∃r,rs.getD k r0=r:=⟨_,rfl⟩
   rw[hr] at c0 c1 c2 HST
   clear hr hcs
   by_cases h1:r.1=v
   ·by_cases h2:r.2.1=f
    ·have hfin:nxt v f (rs.drop 0)=(r.2.2,true):=by rw[HW.out,HST.out,if_pos ⟨h1,h2⟩]
     have HF:Hid _:=hfin
     have b1:(r.1 == v)=true:=by simpa using h1
     have b2:(r.2.1 == f)=true:=by simpa using h2
     clear hfin h1 h2
     go_wp2
     go_ret2
     exact⟨by rw[HF.out];rfl,hE.alloc _⟩
    ·have HW2:Hid (nxt v f (rs.drop 0)=nxt v f (rs.drop (k+1))):=HW.out.trans (HST.out.trans (if_neg (fun h=>h2 h.2)))
     have b1:(r.1 == v)=true:=by simpa using h1
     have b2:(r.2.1 == f)=false:=by simpa using h2
     clear h1 h2
     go_wp2
     exact⟨⟨k+1,by omega,by go_num,HW2,hE.alloc _⟩,by simp[intOf];omega⟩
   ·have HW2:Hid (nxt v f (rs.drop 0)=nxt v f (rs.drop (k+1))):=HW.out.trans (HST.out.trans (if_neg (fun h=>h1 h.1)))
    have b1:(r.1 == v)=false:=by simpa using h1
    clear h1
    go_wp2
    exact⟨⟨k+1,by omega,by go_num,HW2,hE.alloc _⟩,by simp[intOf];omega⟩
  ·have hfin:nxt v f (rs.drop 0)=(0,false):=by rw[HW.out,List.drop_eq_nil_of_le (by omega),nxt]
   have HF:Hid _:=hfin
   clear hfin
   go_wp2
   go_ret2
   exact⟨by rw[HF.out];rfl,hE⟩
end Go.Proofs.Ytolclgbpjiokfaa.Tb
namespace Go.Proofs.Ytolclgbpjiokfaa.Rm
open Go.RowKit Go.Deep Stw Stp Tb Rul Ct
theorem pk_at {n:Nat} {ls:List Lk} {t:Nat} {W:Wd} {i:Nat} (h:Inv n ls t W) (hi:i<W.pk.length):(W.pk.getD i pk0).tr≠[]∧0≤atP (W.pk.getD i pk0)∧atP (W.pk.getD i pk0)<(n:Int)∧(W.pk.getD i pk0).tr.length≤8:=by
 have hm:W.pk.getD i pk0∈W.pk:=by rw[List.getD_eq_getElem?_getD,List.getElem?_eq_getElem hi];exact List.getElem_mem _
 generalize W.pk.getD i pk0=p at hm ⊢
 rcases h.pks p hm with⟨_,_,x,e,h1,h2⟩ | ⟨m,k,j,h1,h2,h3,h4,h5,h6,h7⟩
 ·unfold atP;rw[e];exact⟨by simp,h1,h2,by simp⟩
 ·have hg:=(h.pls m h1).gd
  have hh:=(h.pls m h1).head
  have h8:=hh.2.2 k
  obtain⟨_,_,g3⟩:=hg.gp k h4
  have hx:=g3 _ (get_mem (l:=(W.pn.getD m pl0).ps.getD k []) (i:=j - 1) (by omega))
  have hat:atP p=((W.pn.getD m pl0).ps.getD k []).getD (j - 1) 0:=by unfold atP;rw[h7];exact take_at h5 h6
  have hl:p.tr.length=j:=by rw[h7,List.length_take];omega
  exact⟨fun e=>by rw[e] at hl;simp at hl;omega,by rw[hat];exact hx.1,by rw[hat];exact hx.2,by omega⟩
theorem hapM_out {W:Wd} {i:Int} (h:¬(0≤i∧i<(W.pk.length:Int))):hapM W i=(W,6):=by unfold hapM;rw[if_pos h]
theorem hapM_done {W:Wd} {i:Nat} (h:(W.pk.getD i pk0).dn=true):hapM W i=(W,6):=by
 unfold hapM
 split
 ·rfl
 ·rw[Int.toNat_natCast,if_pos h]
theorem hapM_yes {W:Wd} {i:Nat} (hi:i<W.pk.length) (h:(W.pk.getD i pk0).dn=false):hapM W i=(⟨W.co,W.sw,W.od,W.bk,W.pk.set i (movP W.sw (W.pk.getD i pk0)),W.pn⟩,0):=by
 unfold hapM
 rw[if_neg (by omega),Int.toNat_natCast,if_neg (by rw[h];simp)]
set_option maxHeartbeats 800000 in
theorem move_out (tl:List Value) (n:Nat) (w0:World) (P:Nat) (tg:Nat→Nat) (w:World) (W:Wd) (a:CA) (sb ob bb:Nat) (kv lv:Value) (i:Int) (h:WSt 95 tl w0 P n tg w W a sb ob bb kv lv) (hi:¬(0≤i∧i<(W.pk.length:Int))):
 Calls Try.prog 55 #[.pointer (some ⟨P,0,none⟩),.int .i64 i] w fun e w'=>MOut tl w0 P n tg w sb ob bb (hapM W i) e w':=by
 have HW:=hidp h
 have HD:=hidp (hapM_out hi)
 obtain⟨xs,hrw,_⟩:=h.pks
 obtain⟨ko,kc,rfl⟩:=hrw.rw.form
 have c12:w.cell? ⟨P,12,none⟩=some (.slice ko W.pk.length kc):=h.row.cell (i:=12) (by omega)
 clear h hrw
 by_cases h0:i<0
 ·have b0:decide (i<0)=true:=decide_eq_true h0
  clear hi
  go_enter Try.func55,Try.ntmps55
  go_wp2
  go_ret
  rw[HD.out]
  exact⟨rfl,tg,a,_,lv,HW.out,KeepP.refl _ _ _⟩
 ·have b0:decide (i<0)=false:=decide_eq_false h0
  have h1:(W.pk.length:Int)≤i:=by omega
  have b1:decide ((W.pk.length:Int)≤i)=true:=decide_eq_true h1
  clear hi
  go_enter Try.func55,Try.ntmps55
  go_wp2
  go_ret
  rw[HD.out]
  exact⟨rfl,tg,a,_,lv,HW.out,KeepP.refl _ _ _⟩
set_option maxHeartbeats 800000 in
theorem move_done (tl:List Value) (n:Nat) (w0:World) (P:Nat) (tg:Nat→Nat) (w:World) (W:Wd) (a:CA) (sb ob bb:Nat) (kv lv:Value) (i:Nat) (h:WSt 95 tl w0 P n tg w W a sb ob bb kv lv) (hi:i<W.pk.length) (hd:(W.pk.getD i pk0).dn=true):
 Calls Try.prog 55 #[.pointer (some ⟨P,0,none⟩),.int .i64 (i:Int)] w fun e w'=>MOut tl w0 P n tg w sb ob bb (hapM W i) e w':=by
 have HW:=hidp h
 have HD:=hidp (hapM_done hd)
 obtain⟨g,off,cap,tv,rfl,hg,_,_,_,_,_,k3,_⟩:=h.pks.get hi
 rw[hd] at k3
 have c12:w.cell? ⟨P,12,none⟩=some (.slice (some ⟨g,off,none⟩) W.pk.length cap):=h.row.cell (i:=12) (by omega)
 have h0:¬(i:Int)<0:=by omega
 have b0:decide ((i:Int)<0)=false:=decide_eq_false h0
 have h1:¬(W.pk.length:Int)≤(i:Int):=by omega
 have b1:decide ((W.pk.length:Int)≤(i:Int))=false:=decide_eq_false h1
 have j1:(0:Int)≤(i:Int):=by omega
 have j2:(i:Int)<(W.pk.length:Int):=by omega
 clear h hd
 go_enter Try.func55,Try.ntmps55
 go_wp2
 go_ret
 rw[HD.out]
 exact⟨rfl,tg,a,_,lv,HW.out,KeepP.refl _ _ _⟩
set_option maxRecDepth 100000 in
set_option maxHeartbeats 2000000 in
theorem move_some (tl:List Value) (n:Nat) (ls:List Lk) (t:Nat) (w0:World) (P:Nat) (tg:Nat→Nat) (w:World) (W:Wd) (a:CA) (sb ob bb:Nat) (kv lv:Value) (i:Nat) (h:WSt 95 tl w0 P n tg w W a sb ob bb kv lv) (hI:Inv n ls t W) (hi:i<W.pk.length) (hd:(W.pk.getD i pk0).dn=false):
 Calls Try.prog 55 #[.pointer (some ⟨P,0,none⟩),.int .i64 (i:Int)] w fun e w'=>MOut tl w0 P n tg w sb ob bb (hapM W i) e w':=by
 obtain⟨i0,hi0,hz00,hz01,hz02⟩:=info_parts infoInt
 have HW:=hidp h
 have HD:=hidp (hapM_yes hi hd)
 have hP:=h.row.lt
 obtain⟨p1,p2,p3,p4⟩:=pk_at hI hi
 obtain⟨g,off,cap,tv,rfl,hg,tG,gz,k0,k1,k2,k3,hbr⟩:=h.pks.get hi
 obtain⟨gt,ot,ct,rfl,hgt,hct,hcs⟩:=hbr.last p1
 have HBR:=hidp hbr
 have HTG:=hidp tG
 have HGZ:=hidp gz
 obtain⟨q,hq⟩:=Int.eq_ofNat_of_zero_le p2
 have hqn:q<n:=by omega
 have hlast:=hcs ((W.pk.getD i pk0).tr.length - 1) (by have:=List.length_pos_iff.2 p1;omega)
 have HQ:Hid (atP (W.pk.getD i pk0)=(q:Int)):=hq
 rw[show(W.pk.getD i pk0).tr.getD ((W.pk.getD i pk0).tr.length - 1) 0=(q:Int) from hq] at hlast
 obtain⟨ro,rc,so,sc,s0,_,_,hsl,hsw⟩:=h.sws.get hqn
 have HSW:=hidp hsw
 obtain⟨m,hm⟩:∃m,(W.pk.getD i pk0).tr.length=m+1:=⟨(W.pk.getD i pk0).tr.length - 1,by have:=List.length_pos_iff.2 p1;omega⟩
 rw[hm,Nat.add_sub_cancel] at hlast
 rw[hm] at k2
 have HM:=hidp hm
 rw[hd] at k3
 obtain⟨TR,hTR⟩:∃TR,TR=(W.pk.getD i pk0).tr:=⟨_,rfl⟩
 have HTR:=hidp hTR
 clear hTR
 obtain⟨fl,hfl⟩:∃fl,fl=(W.pk.getD i pk0).fl:=⟨_,rfl⟩
 obtain⟨ve,hve⟩:∃ve,ve=(W.pk.getD i pk0).v:=⟨_,rfl⟩
 obtain⟨R,hR⟩:∃R,R=(W.sw.getD q Agt.sw0).rs:=⟨_,rfl⟩
 have hR16:R.length≤4611686018427387904:=by
  have:=(tab_iff.1 (Agt.wrongS_zero (hI.sw_right hqn)).1).1
  rw[hR];omega
 have HMV:Hid (movP W.sw (W.pk.getD i pk0)=if(Rul.nxt ve fl R).2=true then⟨fl,ve,(W.pk.getD i pk0).tr++[(Rul.nxt ve fl R).1],(W.pk.getD i pk0).dn⟩ else⟨fl,ve,(W.pk.getD i pk0).tr,true⟩):=by
  show _=_
  unfold movP
  rw[HQ.out,Int.toNat_natCast, ←hR, ←hfl, ←hve]
 rw[←hfl] at k0
 rw[←hve] at k1
 rw[←hR] at s0
 have HFL:=hidp hfl
 have HVE:=hidp hve
 have HNX:Hid (∀V,Ext w V→Calls Try.prog 74 #[.slice ro R.length rc,.int .i64 ve,.int .i64 fl] V fun e w'=>e=.returned (.tuple #[.int .i64 (Rul.nxt ve fl R).1,.bool (Rul.nxt ve fl R).2])∧Ext V w'):=fun V hV=>by
  have h1:=(HSW.out.keep (KeepP.ext (S:=fun _=>True) hV) trivial).at.hr.hat
  rw[←hR] at h1
  exact Next_any ro R.length rc R ve fl V rfl h1 hR16
 have c12:w.cell? ⟨P,12,none⟩=some (.slice (some ⟨g,off,none⟩) W.pk.length cap):=h.row.cell (i:=12) (by omega)
 have c9:w.cell? ⟨P,9,none⟩=some (.slice (some ⟨sb,0,none⟩) n n):=h.row.cell (i:=9) (by omega)
 have h0:¬(i:Int)<0:=by omega
 have b0:decide ((i:Int)<0)=false:=decide_eq_false h0
 have h1:¬(W.pk.length:Int)≤(i:Int):=by omega
 have b1:decide ((W.pk.length:Int)≤(i:Int))=false:=decide_eq_false h1
 have j1:(0:Int)≤(i:Int):=by omega
 have j2:(i:Int)<(W.pk.length:Int):=by omega
 have j3:(0:Int)≤(q:Int):=by omega
 have j4:(q:Int)<(n:Int):=by omega
 have hm8:m<8:=by omega
 clear h hI hbr tG gz hsw hcs hq hm hfl hve hR hd p1 p2 p3 p4
 go_enter Try.func55,Try.ntmps55
 go_wp2
 go_region
 obtain⟨w1,hw1⟩:∃w1,w1=w.drew:=⟨_,rfl⟩
 have E1:Ext w w1:=by rw[hw1];exact(Ext.refl w).drew
 have HS:Hid (∀V,Ext w1 V→V.cell? ⟨P,9,none⟩=some (.slice (some ⟨sb,0,none⟩) n n)∧V.cell? ⟨sb,q*2,none⟩=some (.slice ro R.length rc)∧V.cell? ⟨g,off+i*4+1,none⟩=some (.int .i64 ve)∧V.cell? ⟨g,off+i*4,none⟩=some (.int .i64 fl)):=fun V hV=>by
  have E:=E1.trans hV
  exact⟨(E.cells.1 _ _ hP).trans c9,(E.cells.1 _ _ hsl).trans s0,(E.cells.1 _ _ hg).trans k1,(E.cells.1 _ _ hg).trans k0⟩
 rw[←hw1]
 clear hw1
 go_wp2_with fail
 have hd:Ext w1 w1.drew:=(Ext.refl w1).drew
 go_region_held3 (fun V=>V.cell? ⟨P,9,none⟩=some (.slice (some ⟨sb,0,none⟩) n n)∧V.cell? ⟨sb,q*2,none⟩=some (.slice ro R.length rc)∧V.cell? ⟨g,off+i*4+1,none⟩=some (.int .i64 ve)∧V.cell? ⟨g,off+i*4,none⟩=some (.int .i64 fl))
  (first | (with_reducible exact HS.out _ hd) | (with_reducible exact HS.out _ mk1) | fail)
  (first
  | (go_at_call 74
     with_reducible refine(HNX.out _ (E1.trans hd)).mono ?_
     rintro e w3 ⟨rfl,E3⟩
     have mk1:=hd.trans E3))
 have EW:Ext w w3:=E1.trans mk1
 have HW3:=hidp (HW.out.toExt EW)
 have hg3:g<w3.heap.size:=Nat.lt_of_lt_of_le hg EW.size
 have e2:=(EW.cells.1 _ _ hg).trans k2
 have e3:=(EW.cells.1 _ _ hg).trans k3
 have z2:w3.frozen? ⟨g,off+i*4+2,none⟩=false:=(EW.cells.2 _ _ hg).trans (HGZ.out _)
 have z3:w3.frozen? ⟨g,off+i*4+3,none⟩=false:=(EW.cells.2 _ _ hg).trans (HGZ.out _)
 have HBR3:=hidp (HBR.out.keep (KeepP.ext (S:=fun _=>True) EW) trivial)
 obtain⟨⟨ny,nb⟩,hnx⟩:∃x,x=Rul.nxt ve fl R:=⟨_,rfl⟩
 rw[←hnx] at HMV ⊢
 clear hnx k0 k1 k2 k3 s0 c9 c12 HS HNX mk1
 cases nb with
 | true=>
  have EP:Ext w3 (w3.alloc (.cells #[.int .i64 ny] 3)):=(Ext.refl w3).alloc _
  go_wp2_with (first | (at_builtin;refine wpList_append_rw _ rfl _ _ 31 rfl 3 i0 _ 1 8 Try.underlying31 hi0 hz00 hz01 hz02 rfl (by decide) _ (m+1) (TR.map (Value.int .i64)) rfl (by have h9:=(HBR3.out.keep (KeepP.ext (S:=fun _=>True) EP) trivial).row;rw[HM.out, ←HTR.out] at h9;exact h9) ⟨w3.heap.size,0,none⟩ 1 [.int .i64 ny] rfl rfl (news1 rfl (Ext.refl _)) (one1i _) (by unfold maxLen;omega) (by omega) ?_) | fail)
  intro g7 off7 cap7 w7 hr7 hg7 hat7
  have HPU:=hidp (WSt.moveK (y:=ny) (i:=i) (HW3.out.toExt EP) hi (HBR3.out.keep (KeepP.ext (S:=fun _=>True) EP) trivial) (by rw[HM.out, ←HTR.out];exact hr7) (by rw[HM.out];exact hg7) (by rw[HM.out];simpa using hat7))
  have gG:=grown_keep hg7 (b:=g) (tg:=tg) (t:=12+3*i) (fun k hk=>HBR3.out.tg k (by simpa[Value.ownBlock] using hk)) (by rw[HTG.out];omega) (Nat.lt_of_lt_of_le hg3 EP.size)
  have c7:w7.cell? ⟨g,off+i*4+2,none⟩=some (.slice (some ⟨gt,ot,none⟩) (m+1) ct):=(gG.1 _).trans ((EP.cells.1 _ _ hg3).trans e2)
  have f7:w7.frozen? ⟨g,off+i*4+2,none⟩=false:=(gG.2 _).trans ((EP.cells.2 _ _ hg3).trans z2)
  have hg7l:g<w7.heap.size:=Nat.lt_of_lt_of_le (Nat.lt_of_lt_of_le hg3 EP.size) hg7.size
  clear gG hr7 hg7 hat7
  go_wp2
  go_ret
  rw[HD.out,HMV.out]
  obtain⟨tg7,hW7,hK7⟩:=HPU.out
  rw[HM.out] at hW7 hK7
  rw[HFL.out,HVE.out]
  exact⟨rfl,tg7,a,_,lv,hW7,(Kpt.ext (EW.trans EP)).trans hK7⟩
 | false=>
  go_wp2
  go_ret
  rw[HD.out,HMV.out]
  have h1:=HW3.out.doneK hi HTG.out
  rw[HFL.out,HVE.out]
  exact⟨rfl,tg,a,_,lv,h1.1,(Kpt.ext EW).trans h1.2⟩
end Go.Proofs.Ytolclgbpjiokfaa.Rm
