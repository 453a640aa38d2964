import Derived.Test.YthkpbefnkmmaiaaGreate29
set_option maxRecDepth 100000
set_option maxHeartbeats 2000000
namespace Go.Proofs.YthkpbefnkmmaiaaGreat
open Go.Proofs.Tryz
namespace Rm
open Go.RowKit Go.Deep Stw Stp Tb Rul Ct
theorem q2o{w:World}{fo:Option Addr}{fs:List Stf.Fl}(h:Fw.Qk w fo fs){k:Nat}(hk:k<fs.length):∃b off,fo=some ⟨b,off,none⟩/\b<w.heap.size/\w.cell? ⟨b,off+k*4,none⟩=some (.int .i64 (fs.getD k Fw.f0).fr):=by
 rcases h with h | ⟨b,off,h1,h2,h3⟩
 ·rw[h] at hk;simp at hk
 ·obtain⟨_,_,c0,_⟩:=h3 k hk
  exact⟨b,off,h1,h2,by rw[c0];simp[hk]⟩
def frV (o:Option Int):Value:=.tuple #[.int .i64 (o.getD 0),.bool o.isSome]
variable {c:Co} {f:Int}
theorem frm_nxt(h:0<=f/\f<(c.Qd.fs.length:Int)):frm c f=some (c.Qd.fs.getD f.toNat Fw.f0).fr:=by unfold frm;rw[if_pos h]
theorem frm_now(h:¬(0<=f/\f<(c.Qd.fs.length:Int)))(h2:0<=f/\f<(c.now.fs.length:Int)):frm c f=some (c.now.fs.getD f.toNat Fw.f0).fr:=by unfold frm;rw[if_neg h,if_pos h2]
theorem z2h(h:¬(0<=f/\f<(c.Qd.fs.length:Int)))(h2:¬(0<=f/\f<(c.now.fs.length:Int))):frm c f=none:=by unfold frm;rw[if_neg h,if_neg h2]
theorem z0d(tl:List Value)(n:Nat)(w0:World)(P:Nat)(tg:Nat->Nat)(w:World)(W:Wd)(a:CA)(sb ob bb:Nat)(kv lv:Value)(f:Int)(h:Q0 56 tl w0 P n tg w W a sb ob bb kv lv):
 Calls prog 47 #[.pointer (some ⟨P,0,none⟩),.int .i64 f] w fun e w'=>e=.returned (frV (frm W.co f))/\Ext w w':=by
 have hP:=h.row.lt
 have q1:w.cell? ⟨P,1,none⟩=some (.int .i64 W.co.now.v):=h.row.cell (i:=1) (by omega)
 have q2:w.cell? ⟨P,2,none⟩=some (.slice a.n.fo W.co.now.fs.length a.n.fc):=h.row.cell (i:=2) (by omega)
 have q3:w.cell? ⟨P,3,none⟩=some (.slice a.n.qo W.co.now.ps.length a.n.qc):=h.row.cell (i:=3) (by omega)
 have q4:w.cell? ⟨P,4,none⟩=some (.int .i64 W.co.Qd.v):=h.row.cell (i:=4) (by omega)
 have q5:w.cell? ⟨P,5,none⟩=some (.slice a.x.fo W.co.Qd.fs.length a.x.fc):=h.row.cell (i:=5) (by omega)
 have q6:w.cell? ⟨P,6,none⟩=some (.slice a.x.qo W.co.Qd.ps.length a.x.qc):=h.row.cell (i:=6) (by omega)
 have HCO:=Qa h.co.at
 clear h
 go_enter func47,ntmps47
 go_wp2
 go_region
 obtain⟨w1,hw1⟩:=Qy ((w.alloc (.cells #[.int .i64 W.co.Qd.v,.slice a.x.fo W.co.Qd.fs.length a.x.fc,.slice a.x.qo W.co.Qd.ps.length a.x.qc,.int .i64 W.co.now.v,.slice a.n.fo W.co.now.fs.length a.n.fc,.slice a.n.qo W.co.now.ps.length a.n.qc] 29)).drew)
 have E1:Ext w w1:=by rw[hw1];exact((Ext.refl w).alloc _).drew
 have HB:Hid (∀Y,Ext w1 Y->Y.cell? ⟨w.heap.size,0,none⟩=some (.int .i64 W.co.Qd.v)/\Y.cell? ⟨w.heap.size,1,none⟩=some (.slice a.x.fo W.co.Qd.fs.length a.x.fc)/\Y.cell? ⟨w.heap.size,2,none⟩=some (.slice a.x.qo W.co.Qd.ps.length a.x.qc)/\Y.cell? ⟨w.heap.size,3,none⟩=some (.int .i64 W.co.now.v)/\Y.cell? ⟨w.heap.size,4,none⟩=some (.slice a.n.fo W.co.now.fs.length a.n.fc)/\Y.cell? ⟨w.heap.size,5,none⟩=some (.slice a.n.qo W.co.now.ps.length a.n.qc)):=fun Y hV=>by
  have l0:w.heap.size<w1.heap.size:=by rw[hw1];simp
  have hc:∀o,Y.cell? ⟨w.heap.size,o,none⟩=w1.cell? ⟨w.heap.size,o,none⟩:=fun o=>hV.cells.1 _ _ l0
  rw[hc,hc,hc,hc,hc,hc,hw1]
  simp
 have HL:Hid (w.heap.size<w1.heap.size):=by show _<_;rw[hw1];simp
 rw[<-hw1]
 clear hw1 q1 q2 q3 q4 q5 q6
 go_wp2
 go_loopw [22] (fun iv wd=>∃k:Nat,k<=2/\iv=.int .i64 k/\Ext w1 wd/\Hid ((1<=k->¬(0<=f/\f<(W.co.Qd.fs.length:Int)))/\(2<=k->¬(0<=f/\f<(W.co.now.fs.length:Int))))) (fun iv _=>2 - (intOf iv).toNat)
 case atStart=>exact⟨0,by omega,rfl,Ext.refl _,fun h=>by omega,fun h=>by omega⟩
 case round=>
  obtain⟨k,hk,rfl,hE,HK⟩:=hrel
  obtain⟨b0,b1,b2,b3,b4,b5⟩:=HB.out _ hE
  have hlw:w.heap.size<wr.heap.size:=Q5 HL.out hE.size
  have HCW:=Qa (HCO.out.ext (E1.trans hE))
  by_cases hlt:k<2
  ·have i1:(k:Int)<2:=by omega
   by_cases hk0:k=0
   ·subst hk0
    by_cases hf:0<=f/\f<(W.co.Qd.fs.length:Int)
    ·have HF:=Qa (frm_nxt (c:=W.co) hf)
     obtain⟨m,rfl⟩:=Int.eq_ofNat_of_zero_le hf.1
     obtain⟨b,off,hfo,hb,cf⟩:=q2o HCW.out.hx.hf (k:=m) (by omega)
     have j1:(0:Int)<=(m:Int):=by omega
     have j2:(m:Int)<(W.co.Qd.fs.length:Int):=hf.2
     have d1:decide ((0:Int)<=(m:Int))=true:=dtt j1
     have d2:decide ((m:Int)<(W.co.Qd.fs.length:Int))=true:=dtt j2
     rw[hfo] at b1
     clear hf
     go_wp2
     go_ret2
     exact⟨by rw[HF.out];rfl,((E1.trans hE).alloc _)⟩
    ·have hfn:=Qa hf
     by_cases h0:0<=f
     ·have d1:decide (0<=f)=true:=dtt h0
      have d2:decide (f<(W.co.Qd.fs.length:Int))=false:=dff (fun e=>hf ⟨h0,e⟩)
      clear hf
      go_wp2
      exact⟨⟨1,by omega,by go_num,hE.alloc _,fun _=>hfn.out,fun h=>by omega⟩,by simp[intOf]⟩
     ·have d1:decide (0<=f)=false:=dff h0
      clear hf
      go_wp2
      exact⟨⟨1,by omega,by go_num,hE.alloc _,fun _=>hfn.out,fun h=>by omega⟩,by simp[intOf]⟩
   ·have hk1:k=1:=by omega
    subst hk1
    have HN:=Qa (HK.out.1 (by omega))
    by_cases hf:0<=f/\f<(W.co.now.fs.length:Int)
    ·have HF:=Qa (frm_now (c:=W.co) HN.out hf)
     obtain⟨m,rfl⟩:=Int.eq_ofNat_of_zero_le hf.1
     obtain⟨b,off,hfo,hb,cf⟩:=q2o HCW.out.hn.hf (k:=m) (by omega)
     have j1:(0:Int)<=(m:Int):=by omega
     have j2:(m:Int)<(W.co.now.fs.length:Int):=hf.2
     have d1:decide ((0:Int)<=(m:Int))=true:=dtt j1
     have d2:decide ((m:Int)<(W.co.now.fs.length:Int))=true:=dtt j2
     rw[hfo] at b4
     clear hk0
     clear hf
     go_wp2
     go_ret2
     exact⟨by rw[HF.out];rfl,((E1.trans hE).alloc _)⟩
    ·clear hk0
     have hfn:=Qa hf
     by_cases h0:0<=f
     ·have d1:decide (0<=f)=true:=dtt h0
      have d2:decide (f<(W.co.now.fs.length:Int))=false:=dff (fun e=>hf ⟨h0,e⟩)
      clear hf
      go_wp2
      exact⟨⟨2,by omega,by go_num,hE.alloc _,fun _=>HK.out.1 (by omega),fun _=>hfn.out⟩,by simp[intOf]⟩
     ·have d1:decide (0<=f)=false:=dff h0
      clear hf
      go_wp2
      exact⟨⟨2,by omega,by go_num,hE.alloc _,fun _=>HK.out.1 (by omega),fun _=>hfn.out⟩,by simp[intOf]⟩
  ·have hk2:k=2:=by omega
   subst hk2
   have HF:=Qa (z2h (c:=W.co) (HK.out.1 (by omega)) (HK.out.2 (by omega)))
   clear hk
   go_wp2
   go_ret2
   exact⟨by rw[HF.out];rfl,E1.trans hE⟩
end Rm
namespace Ag
open Go.RowKit Go.Deep Tb Rul
theorem isFlow_any(x1 x2 f:Int)(p:Nat)(w:World)(hp:w.cell? ⟨p,0,none⟩=some (.int .i64 f))(hl:p<w.heap.size):
 Calls prog 75 #[.agg #[.int .i64 x1,.int .i64 x2],.pointer (some ⟨p,0,none⟩)] w fun e w'=>e=.returned (.bool (x1 == f))/\Ext w w':=by
 go_enter func75,ntmps75
 go_wp2
 go_ret
 exact⟨rfl,(Ext.refl w).alloc _⟩
def z5z (st:List (Int×Int)) (f r:Int):Prop:=(r= -1/\Agt.ver st f=0)\/∃k:Nat,k<st.length/\r=k/\Agt.ver st f=(st.getD k s0).2
theorem q3e(so:Option Addr)(sc:Nat)(st:List (Int×Int))(f:Int)(p:Nat)(w:World)(HS0:StAt w so st)(hsl:st.length*16<=140737488351232)(hp0:w.cell? ⟨p,0,none⟩=some (.int .i64 f))(hl0:p<w.heap.size):
 Calls prog 74 #[.slice so st.length sc,.func (.func 75) #[] #[.pointer (some ⟨p,0,none⟩)]] w fun e w'=>∃r,e=.returned (.int .i64 r)/\Hid (z5z st f r)/\Ext w w':=by
 have HS:Hid (StAt w so st):=HS0
 have HP:Hid (∀W,Ext w W->cl W p 0 (.int .i64 f)/\p<W.heap.size):=fun W hW=>⟨(hW.cells.1 _ _ hl0).trans hp0,Q5 hl0 hW.size⟩
 have HX:Hid (Agt.ver st f=Agt.ver (st.drop 0) f):=by show _=_;rw[List.drop_zero]
 clear HS0 hp0 hl0
 go_enter func74,ntmps74
 go_wp2
 go_loopw [8] (fun iv wd=>∃k:Nat,k<=st.length/\iv=.int .i64 k/\Hid (Agt.ver st f=Agt.ver (st.drop k) f)/\Ext w wd) (fun iv _=>st.length - (intOf iv).toNat)
 case atStart=>exact⟨0,Zu _,rfl,HX,Ext.refl w⟩
 case round=>
  obtain⟨k,hk,rfl,HW,hE⟩:=hrel
  clear HX
  by_cases hlt:k<st.length
  ·obtain⟨g,off,rfl,hg,hcs⟩:=(StAt.ext HS.out hE).get hlt
   have i1:(k:Int)<(st.length:Int):=by omega
   have HST:Hid _:=HW.out.trans (ver_step (st:=st) (f:=f) (k:=k) hlt)
   obtain⟨c0,c1⟩:=hcs k hlt
   have HV:Hid ((st.getD k s0).1=f->z5z st f k):=fun h=>Or.inr ⟨k,hlt,rfl,HST.out.trans (if_pos h)⟩
   obtain⟨x,hx⟩:∃x,st.getD k s0=x:=⟨_,rfl⟩
   rw[hx] at c0 c1 HST HV
   obtain⟨x1,x2⟩:=x
   simp only at c0 c1
   clear hx hcs HW
   obtain⟨p0,pl⟩:=HP.out _ hE
   go_wp2_with fail
   refine(isFlow_any x1 x2 f p _ p0 pl).mono ?_
   rintro e w1 ⟨rfl,E1⟩
   clear p0 pl
   by_cases h1:x1=f
   ·have HF:Hid (z5z st f k):=HV.out h1
    have b1:(x1 == f)=true:=by simpa using h1
    rw[b1]
    clear h1 HST HV b1
    go_wp2
    go_ret
    exact⟨_,rfl,HF,hE.trans E1⟩
   ·have HW2:Hid (Agt.ver st f=Agt.ver (st.drop (k+1)) f):=HST.out.trans (if_neg h1)
    have b1:(x1 == f)=false:=by simpa using h1
    rw[b1]
    clear h1 HST HV b1
    go_wp2
    exact⟨⟨k+1,by omega,by go_num,HW2,hE.trans E1⟩,by simp[intOf];omega⟩
  ·have HF:Hid (z5z st f (-1)):=Or.inl ⟨rfl,by rw[HW.out,List.drop_eq_nil_of_le (by omega)];rfl⟩
   have i1:¬(k:Int)<(st.length:Int):=by omega
   clear HW
   go_wp2
   go_ret
   exact⟨_,rfl,HF,hE⟩
theorem z8j(s:Agt.Sw)(ro so:Option Addr)(rc sc:Nat)(f:Int)(w:World)(h:Zn w s ro so rc):
 Calls prog 48 #[svl s ro so rc sc,.int .i64 f] w fun e w'=>e=.returned (.int .i64 (Agt.ver s.st f))/\Ext w w':=by
 obtain⟨rs,st⟩:=s
 unfold svl
 have hsl:st.length*16<=140737488351232:=h.sl
 have HS:Hid (StAt w so st):=h.hs
 clear h
 show Calls _ _ _ _ fun e w'=>e=.returned (.int .i64 (Agt.ver st f))/\Ext w w'
 go_enter func48,ntmps48
 go_wp2_with fail
 obtain⟨B,hB⟩:=Qy ((w.alloc (.cells #[.slice ro rs.length rc,.slice so st.length sc] 64)).alloc (.cells #[.int .i64 f] 3))
 have hE0:Ext w B:=by rw[hB];exact((Ext.refl w).alloc _).alloc _
 have HK:Hid (∀W,Ext B W->cl W w.heap.size 1 (.slice so st.length sc)):=fun W hW=>by
  have l0:w.heap.size<B.heap.size:=by rw[hB];simp;omega
  exact(hW.cells.1 _ _ l0).trans (by rw[hB];simp)
 have p0:B.cell? ⟨w.heap.size+1,0,none⟩=some (.int .i64 f):=by rw[hB];simp
 have pl:w.heap.size+1<B.heap.size:=by rw[hB];simp
 rw[<-hB]
 clear hB
 refine(q3e so sc st f (w.heap.size+1) _ (StAt.ext HS.out hE0) hsl p0 pl).mono ?_
 rintro e w1 ⟨r,rfl,HI,E1⟩
 clear p0 pl
 rcases HI.out with⟨rfl,hv⟩ | ⟨k,hk,rfl,hv⟩
 ·have HF:Hid _:=hv
  clear hv HI
  go_wp2
  go_ret
  exact⟨by rw[HF.out];first | done | rfl,hE0.trans E1⟩
 ·have HF:Hid _:=hv
  clear hv HI
  obtain⟨g,off,rfl,hg,hcs⟩:=(StAt.ext HS.out (hE0.trans E1)).get hk
  have i1:(k:Int)<(st.length:Int):=by omega
  obtain⟨c0,c1⟩:=hcs k hk
  obtain⟨x,hx⟩:∃x,st.getD k s0=x:=⟨_,rfl⟩
  rw[hx] at c0 c1 HF
  clear hx hcs
  have q0:=HK.out _ E1
  go_wp2
  go_ret
  exact⟨by rw[HF.out];first | done | rfl,hE0.trans E1⟩
end Ag
namespace Rm
open Go.RowKit Go.Deep Stw Stp Tb Rul Ct
theorem sat_of{f:Int}:∀{sw:List Agt.Sw} {b k:Nat},k<sw.length->(∀j,j<k->Agt.ver (sw.getD j Agt.Zq).st f=0)->Agt.ver (sw.getD k Agt.Zq).st f≠0->sat f b sw=some (b+k,Agt.ver (sw.getD k Agt.Zq).st f)
 | [],_,_,h,_,_=>by simp at h
 | y::r,b,0,_,_,h=>by
  unfold sat
  rw[if_pos (by simpa using h)]
  simp
 | y::r,b,k+1,hk,h1,h2=>by
  have h0:=h1 0 (by omega)
  unfold sat
  rw[if_neg (by simpa using h0),sat_of (k:=k) (by simpa using hk) (fun j hj=>by have:=h1 (j+1) (by omega);rwa [List.getD_cons_succ] at this) (by rwa [List.getD_cons_succ] at h2),List.getD_cons_succ]
  congr 2
  omega
theorem sat_no{f:Int}:∀{sw:List Agt.Sw} {b:Nat},(∀j,j<sw.length->Agt.ver (sw.getD j Agt.Zq).st f=0)->sat f b sw=none
 | [],_,_=>rfl
 | y::r,b,h=>by
  have h0:=h 0 (by simp)
  unfold sat
  rw[if_neg (by simpa using h0)]
  exact sat_no (fun j hj=>by have:=h (j+1) (by simpa using hj);rwa [List.getD_cons_succ] at this)
variable {W:Wd} {f:Int}
theorem z4w(h:40<=W.pk.length):hapB W f=(W,5):=by unfold hapB;rw[if_pos h]
theorem q8l(h:¬40<=W.pk.length)(hf:frm W.co f=none):hapB W f=(W,6):=by unfold hapB;rw[if_neg h,hf]
theorem z4v{x:Int}(h:¬40<=W.pk.length)(hf:frm W.co f=some x):hapB W f=(⟨W.co,W.sw,W.od,W.bk,W.pk++[newP W.sw f x],W.pn⟩,0):=by unfold hapB;rw[if_neg h,hf]
theorem infoPk:(prog.info? 71).map (fun i=>(i.zero,i.size,i.bytes))=some (some (.agg #[.int .i64 0,.int .i64 0,.slice none 0 0,.bool false]),4,48):=by kernel_rfl
theorem news4{w W:World}{H:Nat}(hH:w.heap.size=H){a b c d:Value}{T:TypeId}(E:Ext (w.alloc (.cells #[a,b,c,d] T)) W):∀(j:Nat) (u:Value),[a,b,c,d][j]? =some u->W.cell? ((⟨H,0,none⟩:Addr).add j)=some u:=fun j u hu=>by
 have hb:(w.alloc (.cells #[a,b,c,d] T)).heap[H]? =some (.cells #[a,b,c,d] T):=by rw[<-hH];exact blk_alloc_new _ _
 have hb2:W.heap[H]? =some (.cells #[a,b,c,d] T):=(Below.block E H (by simp;omega)).trans hb
 have hadd:(⟨H,0,none⟩:Addr).add j=⟨H,j,none⟩:=by unfold Addr.add;split <;> simp_all
 rw[hadd,cell_of_row _ _ _ _ _ _ hb2]
 have:j<4:=(List.getElem?_eq_some_iff.1 hu).1
 obtain rfl | rfl | rfl | rfl:j=0\/j=1\/j=2\/j=3:=by omega
 all_goals exact hu
theorem one4k(a b:Int)(o:Option Addr)(l c:Nat)(d:Bool):∀u∈[Value.int .i64 a,.int .i64 b,.slice o l c,.bool d],u.oneCell'=true:=by
 intro u hu
 simp at hu
 rcases hu with rfl | rfl | rfl | rfl <;> rfl
theorem begin_many(tl:List Value)(n:Nat)(w0:World)(P:Nat)(tg:Nat->Nat)(w:World)(W:Wd)(a:CA)(sb ob bb:Nat)(kv lv:Value)(f:Int)(h:Q0 56 tl w0 P n tg w W a sb ob bb kv lv)(hm:40<=W.pk.length):
 Calls prog 25 #[.pointer (some ⟨P,0,none⟩),.int .i64 f] w fun e w'=>MOut tl w0 P n tg w sb ob bb (hapB W f) e w':=by
 have HW:=Qa h
 have HD:=Qa (z4w (f:=f) hm)
 obtain⟨xs,hrw,_⟩:=h.pks
 obtain⟨ko,kc,rfl⟩:=hrw.rw.form
 have c12:w.cell? ⟨P,12,none⟩=some (.slice ko W.pk.length kc):=h.row.cell (i:=12) (by omega)
 have i1:(40:Int)<=(W.pk.length:Int):=by omega
 clear h hrw
 go_enter func25,ntmps25
 go_wp2
 go_ret
 rw[HD.out]
 exact⟨rfl,tg,a,_,lv,HW.out,Qf.refl _ _ _⟩
theorem begin_none(tl:List Value)(n:Nat)(w0:World)(P:Nat)(tg:Nat->Nat)(w:World)(W:Wd)(a:CA)(sb ob bb:Nat)(kv lv:Value)(f:Int)(h:Q0 56 tl w0 P n tg w W a sb ob bb kv lv)(hm:¬40<=W.pk.length)(hf:frm W.co f=none):
 Calls prog 25 #[.pointer (some ⟨P,0,none⟩),.int .i64 f] w fun e w'=>MOut tl w0 P n tg w sb ob bb (hapB W f) e w':=by
 have HW:=Qa h
 have HD:=Qa (q8l hm hf)
 obtain⟨xs,hrw,_⟩:=h.pks
 obtain⟨ko,kc,rfl⟩:=hrw.rw.form
 have c12:w.cell? ⟨P,12,none⟩=some (.slice ko W.pk.length kc):=h.row.cell (i:=12) (by omega)
 have i1:¬(40:Int)<=(W.pk.length:Int):=by omega
 have HF:Hid (Calls prog 47 #[.pointer (some ⟨P,0,none⟩),.int .i64 f] w fun e w'=>e=.returned (.tuple #[.int .i64 0,.bool false])/\Ext w w'):=by
  have:=z0d tl n w0 P tg w W a sb ob bb _ lv f h
  rw[hf] at this
  exact this
 clear h hrw hm hf
 go_enter func25,ntmps25
 go_wp2_with fail
 refine Calls.mono HF.out ?_
 rintro e w1 ⟨rfl,E1⟩
 go_wp2
 go_ret
 rw[HD.out]
 exact⟨rfl,tg,a,_,lv,HW.out.Qm E1,Zv.ext E1⟩
theorem begin_some(tl:List Value)(n:Nat)(ls:List Lk)(t:Nat)(w0:World)(P:Nat)(tg:Nat->Nat)(w:World)(W:Wd)(a:CA)(sb ob bb:Nat)(kv lv:Value)(f x:Int)(h:Q0 56 tl w0 P n tg w W a sb ob bb kv lv)(hI:Inv n ls t W)(hm:¬40<=W.pk.length)(hf:frm W.co f=some x):
 Calls prog 25 #[.pointer (some ⟨P,0,none⟩),.int .i64 f] w fun e w'=>MOut tl w0 P n tg w sb ob bb (hapB W f) e w':=by
 obtain⟨i0,hi0,hz00,hz01,hz02⟩:=info_parts infoPk
 have HW:=Qa h
 have HD:=Qa (z4v hm hf)
 obtain⟨xs,hrw,hpk⟩:=h.pks
 obtain⟨ko,kc,rfl⟩:=hrw.rw.form
 have HRW:=Qa hrw
 have HPK:=Qa hpk
 have HSL:=Qa hI.lsw
 have hn8:=hI.n8.2
 have hP:=h.row.lt
 have c12:w.cell? ⟨P,12,none⟩=some (.slice ko W.pk.length kc):=h.row.cell (i:=12) (by omega)
 have i1:¬(40:Int)<=(W.pk.length:Int):=by omega
 have hpl:W.pk.length<=40:=by omega
 have HF:Hid (Calls prog 47 #[.pointer (some ⟨P,0,none⟩),.int .i64 f] w fun e w'=>e=.returned (.tuple #[.int .i64 x,.bool true])/\Ext w w'):=by
  have:=z0d tl n w0 P tg w W a sb ob bb _ lv f h
  rw[hf] at this
  exact this
 clear h hrw hm hf hpk hI
 go_enter func25,ntmps25
 go_wp2_with fail
 refine Calls.mono HF.out ?_
 rintro e w1 ⟨rfl,E1⟩
 have c9:w1.cell? ⟨P,9,none⟩=some (.slice (some ⟨sb,0,none⟩) n n):=(E1.cells.1 _ _ hP).trans (HW.out.row.cell (i:=9) (by omega))
 clear HF c12
 go_wp2
 go_loopw [5,7,32] (fun av vv iv wd=>av=.int .i64 x/\vv=.int .i64 0/\∃k:Nat,k<=n/\iv=.int .i64 k/\Ext w wd/\Hid (∀j,j<k->Agt.ver (W.sw.getD j Agt.Zq).st f=0)) (fun _ _ iv _=>n - (intOf iv).toNat)
 case atStart=>exact⟨rfl,rfl,0,Zu _,rfl,E1,fun j hj=>by omega⟩
 case round=>
  obtain⟨rfl,rfl,k,hk,rfl,hE,HK⟩:=hrel
  clear c9
  by_cases hlt:k<n
  ·have k1:(k:Int)<(n:Int):=by omega
   obtain⟨ro,rc,so,sc,s0,s1,_,hsl,hsw⟩:=(HW.out.Qm hE).sws.get hlt
   have HSW:=Qa hsw
   obtain⟨y,hy⟩:=Qy (W.sw.getD k Agt.Zq)
   have HY:=Qa hy
   rw[<-hy] at s0 s1 HSW
   have HV:Hid (∀V,Ext wr V->Calls prog 48 #[.agg #[.slice ro y.rs.length rc,.slice so y.st.length sc],.int .i64 f] V fun e w'=>e=.returned (.int .i64 (Agt.ver y.st f))/\Ext V w'):=fun V hV=>Ag.z8j y ro so rc sc f V ((HSW.out.Qh (Qf.ext (S:=fun _=>True) hV) trivial).at)
   clear hsw hy
   go_wp2_with fail
   refine Calls.mono (HV.out _ ((Ext.refl wr).alloc _)) ?_
   rintro e w2 ⟨rfl,E2⟩
   have EW:Ext w w2:=(hE.alloc _).trans E2
   by_cases hv:Agt.ver y.st f=0
   ·have HK2:Hid (∀j,j<k+1->Agt.ver (W.sw.getD j Agt.Zq).st f=0):=fun j hj=>by
     by_cases e:j=k
     ·rw[e, <-HY.out];exact hv
     ·exact HK.out j (by omega)
    rw[hv]
    clear hv
    go_wp2
    exact⟨⟨rfl,rfl,k+1,by omega,by go_num,EW,HK2⟩,by simp[intOf];omega⟩
   ·have HN:Hid (newP W.sw f x=⟨f,Agt.ver y.st f,[(k:Int)],false⟩):=by
     show _=_
     unfold newP
     rw[sat_of (b:=0) (k:=k) (by rw[HSL.out];exact hlt) HK.out (by rw[<-HY.out];exact hv), <-HY.out]
     simp
    have b1:(Agt.ver y.st f != 0)=true:=by simpa using hv
    have b2:(Agt.ver y.st f == 0)=false:=by simpa using hv
    clear hv s0 s1
    have c12:w2.cell? ⟨P,12,none⟩=some (.slice ko W.pk.length kc):=(EW.cells.1 _ _ hP).trans (HW.out.row.cell (i:=12) (by omega))
    have hP2:P<w2.heap.size:=Q5 hP EW.size
    have f12:w2.frozen? ⟨P,12,none⟩=false:=(EW.cells.2 _ _ hP).trans (HW.out.row.frozen 12)
    have EP:Ext w ((w2.alloc (.cells #[.int .i64 k] 3)).alloc (.cells #[.int .i64 f,.int .i64 (Agt.ver y.st f),.slice (some ⟨w2.heap.size,0,none⟩) 1 1,.bool false] 71)):=((EW).alloc _).alloc _
    go_wp2_with (first | (at_builtin;refine Zy _ rfl _ _ 36 rfl 71 i0 _ 4 48 underlying36 hi0 hz00 hz01 hz02 rfl (by decide) _ W.pk.length xs rfl (HRW.out.Qh (Qf.ext (S:=fun _=>True) EP) trivial).rw ⟨w2.heap.size+1,0,none⟩ 1 [.int .i64 f,.int .i64 (Agt.ver y.st f),.slice (some ⟨w2.heap.size,0,none⟩) 1 1,.bool false] rfl rfl (news4 (by simp) (Ext.refl _)) (one4k _ _ _ _ _ _) (by unfold maxLen;omega) (by omega) ?_) | fail)
    intro g7 off7 cap7 w7 hr7 hg7 hat7
    have HPU:=Qa (Q0.pushK (f:=f) (v:=(Agt.ver y.st f)) (x:=(k:Int)) (d:=false) (w1:=(w2.alloc (.cells #[.int .i64 k] 3)).alloc (.cells #[.int .i64 f,.int .i64 (Agt.ver y.st f),.slice (some ⟨w2.heap.size,0,none⟩) 1 1,.bool false] 71)) (HW.out.Qm (EW)) (((Ext.refl _).alloc _).alloc _) (HRW.out.Qh (Qf.ext (S:=fun _=>True) (EW)) trivial) (fun i hi=>by
     obtain⟨tv,a0,a1,a2,a3,a4⟩:=HPK.out i hi
     exact⟨tv,a0,a1,a2,a3,a4.Qh (Qf.ext (S:=fun _=>True) (EW)) trivial⟩) ((bal _ _ _ (by simp)).trans (blk_alloc_new _ _)) hr7 hg7 (hat7.imp id (fun e=>by rw[e];simp)))
    have t1:=HW.out.tP
    have gP:=Qz hg7 HRW.out.tg (b:=P) (by rw[t1];decide) (Q5 hP EP.size)
    have c7:w7.cell? ⟨P,12,none⟩=some (.slice ko W.pk.length kc):=(gP.1 12).trans ((EP.cells.1 _ _ hP).trans (HW.out.row.cell (i:=12) (by omega)))
    have f7:w7.frozen? ⟨P,12,none⟩=false:=(gP.2 12).trans ((EP.cells.2 _ _ hP).trans (HW.out.row.frozen 12))
    have hP7:P<w7.heap.size:=Q5 (Q5 hP EP.size) hg7.size
    clear gP hr7 hg7 hat7 t1
    go_wp2
    go_ret
    rw[HD.out,HN.out]
    obtain⟨tg7,hW7,hK7⟩:=HPU.out
    exact⟨rfl,tg7,a,_,lv,hW7,(Zv.ext (EW)).trans hK7⟩
  ·have hkn:k=n:=by omega
   have HN:Hid (newP W.sw f x=⟨f,0,[x],true⟩):=by
    show _=_
    unfold newP
    rw[sat_no (fun j hj=>HK.out j (by rw[HSL.out] at hj;omega))]
   have k1:¬(k:Int)<(n:Int):=by omega
   clear hkn
   have c12:wr.cell? ⟨P,12,none⟩=some (.slice ko W.pk.length kc):=(hE.cells.1 _ _ hP).trans (HW.out.row.cell (i:=12) (by omega))
   have hP2:P<wr.heap.size:=Q5 hP hE.size
   have f12:wr.frozen? ⟨P,12,none⟩=false:=(hE.cells.2 _ _ hP).trans (HW.out.row.frozen 12)
   have EP:Ext w ((wr.alloc (.cells #[.int .i64 x] 3)).alloc (.cells #[.int .i64 f,.int .i64 0,.slice (some ⟨wr.heap.size,0,none⟩) 1 1,.bool true] 71)):=((hE).alloc _).alloc _
   go_wp2_with (first | (at_builtin;refine Zy _ rfl _ _ 36 rfl 71 i0 _ 4 48 underlying36 hi0 hz00 hz01 hz02 rfl (by decide) _ W.pk.length xs rfl (HRW.out.Qh (Qf.ext (S:=fun _=>True) EP) trivial).rw ⟨wr.heap.size+1,0,none⟩ 1 [.int .i64 f,.int .i64 0,.slice (some ⟨wr.heap.size,0,none⟩) 1 1,.bool true] rfl rfl (news4 (by simp) (Ext.refl _)) (one4k _ _ _ _ _ _) (by unfold maxLen;omega) (by omega) ?_) | fail)
   intro g7 off7 cap7 w7 hr7 hg7 hat7
   have HPU:=Qa (Q0.pushK (f:=f) (v:=0) (x:=x) (d:=true) (w1:=(wr.alloc (.cells #[.int .i64 x] 3)).alloc (.cells #[.int .i64 f,.int .i64 0,.slice (some ⟨wr.heap.size,0,none⟩) 1 1,.bool true] 71)) (HW.out.Qm (hE)) (((Ext.refl _).alloc _).alloc _) (HRW.out.Qh (Qf.ext (S:=fun _=>True) (hE)) trivial) (fun i hi=>by
    obtain⟨tv,a0,a1,a2,a3,a4⟩:=HPK.out i hi
    exact⟨tv,a0,a1,a2,a3,a4.Qh (Qf.ext (S:=fun _=>True) (hE)) trivial⟩) ((bal _ _ _ (by simp)).trans (blk_alloc_new _ _)) hr7 hg7 (hat7.imp id (fun e=>by rw[e];simp)))
   have t1:=HW.out.tP
   have gP:=Qz hg7 HRW.out.tg (b:=P) (by rw[t1];decide) (Q5 hP EP.size)
   have c7:w7.cell? ⟨P,12,none⟩=some (.slice ko W.pk.length kc):=(gP.1 12).trans ((EP.cells.1 _ _ hP).trans (HW.out.row.cell (i:=12) (by omega)))
   have f7:w7.frozen? ⟨P,12,none⟩=false:=(gP.2 12).trans ((EP.cells.2 _ _ hP).trans (HW.out.row.frozen 12))
   have hP7:P<w7.heap.size:=Q5 (Q5 hP EP.size) hg7.size
   clear gP hr7 hg7 hat7 t1
   go_wp2
   go_ret
   rw[HD.out,HN.out]
   obtain⟨tg7,hW7,hK7⟩:=HPU.out
   exact⟨rfl,tg7,a,_,lv,hW7,(Zv.ext (hE)).trans hK7⟩
end Rm
end Go.Proofs.YthkpbefnkmmaiaaGreat
