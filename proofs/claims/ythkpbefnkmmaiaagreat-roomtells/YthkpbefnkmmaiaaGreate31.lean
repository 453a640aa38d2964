import Derived.Test.YthkpbefnkmmaiaaGreate30
set_option maxRecDepth 100000
set_option maxHeartbeats 2000000
namespace Go.Proofs.YthkpbefnkmmaiaaGreat
open Go.Proofs.Tryz
namespace Tb
open Go.RowKit Go.Deep Rul Go.Sort
theorem nxt_step{v f:Int}{rs:List Ru}{k:Nat}(hk:k<rs.length):Qd v f (rs.drop k)=if(rs.getD k r0).1=v/\(rs.getD k r0).2.1=f then((rs.getD k r0).2.2,true) else Qd v f (rs.drop (k+1)):=by
 have e:rs.getD k r0=rs[k]:=by simp[hk]
 rw[List.drop_eq_getElem_cons hk,Qd,e]
theorem Next_any(ao:Option Addr)(len cap:Nat)(rs:List Ru)(v f:Int)(w:World)(hlen:rs.length=len)(hf:Zl w ao rs)(hl:len<=4611686018427387904):
 Calls prog 49 #[.slice ao len cap,.int .i64 v,.int .i64 f] w fun e w'=>e=.returned (.tuple #[.int .i64 (Qd v f rs).1,.bool (Qd v f rs).2])/\Ext w w':=by
 have hw0:Qd v f rs=Qd v f (rs.drop 0):=by rw[List.drop_zero]
 rw[hw0]
 go_enter func49,ntmps49
 go_wp2
 go_loopw [12] (fun iv wd=>∃k:Nat,k<=len/\iv=.int .i64 k/\Hid (Qd v f (rs.drop 0)=Qd v f (rs.drop k))/\Ext w wd) (fun iv _=>len - (intOf iv).toNat)
 case atStart=>exact⟨0,Zu _,rfl,rfl,Ext.refl w⟩
 case round=>
  obtain⟨k,hk,rfl,HW,hE⟩:=hrel
  by_cases hlt:k<len
  ·obtain⟨g,off,rfl,hg,hcs⟩:=(hf.ext hE).get (k:=k) (by omega)
   have i1:(k:Int)<(len:Int):=by omega
   have HST:Hid _:=nxt_step (v:=v) (f:=f) (rs:=rs) (k:=k) (by omega)
   obtain⟨c0,c1,c2⟩:=hcs k (by omega)
   obtain⟨r,hr⟩:∃r,rs.getD k r0=r:=⟨_,rfl⟩
   rw[hr] at c0 c1 c2 HST
   clear hr hcs
   by_cases h1:r.1=v
   ·by_cases h2:r.2.1=f
    ·have hfin:Qd v f (rs.drop 0)=(r.2.2,true):=by rw[HW.out,HST.out,if_pos ⟨h1,h2⟩]
     have HF:Hid _:=hfin
     have b1:(r.1 == v)=true:=by simpa using h1
     have b2:(r.2.1 == f)=true:=by simpa using h2
     clear hfin h1 h2
     go_wp2
     go_ret2
     exact⟨by rw[HF.out];rfl,hE.alloc _⟩
    ·have HW2:Hid (Qd v f (rs.drop 0)=Qd v f (rs.drop (k+1))):=HW.out.trans (HST.out.trans (if_neg (fun h=>h2 h.2)))
     have b1:(r.1 == v)=true:=by simpa using h1
     have b2:(r.2.1 == f)=false:=by simpa using h2
     clear h1 h2
     go_wp2
     exact⟨⟨k+1,by omega,by go_num,HW2,hE.alloc _⟩,by simp[intOf];omega⟩
   ·have HW2:Hid (Qd v f (rs.drop 0)=Qd v f (rs.drop (k+1))):=HW.out.trans (HST.out.trans (if_neg (fun h=>h1 h.1)))
    have b1:(r.1 == v)=false:=by simpa using h1
    clear h1
    go_wp2
    exact⟨⟨k+1,by omega,by go_num,HW2,hE.alloc _⟩,by simp[intOf];omega⟩
  ·have hfin:Qd v f (rs.drop 0)=(0,false):=by rw[HW.out,List.drop_eq_nil_of_le (by omega),Qd]
   have HF:Hid _:=hfin
   clear hfin
   go_wp2
   go_ret2
   exact⟨by rw[HF.out];rfl,hE⟩
end Tb
namespace Rm
open Go.RowKit Go.Deep Stw Stp Tb Rul Ct
variable {W:Wd} {i:Nat}
theorem pk_at{n:Nat}{ls:List Lk}{t:Nat}(h:Inv n ls t W)(hi:i<W.pk.length):(W.pk.getD i Q8).tr≠[]/\0<=atP (W.pk.getD i Q8)/\atP (W.pk.getD i Q8)<(n:Int)/\(W.pk.getD i Q8).tr.length<=8:=by
 have hm:W.pk.getD i Q8∈W.pk:=by rw[Zt,List.getElem?_eq_getElem hi];exact List.getElem_mem _
 generalize W.pk.getD i Q8=p at hm ⊢
 rcases h.pks p hm with⟨_,_,x,e,h1,h2⟩ | ⟨m,k,j,h1,h2,h3,h4,h5,h6,h7⟩
 ·unfold atP;rw[e];exact⟨by simp,h1,h2,by simp⟩
 ·have hg:=(h.pls m h1).gd
  have hh:=(h.pls m h1).head
  have h8:=hh.2.2 k
  obtain⟨_,_,g3⟩:=hg.gp k h4
  have hx:=g3 _ (get_mem (l:=(W.pn.getD m pl0).ps.getD k []) (i:=j - 1) (by omega))
  have Q2:atP p=((W.pn.getD m pl0).ps.getD k []).getD (j - 1) 0:=by unfold atP;rw[h7];exact take_at h5 h6
  have hl:p.tr.length=j:=by rw[h7,List.length_take];omega
  exact⟨fun e=>by rw[e] at hl;simp at hl;omega,by rw[Q2];exact hx.1,by rw[Q2];exact hx.2,by omega⟩
theorem hapM_out{i:Int}(h:¬(0<=i/\i<(W.pk.length:Int))):hapM W i=(W,6):=by unfold hapM;rw[if_pos h]
theorem z4u(h:(W.pk.getD i Q8).dn=true):hapM W i=(W,6):=by
 unfold hapM
 split
 ·rfl
 ·rw[Int.toNat_natCast,if_pos h]
theorem hapM_yes(hi:i<W.pk.length)(h:(W.pk.getD i Q8).dn=false):hapM W i=(⟨W.co,W.sw,W.od,W.bk,W.pk.set i (movP W.sw (W.pk.getD i Q8)),W.pn⟩,0):=by
 unfold hapM
 rw[if_neg (by omega),Int.toNat_natCast,if_neg (by rw[h];simp)]
theorem move_out(tl:List Value)(n:Nat)(w0:World)(P:Nat)(tg:Nat->Nat)(w:World)(W:Wd)(a:CA)(sb ob bb:Nat)(kv lv:Value)(i:Int)(h:Q0 56 tl w0 P n tg w W a sb ob bb kv lv)(hi:¬(0<=i/\i<(W.pk.length:Int))):
 Calls prog 26 #[.pointer (some ⟨P,0,none⟩),.int .i64 i] w fun e w'=>MOut tl w0 P n tg w sb ob bb (hapM W i) e w':=by
 have HW:=Qa h
 have HD:=Qa (hapM_out hi)
 obtain⟨xs,hrw,_⟩:=h.pks
 obtain⟨ko,kc,rfl⟩:=hrw.rw.form
 have c12:w.cell? ⟨P,12,none⟩=some (.slice ko W.pk.length kc):=h.row.cell (i:=12) (by omega)
 clear h hrw
 by_cases h0:i<0
 ·have b0:decide (i<0)=true:=dtt h0
  clear hi
  go_enter func26,ntmps26
  go_wp2
  go_ret
  rw[HD.out]
  exact⟨rfl,tg,a,_,lv,HW.out,Qf.refl _ _ _⟩
 ·have b0:decide (i<0)=false:=dff h0
  have h1:(W.pk.length:Int)<=i:=by omega
  have b1:decide ((W.pk.length:Int)<=i)=true:=dtt h1
  clear hi
  go_enter func26,ntmps26
  go_wp2
  go_ret
  rw[HD.out]
  exact⟨rfl,tg,a,_,lv,HW.out,Qf.refl _ _ _⟩
theorem move_done(tl:List Value)(n:Nat)(w0:World)(P:Nat)(tg:Nat->Nat)(w:World)(W:Wd)(a:CA)(sb ob bb:Nat)(kv lv:Value)(i:Nat)(h:Q0 56 tl w0 P n tg w W a sb ob bb kv lv)(hi:i<W.pk.length)(hd:(W.pk.getD i Q8).dn=true):
 Calls prog 26 #[.pointer (some ⟨P,0,none⟩),.int .i64 i] w fun e w'=>MOut tl w0 P n tg w sb ob bb (hapM W i) e w':=by
 have HW:=Qa h
 have HD:=Qa (z4u hd)
 obtain⟨g,off,cap,tv,rfl,hg,_,_,_,_,_,k3,_⟩:=h.pks.get hi
 rw[hd] at k3
 have c12:w.cell? ⟨P,12,none⟩=some (.slice (some ⟨g,off,none⟩) W.pk.length cap):=h.row.cell (i:=12) (by omega)
 have h0:¬(i:Int)<0:=by omega
 have b0:decide ((i:Int)<0)=false:=dff h0
 have h1:¬(W.pk.length:Int)<=(i:Int):=by omega
 have b1:decide ((W.pk.length:Int)<=(i:Int))=false:=dff h1
 have j1:(0:Int)<=(i:Int):=by omega
 have j2:(i:Int)<(W.pk.length:Int):=by omega
 clear h hd
 go_enter func26,ntmps26
 go_wp2
 go_ret
 rw[HD.out]
 exact⟨rfl,tg,a,_,lv,HW.out,Qf.refl _ _ _⟩
theorem move_some(tl:List Value)(n:Nat)(ls:List Lk)(t:Nat)(w0:World)(P:Nat)(tg:Nat->Nat)(w:World)(W:Wd)(a:CA)(sb ob bb:Nat)(kv lv:Value)(i:Nat)(h:Q0 56 tl w0 P n tg w W a sb ob bb kv lv)(hI:Inv n ls t W)(hi:i<W.pk.length)(hd:(W.pk.getD i Q8).dn=false):
 Calls prog 26 #[.pointer (some ⟨P,0,none⟩),.int .i64 i] w fun e w'=>MOut tl w0 P n tg w sb ob bb (hapM W i) e w':=by
 obtain⟨i0,hi0,hz00,hz01,hz02⟩:=info_parts z2d
 have HW:=Qa h
 have HD:=Qa (hapM_yes hi hd)
 have hP:=h.row.lt
 obtain⟨p1,p2,p3,p4⟩:=pk_at hI hi
 obtain⟨g,off,cap,tv,rfl,hg,tG,gz,k0,k1,k2,k3,hbr⟩:=h.pks.get hi
 obtain⟨gt,ot,ct,rfl,hgt,hct,hcs⟩:=hbr.last p1
 have HBR:=Qa hbr
 have HTG:=Qa tG
 have HGZ:=Qa gz
 obtain⟨q,hq⟩:=Int.eq_ofNat_of_zero_le p2
 have hqn:q<n:=by omega
 have hlast:=hcs ((W.pk.getD i Q8).tr.length - 1) (by have:=List.length_pos_iff.2 p1;omega)
 have HQ:Hid (atP (W.pk.getD i Q8)=(q:Int)):=hq
 rw[show(W.pk.getD i Q8).tr.getD ((W.pk.getD i Q8).tr.length - 1) 0=(q:Int) from hq] at hlast
 obtain⟨ro,rc,so,sc,s0,_,_,hsl,hsw⟩:=h.sws.get hqn
 have HSW:=Qa hsw
 obtain⟨m,hm⟩:∃m,(W.pk.getD i Q8).tr.length=m+1:=⟨(W.pk.getD i Q8).tr.length - 1,by have:=List.length_pos_iff.2 p1;omega⟩
 rw[hm,Nat.add_sub_cancel] at hlast
 rw[hm] at k2
 have HM:=Qa hm
 rw[hd] at k3
 obtain⟨TR,hTR⟩:=Qy ((W.pk.getD i Q8).tr)
 have HTR:=Qa hTR
 clear hTR
 obtain⟨fl,hfl⟩:=Qy ((W.pk.getD i Q8).fl)
 obtain⟨ve,hve⟩:=Qy ((W.pk.getD i Q8).v)
 obtain⟨R,hR⟩:=Qy ((W.sw.getD q Agt.Zq).rs)
 have hR16:R.length<=4611686018427387904:=by
  have:=(q0j.1 (Agt.q7j (hI.sw_right hqn)).1).1
  rw[hR];omega
 have HMV:Hid (movP W.sw (W.pk.getD i Q8)=if(Rul.Qd ve fl R).2=true then⟨fl,ve,(W.pk.getD i Q8).tr++[(Rul.Qd ve fl R).1],(W.pk.getD i Q8).dn⟩ else⟨fl,ve,(W.pk.getD i Q8).tr,true⟩):=by
  show _=_
  unfold movP
  rw[HQ.out,Int.toNat_natCast, <-hR, <-hfl, <-hve]
 rw[<-hfl] at k0
 rw[<-hve] at k1
 rw[<-hR] at s0
 have HFL:=Qa hfl
 have HVE:=Qa hve
 have HNX:Hid (∀V,Ext w V->Calls prog 49 #[.slice ro R.length rc,.int .i64 ve,.int .i64 fl] V fun e w'=>e=.returned (.tuple #[.int .i64 (Rul.Qd ve fl R).1,.bool (Rul.Qd ve fl R).2])/\Ext V w'):=fun V hV=>by
  have h1:=(HSW.out.Qh (Qf.ext (S:=fun _=>True) hV) trivial).at.hr.Q2
  rw[<-hR] at h1
  exact Next_any ro R.length rc R ve fl V rfl h1 hR16
 have c12:w.cell? ⟨P,12,none⟩=some (.slice (some ⟨g,off,none⟩) W.pk.length cap):=h.row.cell (i:=12) (by omega)
 have c9:w.cell? ⟨P,9,none⟩=some (.slice (some ⟨sb,0,none⟩) n n):=h.row.cell (i:=9) (by omega)
 have h0:¬(i:Int)<0:=by omega
 have b0:decide ((i:Int)<0)=false:=dff h0
 have h1:¬(W.pk.length:Int)<=(i:Int):=by omega
 have b1:decide ((W.pk.length:Int)<=(i:Int))=false:=dff h1
 have j1:(0:Int)<=(i:Int):=by omega
 have j2:(i:Int)<(W.pk.length:Int):=by omega
 have j3:(0:Int)<=(q:Int):=by omega
 have j4:(q:Int)<(n:Int):=by omega
 have hm8:m<8:=by omega
 clear h hI hbr tG gz hsw hcs hq hm hfl hve hR hd p1 p2 p3 p4
 go_enter func26,ntmps26
 go_wp2
 go_region
 obtain⟨w1,hw1⟩:=Qy (w.drew)
 have E1:Ext w w1:=by rw[hw1];exact(Ext.refl w).drew
 have HS:Hid (∀V,Ext w1 V->cl V P 9 (.slice (some ⟨sb,0,none⟩) n n)/\cl V sb (q*2) (.slice ro R.length rc)/\cl V g (off+i*4+1) (.int .i64 ve)/\cl V g (off+i*4) (.int .i64 fl)):=fun V hV=>by
  have E:=E1.trans hV
  exact⟨(E.cells.1 _ _ hP).trans c9,(E.cells.1 _ _ hsl).trans s0,(E.cells.1 _ _ hg).trans k1,(E.cells.1 _ _ hg).trans k0⟩
 rw[<-hw1]
 clear hw1
 go_wp2_with fail
 have hd:Ext w1 w1.drew:=(Ext.refl w1).drew
 go_region_held3 (fun V=>cl V P 9 (.slice (some ⟨sb,0,none⟩) n n)/\cl V sb (q*2) (.slice ro R.length rc)/\cl V g (off+i*4+1) (.int .i64 ve)/\cl V g (off+i*4) (.int .i64 fl))
  (first | (with_reducible exact HS.out _ hd) | (with_reducible exact HS.out _ mk1) | fail)
  (first
  | (go_at_call 49
     with_reducible refine(HNX.out _ (E1.trans hd)).mono ?_
     rintro e w3 ⟨rfl,E3⟩
     have mk1:=hd.trans E3))
 have EW:Ext w w3:=E1.trans mk1
 have HW3:=Qa (HW.out.Qm EW)
 have hg3:g<w3.heap.size:=Q5 hg EW.size
 have e2:=(EW.cells.1 _ _ hg).trans k2
 have e3:=(EW.cells.1 _ _ hg).trans k3
 have z2:w3.frozen? ⟨g,off+i*4+2,none⟩=false:=(EW.cells.2 _ _ hg).trans (HGZ.out _)
 have z3:w3.frozen? ⟨g,off+i*4+3,none⟩=false:=(EW.cells.2 _ _ hg).trans (HGZ.out _)
 have HBR3:=Qa (HBR.out.Qh (Qf.ext (S:=fun _=>True) EW) trivial)
 obtain⟨⟨ny,nb⟩,hnx⟩:∃x,x=Rul.Qd ve fl R:=⟨_,rfl⟩
 rw[<-hnx] at HMV ⊢
 clear hnx k0 k1 k2 k3 s0 c9 c12 HS HNX mk1
 cases nb with
 | true=>
  have EP:Ext w3 (w3.alloc (.cells #[.int .i64 ny] 3)):=(Ext.refl w3).alloc _
  go_wp2_with (first | (at_builtin;refine Zy _ rfl _ _ 30 rfl 3 i0 _ 1 8 underlying30 hi0 hz00 hz01 hz02 rfl (by decide) _ (m+1) (TR.map (Value.int .i64)) rfl (by have h9:=(HBR3.out.Qh (Qf.ext (S:=fun _=>True) EP) trivial).row;rw[HM.out, <-HTR.out] at h9;exact h9) ⟨w3.heap.size,0,none⟩ 1 [.int .i64 ny] rfl rfl (news1 rfl (Ext.refl _)) (z1t _) (by unfold maxLen;omega) (by omega) ?_) | fail)
  intro g7 off7 cap7 w7 hr7 hg7 hat7
  have HPU:=Qa (Q0.moveK (y:=ny) (i:=i) (HW3.out.Qm EP) hi (HBR3.out.Qh (Qf.ext (S:=fun _=>True) EP) trivial) (by rw[HM.out, <-HTR.out];exact hr7) (by rw[HM.out];exact hg7) (by rw[HM.out];simpa using hat7))
  have gG:=Qz hg7 (b:=g) (tg:=tg) (t:=12+3*i) (fun k hk=>HBR3.out.tg k (by simpa[Value.ownBlock] using hk)) (by rw[HTG.out];omega) (Q5 hg3 EP.size)
  have c7:w7.cell? ⟨g,off+i*4+2,none⟩=some (.slice (some ⟨gt,ot,none⟩) (m+1) ct):=(gG.1 _).trans ((EP.cells.1 _ _ hg3).trans e2)
  have f7:w7.frozen? ⟨g,off+i*4+2,none⟩=false:=(gG.2 _).trans ((EP.cells.2 _ _ hg3).trans z2)
  have hg7l:g<w7.heap.size:=Q5 (Q5 hg3 EP.size) hg7.size
  clear gG hr7 hg7 hat7
  go_wp2
  go_ret
  rw[HD.out,HMV.out]
  obtain⟨tg7,hW7,hK7⟩:=HPU.out
  rw[HM.out] at hW7 hK7
  rw[HFL.out,HVE.out]
  exact⟨rfl,tg7,a,_,lv,hW7,(Zv.ext (EW.trans EP)).trans hK7⟩
 | false=>
  go_wp2
  go_ret
  rw[HD.out,HMV.out]
  have h1:=HW3.out.doneK hi HTG.out
  rw[HFL.out,HVE.out]
  exact⟨rfl,tg,a,_,lv,h1.1,(Zv.ext EW).trans h1.2⟩
theorem q8b(tl:List Value)(n:Nat)(ls:List Lk)(t:Nat)(w0:World)(P:Nat)(tg:Nat->Nat)(w:World)(W:Wd)(a:CA)(sb ob bb:Nat)(kv lv:Value)(i:Int)(h:Q0 56 tl w0 P n tg w W a sb ob bb kv lv)(hI:Inv n ls t W)(ht:t<=900):
 Calls prog 23 #[.pointer (some ⟨P,0,none⟩),.int .i64 i] w fun e w'=>MOut tl w0 P n tg w sb ob bb (hapO n W i) e w':=by
 by_cases hi:0<=i/\i<(n:Int)
 ·obtain⟨s,rfl⟩:=Int.eq_ofNat_of_zero_le hi.1
  cases ho:W.od.getD s [] with
  | nil=>exact order_nil tl n w0 P tg w W a sb ob bb kv lv s h (by omega) ho
  | cons o r=>exact order_some tl n s ls o r t w0 P tg w W a sb ob bb kv lv h hI ht (by omega) ho
 ·exact order_out tl n w0 P tg w W a sb ob bb kv lv i h hi
theorem back_any(n len cap:Nat)(ls:List Lk)(ao:Option Addr)(t:Nat)(w0:World)(P:Nat)(tg:Nat->Nat)(w:World)(W:Wd)(a:CA)(sb ob bb:Nat)(kv lv:Value)(i:Int)(h:Q0 56 [.int .i64 n,.slice ao len cap] w0 P n tg w W a sb ob bb kv lv)(hI:Inv n ls t W)(ht:t<=900)(hlen:ls.length=len)(hnet:Zg w0 ao ls)(hx:len<=9223372036854775807):
 Calls prog 24 #[.pointer (some ⟨P,0,none⟩),.int .i64 i] w fun e w'=>MOut [.int .i64 n,.slice ao len cap] w0 P n tg w sb ob bb (hapK n ls W i) e w':=by
 by_cases hi:0<=i/\i<(n:Int)
 ·obtain⟨s,rfl⟩:=Int.eq_ofNat_of_zero_le hi.1
  cases hb:W.bk.getD s [] with
  | nil=>exact back_nil _ n ls w0 P tg w W a sb ob bb kv lv s h (by omega) hb
  | cons k r=>exact back_some n len cap s k r ls ao t w0 P tg w W a sb ob bb kv lv h hI ht hlen hnet hx (by omega) hb
 ·exact back_out _ n ls w0 P tg w W a sb ob bb kv lv i h hi
theorem begin_any(tl:List Value)(n:Nat)(ls:List Lk)(t:Nat)(w0:World)(P:Nat)(tg:Nat->Nat)(w:World)(W:Wd)(a:CA)(sb ob bb:Nat)(kv lv:Value)(f:Int)(h:Q0 56 tl w0 P n tg w W a sb ob bb kv lv)(hI:Inv n ls t W):
 Calls prog 25 #[.pointer (some ⟨P,0,none⟩),.int .i64 f] w fun e w'=>MOut tl w0 P n tg w sb ob bb (hapB W f) e w':=by
 by_cases hm:40<=W.pk.length
 ·exact begin_many tl n w0 P tg w W a sb ob bb kv lv f h hm
 ·cases hf:frm W.co f with
  | none=>exact begin_none tl n w0 P tg w W a sb ob bb kv lv f h hm hf
  | some x=>exact begin_some tl n ls t w0 P tg w W a sb ob bb kv lv f x h hI hm hf
theorem move_any(tl:List Value)(n:Nat)(ls:List Lk)(t:Nat)(w0:World)(P:Nat)(tg:Nat->Nat)(w:World)(W:Wd)(a:CA)(sb ob bb:Nat)(kv lv:Value)(i:Int)(h:Q0 56 tl w0 P n tg w W a sb ob bb kv lv)(hI:Inv n ls t W):
 Calls prog 26 #[.pointer (some ⟨P,0,none⟩),.int .i64 i] w fun e w'=>MOut tl w0 P n tg w sb ob bb (hapM W i) e w':=by
 by_cases hi:0<=i/\i<(W.pk.length:Int)
 ·obtain⟨s,rfl⟩:=Int.eq_ofNat_of_zero_le hi.1
  cases hd:(W.pk.getD s Q8).dn with
  | true=>exact move_done tl n w0 P tg w W a sb ob bb kv lv s h (by omega) hd
  | false=>exact move_some tl n ls t w0 P tg w W a sb ob bb kv lv s h hI (by omega) hd
 ·exact move_out tl n w0 P tg w W a sb ob bb kv lv i h hi
theorem MOut.from{tl:List Value}{w0:World}{P n:Nat}{tg:Nat->Nat}{w w1:World}{sb ob bb:Nat}{R:Wd×Int}{e:Ending}{w':World}(h:MOut tl w0 P n tg w1 sb ob bb R e w')(E:Ext w w1):MOut tl w0 P n tg w sb ob bb R e w':=by
 obtain⟨h1,tg',a',kv',lv',h2,h3⟩:=h
 exact⟨h1,tg',a',kv',lv',h2,(Zv.ext E).trans h3⟩
theorem happen_any(n len cap:Nat)(ls:List Lk)(ao:Option Addr)(t:Nat)(w0:World)(P:Nat)(tg:Nat->Nat)(w:World)(W:Wd)(a:CA)(sb ob bb:Nat)(kv lv:Value)(d:Dd)(fo:Option Addr)(fc:Nat)(h:Q0 56 [.int .i64 n,.slice ao len cap] w0 P n tg w W a sb ob bb kv lv)(hI:Inv n ls t W)(ht:t<=900)(hlen:ls.length=len)(hnet:Zg w0 ao ls)(hx:len<=9223372036854775807)(hf:Fw.Qk w0 fo d.fs)(hS:Fw.Sm d.fs)(hlx:d.fs.length<=9223372036854775807):
 Calls prog 11 #[.pointer (some ⟨P,0,none⟩),.agg #[.int .i64 d.k,.int .i64 d.n,.slice fo d.fs.length fc]] w fun e w'=>MOut [.int .i64 n,.slice ao len cap] w0 P n tg w sb ob bb (hap n ls W d) e w':=by
 obtain⟨k,i,fs⟩:=d
 simp only at hf hS hlx ⊢
 obtain⟨w1,hw1⟩:=Qy (w.alloc (.cells #[.int .i64 k,.int .i64 i,.slice fo fs.length fc] 50))
 have E1:Ext w w1:=by rw[hw1];exact(Ext.refl w).alloc _
 have h1:=h.Qm E1
 have HA:=Qa (ask_any n len cap fo fc fs ls ao t w0 P tg w1 W a sb ob bb kv lv h1 hI ht hlen hnet hx hf hS hlx)
 have HO:=Qa (q8b _ n ls t w0 P tg w1 W a sb ob bb kv lv i h1 hI ht)
 have HB:=Qa (back_any n len cap ls ao t w0 P tg w1 W a sb ob bb kv lv i h1 hI ht hlen hnet hx)
 have HG:=Qa (begin_any _ n ls t w0 P tg w1 W a sb ob bb kv lv i h1 hI)
 have HM:=Qa (move_any _ n ls t w0 P tg w1 W a sb ob bb kv lv i h1 hI)
 have HD:=Qa (drop_any n len cap ls ao t w0 P tg w1 W a sb ob bb kv lv h1 hI (by omega) hlen hnet hx)
 have HW:=Qa h
 rw[hw1] at HA HO HB HG HM HD
 have HE:=Qa E1
 clear h h1 hI hlen hnet hx hf hS hlx E1
 by_cases k1:k=1
 ·have HH:Hid (hap n ls W ⟨k,i,fs⟩=hapA n ls W fs):=by show _=_;unfold hap;rw[if_pos k1]
  subst k1
  go_enter func11,ntmps11
  go_wp2_with fail
  refine Calls.mono HA.out ?_
  rintro e w2 hM
  obtain⟨rfl,hM2⟩:=hM
  have HM2:=Qa hM2
  clear hM2
  go_wp2
  go_ret
  rw[HH.out]
  exact MOut.from ⟨rfl,HM2.out⟩ (by rw[<-hw1];exact HE.out)
 ·by_cases k2:k=2
  ·have HH:Hid (hap n ls W ⟨k,i,fs⟩=hapO n W i):=by show _=_;unfold hap;rw[if_neg k1,if_pos k2]
   subst k2
   go_enter func11,ntmps11
   go_wp2_with fail
   refine Calls.mono HO.out ?_
   rintro e w2 hM
   obtain⟨rfl,hM2⟩:=hM
   have HM2:=Qa hM2
   clear hM2
   go_wp2
   go_ret
   rw[HH.out]
   exact MOut.from ⟨rfl,HM2.out⟩ (by rw[<-hw1];exact HE.out)
  ·by_cases k3:k=3
   ·have HH:Hid (hap n ls W ⟨k,i,fs⟩=hapK n ls W i):=by show _=_;unfold hap;rw[if_neg k1,if_neg k2,if_pos k3]
    subst k3
    go_enter func11,ntmps11
    go_wp2_with fail
    refine Calls.mono HB.out ?_
    rintro e w2 hM
    obtain⟨rfl,hM2⟩:=hM
    have HM2:=Qa hM2
    clear hM2
    go_wp2
    go_ret
    rw[HH.out]
    exact MOut.from ⟨rfl,HM2.out⟩ (by rw[<-hw1];exact HE.out)
   ·by_cases k4:k=4
    ·have HH:Hid (hap n ls W ⟨k,i,fs⟩=hapB W i):=by show _=_;unfold hap;rw[if_neg k1,if_neg k2,if_neg k3,if_pos k4]
     subst k4
     go_enter func11,ntmps11
     go_wp2_with fail
     refine Calls.mono HG.out ?_
     rintro e w2 hM
     obtain⟨rfl,hM2⟩:=hM
     have HM2:=Qa hM2
     clear hM2
     go_wp2
     go_ret
     rw[HH.out]
     exact MOut.from ⟨rfl,HM2.out⟩ (by rw[<-hw1];exact HE.out)
    ·by_cases k5:k=5
     ·have HH:Hid (hap n ls W ⟨k,i,fs⟩=hapM W i):=by show _=_;unfold hap;rw[if_neg k1,if_neg k2,if_neg k3,if_neg k4,if_pos k5]
      subst k5
      go_enter func11,ntmps11
      go_wp2_with fail
      refine Calls.mono HM.out ?_
      rintro e w2 hM
      obtain⟨rfl,hM2⟩:=hM
      have HM2:=Qa hM2
      clear hM2
      go_wp2
      go_ret
      rw[HH.out]
      exact MOut.from ⟨rfl,HM2.out⟩ (by rw[<-hw1];exact HE.out)
     ·by_cases k6:k=6
      ·have HH:Hid (hap n ls W ⟨k,i,fs⟩=hapD n ls W):=by show _=_;unfold hap;rw[if_neg k1,if_neg k2,if_neg k3,if_neg k4,if_neg k5,if_pos k6]
       subst k6
       go_enter func11,ntmps11
       go_wp2_with fail
       refine Calls.mono HD.out ?_
       rintro e w2 hM
       obtain⟨rfl,hM2⟩:=hM
       have HM2:=Qa hM2
       clear hM2
       go_wp2
       go_ret
       rw[HH.out]
       exact MOut.from ⟨rfl,HM2.out⟩ (by rw[<-hw1];exact HE.out)
      ·have HH:Hid (hap n ls W ⟨k,i,fs⟩=(W,1)):=by show _=_;unfold hap;rw[if_neg k1,if_neg k2,if_neg k3,if_neg k4,if_neg k5,if_neg k6]
       have b1:(k == 1)=false:=by simpa using k1
       have b2:(k == 2)=false:=by simpa using k2
       have b3:(k == 3)=false:=by simpa using k3
       have b4:(k == 4)=false:=by simpa using k4
       have b5:(k == 5)=false:=by simpa using k5
       have b6:(k == 6)=false:=by simpa using k6
       clear HA HO HB HG HM HD
       go_enter func11,ntmps11
       go_wp2
       go_ret
       rw[HH.out, <-hw1]
       exact⟨rfl,tg,a,kv,lv,HW.out.Qm HE.out,Zv.ext HE.out⟩
end Rm
end Go.Proofs.YthkpbefnkmmaiaaGreat
