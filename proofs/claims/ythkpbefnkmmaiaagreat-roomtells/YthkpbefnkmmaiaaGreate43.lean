import Derived.Test.YthkpbefnkmmaiaaGreate42
set_option maxRecDepth 100000
set_option maxHeartbeats 4000000
namespace Go.Proofs.YthkpbefnkmmaiaaGreat
open Go.Proofs.Tryz
namespace Rm
open Go.RowKit Go.Deep Go.Maps Go.Sort Stw Stp Tb Rul Ct
theorem z3j(n len cap:Nat)(ao:Option Addr)(w0:World)(P:Nat)(tg:Nat->Nat)(w:World)(W:Wd)(a:CA)(sb ob bb:Nat)(kv lv:Value)(dn:Int)(qo:Option Addr)(ql qc:Nat)(h:Q0 39 [] w0 P n tg w W a sb ob bb kv lv)(hwn:a.wo=none->a.wc=0)(hi:¬(0<=dn/\dn<(n:Int))):
 Calls prog 13 #[.pointer (some ⟨P,0,none⟩),.agg #[.int .i64 n,.slice ao len cap],.agg #[.int .i64 2,.int .i64 dn,.slice qo ql qc]] w fun e w'=>ROut w0 P n tg w sb ob bb (hapO n W dn) e w':=by
 have HD:=Qa (hapO_out (W:=W) hi)
 have HW:=Qa h
 have hP:=h.row.lt
 have HWN:=Qa hwn
 obtain⟨B,hB,EB,HBS,hb0, -,hb2⟩:=box3 w P n ao len cap 2 dn qo ql qc
 have HS:Hid (∀V,Ext B V->cl V w.heap.size 0 (.pointer (some ⟨P,0,none⟩))/\cl V (w.heap.size+1+1) 1 (.int .i64 dn)):=fun V hV=>by
  have hr:=HW.out.row.of_block (Below.block (EB.trans hV) P hP)
  have:=HBS.out
  exact⟨(hV.cells.1 _ _ (by omega)).trans (Qb hb0 0),(hV.cells.1 _ _ (by omega)).trans (Qb hb2 1)⟩
 have HPB:=hpb7 hP HBS HW.out
 clear hb0 h hwn
 obtain⟨lP,lw,lt1,lt2,lsb,lob,lbb⟩:=HPB.out B (Ext.refl B)
 by_cases h0:0<=dn
 focus
  have h1:¬dn<(n:Int):=fun e=>hi ⟨h0,e⟩
  have b0:decide (0<=dn)=true:=by simpa using h0
  have b1:decide (dn<(n:Int))=false:=by simpa using h1
 rotate_left
 focus
  have b0:decide (0<=dn)=false:=by simpa using h0
 rotate_left
 all_goals(
  clear hi
  go_enter func13,ntmps13
  go_upto_region 17 with fail
  rw[<-hB]
  clear hB hb2
  refine qb ?_
  repeat(go_big_quiet_step (fail))
  refine qn fun dq oq=>?_
  have EQ:Ext B (grow (redrawn B dq) oq):=brg B dq oq
  generalize grow (redrawn B dq) oq=B2 at EQ
  go_wp2
  go_ret
  rw[HD.out]
  exact⟨rfl,tg,a,kv,lv,HW.out.Qm (EB.trans EQ),Zv.ext (EB.trans EQ),HWN.out⟩)
theorem z3k(n len cap:Nat)(ao:Option Addr)(w0:World)(P:Nat)(tg:Nat->Nat)(w:World)(W:Wd)(a:CA)(sb ob bb:Nat)(kv lv:Value)(s:Nat)(qo:Option Addr)(ql qc:Nat)(h:Q0 39 [] w0 P n tg w W a sb ob bb kv lv)(hwn:a.wo=none->a.wc=0)(hs:s<n)(ho:W.od.getD s []=[]):
 Calls prog 13 #[.pointer (some ⟨P,0,none⟩),.agg #[.int .i64 n,.slice ao len cap],.agg #[.int .i64 2,.int .i64 s,.slice qo ql qc]] w fun e w'=>ROut w0 P n tg w sb ob bb (hapO n W s) e w':=by
 have HD:=Qa (hapO_nil (n:=n) ho)
 have HW:=Qa h
 have hP:=h.row.lt
 have HWN:=Qa hwn
 obtain⟨v,cv,fv,hol,hv⟩:=h.ors.get hs
 rw[ho] at hv
 obtain⟨xs,hrw,_⟩:=hv
 obtain⟨vo,vc,hvv⟩:=hrw.rw.form
 rw[hvv,List.length_nil] at cv
 obtain⟨B,hB,EB,HBS,hb0, -,hb2⟩:=box3 w P n ao len cap 2 (s:Int) qo ql qc
 have HS:Hid (∀V,Ext B V->cl V w.heap.size 0 (.pointer (some ⟨P,0,none⟩))/\cl V (w.heap.size+1+1) 1 (.int .i64 s)/\cl V P 10 (.slice (some ⟨ob,0,none⟩) n n)/\cl V ob s (.slice vo 0 vc)):=fun V hV=>by
  have hr:=HW.out.row.of_block (Below.block (EB.trans hV) P hP)
  have:=HBS.out
  exact⟨(hV.cells.1 _ _ (by omega)).trans (Qb hb0 0),(hV.cells.1 _ _ (by omega)).trans (Qb hb2 1),hr.cell (i:=10) (by simp),((EB.trans hV).cells.1 _ _ hol).trans cv⟩
 have HPB:=hpb7 hP HBS HW.out
 clear hb0 h hwn
 obtain⟨lP,lw,lt1,lt2,lsb,lob,lbb⟩:=HPB.out B (Ext.refl B)
 clear hrw hvv fv cv
 have j1:(0:Int)<=(s:Int):=by omega
 have j2:(s:Int)<(n:Int):=by omega
 have b0:decide ((0:Int)<=(s:Int))=true:=dtt j1
 have b1:decide ((s:Int)<(n:Int))=true:=by simpa using j2
 have b2:decide (s<n)=true:=dtt hs
 go_enter func13,ntmps13
 go_upto_region 17 with fail
 rw[<-hB]
 clear hB hb2
 have hdq:Ext B B.drew:=(Ext.refl B).drew
 go_region_held3 (fun V=>cl V w.heap.size 0 (.pointer (some ⟨P,0,none⟩))/\cl V (w.heap.size+1+1) 1 (.int .i64 s)/\cl V P 10 (.slice (some ⟨ob,0,none⟩) n n)/\cl V ob s (.slice vo 0 vc))
  (first | (with_reducible exact HS.out _ hdq) | fail)
  (fail)
 have EQ:Ext B B.drew:=hdq
 clear hdq
 generalize B.drew=B2 at EQ
 go_wp2
 go_ret
 rw[HD.out]
 exact⟨rfl,tg,a,kv,lv,HW.out.Qm (EB.trans EQ),Zv.ext (EB.trans EQ),HWN.out⟩
end Rm
namespace Tb
open Go.RowKit Go.Deep Rul Go.Sort
theorem ahead_any(x y:Ru)(w:World):
 Calls prog 80 #[.agg #[.int .i64 x.1,.int .i64 x.2.1,.int .i64 x.2.2],.agg #[.int .i64 y.1,.int .i64 y.2.1,.int .i64 y.2.2]] w fun e w'=>e=.returned (.bool (lt x y))/\Ext w w':=by
 obtain⟨x0,x1,x2⟩:=x
 obtain⟨y0,y1,y2⟩:=y
 by_cases h1:x0<y0
 ·rw[show lt (x0,x1,x2) (y0,y1,y2)=true by rw[q2v];exact Or.inl h1]
  go_enter func80,ntmps80
  go_wp2
  go_ret
  exact⟨by first | rfl | simp,((Ext.refl w).alloc _).alloc _⟩
 ·by_cases h2:x0=y0
  ·by_cases h3:x1<y1
   ·rw[show lt (x0,x1,x2) (y0,y1,y2)=true by rw[q2v];exact Or.inr ⟨h2,h3⟩]
    subst h2
    go_enter func80,ntmps80
    go_wp2
    go_ret
    exact⟨by first | rfl | simp,((Ext.refl w).alloc _).alloc _⟩
   ·rw[show lt (x0,x1,x2) (y0,y1,y2)=false by rw[q2c];simp only;omega]
    subst h2
    go_enter func80,ntmps80
    go_wp2
    go_ret
    exact⟨by first | rfl | simp,((Ext.refl w).alloc _).alloc _⟩
  ·rw[show lt (x0,x1,x2) (y0,y1,y2)=false by rw[q2c];simp only;omega]
   have h2':(x0 == y0)=false:=by simpa using h2
   go_enter func80,ntmps80
   go_wp2
   go_ret
   exact⟨by first | rfl | simp,((Ext.refl w).alloc _).alloc _⟩
variable {f:Int}
theorem inR_true{v n:Int}(h:inR (v,f,n)=true):¬v<1/\¬(1000:Int)<v/\¬f<0/\¬(11:Int)<f/\¬n<0/\¬(7:Int)<n:=by
 simp only[inR,decide_eq_true_eq] at h;omega
theorem inR_false{v n:Int}(h:inR (v,f,n)=false):v<1\/(¬v<1/\(1000:Int)<v)\/(¬v<1/\¬(1000:Int)<v/\f<0)\/(¬v<1/\¬(1000:Int)<v/\¬f<0/\(11:Int)<f)\/(¬v<1/\¬(1000:Int)<v/\¬f<0/\¬(11:Int)<f/\n<0)\/(¬v<1/\¬(1000:Int)<v/\¬f<0/\¬(11:Int)<f/\¬n<0/\(7:Int)<n):=by
 simp only[inR,decide_eq_false_iff_not] at h;omega
theorem z2t(x y:Ru)(w:World):∀d os,Calls prog 80 #[.agg #[.int .i64 x.1,.int .i64 x.2.1,.int .i64 x.2.2],.agg #[.int .i64 y.1,.int .i64 y.2.1,.int .i64 y.2.2]] (grow (redrawn w d) os) fun e w''=>e=.returned (.bool (lt x y))/\∃p:Regrown,w''=grow (redrawn w p.d) p.os:=fun d os=>
 Calls.regrown_of (ahead_any x y (grow (redrawn w d) os))
theorem q0x(ao:Option Addr)(len cap:Nat)(w:World)(h:16<len)(hl:len<=9223372036854775807):
 Calls prog 79 #[.slice ao len cap] w fun e w'=>e=.returned (.agg #[.int .i64 10,.int .i64 0])/\Ext w w':=by
 go_enter func79,ntmps79
 go_wp2
 exact bodyPost_ret (v:=.agg #[.int .i64 10,.int .i64 0]) (by simp[results,results79,go_sem]) rfl ⟨rfl,(Ext.refl w).alloc _⟩
theorem q2b(ao:Option Addr)(len cap:Nat)(rs:List Ru)(w:World)(hlen:rs.length=len)(hf:Zl w ao rs)(h16:¬16<len):
 Calls prog 79 #[.slice ao len cap] w fun e w'=>e=.returned (.agg #[.int .i64 (Rul.Qc rs).1,.int .i64 (Rul.Qc rs).2])/\Ext w w':=by
 have hw0:Rul.Qc rs=Rul.wr 0 (pv rs 0) (rs.drop 0):=by rw[Rul.Qc,if_neg (by omega),List.drop_zero];rfl
 rw[hw0]
 go_enter func79,ntmps79
 go_wp2
 go_loopw [11] (fun iv wd=>∃k:Nat,k<=len/\iv=.int .i64 k/\Hid (Rul.wr 0 (pv rs 0) (rs.drop 0)=Rul.wr k (pv rs k) (rs.drop k))/\Below (w.heap.size+1) (w.alloc (.cells #[.int .i64 0,.int .i64 0] 43)) wd) (fun iv _=>len - (intOf iv).toNat)
 case atStart=>exact⟨0,Zu _,rfl,rfl,Below.refl _ _⟩
 case round=>
  obtain⟨k,hk,rfl,HW,hbel⟩:=hrel
  obtain⟨z0,z1,y0,y1,hsz⟩:=Ze hbel
  have hEw:Ext w wr:=Below.trans ((Ext.refl w).alloc _) (hbel.mono (by omega))
  by_cases hlt:k<len
  ·obtain⟨g,off,rfl,hg,hcs⟩:=(hf.ext hEw).get (k:=k) (by omega)
   have i1:(k:Int)<(len:Int):=by omega
   have HST:Hid _:=wr_step (rs:=rs) (k:=k) (by omega)
   obtain⟨c0,c1,c2⟩:=hcs k (by omega)
   obtain⟨r,hr⟩:∃r,rs.getD k r0=r:=⟨_,rfl⟩
   rw[hr] at c0 c1 c2 HST
   have HR:Hid _:=hr
   clear hr hcs
   obtain⟨r0',r1',r2'⟩:=r
   have E1:Ext (wr.alloc (.cells #[.int .i64 r0',.int .i64 r1',.int .i64 r2'] 132)) (wr.alloc (.cells #[.int .i64 r0',.int .i64 r1',.int .i64 r2'] 132)):=Ext.refl _
   obtain⟨w1,hw1⟩:=Qy (wr.alloc (.cells #[.int .i64 r0',.int .i64 r1',.int .i64 r2'] 132))
   have hbel1:Below (w.heap.size+1) (w.alloc (.cells #[.int .i64 0,.int .i64 0] 43)) w1:=by rw[hw1];exact hbel.alloc (by omega) _
   obtain⟨z0',z1',y0',y1',hsz'⟩:=Ze hbel1
   have hE1:Ext w w1:=by rw[hw1];exact hEw.alloc _
   have b0:w1.cell? ⟨wr.heap.size,0,none⟩=some (.int .i64 r0'):=by rw[hw1];simp
   have b1:w1.cell? ⟨wr.heap.size,1,none⟩=some (.int .i64 r1'):=by rw[hw1];simp
   have b2:w1.cell? ⟨wr.heap.size,2,none⟩=some (.int .i64 r2'):=by rw[hw1];simp
   have hf1:=hf.ext hE1
   have hbx:wr.heap.size<w1.heap.size:=by rw[hw1];simp
   clear E1 z0 z1 y0 y1
   go_upto_region 6 with fail
   rw[<-hw1]
   clear c0 c1 c2 hw1
   cases hin:inR (r0',r1',r2') with
   | false=>
    have hfin:Rul.wr 0 (pv rs 0) (rs.drop 0)=(3,(k:Int)):=by rw[HW.out,HST.out,if_pos hin]
    have HF:Hid _:=hfin
    clear hfin
    rcases inR_false hin with e1 | ⟨e1,e2⟩ | ⟨e1,e2,e3⟩ | ⟨e1,e2,e3,e4⟩ | ⟨e1,e2,e3,e4,e5⟩ | ⟨e1,e2,e3,e4,e5,e6⟩
    all_goals(
     clear hin
     go_wp2
     refine bodyPost_ret (v:=.agg #[.int .i64 3,.int .i64 k]) (by simp[results,results79,go_sem,z0',z1']) rfl ⟨by first | rw[HF.out] | (have hq:=HF.out;rw[List.drop_zero] at hq;rw[hq]),?_⟩
     exact(hE1.setCell (Ql _) _).setCell (Ql _) _)
   | true=>
    obtain⟨f1,f2,f3,f4,f5,f6⟩:=inR_true hin
    have HST2:Hid _:=HST.out.trans (if_neg (by rw[hin];simp))
    clear HST hin
    by_cases hk0:k=0
    ·subst hk0
     have HW2:Hid (Rul.wr 0 (pv rs 0) (rs.drop 0)=Rul.wr 1 (pv rs 1) (rs.drop 1)):=HW.out.trans (HST2.out.trans (if_neg (by simp[pv])))
     clear HST2 HW
     go_wp2_with fail
     refine qb ?_
     repeat(go_big_quiet_step (fail))
     refine qn fun dq oq=>?_
     go_wp2
     exact⟨⟨1,by omega,by go_num,HW2,hbel1.trans (Below.mono (brg w1 dq oq) (by omega))⟩,by simp[intOf];omega⟩
    ·obtain⟨k,rfl⟩:∃j,k=j+1:=⟨k - 1,by omega⟩
     obtain⟨g,off,e,hg,hcs⟩:=hf1.get (k:=k) (by omega)
     cases e
     obtain⟨c0,c1,c2⟩:=hcs k (by omega)
     obtain⟨q,hq⟩:∃q,rs.getD k r0=q:=⟨_,rfl⟩
     rw[hq] at c0 c1 c2
     have HP:Hid (pv rs (k+1)=some q):=by show some (rs.getD k r0)=_;rw[hq]
     have HQ:Hid _:=z2t q (r0',r1',r2') w1
     have x0':=clr c0
     have x1':=clr c1
     have x2':=clr c2
     have v0':=clr b0
     have v1':=clr b1
     have v2':=clr b2
     have bk:(k:Int)<(len:Int):=by omega
     have i0:(0:Int)<(k:Int)+1:=by omega
     clear c0 c1 c2 hcs hq hk0
     cases hlq:lt q (r0',r1',r2') with
     | true=>
      have HW2:Hid (Rul.wr 0 (pv rs 0) (rs.drop 0)=Rul.wr (k+1+1) (pv rs (k+1+1)) (rs.drop (k+1+1))):=HW.out.trans (HST2.out.trans (if_neg (by rw[HP.out];simp[hlq])))
      rw[hlq] at HQ
      clear HST2 HW HP hlq
      go_wp2_with fail
      refine qb ?_
      repeat(go_big_quiet_step (with_reducible exact HQ.out _ _))
      refine qn fun dq oq=>?_
      clear x0' x1' x2' v0' v1' v2' HQ
      go_wp2
      exact⟨⟨k+1+1,by omega,by go_num,HW2,hbel1.trans (Below.mono (brg w1 dq oq) (by omega))⟩,by simp[intOf];omega⟩
     | false=>
      have hfin:Rul.wr 0 (pv rs 0) (rs.drop 0)=(2,((k+1:Nat):Int)):=HW.out.trans (HST2.out.trans (if_pos (by rw[HP.out];simp[hlq])))
      have HF:Hid _:=hfin
      rw[hlq] at HQ
      clear HST2 HW HP hlq hfin
      go_wp2_with fail
      refine qb ?_
      repeat(go_big_quiet_step (with_reducible exact HQ.out _ _))
      refine qn fun dq oq=>?_
      clear x0' x1' x2' v0' v1' v2' HQ
      have hbel2:=hbel1.trans (Below.mono (brg w1 dq oq) (by omega))
      obtain⟨z0,z1,y0,y1,hsz2⟩:=Ze hbel2
      have hE2:Ext w (grow (redrawn w1 dq) oq):=hE1.trans (brg w1 dq oq)
      clear z0' z1' y0' y1'
      generalize grow (redrawn w1 dq) oq=wq at z0 z1 y0 y1 hE2 ⊢
      go_wp2
      refine bodyPost_ret (v:=.agg #[.int .i64 2,.int .i64 ((k+1:Nat):Int)]) (by simp[results,results79,go_sem,z0,z1]) rfl ⟨by first | rw[HF.out] | (have hq:=HF.out;rw[List.drop_zero] at hq;rw[hq]),?_⟩
      exact(hE2.setCell (Ql _) _).setCell (Ql _) _
  ·have hfin:Rul.wr 0 (pv rs 0) (rs.drop 0)=(0,0):=by rw[HW.out,wr_end (by omega)]
   have HF:Hid _:=hfin
   clear hfin
   go_wp2
   refine bodyPost_ret (v:=.agg #[.int .i64 0,.int .i64 0]) (by simp[results,results79,go_sem,z0,z1]) rfl ⟨by first | rw[HF.out] | (have hq:=HF.out;rw[List.drop_zero] at hq;rw[hq]),?_⟩
   exact(hEw.setCell (Ql _) _).setCell (Ql _) _
theorem Q3(ao:Option Addr)(len cap:Nat)(rs:List Ru)(w:World)(hlen:rs.length=len)(hf:Zl w ao rs)(hl:len<=9223372036854775807):
 Calls prog 79 #[.slice ao len cap] w fun e w'=>e=.returned (.agg #[.int .i64 (Rul.Qc rs).1,.int .i64 (Rul.Qc rs).2])/\Ext w w':=by
 by_cases h:16<len
 ·rw[q2f (by omega)]
  exact q0x ao len cap w h hl
 ·exact q2b ao len cap rs w hlen hf h
end Tb
namespace Ag
open Go.RowKit Go.Deep Tb Rul
theorem Z0(s:Agt.Sw)(ro so:Option Addr)(rc sc:Nat)(w:World)(h:Zn w s ro so rc):
 Calls prog 55 #[svl s ro so rc sc] w fun e w'=>e=.returned (.int .i64 (Agt.Qo s))/\Ext w w':=by
 obtain⟨rs,st⟩:=s
 unfold svl
 have hsl:st.length*16<=140737488351232:=h.sl
 have hrl:rs.length*24<=140737488351232:=h.rl
 have HS:Hid (StAt w so st):=h.hs
 have HR:Hid (Zl w ro rs):=h.hr.Q2
 clear h
 have HX:Hid (Agt.Qo ⟨rs,st⟩=if(Rul.Qc rs).1≠0 then(Rul.Qc rs).1 else Agt.wst none st):=rfl
 go_enter func55,ntmps55
 go_wp2_with fail
 obtain⟨B,hB⟩:=Qy (w.alloc (.cells #[.slice ro rs.length rc,.slice so st.length sc] 64))
 have hE0:Ext w B:=by rw[hB];exact(Ext.refl w).alloc _
 have HK:Hid (∀W,Ext B W->cl W w.heap.size 1 (.slice so st.length sc)):=fun W hW=>by
  have l0:w.heap.size<B.heap.size:=by rw[hB];simp
  exact(hW.cells.1 _ _ l0).trans (by rw[hB];simp)
 rw[<-hB]
 clear hB
 refine(Tb.Q3 ro rs.length rc rs _ rfl (Zl.ext HR.out hE0) (by omega)).mono ?_
 rintro e w1 ⟨rfl,E1⟩
 obtain⟨y,hy⟩:∃y,Rul.Qc rs=y:=⟨_,rfl⟩
 rw[hy] at HX ⊢
 obtain⟨y1,y2⟩:=y
 clear hy
 have q0:=HK.out _ (E1.alloc (.cells #[.int .i64 y1,.int .i64 y2] 43))
 by_cases hz:y1=0
 ·have HX2:Hid (Agt.Qo ⟨rs,st⟩=Agt.wst (pvS st 0) (st.drop 0)):=by show _=_;rw[HX.out,List.drop_zero];exact if_neg (by simpa using hz)
  have b0:(y1 != 0)=false:=by simpa using hz
  clear HX hz
  go_wp2
  go_loopw [4,18] (fun lv iv wd=>∃k:Nat,k<=st.length/\iv=.int .i64 k/\lv=.int .i64 (lsS st k)/\Hid (Agt.Qo ⟨rs,st⟩=Agt.wst (pvS st k) (st.drop k))/\Ext B wd) (fun _ iv _=>st.length - (intOf iv).toNat)
  case atStart=>exact⟨0,Zu _,rfl,rfl,HX2,E1.alloc _⟩
  case round=>
   obtain⟨k,hk,rfl,rfl,HW,hE⟩:=hrel
   clear q0 HX2
   have hEw:=hE0.trans hE
   by_cases hlt:k<st.length
   ·obtain⟨g,off,rfl,hg,hcs⟩:=(StAt.ext HS.out hEw).get hlt
    have i1:(k:Int)<(st.length:Int):=by omega
    have HST:Hid _:=HW.out.trans (wst_step (st:=st) (p:=pvS st k) (k:=k) hlt)
    have HP:Hid (k≠0->pvS st k=some (lsS st k)):=pvS_pos
    have HP0:Hid (k=0->pvS st k=none):=fun h=>by rw[h];rfl
    have HNX:Hid (lsS st (k+1)=(st.getD k s0).1/\pvS st (k+1)=some (st.getD k s0).1):=⟨rfl,rfl⟩
    obtain⟨c0,c1⟩:=hcs k hlt
    obtain⟨x,hx⟩:∃x,st.getD k s0=x:=⟨_,rfl⟩
    obtain⟨q,hq⟩:=Qy (lsS st k)
    obtain⟨p,hp⟩:=Qy (pvS st k)
    rw[hx] at c0 c1 HST HNX
    rw[<-hq] at HP ⊢
    rw[<-hp] at HP HP0 HST
    obtain⟨x1,x2⟩:=x
    simp only at c0 c1
    clear hx hcs hq hp HW
    by_cases z1:x1<0
    ·have HF:Hid (Agt.Qo ⟨rs,st⟩=3):=HST.out.trans (if_pos (dtt (Or.inl z1)))
     clear HST HP HP0 HNX
     go_wp2
     go_ret
     exact⟨by rw[HF.out];first | done | rfl,hEw.alloc _⟩
    ·by_cases z2:11<x1
     ·have HF:Hid (Agt.Qo ⟨rs,st⟩=3):=HST.out.trans (if_pos (dtt (Or.inr (Or.inl z2))))
      clear HST HP HP0 HNX
      go_wp2
      go_ret
      exact⟨by rw[HF.out];first | done | rfl,hEw.alloc _⟩
     ·by_cases z3:x2<1
      ·have HF:Hid (Agt.Qo ⟨rs,st⟩=3):=HST.out.trans (if_pos (dtt (Or.inr (Or.inr (Or.inl z3)))))
       clear HST HP HP0 HNX
       go_wp2
       go_ret
       exact⟨by rw[HF.out];first | done | rfl,hEw.alloc _⟩
      ·by_cases z4:1000<x2
       ·have HF:Hid (Agt.Qo ⟨rs,st⟩=3):=HST.out.trans (if_pos (dtt (Or.inr (Or.inr (Or.inr z4)))))
        clear HST HP HP0 HNX
        go_wp2
        go_ret
        exact⟨by rw[HF.out];first | done | rfl,hEw.alloc _⟩
       ·have HS2:Hid (Agt.Qo ⟨rs,st⟩=if p.any (fun q=>decide (x1<=q))=true then 2 else Agt.wst (some x1) (st.drop (k+1))):=HST.out.trans (if_neg (by rw[show Agt.badS (x1,x2)=false from dff (by simp only;omega)];exact Bool.false_ne_true))
        clear HST
        by_cases k0:k=0
        ·have HW2:Hid (Agt.Qo ⟨rs,st⟩=Agt.wst (some x1) (st.drop (k+1))):=HS2.out.trans (if_neg (by rw[HP0.out k0];exact Bool.false_ne_true))
         have k1:¬(0:Int)<(k:Int):=by omega
         clear HS2 HP HP0 k0
         go_wp2
         exact⟨⟨k+1,by omega,by go_num,by rw[HNX.out.1],by rw[HNX.out.2];exact HW2,hE.alloc _⟩,by simp[intOf];omega⟩
        ·have k1:(0:Int)<(k:Int):=by omega
         have HP1:Hid (p=some q):=HP.out k0
         clear HP HP0 k0
         by_cases z5:x1<=q
         ·have HF:Hid (Agt.Qo ⟨rs,st⟩=2):=HS2.out.trans (if_pos (by rw[HP1.out];simpa using z5))
          clear HS2 HP1 HNX
          go_wp2
          go_ret
          exact⟨by rw[HF.out];first | done | rfl,hEw.alloc _⟩
         ·have HW2:Hid (Agt.Qo ⟨rs,st⟩=Agt.wst (some x1) (st.drop (k+1))):=HS2.out.trans (if_neg (by rw[HP1.out];simpa using z5))
          clear HS2 HP1
          go_wp2
          exact⟨⟨k+1,by omega,by go_num,by rw[HNX.out.1],by rw[HNX.out.2];exact HW2,hE.alloc _⟩,by simp[intOf];omega⟩
   ·have HF:Hid (Agt.Qo ⟨rs,st⟩=0):=HW.out.trans (wst_end (by omega))
    have i1:¬(k:Int)<(st.length:Int):=by omega
    clear HW
    go_wp2
    go_ret
    exact⟨by rw[HF.out];first | done | rfl,hEw⟩
 ·have HX2:Hid (Agt.Qo ⟨rs,st⟩=y1):=HX.out.trans (if_pos hz)
  have b0:(y1 != 0)=true:=by simpa using hz
  clear HX hz
  go_wp2
  go_ret
  exact⟨by rw[HX2.out];first | done | rfl,(hE0.trans E1).alloc _⟩
end Ag
namespace Wi
open Go.RowKit Go.Maps Go.Deep Tb Rul
theorem q9c(k n v:Int)(rs:List Ru)(fs:List Int)(ro fo:Option Addr)(rc fc:Nat)(w:World)(h:inB n 1 100000=false\/inB v 1 1000=false):
 Calls prog 56 #[.agg #[.int .i64 k,.int .i64 n,.int .i64 v,.slice ro rs.length rc,.slice fo fs.length fc]] w fun e w'=>e=.returned (.int .i64 3)/\Ext w w':=by
 rw[q0y,q0y] at h
 by_cases h1:n<1
 ·clear h
  go_enter func56,ntmps56
  go_wp2
  go_ret
  exact⟨rfl,(Ext.refl w).alloc _⟩
 ·by_cases h2:100000<n
  ·clear h
   go_enter func56,ntmps56
   go_wp2
   go_ret
   exact⟨rfl,(Ext.refl w).alloc _⟩
  ·by_cases h3:v<1
   ·clear h
    go_enter func56,ntmps56
    go_wp2
    go_ret
    exact⟨rfl,(Ext.refl w).alloc _⟩
   ·have h4:1000<v:=by omega
    clear h
    go_enter func56,ntmps56
    go_wp2
    go_ret
    exact⟨rfl,(Ext.refl w).alloc _⟩
theorem Q3(o:Wir.Od)(ro fo:Option Addr)(rc fc:Nat)(w:World)(h:OAt w o ro fo):
 Calls prog 56 #[ovl o ro fo rc fc] w fun e w'=>e=.returned (.int .i64 (Wir.Qc o))/\Ext w w':=by
 obtain⟨k,n,v,rs,fs⟩:=o
 unfold ovl
 by_cases hr:inB n 1 100000=false\/inB v 1 1000=false
 ·rw[q4p (o:=⟨k,n,v,rs,fs⟩) hr]
  exact q9c k n v rs fs ro fo rc fc w hr
 ·have b1:inB n 1 100000=true:=by cases hb:inB n 1 100000 with
   | true=>rfl
   | false=>exact absurd (Or.inl hb) hr
  have b2:inB v 1 1000=true:=by cases hb:inB v 1 1000 with
   | true=>rfl
   | false=>exact absurd (Or.inr hb) hr
  have HF:Hid _:=q9l (o:=⟨k,n,v,rs,fs⟩) b1 b2
  rw[q5n] at b1 b2
  obtain⟨n1,n2⟩:=b1
  obtain⟨v1,v2⟩:=b2
  have n3:¬n<1:=by omega
  have n4:¬100000<n:=by omega
  have v3:¬v<1:=by omega
  have v4:¬1000<v:=by omega
  have HO:Hid _:=h
  obtain⟨B,hB⟩:=Qy (w.alloc (.cells #[.int .i64 k,.int .i64 n,.int .i64 v,.slice ro rs.length rc,.slice fo fs.length fc] 69))
  have hE0:Ext w B:=by rw[hB];exact(Ext.refl w).alloc _
  have HK:Hid (∀W,Ext B W->cl W w.heap.size 0 (.int .i64 k)/\cl W w.heap.size 2 (.int .i64 v)/\cl W w.heap.size 3 (.slice ro rs.length rc)/\cl W w.heap.size 4 (.slice fo fs.length fc)):=fun W hW=>by
   have hlt:w.heap.size<B.heap.size:=by rw[hB];simp
   refine⟨(hW.cells.1 _ _ hlt).trans ?_,(hW.cells.1 _ _ hlt).trans ?_,(hW.cells.1 _ _ hlt).trans ?_,(hW.cells.1 _ _ hlt).trans ?_⟩ <;> (rw[hB];simp)
  have hrl:rs.length<=4611686018427387904:=h.rl
  have hfl:fs.length<=4611686018427387904:=h.fl
  clear h hr
  by_cases k1:k=1
  ·subst k1
   have HF1:Hid (Wir.Qc ⟨1,n,v,rs,fs⟩=wrR v 16 rs):=HF.out
   clear HF
   by_cases hm:16<rs.length
   ·have HW5:Hid (wrR v 16 rs=5):=by show _=_;rw[wrR,if_pos (by omega)]
    have m1:(16:Int)<(rs.length:Int):=by omega
    go_enter func56,ntmps56
    go_wp2
    go_ret
    exact⟨by rw[HF1.out,HW5.out];first | done | rfl,(Ext.refl w).alloc _⟩
   ·have HM:Hid ((rs.length:Int)<=16):=by show _<=_;omega
    have m1:¬(16:Int)<(rs.length:Int):=by omega
    go_enter func56,ntmps56
    go_wp2
    rw[<-hB]
    go_loopw [37] (fun iv wd=>∃j:Nat,j<=rs.length/\iv=.int .i64 j/\Hid (rs.any (Wir.badR v)=(rs.drop j).any (Wir.badR v))/\Ext B wd) (fun iv _=>rs.length - (intOf iv).toNat)
    case atStart=>exact⟨0,Zu _,rfl,by rw[List.drop_zero];exact rfl,Ext.refl B⟩
    case round=>
     obtain⟨j,hj,rfl,HW,hE⟩:=hrel
     have hEw:=hE0.trans hE
     by_cases hlt:j<rs.length
     ·obtain⟨g,off,hro,hg,hcs⟩:=(HO.out.hr.ext hEw).get (k:=j) hlt
      have hro':ro=some ⟨g,off,none⟩:=hro
      subst hro'
      have i1:(j:Int)<(rs.length:Int):=by omega
      have HST:Hid _:=z2s (f:=Wir.badR v) (rs:=rs) (k:=j) hlt
      have HT:Hid (Wir.badR v (rs.getD j r0)=true->wrR v 16 rs=3):=fun hb=>z3d HM.out HW.out hlt hb
      obtain⟨c0,c1,c2⟩:=hcs j hlt
      obtain⟨r,hr⟩:∃r,rs.getD j r0=r:=⟨_,rfl⟩
      rw[hr] at c0 c1 c2 HST HT
      obtain⟨q0,q2,q3,q4⟩:=HK.out _ hE
      have hbl:w.heap.size<wr.heap.size:=Q5 (by rw[hB];simp) hE.size
      clear hr hcs hro
      obtain⟨r1,r2,r3⟩:=r
      simp only at c0 c1 c2
      cases z1:(r1 != v) with
      | true=>
       have z1':r1≠v:=by simpa using z1
       have HF3:Hid (wrR v 16 rs=3):=HT.out (dtt (Or.inl z1'))
       clear HST HT HW
       go_wp2
       go_ret
       exact⟨by rw[HF1.out,HF3.out];first | done | rfl,hEw.alloc _⟩
      | false=>
       have z1':r1=v:=by simpa using z1
       have HZ1:Hid (r1=v):=z1'
       clear z1'
       by_cases z2:r2<0
       ·have HF3:Hid (wrR v 16 rs=3):=HT.out (dtt (Or.inr (by show _;simp only;omega)))
        clear HST HT HW
        go_wp2
        go_ret
        exact⟨by rw[HF1.out,HF3.out];first | done | rfl,hEw.alloc _⟩
       ·have z2':True:=trivial
        by_cases z3:11<r2
        ·have HF3:Hid (wrR v 16 rs=3):=HT.out (dtt (Or.inr (by show _;simp only;omega)))
         clear HST HT HW
         go_wp2
         go_ret
         exact⟨by rw[HF1.out,HF3.out];first | done | rfl,hEw.alloc _⟩
        ·have z3':True:=trivial
         by_cases z4:r3<0
         ·have HF3:Hid (wrR v 16 rs=3):=HT.out (dtt (Or.inr (by show _;simp only;omega)))
          clear HST HT HW
          go_wp2
          go_ret
          exact⟨by rw[HF1.out,HF3.out];first | done | rfl,hEw.alloc _⟩
         ·have z4':True:=trivial
          by_cases z5:7<r3
          ·have HF3:Hid (wrR v 16 rs=3):=HT.out (dtt (Or.inr (by show _;simp only;omega)))
           clear HST HT HW
           go_wp2
           go_ret
           exact⟨by rw[HF1.out,HF3.out];first | done | rfl,hEw.alloc _⟩
          ·have z5':True:=trivial
           have HW2:Hid (rs.any (Wir.badR v)=(rs.drop (j+1)).any (Wir.badR v)):=by
            show _=_
            have hbf:Wir.badR v (r1,r2,r3)=false:=dff (by have:=HZ1.out;simp only;omega)
            rw[HW.out,HST.out,hbf];rfl
           clear HST HT HW z2' z3' z4' z5'
           go_wp2
           exact⟨⟨j+1,by omega,by go_num,HW2,hE.alloc _⟩,by simp[intOf];omega⟩
     ·have HF0:Hid (wrR v 16 rs=0):=wrR_zero HM.out HW.out (by omega:rs.length<=j)
      clear HW
      go_wp2
      go_ret
      exact⟨by rw[HF1.out,HF0.out];first | done | rfl,hEw⟩
  ·by_cases k2:k=2
   ·subst k2
    have HF1:Hid (Wir.Qc ⟨2,n,v,rs,fs⟩=wrF 12 fs):=HF.out
    clear HF k1
    by_cases hm:12<fs.length
    ·have HW5:Hid (wrF 12 fs=5):=by show _=_;rw[wrF,if_pos (by omega)]
     have m1:(12:Int)<(fs.length:Int):=by omega
     go_enter func56,ntmps56
     go_wp2
     go_ret
     exact⟨by rw[HF1.out,HW5.out];first | done | rfl,(Ext.refl w).alloc _⟩
    ·have HM:Hid ((fs.length:Int)<=12):=by show _<=_;omega
     have m1:¬(12:Int)<(fs.length:Int):=by omega
     go_enter func56,ntmps56
     go_wp2
     rw[<-hB]
     go_loopw [5,76] (fun lv iv wd=>∃j:Nat,j<=fs.length/\iv=.int .i64 j/\lv=.int .i64 (pvF fs j)/\Hid (Wir.badF (-1) fs=Wir.badF (pvF fs j) (fs.drop j))/\Ext B wd) (fun _ iv _=>fs.length - (intOf iv).toNat)
     case atStart=>exact⟨0,Zu _,rfl,rfl,by rw[List.drop_zero];exact rfl,Ext.refl B⟩
     case round=>
      obtain⟨j,hj,rfl,rfl,HW,hE⟩:=hrel
      have hEw:=hE0.trans hE
      by_cases hlt:j<fs.length
      ·obtain⟨g,off,hfo,hg,hcs⟩:=(HO.out.hf.ext hEw).get (k:=j) hlt
       have hfo':fo=some ⟨g,off,none⟩:=hfo
       subst hfo'
       have i1:(j:Int)<(fs.length:Int):=by omega
       have HST:Hid _:=z5s (fs:=fs) (k:=j) hlt
       have HT:Hid ((fs.getD j 0<=pvF fs j\/11<fs.getD j 0)->wrF 12 fs=3):=fun hb=>by have:=HM.out;rw[wrF,if_neg (by omega),if_pos];rw[HW.out,HST.out,if_pos hb]
       have c0:=hcs j hlt
       have HNX:Hid (pvF fs (j+1)=fs.getD j 0):=rfl
       obtain⟨f,hfe⟩:∃f,fs.getD j 0=f:=⟨_,rfl⟩
       rw[hfe] at c0 HST HT HNX
       obtain⟨q,hq⟩:=Qy (pvF fs j)
       rw[<-hq] at HST HT HW ⊢
       clear hfe hcs hfo hq
       by_cases z1:f<=q
       ·have HF3:Hid (wrF 12 fs=3):=HT.out (Or.inl z1)
        clear HST HT HW HNX
        go_wp2
        go_ret
        exact⟨by rw[HF1.out,HF3.out];first | done | rfl,hEw⟩
       ·by_cases z2:11<f
        ·have HF3:Hid (wrF 12 fs=3):=HT.out (Or.inr z2)
         clear HST HT HW HNX
         go_wp2
         go_ret
         exact⟨by rw[HF1.out,HF3.out];first | done | rfl,hEw⟩
        ·have HW2:Hid (Wir.badF (-1) fs=Wir.badF (pvF fs (j+1)) (fs.drop (j+1))):=HW.out.trans (HST.out.trans (if_neg (by omega)))
         clear HST HT HW
         go_wp2
         exact⟨⟨j+1,by omega,by go_num,by rw[HNX.out],HW2,hE⟩,by simp[intOf];omega⟩
      ·have HF0:Hid (wrF 12 fs=0):=by show wrF 12 fs=0;have:=HM.out;rw[wrF,if_neg (by omega),HW.out,badF_end (by omega)];rfl
       clear HW
       go_wp2
       go_ret
       exact⟨by rw[HF1.out,HF0.out];first | done | rfl,hEw⟩
   ·by_cases k3:k=3
    ·subst k3
     have HF1:Hid (Wir.Qc ⟨3,n,v,rs,fs⟩=0):=HF.out
     clear HF k1 k2
     go_enter func56,ntmps56
     go_wp2
     go_ret
     exact⟨by rw[HF1.out];first | done | rfl,(Ext.refl w).alloc _⟩
    ·have HF1:Hid (Wir.Qc ⟨k,n,v,rs,fs⟩=1):=HF.out.trans (by rw[if_neg k1,if_neg k2,if_neg k3])
     have e1:(k == 1)=false:=by simpa using k1
     have e2:(k == 2)=false:=by simpa using k2
     have e3:(k == 3)=false:=by simpa using k3
     clear HF k1 k2 k3
     go_enter func56,ntmps56
     go_wp2
     go_ret
     exact⟨by rw[HF1.out];first | done | rfl,(Ext.refl w).alloc _⟩
end Wi
namespace Ag
open Go.RowKit Go.Deep Tb Rul Wi
theorem z1l(s:Agt.Sw)(o:Wir.Od)(ro so po fo:Option Addr)(rc sc pc fc:Nat)(w:World)(h:Zn w s ro so rc)(hz:Agt.Qo s≠0):
 Calls prog 32 #[svl s ro so rc sc,ovl o po fo pc fc] w fun e w'=>e=.returned (.tuple #[.agg #[.slice none 0 0,.slice none 0 0],.int .i64 (Agt.Qo s)])/\Ext w w':=by
 have HC:Hid (∀W,Ext w W->Calls prog 55 #[svl s ro so rc sc] W fun e w'=>e=.returned (.int .i64 (Agt.Qo s))/\Ext W w'):=fun W hW=>Z0 s ro so rc sc W (h.ext hW)
 clear h
 obtain⟨y,hy⟩:∃y,Agt.Qo s=y:=⟨_,rfl⟩
 rw[hy] at hz HC ⊢
 clear hy
 have b0:(y != 0)=true:=by simpa using hz
 obtain⟨rs,st⟩:=s
 obtain⟨k,n,v,ps,fs⟩:=o
 unfold svl ovl at *
 clear hz
 go_enter func32,ntmps32
 go_wp2_with fail
 refine(HC.out _ (q1b w _ _ k n v (.slice po ps.length pc) (.slice fo fs.length fc))).mono ?_
 rintro e w1 ⟨rfl,E1⟩
 have D1:Hid _:=DAt.of E1
 have r0:=D1.out.r0
 have r1:=D1.out.r1
 have g0:=D1.out.g0
 have g1:=D1.out.g1
 go_wp2
 refine bodyPost_ret (v:=.tuple #[.agg #[.slice none 0 0,.slice none 0 0],.int .i64 y]) (by simp[results,results32,go_sem,r0,r1]) rfl ⟨rfl,?_⟩
 exact(((q1b w _ _ k n v _ _).trans E1).setCell (by simp;omega) _).setCell (by simp;omega) _
theorem z1n(s:Agt.Sw)(o:Wir.Od)(ro so po fo:Option Addr)(rc sc pc fc:Nat)(w:World)(h:Zn w s ro so rc)(ho:OAt w o po fo)(hz:Agt.Qo s=0)(hy:Wir.Qc o≠0):
 Calls prog 32 #[svl s ro so rc sc,ovl o po fo pc fc] w fun e w'=>e=.returned (.tuple #[.agg #[.slice none 0 0,.slice none 0 0],.int .i64 (Wir.Qc o)])/\Ext w w':=by
 have HC:Hid (∀W,Ext w W->Calls prog 55 #[svl s ro so rc sc] W fun e w'=>e=.returned (.int .i64 0)/\Ext W w'):=fun W hW=>by have:=Z0 s ro so rc sc W (h.ext hW);rwa [hz] at this
 have HO:Hid (∀W,Ext w W->Calls prog 56 #[ovl o po fo pc fc] W fun e w'=>e=.returned (.int .i64 (Wir.Qc o))/\Ext W w'):=fun W hW=>Wi.Q3 o po fo pc fc W (ho.ext hW)
 clear h ho hz
 obtain⟨y,hy'⟩:∃y,Wir.Qc o=y:=⟨_,rfl⟩
 rw[hy'] at hy HO ⊢
 clear hy'
 have b0:(y != 0)=true:=by simpa using hy
 obtain⟨rs,st⟩:=s
 obtain⟨k,n,v,ps,fs⟩:=o
 unfold svl ovl at *
 clear hy
 go_enter func32,ntmps32
 go_wp2_with fail
 refine(HC.out _ (q1b w _ _ k n v (.slice po ps.length pc) (.slice fo fs.length fc))).mono ?_
 rintro e w1 ⟨rfl,E1⟩
 obtain⟨s0,s1,o0,o1,o2,o3,o4,r0,r1,f0,f1,g0,g1⟩:=DAt.of E1
 go_wp2_with fail
 refine(HO.out _ ((q1b w _ _ k n v (.slice po ps.length pc) (.slice fo fs.length fc)).trans E1)).mono ?_
 rintro e w2 ⟨rfl,E2⟩
 clear s0 s1 o0 o1 o2 o3 o4 r0 r1 f0 f1 g0 g1
 have D1:Hid _:=DAt.of (E1.trans E2)
 have r0:=D1.out.r0
 have r1:=D1.out.r1
 have g0:=D1.out.g0
 have g1:=D1.out.g1
 go_wp2
 refine bodyPost_ret (v:=.tuple #[.agg #[.slice none 0 0,.slice none 0 0],.int .i64 y]) (by simp[results,results32,go_sem,r0,r1]) rfl ⟨rfl,?_⟩
 exact(((q1b w _ _ k n v _ _).trans (E1.trans E2)).setCell (by simp;omega) _).setCell (by simp;omega) _
end Ag
end Go.Proofs.YthkpbefnkmmaiaaGreat
