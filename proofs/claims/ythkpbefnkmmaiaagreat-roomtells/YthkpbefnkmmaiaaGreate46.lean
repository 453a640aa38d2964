import Derived.Test.YthkpbefnkmmaiaaGreate45
set_option maxRecDepth 100000
set_option maxHeartbeats 4000000
namespace Go.Proofs.YthkpbefnkmmaiaaGreat
open Go.Proofs.Tryz
namespace Rm
open Go.RowKit Go.Deep Go.Maps Go.Sort Stw Stp Tb Rul Ct
theorem rs_stb{tg:Nat->Nat}{w V w3 w4:World}{x y:Agt.Sw}{ro so ao bo:Option Addr}{rc ac:Nat}(hnw:∀b,w.heap.size<=b->tg b=0)(hwV:Ext w V)(hV3:Ext V w3)(hy:Stb (fun b=>tg b=0) w (fun U=>Ag.Zn U y ro so rc))(h:Ag.Zn w3 x ao bo ac)(h1:(ao=ro/\x.rs=y.rs)\/NwA V.heap.size ao)(h2:(bo=so/\x.st=y.st)\/NwA V.heap.size bo)(hs:w3.heap.size<=w4.heap.size)(hb:∀b,b<w3.heap.size->(b<w.heap.size\/V.heap.size<=b)->w4.heap[b]? =w3.heap[b]?):Stb (fun b=>tg b=0) w4 (fun U=>Ag.Zn U x ao bo ac):=fun U hU kU=>by
  have hold:Ag.Zn U y ro so rc:=hy U (ltr (ltr hwV.size hV3.size) (ltr hs hU)) (fun b t0 hlt=>by
   have l3:b<w3.heap.size:=Q5 hlt (ltr hwV.size hV3.size)
   rw[kU b t0 (Q5 l3 hs),hb b l3 (Or.inl hlt),(hwV.trans hV3).block b hlt])
  have hnew:∀b,V.heap.size<=b->b<w3.heap.size->U.heap[b]? =w3.heap[b]?:=fun b h1 h2=>(kU b (hnw b (ltr hwV.size h1)) (Q5 h2 hs)).trans (hb b h2 (Or.inr h1))
  refine⟨⟨h.hr.hlen,?_,h.hr.hnil⟩,?_,h.rl,h.sl,h.rq⟩
  ·rcases h1 with⟨e,e2⟩ | hn
   ·rw[e,e2];exact hold.hr.Q2
   ·rcases h.hr.Q2 with e | ⟨g,off,e,hg,hc⟩
    ·exact Or.inl e
    ·have hk:=hnew g (hn _ e) hg
     exact Or.inr ⟨g,off,e,by omega,fun k hk'=>⟨(cob (a:=⟨g,off+k*3,none⟩) hk).trans (hc k hk').1,(cob (a:=⟨g,off+k*3+1,none⟩) hk).trans (hc k hk').2.1,(cob (a:=⟨g,off+k*3+2,none⟩) hk).trans (hc k hk').2.2⟩⟩
  ·rcases h2 with⟨e,e2⟩ | hn
   ·rw[e,e2];exact hold.hs
   ·rcases h.hs with e | ⟨g,off,e,hg,hc⟩
    ·exact Or.inl e
    ·have hk:=hnew g (hn _ e) hg
     exact Or.inr ⟨g,off,e,by omega,fun k hk'=>⟨(cob (a:=⟨g,off+k*2,none⟩) hk).trans (hc k hk').1,(cob (a:=⟨g,off+k*2+1,none⟩) hk).trans (hc k hk').2⟩⟩
theorem z0w(n len cap:Nat)(ls:List Lk)(ao:Option Addr)(t:Nat)(w0:World)(P:Nat)(tg:Nat->Nat)(w:World)(W:Wd)(a:CA)(sb ob bb:Nat)(kv lv:Value)(s:Nat)(qo:Option Addr)(ql qc:Nat)(h:Q0 39 [] w0 P n tg w W a sb ob bb kv lv)(hwn:a.wo=none->a.wc=0)(hI:Inv n ls t W)(ht:t<=900)(hs:s<n)(o:Wir.Od)(r:List Wir.Od)(ho:W.od.getD s []=o::r):
 Calls prog 13 #[.pointer (some ⟨P,0,none⟩),.agg #[.int .i64 n,.slice ao len cap],.agg #[.int .i64 2,.int .i64 s,.slice qo ql qc]] w fun e w'=>ROut w0 P n tg w sb ob bb (hapO n W s) e w':=by
 have HW:=Qa h
 have hP:=h.row.lt
 have HWN:=Qa hwn
 obtain⟨i0,hi0,hz00,hz01,hz02⟩:=info_parts z2d
 have HI:=Qa hI
 have HD:=Qa (hapO_yes hI (by omega) hs ho)
 obtain⟨hr0,hbk,hdo,hrs,hfs,_⟩:=q2m hI (by omega) hs ho
 have HIS:=Qa (order_is hI (by omega) hs ho)
 have hln:r.length=0:=by rw[hr0];rfl
 have HLN:=Qa hln
 obtain⟨v,cv,fv,hol,hv⟩:=h.ors.get hs
 rw[ho] at hv
 obtain⟨g,off,oc,po,pc,fo,fc,rfl,hgl,hoc,g0,g1,g2,g3,g4,hst⟩:=hv.first
 obtain⟨ro,rc,so,sc,s0,s1,sz,hsl,hsw⟩:=h.sws.get hs
 have HVO:=Qa hv
 have HFV:=Qa fv
 have HSTo:=Qa hst
 have HSZ:=Qa sz
 have HBK:=Qa hbk
 obtain⟨x,hx⟩:=Qy (aft W.co s)
 have HXE:=Qa hx
 obtain⟨y,hy⟩:=Qy (W.sw.getD s Agt.Zq)
 have HSW:Hid (Stb (fun b=>tg b=0) w (fun U=>Ag.Zn U y ro so rc)):=by rw[hy];exact hsw
 rw[<-hy] at s0 s1
 have HCA:Hid (∀V,Ext w V->Calls prog 32 #[Ag.svl y ro so rc sc,Wi.ovl o po fo pc fc] V fun e w'=>Ag.RsOut V y ro so (x,0) e w'):=fun V hV=>by
  have h1:=Ag.z7d y o ro so po fo rc sc pc fc V ((HSW.out.Qh (Qf.ext (S:=fun _=>True) hV) trivial).at) ⟨(HSTo.out.Qh (Qf.ext (S:=fun _=>True) hV) trivial).at.1,(HSTo.out.Qh (Qf.ext (S:=fun _=>True) hV) trivial).at.2,Zi (by have:=HIS.out.1;omega) (by have:=HIS.out.1;omega),by omega,by omega⟩ (fun hk hn=>by
   rcases(HSTo.out.Qh (Qf.ext (S:=fun _=>True) hV) trivial).at.1 with e | ⟨_,_,e,_⟩
   ·exact absurd e (HIS.out.2 hk)
   ·rw[hn] at e;cases e)
  rw[hy,hdo, <-hx] at h1
  rw[hy]
  exact h1
 obtain⟨R,S⟩:=y
 unfold Ag.svl Wi.ovl at HCA
 simp only at s0 s1 HCA
 clear hI hv fv hst hsw sz hx hdo hy hbk hr0 hln
 obtain⟨B,hB,EB,HBS,hb0, -,hb2⟩:=box3 w P n ao len cap 2 (s:Int) qo ql qc
 have HS:Hid (∀V,Ext B V->cl V w.heap.size 0 (.pointer (some ⟨P,0,none⟩))/\cl V (w.heap.size+1+1) 1 (.int .i64 s)/\cl V P 9 (.slice (some ⟨sb,0,none⟩) n n)/\cl V P 10 (.slice (some ⟨ob,0,none⟩) n n)/\cl V P 11 (.slice (some ⟨bb,0,none⟩) n n)/\cl V ob s (.slice (some ⟨g,off,none⟩) (r.length+1) oc)/\cl V g off (.int .i64 o.k)/\cl V g (off+1) (.int .i64 o.n)/\cl V g (off+2) (.int .i64 o.v)/\cl V g (off+3) (.slice po o.rs.length pc)/\cl V g (off+4) (.slice fo o.fs.length fc)/\cl V sb (s*2) (.slice ro R.length rc)/\cl V sb (s*2+1) (.slice so S.length sc)):=fun V hV=>by
  have hr:=HW.out.row.of_block (Below.block (EB.trans hV) P hP)
  have:=HBS.out
  exact⟨(hV.cells.1 _ _ (by omega)).trans (Qb hb0 0),(hV.cells.1 _ _ (by omega)).trans (Qb hb2 1),hr.cell (i:=9) (by simp),hr.cell (i:=10) (by simp),hr.cell (i:=11) (by simp),((EB.trans hV).cells.1 _ _ hol).trans cv,((EB.trans hV).cells.1 _ _ hgl).trans g0,((EB.trans hV).cells.1 _ _ hgl).trans g1,((EB.trans hV).cells.1 _ _ hgl).trans g2,((EB.trans hV).cells.1 _ _ hgl).trans g3,((EB.trans hV).cells.1 _ _ hgl).trans g4,((EB.trans hV).cells.1 _ _ hsl).trans s0,((EB.trans hV).cells.1 _ _ hsl).trans s1⟩
 have HPB:=hpb7 hP HBS HW.out
 clear hb0 h hwn
 obtain⟨lP,lw,lt1,lt2,lsb,lob,lbb⟩:=HPB.out B (Ext.refl B)
 have j1:(0:Int)<=(s:Int):=by omega
 have j2:(s:Int)<(n:Int):=by omega
 have b0:decide ((0:Int)<=(s:Int))=true:=dtt j1
 have b1:decide ((s:Int)<(n:Int))=true:=by simpa using j2
 have b2:decide (s<n)=true:=dtt hs
 have hsn:s*2+1<n*2:=by omega
 have HLG:Hid (∀V,Ext B V->g<V.heap.size):=fun V hV=>Q5 hgl (EB.trans hV).size
 have lg:=HLG.out B (Ext.refl B)
 have b3:decide (0<r.length+1)=true:=by simp
 go_enter func13,ntmps13
 go_upto_region 17 with fail
 rw[<-hB]
 clear hB hb2
 have hdq:Ext B B.drew:=(Ext.refl B).drew
 go_region_held3 (fun V=>cl V w.heap.size 0 (.pointer (some ⟨P,0,none⟩))/\cl V (w.heap.size+1+1) 1 (.int .i64 s)/\cl V P 9 (.slice (some ⟨sb,0,none⟩) n n)/\cl V P 10 (.slice (some ⟨ob,0,none⟩) n n)/\cl V P 11 (.slice (some ⟨bb,0,none⟩) n n)/\cl V ob s (.slice (some ⟨g,off,none⟩) (r.length+1) oc)/\cl V g off (.int .i64 o.k)/\cl V g (off+1) (.int .i64 o.n)/\cl V g (off+2) (.int .i64 o.v)/\cl V g (off+3) (.slice po o.rs.length pc)/\cl V g (off+4) (.slice fo o.fs.length fc)/\cl V sb (s*2) (.slice ro R.length rc)/\cl V sb (s*2+1) (.slice so S.length sc))
  (first | (with_reducible exact HS.out _ hdq) | fail)
  (fail)
 have EB2:Ext B B.drew:=hdq
 clear hdq lP lw lt1 lt2 lsb lob lbb lg
 generalize B.drew=B2 at EB2
 obtain⟨lP,lw,lt1,lt2,lsb,lob,lbb⟩:=HPB.out B2 EB2
 have lg:=HLG.out B2 EB2
 obtain⟨z0,z1,z9,z10,z11,zo,y0,y1,y2,y3,y4,zs0,zs1⟩:=HS.out B2 EB2
 go_upto_region 19 with fail
 go_region
 clear z0 z1 z9 z10 z11 zo y0 y1 y2 y3 y4 zs0 zs1 lP lw lt1 lt2 lsb lob lbb lg
 obtain⟨wa,hwa⟩:=Qy ((B2.alloc (.cells #[.int .i64 o.k,.int .i64 o.n,.int .i64 o.v,.slice po o.rs.length pc,.slice fo o.fs.length fc] 69)).drew)
 have EA:Ext B wa:=by rw[hwa];exact(EB2.alloc _).drew
 have hXO:wa.heap[B2.heap.size]? =some (.cells #[.int .i64 o.k,.int .i64 o.n,.int .i64 o.v,.slice po o.rs.length pc,.slice fo o.fs.length fc] 69):=by rw[hwa];exact Q7 rfl
 rw[<-hwa]
 clear hwa
 have HX0:Hid (tg B2.heap.size=0):=HW.out.nw _ (EB.trans EB2).size
 have HXw:Hid (w.heap.size<=B2.heap.size):=(EB.trans EB2).size
 generalize B2.heap.size=XO at hXO HX0 HXw ⊢
 have HS2:Hid (∀V,Ext wa V->cl V w.heap.size 0 (.pointer (some ⟨P,0,none⟩))/\cl V (w.heap.size+1+1) 1 (.int .i64 s)/\cl V P 9 (.slice (some ⟨sb,0,none⟩) n n)/\cl V P 10 (.slice (some ⟨ob,0,none⟩) n n)/\cl V P 11 (.slice (some ⟨bb,0,none⟩) n n)/\cl V ob s (.slice (some ⟨g,off,none⟩) (r.length+1) oc)/\cl V g off (.int .i64 o.k)/\cl V g (off+1) (.int .i64 o.n)/\cl V g (off+2) (.int .i64 o.v)/\cl V g (off+3) (.slice po o.rs.length pc)/\cl V g (off+4) (.slice fo o.fs.length fc)/\cl V sb (s*2) (.slice ro R.length rc)/\cl V sb (s*2+1) (.slice so S.length sc)/\cl V XO 0 (.int .i64 o.k)/\cl V XO 1 (.int .i64 o.n)/\cl V XO 2 (.int .i64 o.v)/\cl V XO 3 (.slice po o.rs.length pc)/\cl V XO 4 (.slice fo o.fs.length fc)):=fun V hV=>by
  obtain⟨z0,z1,z9,z10,z11,zo,y0,y1,y2,y3,y4,zs0,zs1⟩:=HS.out V (EA.trans hV)
  have hk:=(Below.block hV XO (asi.1 hXO).1).trans hXO
  exact⟨z0,z1,z9,z10,z11,zo,y0,y1,y2,y3,y4,zs0,zs1,Qb hk 0,Qb hk 1,Qb hk 2,Qb hk 3,Qb hk 4⟩
 have lXO:XO<wa.heap.size:=(asi.1 hXO).1
 obtain⟨lP,lw,lt1,lt2,lsb,lob,lbb⟩:=HPB.out wa EA
 go_upto_region 20 with fail
 have hd:Ext wa wa.drew:=(Ext.refl wa).drew
 have hda:Ext wa (wa.alloc (.cells #[.slice none 0 0,.slice none 0 0] 64)).drew:=((Ext.refl wa).alloc _).drew
 go_region_held3 (fun V=>cl V w.heap.size 0 (.pointer (some ⟨P,0,none⟩))/\cl V (w.heap.size+1+1) 1 (.int .i64 s)/\cl V P 9 (.slice (some ⟨sb,0,none⟩) n n)/\cl V P 10 (.slice (some ⟨ob,0,none⟩) n n)/\cl V P 11 (.slice (some ⟨bb,0,none⟩) n n)/\cl V ob s (.slice (some ⟨g,off,none⟩) (r.length+1) oc)/\cl V g off (.int .i64 o.k)/\cl V g (off+1) (.int .i64 o.n)/\cl V g (off+2) (.int .i64 o.v)/\cl V g (off+3) (.slice po o.rs.length pc)/\cl V g (off+4) (.slice fo o.fs.length fc)/\cl V sb (s*2) (.slice ro R.length rc)/\cl V sb (s*2+1) (.slice so S.length sc)/\cl V XO 0 (.int .i64 o.k)/\cl V XO 1 (.int .i64 o.n)/\cl V XO 2 (.int .i64 o.v)/\cl V XO 3 (.slice po o.rs.length pc)/\cl V XO 4 (.slice fo o.fs.length fc))
  (first | (with_reducible exact HS2.out _ hd) | (with_reducible exact HS2.out _ hda) | (with_reducible exact HS2.out _ mk1) | (with_reducible exact HS2.out _ mk2) | (with_reducible exact HS2.out _ (mk1.alloc _)) | (with_reducible exact HS2.out _ mk3) | fail)
  (first
  | (go_at_call 32
     with_reducible refine(HCA.out _ (EB.trans (EA.trans hd))).mono ?_
     rintro e w3 ⟨ao,bo,ac,bc,he,hx3,hn1,hn2,E9⟩
     have he':e=.returned (.tuple #[.agg #[.slice ao x.rs.length ac,.slice bo x.st.length bc],.int .i64 0]):=he
     subst he'
     clear he
     have HX3:=Qa (And.intro hx3 (And.intro hn1 (And.intro hn2 E9)))
     clear hx3 hn1 hn2
     have mk1:=hd.trans E9)
  | (go_at_call 32
     with_reducible refine(HCA.out _ (EB.trans (EA.trans hda))).mono ?_
     rintro e w3 ⟨ao,bo,ac,bc,he,hx3,hn1,hn2,E9⟩
     have he':e=.returned (.tuple #[.agg #[.slice ao x.rs.length ac,.slice bo x.st.length bc],.int .i64 0]):=he
     subst he'
     clear he
     have HX3:=Qa (And.intro hx3 (And.intro hn1 (And.intro hn2 E9)))
     clear hx3 hn1 hn2
     have mk2:=hda.trans E9
     have mk3:=(mk2.setCell (p:=⟨wa.heap.size,0,none⟩) (Ql _) (.slice ao x.rs.length ac)).setCell (p:=⟨wa.heap.size,1,none⟩) (Ql _) (.slice bo x.st.length bc)
     have HB:w3.heap[wa.heap.size]? =some (.cells #[.slice none 0 0,.slice none 0 0] 64):=(Below.block E9 _ (by simp)).trans (blk_alloc_new wa _)
     have u0:=Qb HB 0
     have u1:=Qb HB 1
     have uz:=Qi HB
     have hwl:wa.heap.size<w3.heap.size:=(asi.1 HB).1
     have HHB:=Qa HB
     clear HB))
 focus
  obtain⟨w4,hw4⟩:=Qy (w3.alloc (.cells #[.slice ao x.rs.length ac,.slice bo x.st.length bc] 64))
  have E4:Ext wa w4:=by rw[hw4];exact mk1.alloc _
  have HSW4:Hid (Stb (fun b=>tg b=0) w4 (fun U=>Ag.Zn U x ao bo ac)):=by
   obtain⟨k1,k2,k3,k4⟩:=HX3.out
   exact rs_stb HW.out.nw (EB.trans (EA.trans hd)) k4 HSW.out k1 k2 k3 (by rw[hw4];simp) (fun b hb _=>by rw[hw4];exact bal _ _ _ hb)
  have q0:w4.cell? ⟨w3.heap.size,0,none⟩=some (.slice ao x.rs.length ac):=by rw[hw4];simp
  have q1:w4.cell? ⟨w3.heap.size,1,none⟩=some (.slice bo x.st.length bc):=by rw[hw4];simp
  have hXl:w3.heap.size<w4.heap.size:=by rw[hw4];simp
  have HXX:Hid (w.heap.size<=w3.heap.size):=(EB.trans (EA.trans mk1)).size
  rw[<-hw4]
  clear hw4 E9 HX3 mk1 hd hda
  generalize w3.heap.size=X at q0 q1 hXl HXX ⊢
 rotate_left
 focus
  obtain⟨w4,hw4⟩:=Qy ((w3.setCell ⟨wa.heap.size,0,none⟩ (.slice ao x.rs.length ac)).setCell ⟨wa.heap.size,1,none⟩ (.slice bo x.st.length bc))
  have E4:Ext wa w4:=by rw[hw4];exact mk3
  have HSW4:Hid (Stb (fun b=>tg b=0) w4 (fun U=>Ag.Zn U x ao bo ac)):=by
   obtain⟨k1,k2,k3,k4⟩:=HX3.out
   exact rs_stb HW.out.nw (EB.trans (EA.trans hda)) k4 HSW.out k1 k2 k3 (by rw[hw4];simp) (fun b hb hb2=>by
    have hne:b≠wa.heap.size:=by have:=(EB.trans EA).size;simp at hb2;omega
    rw[hw4,Zm _ _ _ _ (by simpa using hne),Zm _ _ _ _ (by simpa using hne)])
  have hbk4:w4.heap[wa.heap.size]? =some (.cells #[.slice ao x.rs.length ac,.slice bo x.st.length bc] 64):=by rw[hw4];simp[World.setCell,Array.getElem?_modify,HHB.out]
  have q0:w4.cell? ⟨wa.heap.size,0,none⟩=some (.slice ao x.rs.length ac):=Qb hbk4 0
  have q1:w4.cell? ⟨wa.heap.size,1,none⟩=some (.slice bo x.st.length bc):=Qb hbk4 1
  have hXl:wa.heap.size<w4.heap.size:=(asi.1 hbk4).1
  have HXX:Hid (w.heap.size<=wa.heap.size):=(EB.trans EA).size
  rw[<-hw4]
  clear hw4 E9 HX3 mk2 mk3 hd hda u0 u1 uz hwl HHB hbk4
  generalize wa.heap.size=X at q0 q1 hXl HXX ⊢
 rotate_left
 all_goals(
  clear lP lw lt1 lt2 lsb lob lbb lXO
  obtain⟨lP,lw,lt1,lt2,lsb,lob,lbb⟩:=HPB.out w4 (EA.trans E4)
  have lXO:XO<w4.heap.size:=by have:=(asi.1 hXO).1;have:=E4.size;omega
  obtain⟨z0,z1,z9,z10,z11,zo,_,_,_,_,_,zs0,zs1,_,zn,_,_,_⟩:=HS2.out w4 E4
  have EW4:Ext w w4:=EB.trans (EA.trans E4)
  have fo4:w4.frozen? ⟨ob,s,none⟩=false:=(EW4.cells.2 _ _ hol).trans HFV.out
  have fs0:w4.frozen? ⟨sb,s*2,none⟩=false:=(EW4.cells.2 _ _ hsl).trans (HSZ.out _)
  have fs1:w4.frozen? ⟨sb,s*2+1,none⟩=false:=(EW4.cells.2 _ _ hsl).trans (HSZ.out _)
  obtain⟨ao',hao⟩:=Qy ((if oc=1 then some (⟨g,off,none⟩:Addr) else some ⟨g,off+5,none⟩))
  have HAO:=Qa hao
  clear hao
  have hne:ob≠sb:=fun e=>by have h1:=HW.out.ors.1;have h2:=HW.out.sws.1;rw[e,h2] at h1;cases h1
  have tob:=HW.out.ors.1
  have tsb:=HW.out.sws.1
  have hXob:X≠ob:=fun e=>by have:=HW.out.nw X HXX.out;rw[e,tob] at this;cases this
  have hXsb:X≠sb:=fun e=>by have:=HW.out.nw X HXX.out;rw[e,tsb] at this;cases this
  have hOob:XO≠ob:=fun e=>by have:=HX0.out;rw[e,tob] at this;cases this
  have hOsb:XO≠sb:=fun e=>by have:=HX0.out;rw[e,tsb] at this;cases this
  have hPob:P≠ob:=fun e=>by have:=HW.out.tP;rw[e,tob] at this;cases this
  have hPsb:P≠sb:=fun e=>by have:=HW.out.tP;rw[e,tsb] at this;cases this
  have hwob:w.heap.size≠ob:=fun e=>by have:=HW.out.nw _ (Ql w.heap.size);rw[e,tob] at this;cases this
  have hwsb:w.heap.size≠sb:=fun e=>by have:=HW.out.nw _ (Ql w.heap.size);rw[e,tsb] at this;cases this
  have hdob:w.heap.size+1+1≠ob:=fun e=>by have:=HW.out.nw (w.heap.size+1+1) (by omega);rw[e,tob] at this;cases this
  have hdsb:w.heap.size+1+1≠sb:=fun e=>by have:=HW.out.nw (w.heap.size+1+1) (by omega);rw[e,tsb] at this;cases this
  have i5:(1:Int)<=(r.length:Int)+1:=by omega
  have HTT:=Qa (And.intro tob tsb)
  clear tob tsb
  have HS3:Hid (∀V:World,V.heap[w.heap.size]? =w4.heap[w.heap.size]?->V.heap[w.heap.size+1+1]? =w4.heap[w.heap.size+1+1]?->V.heap[P]? =w4.heap[P]?->V.heap[X]? =w4.heap[X]?->cl V w.heap.size 0 (.pointer (some ⟨P,0,none⟩))/\cl V (w.heap.size+1+1) 1 (.int .i64 s)/\cl V P 9 (.slice (some ⟨sb,0,none⟩) n n)/\cl V P 10 (.slice (some ⟨ob,0,none⟩) n n)/\cl V X 0 (.slice ao x.rs.length ac)/\cl V X 1 (.slice bo x.st.length bc)):=fun V e1 e2 e3 e4=>
   ⟨(cob (a:=⟨w.heap.size,0,none⟩) e1).trans z0,(cob (a:=⟨w.heap.size+1+1,1,none⟩) e2).trans z1,(cob (a:=⟨P,9,none⟩) e3).trans z9,(cob (a:=⟨P,10,none⟩) e3).trans z10,(cob (a:=⟨X,0,none⟩) e4).trans q0,(cob (a:=⟨X,1,none⟩) e4).trans q1⟩
  have HWS:=Qa (HW.out.Qm EW4)
  have HCUT:=Qa (HWS.out.cutO hs HI.out.lod (v':=.slice ao' 0 (oc - 1)) (os':=r) (by rw[HAO.out];exact(HVO.out.Qh (Qf.ext (S:=fun _=>True) EW4) trivial trivial).tail1 HLN.out))
  go_upto_region 23 with fail
  refine Last.LH.start (m:=25) (S:=fun V=>cl V w.heap.size 0 (.pointer (some ⟨P,0,none⟩))/\cl V (w.heap.size+1+1) 1 (.int .i64 s)/\cl V P 9 (.slice (some ⟨sb,0,none⟩) n n)/\cl V P 10 (.slice (some ⟨ob,0,none⟩) n n)/\cl V X 0 (.slice ao x.rs.length ac)/\cl V X 1 (.slice bo x.st.length bc)) (by kernel_rfl) ?_
  have Qe:=HS3.out w4.drew rfl rfl rfl rfl
  refine ltk 0 Qe ?_
  refine ltk 1 Qe ?_
  refine ltk 2 Qe ?_
  refine ltk 3 Qe ?_
  refine ltk 4 Qe ?_
  refine ltk 5 Qe ?_
  refine ltk 6 Qe ?_
  refine ltk 7 Qe ?_
  refine ltk 8 Qe ?_
  refine ltk 9 Qe ?_
  refine ltk 10 Qe ?_
  refine ltk 11 Qe ?_
  refine ltk 12 Qe ?_
  refine ltk 13 Qe ?_
  refine ltk 14 Qe ?_
  refine ltk 15 Qe ?_
  refine ltk 16 Qe ?_
  refine ltk 17 Qe ?_
  refine ltk 18 Qe ?_
  refine ltk 21 Qe ?_
  clear Qe
  have zo':w4.drew.cell? ⟨ob,s,none⟩=some (.slice (some ⟨g,off,none⟩) (r.length+1) oc):=zo
  refine lon 19 (fun K hK=>?_)
  go_simp
  refine hK _ _ (fun _=>HS3.out _ rfl rfl rfl rfl) ?_
  clear hK K
  have hln:=HLN.out
  refine lon 20 (fun K hK=>?_)
  go_simp
  rw[<-HAO.out]
  refine hK _ _ (fun _=>HS3.out _ rfl rfl rfl rfl) ?_
  clear hK K hln
  refine lon 22 (fun K hK=>?_)
  go_simp
  refine hK _ _ (fun _=>HS3.out _ rfl rfl rfl rfl) ?_
  clear hK K
  obtain⟨V1,hV1⟩:=Qy ((w4.setCell ⟨ob,s,none⟩ (.slice ao' 0 (oc - 1))).drew)
  have hblk:∀b,b≠ob->V1.heap[b]? =w4.heap[b]?:=fun b hb=>by rw[hV1];exact Zm _ _ _ _ (by simpa using hb)
  have HV1:Hid (Q0 39 [] w0 P n tg V1 ⟨W.co,W.sw,W.od.set s r,W.bk,W.pk,W.pn⟩ a sb ob bb kv lv/\Zv tg tg w4 V1):=by
   rw[hV1]
   exact⟨HCUT.out.1.Qm (Ext.refl _).drew,HCUT.out.2.trans (Zv.ext (Ext.refl _).drew)⟩
  have hS1:=HS3.out V1 (hblk _ hwob) (hblk _ hdob) (hblk _ hPob) (hblk _ hXob)
  have zt0:=(cob (a:=⟨sb,s*2,none⟩) (hblk sb hne.symm)).trans zs0
  have zt1:=(cob (a:=⟨sb,s*2+1,none⟩) (hblk sb hne.symm)).trans zs1
  have ft0:=(World.frozen?_of_block (a:=⟨sb,s*2,none⟩) (hblk sb hne.symm)).trans fs0
  have ft1:=(World.frozen?_of_block (a:=⟨sb,s*2+1,none⟩) (hblk sb hne.symm)).trans fs1
  have lsb1:sb<V1.heap.size:=by rw[hV1];simpa using lsb
  have HXB:Hid (V1.heap[XO]? =w4.heap[XO]?):=hblk XO hOob
  refine lon 23 (fun K hK=>?_)
  go_simp
  rw[<-hV1]
  refine hK _ _ (fun _=>hS1) ?_
  clear hK K hV1 hblk zo zo' zs0 zs1 fs0 fs1 fo4 HCUT
  refine lon 24 (fun K hK=>?_)
  go_simp
  refine hK _ _ (fun _=>hS1) ?_
  clear hK K
  refine lon 25 (fun K hK=>?_)
  go_simp
  refine hK _ _ (fun h=>absurd rfl h) ?_
  clear hK K
  refine ldn ?_
  obtain⟨w5,hw5⟩:=Qy ((V1.setCell ⟨sb,s*2,none⟩ (.slice ao x.rs.length ac)).setCell ⟨sb,s*2+1,none⟩ (.slice bo x.st.length bc))
  have HW5:Hid (Q0 39 [] w0 P n tg w5 ⟨W.co,W.sw.set s x,W.od.set s r,W.bk,W.pk,W.pn⟩ a sb ob bb kv lv/\Zv tg tg w4 w5):=by
   have h1:=HV1.out.1.setSws (x:=x) (ro:=ao) (so:=bo) (rc:=ac) (sc:=bc) hs HI.out.lsw (HSW4.out.Qh HV1.out.2 (Or.inl rfl))
   rw[hw5]
   exact⟨h1.1,HV1.out.2.trans h1.2⟩
  rw[<-hw5]
  clear hw5 zt0 zt1 ft0 ft1 hS1 lsb1 q0 q1 z0 z1 z9 z10 z11 HV1 HSW4 HXB
  have hK5:=HW5.out.2
  have tB:=HW.out.nw w.heap.size (Ql _)
  have tD:=HW.out.nw (w.heap.size+1+1) (by omega)
  obtain⟨vb,cvb,fvb,hbl5,hvb⟩:=HW5.out.1.bks.get hs
  have HVB:=Qa hvb
  have c0:=(cob (a:=⟨w.heap.size,0,none⟩) (hK5.blk _ lw (Or.inl tB)).2).trans (HS2.out w4 E4).1
  have c1:=(cob (a:=⟨w.heap.size+1+1,1,none⟩) (hK5.blk _ lt2 (Or.inl tD)).2).trans (HS2.out w4 E4).2.1
  have cn:=(cob (a:=⟨XO,1,none⟩) (hK5.blk _ lXO (Or.inl HX0.out)).2).trans zn
  have c11:w5.cell? ⟨P,11,none⟩=some (.slice (some ⟨bb,0,none⟩) n n):=HW5.out.1.row.cell (i:=11) (by simp)
  have lP5:=HW5.out.1.row.lt
  have lw5:w.heap.size<w5.heap.size:=Q5 lw hK5.size
  have ld5:w.heap.size+1+1<w5.heap.size:=Q5 lt2 hK5.size
  have lx5:XO<w5.heap.size:=Q5 lXO hK5.size
  have HSX:Hid (∀V,Ext w5 V->cl V w.heap.size 0 (.pointer (some ⟨P,0,none⟩))/\cl V (w.heap.size+1+1) 1 (.int .i64 s)/\cl V P 11 (.slice (some ⟨bb,0,none⟩) n n)/\cl V bb s vb/\cl V XO 1 (.int .i64 o.n)):=fun V hV=>⟨(hV.cells.1 _ _ lw5).trans c0,(hV.cells.1 _ _ ld5).trans c1,(hV.cells.1 _ _ lP5).trans c11,(hV.cells.1 _ _ hbl5).trans cvb,(hV.cells.1 _ _ lx5).trans cn⟩
  have HRZ:Hid (∀V,Ext w5 V->Rw V 3 1 vb (W.bk.getD s []).length ((W.bk.getD s []).map (Value.int .i64))):=fun V hV=>(HVB.out.Qh (Qf.ext (S:=fun _=>True) hV) trivial).row
  have HFZ:Hid (∀V,Ext w5 V->V.frozen? ⟨bb,s,none⟩=false/\bb<V.heap.size):=fun V hV=>⟨(hV.cells.2 _ _ hbl5).trans fvb,Q5 hbl5 hV.size⟩
  have HFN:Hid (∀w6 g off cap,Ext w5 w6->w5.heap.size<=g->Rw w6 3 1 (.slice (some ⟨g,off,none⟩) ((W.bk.getD s []).length+1) cap) ((W.bk.getD s []).length+1) ((W.bk.getD s []).map (Value.int .i64)++[.int .i64 o.n])->ROut w0 P n tg w sb ob bb (hapO n W s) (.returned (.int .i64 0)) (w6.setCell ⟨bb,s,none⟩ (.slice (some ⟨g,off,none⟩) ((W.bk.getD s []).length+1) cap))):=fun w6 g off cap E6 hg6 hr6=>by
   obtain⟨tg2,k1,k2⟩:=Q0.newB (x:=o.n) HW5.out.1 hs HI.out.lbk E6 hg6 HVB.out hr6
   rw[HD.out, <-HXE.out]
   exact⟨rfl,tg2,a,kv,lv,k1,((Zv.ext EW4).trans HW5.out.2).trans k2,HWN.out⟩
  have HBL:Hid ((W.bk.getD s []).length<=1):=(HI.out.rows s).2
  generalize W.bk.getD s []=bs at HRZ HFN HBL
  have hbs:bs.length<=1:=HBL.out
  clear c0 c1 cn c11 cvb fvb hvb tB tD hK5 zn
  go_upto_region 24 with fail
  refine Last.LH.start (m:=21) (S:=fun V=>cl V w.heap.size 0 (.pointer (some ⟨P,0,none⟩))/\cl V (w.heap.size+1+1) 1 (.int .i64 s)/\cl V P 11 (.slice (some ⟨bb,0,none⟩) n n)/\cl V bb s vb/\cl V XO 1 (.int .i64 o.n)) (by kernel_rfl) ?_
  have Qe:=HSX.out w5.drew (Ext.refl _).drew
  refine ltk 0 Qe ?_
  refine ltk 1 Qe ?_
  refine ltk 2 Qe ?_
  refine ltk 3 Qe ?_
  refine ltk 4 Qe ?_
  refine ltk 5 Qe ?_
  refine ltk 7 Qe ?_
  refine ltk 8 Qe ?_
  refine ltk 9 Qe ?_
  refine ltk 10 Qe ?_
  refine ltk 11 Qe ?_
  refine ltk 12 Qe ?_
  refine ltk 13 Qe ?_
  refine ltk 14 Qe ?_
  refine ltk 16 Qe ?_
  refine ltk 17 Qe ?_
  refine Last.LH.two (i:=6) (j:=18) (by kernel_rfl) rfl rfl (fun K hK=>?_) (fun K hK=>?_)
  ·go_simp
   refine hK _ _ (fun _=>HSX.out _ ((Ext.refl w5).alloc _).drew) ?_
   clear hK K
   have F1:Ext w5 (w5.alloc (.cells #[] 3)).drew:=((Ext.refl w5).alloc _).drew
   have k1:(w5.alloc (.cells #[] 3)).drew.heap[w5.heap.size]? =some (.cells #[] 3):=Q7 rfl
   have s1:Hid ((w5.alloc (.cells #[] 3)).drew.heap.size=w5.heap.size+1):=by show _=_;simp
   generalize (w5.alloc (.cells #[] 3)).drew=U1 at F1 k1 s1
   refine Last.LH.two (i:=15) (j:=18) (by kernel_rfl) rfl rfl (fun K hK=>?_) (fun K hK=>?_)
   focus
    refine q0r (v:=vb) (n:=bs.length) (xs:=bs.map (Value.int .i64)) U1 rfl (.tmp 163) (.tmp 171) 30 rfl 3 i0 _ 1 8 underlying30 hi0 hz00 hz01 hz02 rfl (by decide) k1 rfl rfl (HRZ.out _ F1) (q4a _) (by unfold maxLen;omega) (by omega) ?_
    intro ao2 cap2 U2 hr2 hg2 ho2
    have F2:Ext w5 U2:=Below.grown F1 hg2 F1.size (fun k hk=>by cases hk;have:=s1.out;omega)
    refine hK _ _ (fun _=>HSX.out _ F2) ?_
    clear hK K
    have hown:∀k,(Value.slice ao2 bs.length cap2).ownBlock=some k->w5.heap.size<=k:=ho2
    refine lon 18 (fun K hK=>?_)
    go_simp
    refine hK _ _ (fun _=>HSX.out _ (F2.alloc _)) ?_
    clear hK K
    have F3:Ext w5 (U2.alloc (.cells #[.int .i64 o.n] 3)):=F2.alloc _
    have c3:(U2.alloc (.cells #[.int .i64 o.n] 3)).heap[U2.heap.size]? =some (.cells #[.int .i64 o.n] 3):=Q7 rfl
    have r3:Rw (U2.alloc (.cells #[.int .i64 o.n] 3)) 3 1 (.slice ao2 bs.length cap2) bs.length (bs.map (Value.int .i64)):=hr2.Qh (fun k hk=>bal _ _ _ (hr2.lt k hk))
    generalize U2.alloc (.cells #[.int .i64 o.n] 3)=U3 at F3 c3 r3
    refine lon 19 (fun K hK=>?_)
    refine Q4 U3 rfl (.tmp 172) (.tmp 175) 30 rfl 3 i0 _ 1 8 underlying30 hi0 hz00 hz01 hz02 rfl (by decide) (.slice ao2 bs.length cap2) bs.length (bs.map (Value.int .i64)) rfl r3 ⟨U2.heap.size,0,none⟩ 1 [.int .i64 o.n] rfl rfl (q1g c3) (by intro u hu;rw[List.mem_singleton] at hu;rw[hu];rfl) (by unfold maxLen;omega) (by omega) ?_
   rotate_left
   focus
    go_simp
    refine hK _ _ (fun _=>HSX.out _ (F1.alloc _)) ?_
    clear hK K
    have F2:Ext w5 (U1.alloc (.cells #[.int .i64 o.n] 3)):=F1.alloc _
    have c2:(U1.alloc (.cells #[.int .i64 o.n] 3)).heap[U1.heap.size]? =some (.cells #[.int .i64 o.n] 3):=Q7 rfl
    have k2:(U1.alloc (.cells #[.int .i64 o.n] 3)).heap[w5.heap.size]? =some (.cells #[] 3):=(bal _ _ _ (by have:=s1.out;omega)).trans k1
    have s2:Hid ((U1.alloc (.cells #[.int .i64 o.n] 3)).heap.size=U1.heap.size+1):=by show _=_;simp
    generalize U1.alloc (.cells #[.int .i64 o.n] 3)=U2 at F2 c2 k2 s2
    refine lon 15 (fun K hK=>?_)
    refine q0r (v:=vb) (n:=bs.length) (xs:=bs.map (Value.int .i64)) U2 rfl (.tmp 163) (.tmp 171) 30 rfl 3 i0 _ 1 8 underlying30 hi0 hz00 hz01 hz02 rfl (by decide) k2 rfl rfl (HRZ.out _ F2) (q4a _) (by unfold maxLen;omega) (by omega) ?_
    intro ao2 cap2 U3 hr3 hg3 ho3
    have F3:Ext w5 U3:=Below.grown F2 hg3 F2.size (fun k hk=>by cases hk;have:=s1.out;omega)
    refine hK _ _ (fun _=>HSX.out _ F3) ?_
    clear hK K
    have hown:∀k,(Value.slice ao2 bs.length cap2).ownBlock=some k->w5.heap.size<=k:=ho3
    have c3:U3.heap[U1.heap.size]? =some (.cells #[.int .i64 o.n] 3):=(hg3.block _ (by have:=s1.out;have:=s2.out;omega) (by have:=s1.out;have:=s2.out;simp;omega)).trans c2
    refine lon 19 (fun K hK=>?_)
    refine Q4 U3 rfl (.tmp 172) (.tmp 175) 30 rfl 3 i0 _ 1 8 underlying30 hi0 hz00 hz01 hz02 rfl (by decide) (.slice ao2 bs.length cap2) bs.length (bs.map (Value.int .i64)) rfl hr3 ⟨U1.heap.size,0,none⟩ 1 [.int .i64 o.n] rfl rfl (q1g c3) (by intro u hu;rw[List.mem_singleton] at hu;rw[hu];rfl) (by unfold maxLen;omega) (by omega) ?_
   rotate_left
   all_goals(
    intro gb off' cap' w6 hr6 hg6 hat6
    have E6:Ext w5 w6:=Below.grown F3 hg6 F3.size (fun k hk=>hown k hk)
    have hgw:w5.heap.size<=gb:=by
     rcases hat6 with e | e
     ·exact hown gb e
     ·rw[e];exact F3.size
    have HN:=Qa (HFN.out w6 gb off' cap' E6 hgw hr6)
    obtain⟨_,_,_,co6,_⟩:=HSX.out w6 E6
    obtain⟨fo6,lo6⟩:=HFZ.out w6 E6
    refine hK _ _ (fun _=>HSX.out _ E6) ?_
    clear hK K Qe HFN hown hat6 hg6 hr6 HRZ
    have hS6:=HSX.out w6 E6
    refine ltk 20 hS6 ?_
    clear hS6
    refine lon 21 (fun K hK=>?_)
    go_simp
    refine hK _ _ (fun h=>absurd rfl h) ?_
    clear hK K co6 fo6
    refine ldn ?_
    go_wp2
    go_ret
    exact HN.out)
  ·go_simp
   refine hK _ _ (fun _=>HSX.out _ ((Ext.refl w5).alloc _).drew) ?_
   clear hK K
   have F1:Ext w5 (w5.alloc (.cells #[.int .i64 o.n] 3)).drew:=((Ext.refl w5).alloc _).drew
   have c1:(w5.alloc (.cells #[.int .i64 o.n] 3)).drew.heap[w5.heap.size]? =some (.cells #[.int .i64 o.n] 3):=Q7 rfl
   have s1:Hid ((w5.alloc (.cells #[.int .i64 o.n] 3)).drew.heap.size=w5.heap.size+1):=by show _=_;simp
   generalize (w5.alloc (.cells #[.int .i64 o.n] 3)).drew=U1 at F1 c1 s1
   refine lon 6 (fun K hK=>?_)
   go_simp
   refine hK _ _ (fun _=>HSX.out _ (F1.alloc _)) ?_
   clear hK K
   have F2:Ext w5 (U1.alloc (.cells #[] 3)):=F1.alloc _
   have k2:(U1.alloc (.cells #[] 3)).heap[U1.heap.size]? =some (.cells #[] 3):=Q7 rfl
   have c2:(U1.alloc (.cells #[] 3)).heap[w5.heap.size]? =some (.cells #[.int .i64 o.n] 3):=(bal _ _ _ (by have:=s1.out;omega)).trans c1
   have s2:Hid ((U1.alloc (.cells #[] 3)).heap.size=U1.heap.size+1):=by show _=_;simp
   generalize U1.alloc (.cells #[] 3)=U2 at F2 k2 c2 s2
   refine lon 15 (fun K hK=>?_)
   refine q0r (v:=vb) (n:=bs.length) (xs:=bs.map (Value.int .i64)) U2 rfl (.tmp 163) (.tmp 171) 30 rfl 3 i0 _ 1 8 underlying30 hi0 hz00 hz01 hz02 rfl (by decide) k2 rfl rfl (HRZ.out _ F2) (q4a _) (by unfold maxLen;omega) (by omega) ?_
   intro ao2 cap2 U3 hr3 hg3 ho3
   have F3:Ext w5 U3:=Below.grown F2 hg3 F2.size (fun k hk=>by cases hk;have:=s1.out;omega)
   refine hK _ _ (fun _=>HSX.out _ F3) ?_
   clear hK K
   have hown:∀k,(Value.slice ao2 bs.length cap2).ownBlock=some k->w5.heap.size<=k:=fun k hk=>ltr (by have:=s1.out;omega) (ho3 k hk)
   have c3:U3.heap[w5.heap.size]? =some (.cells #[.int .i64 o.n] 3):=(hg3.block _ (by have:=s1.out;have:=s2.out;omega) (by have:=s1.out;have:=s2.out;simp;omega)).trans c2
   refine lon 19 (fun K hK=>?_)
   refine Q4 U3 rfl (.tmp 172) (.tmp 175) 30 rfl 3 i0 _ 1 8 underlying30 hi0 hz00 hz01 hz02 rfl (by decide) (.slice ao2 bs.length cap2) bs.length (bs.map (Value.int .i64)) rfl hr3 ⟨w5.heap.size,0,none⟩ 1 [.int .i64 o.n] rfl rfl (q1g c3) (by intro u hu;rw[List.mem_singleton] at hu;rw[hu];rfl) (by unfold maxLen;omega) (by omega) ?_
   intro gb off' cap' w6 hr6 hg6 hat6
   have E6:Ext w5 w6:=Below.grown F3 hg6 F3.size (fun k hk=>hown k hk)
   have hgw:w5.heap.size<=gb:=by
    rcases hat6 with e | e
    ·exact hown gb e
    ·rw[e];exact F3.size
   have HN:=Qa (HFN.out w6 gb off' cap' E6 hgw hr6)
   obtain⟨_,_,_,co6,_⟩:=HSX.out w6 E6
   obtain⟨fo6,lo6⟩:=HFZ.out w6 E6
   refine hK _ _ (fun _=>HSX.out _ E6) ?_
   clear hK K Qe HFN hown hat6 hg6 hr6 HRZ
   have hS6:=HSX.out w6 E6
   refine ltk 20 hS6 ?_
   clear hS6
   refine lon 21 (fun K hK=>?_)
   go_simp
   refine hK _ _ (fun h=>absurd rfl h) ?_
   clear hK K co6 fo6
   refine ldn ?_
   go_wp2
   go_ret
   exact HN.out)
end Rm
end Go.Proofs.YthkpbefnkmmaiaaGreat
