import Derived.Test.YthkpbefnkmmaiaaGreate15
import Derived.Test.YthkpbefnkmmaiaaGreate16
set_option maxRecDepth 100000
set_option maxHeartbeats 4000000
namespace Go.Proofs.YthkpbefnkmmaiaaGreat
open Go.Proofs.Tryz
namespace Ct
open Go.RowKit Go.Deep Stw Stp Tb Rul
theorem sum8:∀(ps:List (List Int)),(∀p∈ps,p.length<=8)->(ps.map List.length).sum<=8*ps.length
 | [],_=>by simp
 | p::r,h=>by
  have h1:=h p (by simp)
  have h2:=sum8 r (fun q hq=>h q (by simp[hq]))
  simp only[List.map_cons,List.sum_cons,List.length_cons]
  omega
variable {ls:List Lk} {fs:List Stf.Fl}
theorem z7g{n version:Int}(h:(plnF n version ls fs).1=0):PlOk ⟨version,fs,Qs n ls fs⟩:=by
 have g:=q1u h
 have hw:(Stw.Qc n ls).1=0:=by
  by_cases e:(Stw.Qc n ls).1=0
  ·exact e
  ·rw[q3y e] at h;exact absurd h e
 have hv:¬(version<1\/1000<version):=fun e=>by have:=g.v1;have:=g.v2;omega
 have hf:(Stf.Qp fs n).1=0:=by
  by_cases e:(Stf.Qp fs n).1=0
  ·exact e
  ·rw[q3z hw hv e] at h;exact absurd h e
 have hbd:=(Zo hw).bounds
 refine⟨ltr g.few (by decide),fun f hm=>?_,?_,?_⟩
 ·obtain⟨k,hk,e⟩:=List.mem_iff_getElem.1 hm
  have h0:=q9o hf k hk
  rw[show fs.getD k Fw.f0=f by simp[hk,e]] at h0
  have hF:=q5g h0
  have h1:=q7w 8 f.via hF.vnd (fun x hx=>by have:=hF.via x hx;omega)
  have h2:=q7w 8 f.nt hF.nnd (fun x hx=>by have:=hF.nt x hx;omega)
  omega
 ·show(Qs n ls fs).length<=_
  rw[g.len];exact ltr g.few (by decide)
 ·show((Qs n ls fs).map List.length).sum<=_
  have h1:=sum8 (Qs n ls fs) (fun p hp=>by
   obtain⟨k,hk,e⟩:=List.mem_iff_getElem.1 hp
   have:=g.short k
   rwa [show(Qs n ls fs).getD k []=p by simp[hk,e]] at this)
  rw[g.len] at h1
  have:=g.few
  omega
variable {w:World} {g:Cg}
theorem CSt.monoB{B B':Nat}{X:Nat->Prop}{P n:Nat}{w0:World}{a:CA}{wv tv:Value}{TV:List Value}(h:CSt B X P w0 w g a n wv tv TV)(hB:B'<=B):CSt B' X P w0 w g a n wv tv TV:=
 ⟨h.row,h.ownW,h.ownT,h.wP,h.apart,h.lt,h.bel,h.hP,ltr hB h.hB,fun V hs hb=>h.hn V hs (fun b h1 h2=>hb b (ltr hB h1) h2),fun V hs hb=>h.hx V hs (fun b h1 h2=>hb b (ltr hB h1) h2)⟩
theorem Ask_any(c:Co)(a:CA)(n:Int)(ao:Option Addr)(len cap:Nat)(ls:List Lk)(lo:Option Addr)(ll lc:Nat)(fs:List Stf.Fl)(w:World)(h:Zr w c a)(hok:CoOk c)(hlen:ls.length=len)(hl:Zg w ao ls)(hx:len<=9223372036854775807)(hI:I64 n)(hll:fs.length=ll)(hf:Fw.Qk w lo fs)(hS:Fw.Sm fs)(hlx:ll<=9223372036854775807):
  Calls prog 40 #[cvl c a,.agg #[.int .i64 n,.slice ao len cap],.slice lo ll lc] w fun e w'=>q8y w.heap.size w (Q1 c n ls fs).1 (Q1 c n ls fs).2 e w':=by
  subst hll
  have HA:=Qa (Aw_ab w c a n (.slice ao len cap))
  have hE0:=z0l w c a n (.slice ao len cap)
  unfold cvl
  by_cases h0:c.st=0
  ·have HD0:Hid (Q1 c n ls fs=if(plnF n (nx c.now.v) ls fs).1≠0 then(⟨co0,[]⟩,(plnF n (nx c.now.v) ls fs).1) else if full n.toNat c.now ⟨nx c.now.v,fs,Qs n ls fs⟩=true then(⟨co0,[]⟩,10) else(goS n.toNat (told n.toNat (addO ⟨nx c.now.v,fs,Qs n ls fs⟩) ⟨⟨1,c.now,⟨nx c.now.v,fs,Qs n ls fs⟩,c.num,c.Qg⟩,[]⟩),0)):=by
    show _=_
    unfold Q1
    rw[if_neg (by simpa using h0)]
   have HH0:=Qa h0
   obtain⟨v,hv⟩:∃v,nx c.now.v=v:=⟨_,rfl⟩
   rw[hv] at HD0
   have hv':IntKind.i64.wrap (c.now.v+1)=v:=hv
   clear hv
   have HB0:=Qa HA.out.box
   go_enter func40,ntmps40
   rw[h0]
   go_wp2_with fail
   unfold Aw at HA hE0
   rw[h0] at HA hE0
   obtain⟨W1,hW1⟩:=Qy (((w.alloc (.cells #[.int .i64 0,.int .i64 c.now.v,.slice a.n.fo c.now.fs.length a.n.fc,.slice a.n.qo c.now.ps.length a.n.qc,.int .i64 c.Qd.v,.slice a.x.fo c.Qd.fs.length a.x.fc,.slice a.x.qo c.Qd.ps.length a.x.qc,.int .i64 c.num,.slice a.wo c.Qg.length a.wc] 32)).alloc (.cells #[.int .i64 n,.slice ao len cap] 24)).alloc (.cells #[.int .i64 0,.int .i64 0,.slice none 0 0,.slice none 0 0,.int .i64 0,.slice none 0 0,.slice none 0 0,.int .i64 0,.slice none 0 0] 32))
   rw[<-hW1] at HA hE0 ⊢
   clear hW1 HB0
   refine Calls.mono (Plan_new n v ao len cap ls lo fs.length lc fs W1 hlen (hl.ext hE0) hx hI rfl (hf.ext hE0) hS hlx) ?_
   rintro e w2 ⟨pv,fo,fl,fc,qo,ql,qc,rfl,E2,hP⟩
   have hlA:=HA.out.lt
   have hE2:=hE0.trans E2
   have HA2:=Qa (HA.out.ext E2)
   have hl2:=HA2.out.lt
   have hl20:w.heap.size<w2.heap.size:=by omega
   have hl21:w.heap.size+1<w2.heap.size:=by omega
   by_cases hp0:(plnF n v ls fs).1=0
   ·rcases hP with hP | ⟨_,e1,e2,e3,hU⟩
    ·exact absurd hp0 hP.1
    obtain rfl:=e1.symm
    obtain rfl:=e2.symm
    obtain rfl:=e3.symm
    clear e1 e2 e3
    have hgd:=q1u hp0
    have HOK:=Qa (z7g hp0)
    obtain⟨nn,rfl⟩:=Int.eq_ofNat_of_zero_le hgd.n0
    have hn8:nn<=8:=by have:=hgd.n8;omega
    have HPN:Hid (q3u W1.heap.size w2 ⟨v,fs,Qs nn ls fs⟩ ⟨fo,qo,fc,qc⟩):=fun U hs hb=>⟨(hU U hs hb).1,(hU U hs hb).2⟩
    have HP0:=Qa hp0
    rw[hp0]
    clear hU hgd hp0
    obtain⟨y,hy⟩:∃y,(plnF nn v ls fs).2=y:=⟨_,rfl⟩
    rw[hy]
    clear hy
    obtain⟨V2,hV2⟩:=Qy ((w2.alloc (.cells #[.int .i64 v,.slice fo fs.length fc,.slice qo (Qs nn ls fs).length qc] 29)).alloc (.cells #[.int .i64 0,.int .i64 y] 43))
    have E2':Ext w2 V2:=by rw[hV2];exact((Ext.refl w2).alloc _).alloc _
    have HPB:Hid (∀U,Ext V2 U->cl U w2.heap.size 0 (.int .i64 v)/\cl U w2.heap.size 1 (.slice fo fs.length fc)/\cl U w2.heap.size 2 (.slice qo (Qs nn ls fs).length qc)/\w2.heap.size<U.heap.size):=fun U hU=>by
     have l0:w2.heap.size<V2.heap.size:=by rw[hV2];simp;omega
     refine⟨(hU.cells.1 _ _ l0).trans (by rw[hV2];simp),(hU.cells.1 _ _ l0).trans (by rw[hV2];simp),(hU.cells.1 _ _ l0).trans (by rw[hV2];simp),Q5 l0 hU.size⟩
    have HRM:=Qa (z4t c.now ⟨v,fs,Qs nn ls fs⟩ a.n ⟨fo,qo,fc,qc⟩ nn V2 (h.hn.ext (hE2.trans E2')) (HPN.out.at.ext E2') hok.n HOK.out hn8)
    unfold pvl at HRM
    simp only at HRM
    have c1:w2.cell? ⟨w.heap.size,1,none⟩=some (.int .i64 c.now.v):=Zj HA2.out.box (i:=1) (by omega)
    have c2:w2.cell? ⟨w.heap.size,2,none⟩=some (.slice a.n.fo c.now.fs.length a.n.fc):=Zj HA2.out.box (i:=2) (by omega)
    have c3:w2.cell? ⟨w.heap.size,3,none⟩=some (.slice a.n.qo c.now.ps.length a.n.qc):=Zj HA2.out.box (i:=3) (by omega)
    have n0:=HA2.out.n0
    go_wp2_with fail
    rw[<-hV2]
    clear c1 c2 c3 n0 hV2
    refine Calls.mono HRM.out ?_
    rintro e w3 ⟨rfl,E3'⟩
    have E3:Ext w2 w3:=E2'.trans E3'
    have HA3:=Qa (HA2.out.ext E3)
    have hl3:=HA3.out.lt
    have hl30:w.heap.size<w3.heap.size:=by omega
    have hl31:w.heap.size+1<w3.heap.size:=by omega
    clear HRM
    cases hfu:full nn c.now ⟨v,fs,Qs nn ls fs⟩ with
    | true=>
     have HD:Hid (Q1 c nn ls fs=(⟨co0,[]⟩,10)):=by
      show _=_
      rw[HD0.out,if_neg (by simpa using HP0.out),show(nn:Int).toNat=nn from rfl,if_pos hfu]
     clear hfu
     go_wp2_with fail
     refine Calls.mono (q0q 10 _) ?_
     rintro e w9 ⟨he,E9⟩
     have he':e=.returned (.tuple #[.agg #[.int .i64 0,.int .i64 0,.slice none 0 0,.slice none 0 0,.int .i64 0,.slice none 0 0,.slice none 0 0,.int .i64 0,.slice none 0 0],.slice none 0 0,.int .i64 10]):=he
     subst he'
     clear he
     have E9':Ext W1 w9:=E2.trans (E3.trans E9)
     have HA9:=Qa (HA.out.ext E9')
     obtain⟨r0,r1,r2,r3,r4,r5,r6,r7,r8⟩:=HA9.out.q3f
     have z:=Qi HA9.out.ans
     have z0:=z 0
     have z1:=z 1
     have z2:=z 2
     have z3:=z 3
     have z4:=z 4
     have z5:=z 5
     have z6:=z 6
     have z7:=z 7
     have z8:=z 8
     have hl9:=HA9.out.lt
     clear z
     go_wp2
     refine bodyPost_ret (v:=.tuple #[.agg #[.int .i64 0,.int .i64 0,.slice none 0 0,.slice none 0 0,.int .i64 0,.slice none 0 0,.slice none 0 0,.int .i64 0,.slice none 0 0],.slice none 0 0,.int .i64 10]) (by simp[results,results40,go_sem,r0,r1,r2,r3,r4,r5,r6,r7,r8]) rfl ?_
     rw[HD.out]
     exact q4x (by omega) (hE0.trans E9') _ _ _ _ _ _ _ _ _
    | false=>
     have HD:Hid (Q1 c nn ls fs=(goS nn (told nn (addO ⟨v,fs,Qs nn ls fs⟩) ⟨⟨1,c.now,⟨v,fs,Qs nn ls fs⟩,c.num,c.Qg⟩,[]⟩),0)):=by
      show _=_
      rw[HD0.out,if_neg (by simpa using HP0.out),show(nn:Int).toNat=nn from rfl,if_neg (by simp[hfu])]
     clear hfu
     have HCH:=Qa (q3s c a nn ao len cap w3 (h.ext (hE2.trans E3)) hok)
     have c0:w3.cell? ⟨w.heap.size,0,none⟩=some (.int .i64 0):=by rw[<-HH0.out];exact Zj HA3.out.box (i:=0) (by omega)
     have c1:w3.cell? ⟨w.heap.size,1,none⟩=some (.int .i64 c.now.v):=Zj HA3.out.box (i:=1) (by omega)
     have c2:w3.cell? ⟨w.heap.size,2,none⟩=some (.slice a.n.fo c.now.fs.length a.n.fc):=Zj HA3.out.box (i:=2) (by omega)
     have c3:w3.cell? ⟨w.heap.size,3,none⟩=some (.slice a.n.qo c.now.ps.length a.n.qc):=Zj HA3.out.box (i:=3) (by omega)
     have c4:w3.cell? ⟨w.heap.size,4,none⟩=some (.int .i64 c.Qd.v):=Zj HA3.out.box (i:=4) (by omega)
     have c5:w3.cell? ⟨w.heap.size,5,none⟩=some (.slice a.x.fo c.Qd.fs.length a.x.fc):=Zj HA3.out.box (i:=5) (by omega)
     have c6:w3.cell? ⟨w.heap.size,6,none⟩=some (.slice a.x.qo c.Qd.ps.length a.x.qc):=Zj HA3.out.box (i:=6) (by omega)
     have c7:w3.cell? ⟨w.heap.size,7,none⟩=some (.int .i64 c.num):=Zj HA3.out.box (i:=7) (by omega)
     have c8:w3.cell? ⟨w.heap.size,8,none⟩=some (.slice a.wo c.Qg.length a.wc):=Zj HA3.out.box (i:=8) (by omega)
     have n0:=HA3.out.n0
     have n1:=HA3.out.n1
     unfold cvl at HCH
     rw[h0] at HCH
     go_wp2_with fail
     clear c0 c1 c2 c3 c4 c5 c6 c7 c8 n0 n1
     refine Calls.mono HCH.out ?_
     rintro e w4 ⟨P,w0,a3,wv,rfl,hC3,E0⟩
     have HC3:=Qa (hC3.monoB (show W1.heap.size<=w3.heap.size from ltr E2.size E3.size))
     have hPl:=hC3.row.lt
     have s0:w4.cell? ⟨P,0,none⟩=some (.int .i64 c.st):=hC3.row.cell (i:=0) (by omega)
     have s4:w4.cell? ⟨P,4,none⟩=some (.int .i64 c.Qd.v):=hC3.row.cell (i:=4) (by omega)
     have s5:w4.cell? ⟨P,5,none⟩=some (.slice a3.x.fo c.Qd.fs.length a3.x.fc):=hC3.row.cell (i:=5) (by omega)
     have s6:w4.cell? ⟨P,6,none⟩=some (.slice a3.x.qo c.Qd.ps.length a3.x.qc):=hC3.row.cell (i:=6) (by omega)
     have z0:=hC3.row.frozen 0
     have z4:=hC3.row.frozen 4
     have z5:=hC3.row.frozen 5
     have z6:=hC3.row.frozen 6
     have HE0:=Qa (E3.trans E0)
     have hE34:Ext w3 w4:=E0.trans hC3.bel
     obtain⟨b0,b1,b2,bl⟩:=HPB.out w4 (E3'.trans hE34)
     have HPne:Hid (w2.heap.size≠P):=fun e=>by have:=hC3.hP;have:=E0.size;have:=(HPB.out w3 E3').2.2.2;omega
     have hPne:=HPne.out
     clear hC3 HCH
     go_upto_region 11 with fail
     obtain⟨w5,hw5⟩:=Qy ((((w4.setCell ⟨P,4,none⟩ (.int .i64 v)).setCell ⟨P,5,none⟩ (.slice fo fs.length fc)).setCell ⟨P,6,none⟩ (.slice qo (Qs nn ls fs).length qc)).setCell ⟨P,0,none⟩ (.int .i64 1))
     have HC5:Hid (CSt W1.heap.size (fun _=>True) P w0 w5 ⟨⟨1,c.now,⟨v,fs,Qs nn ls fs⟩,c.num,c.Qg⟩,[]⟩ ⟨a3.n,⟨fo,qo,fc,qc⟩,a3.wo,a3.wc⟩ nn wv (.slice none 0 0) []):=by
      have k:=HC3.out
      have hp:=k.hP
      rw[hw5]
      refine k.redo ?_ (fun b hb=>?_) (by simp) ?_ rfl rfl k.hn (HPN.out.ext HE0.out)
      ·exact q0w (q0w (q0w (q0w k.row (i:=4) (by simp[chL]) _) (i:=5) (by simp[chL]) _) (i:=6) (by simp[chL]) _) (i:=0) (by simp[chL]) _
      ·rw[Zm _ _ _ _ hb,Zm _ _ _ _ hb,Zm _ _ _ _ hb,Zm _ _ _ _ hb]
      ·exact(((k.bel.setCell (by simpa using hp) _).setCell (by simpa using hp) _).setCell (by simpa using hp) _).setCell (by simpa using hp) _
     rw[<-hw5]
     clear hw5 HC3 s0 s4 s5 s6 z0 z4 z5 z6 b0 b1 b2 bl hPl hE34
     have E5:Ext w2 w5:=HE0.out.trans HC5.out.bel
     have HA5:=Qa (HA2.out.ext E5)
     obtain⟨b0,b1,b2,bl⟩:=HPB.out w5 (E3'.trans (E0.trans HC5.out.bel))
     have n0:=HA5.out.n0
     have HAD:=Qa (adding_any ⟨v,fs,Qs nn ls fs⟩ ⟨fo,qo,fc,qc⟩ nn w0 w5 (HPN.out.at.ext E5) HOK.out hn8)
     unfold pvl at HAD
     simp only at HAD
     go_wp2_with fail
     refine Calls.mono HAD.out ?_
     rintro e w6 ⟨p1,p2,rfl,E6,HST⟩
     clear b0 b1 b2 bl n0 HAD
     go_wp2_with fail
     refine Calls.mono (z0r W1.heap.size (fun _=>True) 86 p1 p2 P nn (addO ⟨v,fs,Qs nn ls fs⟩) w0 w6 _ _ wv (.slice none 0 0) [] (HC5.out.ext E6) (Or.inl rfl) (fun _ _=>trivial) hn8 (ltr hok.w (by decide)) (by simp) (q7o HC5.out (fun _ _=>trivial) HST)) ?_
     rintro e w7 ⟨rfl,wv7,tv7,TV7,hC7,hK7⟩
     have HC7:=Qa hC7
     clear hC7 hK7 HST
     have HL7:=Qa (q0t (ord:=addO ⟨v,fs,Qs nn ls fs⟩) (g:=⟨⟨1,c.now,⟨v,fs,Qs nn ls fs⟩,c.num,c.Qg⟩,[]⟩) nn)
     go_wp2_with fail
     refine Calls.mono (q2y W1.heap.size P nn w0 w7 _ _ wv7 tv7 TV7 HC7.out hn8 hok.n HOK.out (by have h1:=HL7.out.1;have h2:=hok.w;exact ltr h1 (by show c.Qg.length+nn<=_;omega)) (by have:=HL7.out.2;simp only[List.length_nil] at this;omega)) ?_
     intro e w9 hG
     obtain⟨k0,k1,o2,l2,q2,o3,l3,q3,k4,o5,l5,q5,o6,l6,q6,k7,o8,l8,q8,tO,l9,tc,rfl,E9,HF⟩:=hG.q1e
     clear hG
     have HA9:=Qa (HA2.out.ext (HE0.out.trans E9))
     obtain⟨r0,r1,r2,r3,r4,r5,r6,r7,r8⟩:=HA9.out.q3f
     have z:=Qi HA9.out.ans
     have z0:=z 0
     have z1:=z 1
     have z2:=z 2
     have z3:=z 3
     have z4:=z 4
     have z5:=z 5
     have z6:=z 6
     have z7:=z 7
     have z8:=z 8
     have hl9:=HA9.out.lt
     clear z
     go_wp2
     refine bodyPost_ret (v:=.tuple #[.agg #[.int .i64 k0,.int .i64 k1,.slice o2 l2 q2,.slice o3 l3 q3,.int .i64 k4,.slice o5 l5 q5,.slice o6 l6 q6,.int .i64 k7,.slice o8 l8 q8],.slice tO l9 tc,.int .i64 0]) (by simp[results,results40,go_sem,r0,r1,r2,r3,r4,r5,r6,r7,r8]) rfl ?_
     rw[HD.out]
     exact go_fin HF.out hlA (by omega) (hE2.trans (HE0.out.trans E9)) _ _ _ _ _ _ _ _ _
   ·have HD:Hid (Q1 c n ls fs=(⟨co0,[]⟩,(plnF n v ls fs).1)):=by
     show _=_
     rw[HD0.out,if_pos hp0]
    have b0:((plnF n v ls fs).1 != 0)=true:=by simpa using hp0
    clear hp0 hP
    go_wp2_with fail
    refine Calls.mono (q0q (plnF n v ls fs).1 _) ?_
    rintro e w9 ⟨he,E9⟩
    have he':e=.returned (.tuple #[.agg #[.int .i64 0,.int .i64 0,.slice none 0 0,.slice none 0 0,.int .i64 0,.slice none 0 0,.slice none 0 0,.int .i64 0,.slice none 0 0],.slice none 0 0,.int .i64 (plnF n v ls fs).1]):=he
    subst he'
    clear he
    have E9':Ext W1 w9:=E2.trans ((((Ext.refl w2).alloc _).alloc _).trans E9)
    have HA9:=Qa (HA.out.ext E9')
    obtain⟨r0,r1,r2,r3,r4,r5,r6,r7,r8⟩:=HA9.out.q3f
    have z:=Qi HA9.out.ans
    have z0:=z 0
    have z1:=z 1
    have z2:=z 2
    have z3:=z 3
    have z4:=z 4
    have z5:=z 5
    have z6:=z 6
    have z7:=z 7
    have z8:=z 8
    have hl9:=HA9.out.lt
    clear z
    go_wp2
    refine bodyPost_ret (v:=.tuple #[.agg #[.int .i64 0,.int .i64 0,.slice none 0 0,.slice none 0 0,.int .i64 0,.slice none 0 0,.slice none 0 0,.int .i64 0,.slice none 0 0],.slice none 0 0,.int .i64 (plnF n v ls fs).1]) (by simp[results,results40,go_sem,r0,r1,r2,r3,r4,r5,r6,r7,r8]) rfl ?_
    rw[HD.out]
    exact q4x (by omega) (hE0.trans E9') _ _ _ _ _ _ _ _ _
  ·have HD:Hid (Q1 c n ls fs=(⟨co0,[]⟩,11)):=by
    show _=_
    unfold Q1
    rw[if_pos h0]
   have b0:(c.st != 0)=true:=by simpa using h0
   clear h0
   go_enter func40,ntmps40
   go_wp2_with fail
   unfold Aw at HA hE0
   obtain⟨W1,hW1⟩:=Qy (((w.alloc (.cells #[.int .i64 c.st,.int .i64 c.now.v,.slice a.n.fo c.now.fs.length a.n.fc,.slice a.n.qo c.now.ps.length a.n.qc,.int .i64 c.Qd.v,.slice a.x.fo c.Qd.fs.length a.x.fc,.slice a.x.qo c.Qd.ps.length a.x.qc,.int .i64 c.num,.slice a.wo c.Qg.length a.wc] 32)).alloc (.cells #[.int .i64 n,.slice ao len cap] 24)).alloc (.cells #[.int .i64 0,.int .i64 0,.slice none 0 0,.slice none 0 0,.int .i64 0,.slice none 0 0,.slice none 0 0,.int .i64 0,.slice none 0 0] 32))
   rw[<-hW1] at HA hE0 ⊢
   clear hW1
   refine Calls.mono (q0q 11 _) ?_
   rintro e w9 ⟨he,E9⟩
   have he':e=.returned (.tuple #[.agg #[.int .i64 0,.int .i64 0,.slice none 0 0,.slice none 0 0,.int .i64 0,.slice none 0 0,.slice none 0 0,.int .i64 0,.slice none 0 0],.slice none 0 0,.int .i64 11]):=he
   subst he'
   clear he
   have E9':Ext W1 w9:=E9
   have HA9:=Qa (HA.out.ext E9')
   obtain⟨r0,r1,r2,r3,r4,r5,r6,r7,r8⟩:=HA9.out.q3f
   have z:=Qi HA9.out.ans
   have z0:=z 0
   have z1:=z 1
   have z2:=z 2
   have z3:=z 3
   have z4:=z 4
   have z5:=z 5
   have z6:=z 6
   have z7:=z 7
   have z8:=z 8
   have hl9:=HA9.out.lt
   clear z
   go_wp2
   refine bodyPost_ret (v:=.tuple #[.agg #[.int .i64 0,.int .i64 0,.slice none 0 0,.slice none 0 0,.int .i64 0,.slice none 0 0,.slice none 0 0,.int .i64 0,.slice none 0 0],.slice none 0 0,.int .i64 11]) (by simp[results,results40,go_sem,r0,r1,r2,r3,r4,r5,r6,r7,r8]) rfl ?_
   rw[HD.out]
   exact q4x (by omega) (hE0.trans E9') _ _ _ _ _ _ _ _ _
def Stb (Y:Nat->Prop) (w:World) (D:World->Prop):Prop:=∀U:World,w.heap.size<=U.heap.size->(∀b,Y b->b<w.heap.size->U.heap[b]? =w.heap[b]?)->D U
variable {Y:Nat->Prop} {D:World->Prop}
theorem Stb.at(h:Stb Y w D):D w:=h w (Ql _) (fun _ _ _=>rfl)
variable {w':World}
theorem Stb.step(h:Stb Y w D)(hs:w.heap.size<=w'.heap.size)(hb:∀b,Y b->b<w.heap.size->w'.heap[b]? =w.heap[b]?):Stb Y w' D:=
 fun U hU kU=>h U (ltr hs hU) (fun b h1 h2=>(kU b h1 (Q5 h2 hs)).trans (hb b h1 h2))
theorem Stb.ext(h:Stb Y w D)(E:Ext w w'):Stb Y w' D:=h.step E.size (fun b _ h2=>Below.block E b h2)
theorem Stb.more{Y':Nat->Prop}(h:Stb Y w D)(hY:∀b,Y b->b<w.heap.size->Y' b):Stb Y' w D:=fun U hU kU=>h U hU (fun b h1 h2=>kU b (hY b h1 h2) h2)
variable {D':World->Prop}
theorem Stb.imp(h:Stb Y w D)(hD:∀U,D U->D' U):Stb Y w D':=fun U hU kU=>hD U (h U hU kU)
theorem Stb.and(h:Stb Y w D)(h':Stb Y w D'):Stb Y w (fun U=>D U/\D' U):=fun U hU kU=>⟨h U hU kU,h' U hU kU⟩
theorem ext_of{U:World}(hs:w.heap.size<=U.heap.size)(hb:∀b,b<w.heap.size->U.heap[b]? =w.heap[b]?):Ext w {w with heap:=U.heap}:=⟨rfl,rfl,rfl,hs,hb⟩
variable {c:Co} {k:Int}
theorem z8f{n:Nat}(hw:(Qc n ls).1=0)(hk:k∈c.Qg):Qw c n ls k=(goS n ⟨⟨c.st,c.now,c.Qd,c.num,c.Qg.erase k⟩,[]⟩,0):=by
 unfold Qw
 rw[if_neg (by simpa using hw),if_neg (by simpa using hk)]
 rfl
theorem q1h(n:Nat)(g:Cg):(g.c.Qg≠[]/\goS n g=g)\/(g.c.Qg=[]/\g.c.st=1/\goS n g=q6v (told n (Zz g.c.now g.c.Qd) (Zd g 2)))\/(g.c.Qg=[]/\g.c.st=2/\goS n g=Zd g 3)\/(g.c.Qg=[]/\g.c.st=4/\goS n g=⟨⟨0,g.c.Qd,pl0,g.c.num,g.c.Qg⟩,g.out⟩)\/(g.c.Qg=[]/\g.c.st≠1/\g.c.st≠2/\g.c.st≠4/\goS n g=g):=by
 unfold goS
 by_cases hw:g.c.Qg=[]
 ·rw[if_neg (by simpa using hw)]
  by_cases h1:g.c.st=1
  ·exact Or.inr (Or.inl ⟨hw,h1,by rw[if_pos h1]⟩)
  ·by_cases h2:g.c.st=2
   ·exact Or.inr (Or.inr (Or.inl ⟨hw,h2,by rw[if_neg h1,if_pos h2]⟩))
   ·by_cases h4:g.c.st=4
    ·exact Or.inr (Or.inr (Or.inr (Or.inl ⟨hw,h4,by rw[if_neg h1,if_neg h2,if_pos h4]⟩)))
    ·exact Or.inr (Or.inr (Or.inr (Or.inr ⟨hw,h1,h2,h4,by rw[if_neg h1,if_neg h2,if_neg h4]⟩)))
 ·exact Or.inl ⟨hw,by rw[if_pos hw]⟩
def PhA (now Qd:Pl) (c:Co):Prop:=c.now=now/\c.Qd=Qd/\((c.st=1\/c.st=2)/\c.Qg≠[]\/c.st=3/\c.Qg=[])
theorem goS_A{n:Nat}(h:g.c.st=1\/g.c.st=2):PhA g.c.now g.c.Qd (goS n g).c:=by
 rcases q1h n g with⟨hw,e⟩ | ⟨hw,h1,e⟩ | ⟨hw,h2,e⟩ | ⟨hw,h4,e⟩ | ⟨hw,n1,n2,n4,e⟩
 ·rw[e];exact⟨rfl,rfl,Or.inl ⟨h,hw⟩⟩
 ·rw[e]
  unfold q6v
  split
  ·rename_i hw';exact⟨rfl,rfl,Or.inl ⟨Or.inr rfl,hw'⟩⟩
  ·rename_i hw'
   refine⟨rfl,rfl,Or.inr ⟨rfl,?_⟩⟩
   show(told n _ _).c.Qg=[]
   simpa using hw'
 ·rw[e];exact⟨rfl,rfl,Or.inr ⟨rfl,hw⟩⟩
 ·omega
 ·omega
structure z8p (c:Co) (n:Int) (ls:List Lk) (fs:List Stf.Fl):Prop where
 hp:(plnF n (nx c.now.v) ls fs).1=0
 fl:full n.toNat c.now ⟨nx c.now.v,fs,Qs n ls fs⟩=false
 eq:Q1 c n ls fs=(goS n.toNat (told n.toNat (addO ⟨nx c.now.v,fs,Qs n ls fs⟩) ⟨⟨1,c.now,⟨nx c.now.v,fs,Qs n ls fs⟩,c.num,c.Qg⟩,[]⟩),0)
theorem ask_cases{n:Int}(h:(Q1 c n ls fs).2=0):z8p c n ls fs:=by
 unfold Q1 at h
 split at h
 ·cases h
 ·rename_i h0
  split at h
  ·rename_i h1;exact absurd h h1
  ·rename_i h1
   split at h
   ·cases h
   ·rename_i h2
    refine⟨by simpa using h1,by simpa using h2,?_⟩
    unfold Q1
    rw[if_neg h0,if_neg h1,if_neg h2]
theorem z8p.A{n:Int}(h:z8p c n ls fs):PhA c.now ⟨nx c.now.v,fs,Qs n ls fs⟩ (Q1 c n ls fs).1.c:=by
 rw[h.eq]
 exact goS_A (n:=n.toNat) (g:=told n.toNat (addO ⟨nx c.now.v,fs,Qs n ls fs⟩) ⟨⟨1,c.now,⟨nx c.now.v,fs,Qs n ls fs⟩,c.num,c.Qg⟩,[]⟩) (Or.inl rfl)
theorem q8q{n:Nat}(hw:(Qc n ls).1=0)(h:c.st=3):Qq c n ls=(goS n (told n (drpO c.now) ⟨⟨4,c.now,c.Qd,c.num,c.Qg⟩,[]⟩),0):=by
 unfold Qq
 rw[if_neg (by simpa using hw),if_neg (by simpa using h)]
 rfl
theorem q3v{ord:Nat->Option Wir.Od}{g:Cg}{x:Nat×Wir.Od}:∀{m:Nat},x∈(told m ord g).out->x∈g.out\/∃o,x.1<m/\ord x.1=some o/\x.2.k=o.k/\x.2.v=o.v/\x.2.rs=o.rs/\x.2.fs=o.fs
 | 0,h=>Or.inl h
 | m+1,h=>by
  cases ho:ord m with
  | none=>
   rw[q1r ho] at h
   rcases q3v h with h | ⟨o,h1,h2⟩
   ·exact Or.inl h
   ·exact Or.inr ⟨o,by omega,h2⟩
  | some o=>
   rw[q1q ho] at h
   rcases List.mem_append.1 h with h | h
   ·rcases q3v h with h | ⟨o,h1,h2⟩
    ·exact Or.inl h
    ·exact Or.inr ⟨o,by omega,h2⟩
   ·rw[List.mem_singleton] at h
    subst h
    exact Or.inr ⟨o,Nat.lt_succ_self m,ho,rfl,rfl,rfl,rfl⟩
variable {o:Wir.Od} {s:Nat} {a b:Pl}
theorem stpO_k(h:Zz a b s=some o):o.k=2:=by
 unfold Zz at h
 split at h
 ·cases h
 ·cases h;rfl
theorem z7p(n:Nat)(g:Cg):(goS n g).out.length<=g.out.length+n:=by
 rcases q1h n g with⟨_,e⟩ | ⟨_,_,e⟩ | ⟨_,_,e⟩ | ⟨_,_,e⟩ | ⟨_,_,_,_,e⟩
 ·rw[e];omega
 ·rw[e]
  have:=(q0t (ord:=Zz g.c.now g.c.Qd) (g:=Zd g 2) n).2
  have hs:(Zd g 2).out=g.out:=rfl
  rw[hs] at this
  unfold q6v
  split
  ·exact this
  ·exact this
 ·rw[e];show g.out.length<=_;omega
 ·rw[e];show g.out.length<=_;omega
 ·rw[e];omega
theorem back_few{n:Nat}(hw:(Qc n ls).1=0)(hn:n<=8)(hk:k∈c.Qg):(Qw c n ls k).1.out.length<=8:=by
 rw[z8f hw hk]
 have:=z7p n ⟨⟨c.st,c.now,c.Qd,c.num,c.Qg.erase k⟩,[]⟩
 simp only[List.length_nil] at this
 exact ltr this (by omega)
theorem z8p.few{n:Int}(h:z8p c n ls fs):(Q1 c n ls fs).1.out.length<=100:=by
 have hg:=q1u h.hp
 have hn:n.toNat<=8:=by have:=hg.n8;omega
 rw[h.eq]
 have h1:=(q0t (ord:=addO ⟨nx c.now.v,fs,Qs n ls fs⟩) (g:=⟨⟨1,c.now,⟨nx c.now.v,fs,Qs n ls fs⟩,c.num,c.Qg⟩,[]⟩) n.toNat).2
 simp only[List.length_nil] at h1
 generalize told n.toNat (addO ⟨nx c.now.v,fs,Qs n ls fs⟩) ⟨⟨1,c.now,⟨nx c.now.v,fs,Qs n ls fs⟩,c.num,c.Qg⟩,[]⟩=g at h1 ⊢
 exact ltr (z7p n.toNat g) (by omega)
def Rgt (n:Nat) (x:Nat×Wir.Od):Prop:=x.1<n/\Wir.Qc ⟨x.2.k,1,x.2.v,x.2.rs,x.2.fs⟩=0/\x.2.rs.length<=16/\x.2.fs.length<=12
theorem Rgt.Qc{n:Nat}{x:Nat×Wir.Od}(h:Rgt n x)(h1:1<=x.2.n)(h2:x.2.n<=100000):Wir.Qc x.2=0:=by
 have h3:=h.2.1
 unfold Wir.Qc at h3 ⊢
 simp only at h3
 by_cases hv:x.2.v<1\/1000<x.2.v
 ·rw[if_pos (by omega)] at h3;cases h3
 ·rw[if_neg (by omega)] at h3 ⊢
  exact h3
structure Gd (n:Nat) (p:Pl):Prop where
 v1:1<=p.v
 v2:p.v<=1000
 pl:p.ps.length<=12
 fl:p.fs.length<=12
 gp:GP n p.ps
theorem beg_few{s:Int}{fs:List Stf.Fl}:∀K,(beg s fs K).length<=K
 | 0=>Ql _
 | K+1=>by
  have:=beg_few (s:=s) (fs:=fs) K
  unfold beg
  rw[lap]
  split <;> simp <;> omega
theorem beg_lt{s:Int}{fs:List Stf.Fl}:∀{K:Nat} {x:Int},x∈beg s fs K->0<=x/\x<K
 | 0,_,h=>by simp[beg] at h
 | K+1,x,h=>by
  unfold beg at h
  rcases List.mem_append.1 h with h | h
  ·have:=beg_lt h;omega
  ·split at h
   ·rw[List.mem_singleton] at h;omega
   ·simp at h
theorem z5t{f:Int}(hf:f<=11):∀{l:List Int} {last:Int},Wir.badF last l=false->last<f->(∀x∈l,x<f)->Wir.badF last (l++[f])=false
 | [],last,_,h2,_=>by
  show Wir.badF last [f]=false
  unfold Wir.badF
  rw[if_neg (by omega)]
  rfl
 | y::r,last,h1,_,h3=>by
  rw[List.cons_append]
  unfold Wir.badF at h1 ⊢
  split at h1
  ·cases h1
  ·rename_i hc
   rw[if_neg hc]
   exact z5t hf h1 (h3 y (by simp)) (fun x hx=>h3 x (by simp[hx]))
theorem z2r{s:Int}{fs:List Stf.Fl}:∀K,K<=12->Wir.badF (-1) (beg s fs K)=false
 | 0,_=>rfl
 | K+1,hK=>by
  have ih:=z2r (s:=s) (fs:=fs) K (by omega)
  unfold beg
  split
  ·exact z5t (by omega) ih (by omega) (fun x hx=>(beg_lt hx).2)
  ·rw[List.append_nil];exact ih
variable {p:Pl}
theorem z5x{n:Nat}(hg:Gd n p)(hn:n<=8)(h:addO p s=some o):Wir.Qc ⟨o.k,1,o.v,o.rs,o.fs⟩=0/\o.rs.length<=16/\o.fs.length<=12:=by
 unfold addO at h
 split at h
 ·cases h
 ·cases h
  have hl:=q7v (v:=p.v) (s:=s) hg.gp p.ps.length (Ql _)
  have h1:=hg.v1
  have h2:=hg.v2
  have h3:=hg.pl
  refine⟨?_,by unfold rls;simp only;omega,by simp⟩
  unfold Wir.Qc
  rw[if_neg (by simp only;omega),if_pos rfl,if_neg (by unfold rls;simp only;omega),if_neg]
  rw[Bool.not_eq_true,List.any_eq_false]
  intro r hr
  obtain⟨i,hi,k,hk,_,rfl⟩:=q6l.1 (show r∈rof p.v s p.ps p.ps.length from hr)
  have hm:=(hg.gp i hi).2.2 ((p.ps.getD i []).getD (k+1) 0) (get_mem hk)
  simp only[Wir.badR,decide_eq_true_eq]
  omega
theorem q7m{n:Nat}(hg:Gd n b)(h:Zz a b s=some o):Wir.Qc ⟨o.k,1,o.v,o.rs,o.fs⟩=0/\o.rs.length<=16/\o.fs.length<=12:=by
 unfold Zz at h
 split at h
 ·cases h
 ·cases h
  have hl:=beg_few (s:=s) (fs:=b.fs) b.fs.length
  have h1:=hg.v1
  have h2:=hg.v2
  have h3:=hg.fl
  refine⟨?_,by simp,by simp only;omega⟩
  unfold Wir.Qc
  rw[if_neg (by simp only;omega),if_neg (by simp),if_pos rfl,if_neg (by simp only;omega),if_neg]
  rw[Bool.not_eq_true]
  exact z2r _ h3
theorem z5c{n:Nat}(hg:p=pl0\/Gd n p)(h:drpO p s=some o):Wir.Qc ⟨o.k,1,o.v,o.rs,o.fs⟩=0/\o.rs.length<=16/\o.fs.length<=12:=by
 unfold drpO at h
 split at h
 ·cases h
 ·rename_i hr
  cases h
  rcases hg with rfl | hg
  ·exact absurd rfl hr
  ·have h1:=hg.v1
   have h2:=hg.v2
   refine⟨?_,by simp,by simp⟩
   unfold Wir.Qc
   rw[if_neg (by simp only;omega),if_neg (by simp),if_neg (by simp),if_pos rfl]
structure Asc (lo:Int) (l:List (Nat×Wir.Od)):Prop where
 asc:(l.map (fun x=>x.2.n)).Pairwise (· <·)
 rng:∀x∈l,lo<x.2.n/\x.2.n<=lo+l.length
theorem Asc.nil(lo:Int):Asc lo []:=⟨List.Pairwise.nil,by simp⟩
theorem Asc.app{lo:Int}{l m:List (Nat×Wir.Od)}(h:Asc lo l)(k:Asc (lo+l.length) m):Asc lo (l++m):=by
 refine⟨?_,fun x hx=>?_⟩
 ·rw[List.map_append]
  refine List.pairwise_append.2 ⟨h.asc,k.asc,fun a ha b hb=>?_⟩
  obtain⟨x,hx,rfl⟩:=List.mem_map.1 ha
  obtain⟨y,hy,rfl⟩:=List.mem_map.1 hb
  have:=(h.rng x hx).2
  have:=(k.rng y hy).1
  omega
 ·rw[lap]
  rcases List.mem_append.1 hx with hx | hx
  ·have:=h.rng x hx;omega
  ·have:=k.rng x hx;omega
def Tld (g g':Cg):Prop:=∃L,g'.out=g.out++L/\g'.c.num=g.c.num+L.length/\Asc g.c.num L
theorem Tld.refl(g:Cg):Tld g g:=⟨[],by simp,by simp,Asc.nil _⟩
theorem q6y{ord:Nat->Option Wir.Od}{g:Cg}(h0:0<=g.c.num)(h1:g.c.num<=90000):∀m,m<=8->∃L:List (Nat×Wir.Od),L.length<=m/\(told m ord g).out=g.out++L/\(told m ord g).c.num=g.c.num+L.length/\Asc g.c.num L
 | 0,_=>⟨[],Ql _,by simp[told,tel],by simp[told,tel],Asc.nil _⟩
 | m+1,hm=>by
  obtain⟨L,l1,l2,l3,l4⟩:=q6y (ord:=ord) (g:=g) h0 h1 m (by omega)
  cases ho:ord m with
  | none=>rw[q1r ho];exact⟨L,by omega,l2,l3,l4⟩
  | some o=>
   rw[q1q ho]
   have hn:nx (told m ord g).c.num=g.c.num+(L.length+1:Nat):=by unfold nx;rw[l3,IntKind.wrap_i64];omega
   refine⟨L++[(m,⟨o.k,nx (told m ord g).c.num,o.v,o.rs,o.fs⟩)],by simp;omega,?_,?_,l4.app ⟨by simp,fun x hx=>?_⟩⟩
   ·simp only[l2,List.append_assoc]
   ·simp only[hn,lap,List.length_cons,List.length_nil]
   ·rw[List.mem_singleton] at hx
    subst hx
    simp only[hn,List.length_cons,List.length_nil]
    omega
theorem goS_tld{n:Nat}(hn:n<=8)(h0:0<=g.c.num)(h1:g.c.num<=90000):Tld g (goS n g):=by
 rcases q1h n g with⟨_,e⟩ | ⟨_,_,e⟩ | ⟨_,_,e⟩ | ⟨_,_,e⟩ | ⟨_,_,_,_,e⟩
 ·rw[e];exact Tld.refl g
 ·rw[e]
  obtain⟨L,_,l2,l3,l4⟩:=q6y (ord:=Zz g.c.now g.c.Qd) (g:=Zd g 2) h0 h1 n hn
  unfold q6v
  split
  ·exact⟨L,l2,l3,l4⟩
  ·exact⟨L,l2,l3,l4⟩
 ·rw[e];exact⟨[],by simp[Zd],by simp[Zd],Asc.nil _⟩
 ·rw[e];exact⟨[],by simp,by simp,Asc.nil _⟩
 ·rw[e];exact Tld.refl g
variable {x:Nat×Wir.Od}
theorem goS_mem{n:Nat}(h:x∈(goS n g).out):x∈g.out\/∃o,x.1<n/\Zz g.c.now g.c.Qd x.1=some o/\x.2.k=o.k/\x.2.v=o.v/\x.2.rs=o.rs/\x.2.fs=o.fs:=by
 rcases q1h n g with⟨_,e⟩ | ⟨_,_,e⟩ | ⟨_,_,e⟩ | ⟨_,_,e⟩ | ⟨_,_,_,_,e⟩
 ·rw[e] at h;exact Or.inl h
 ·rw[e] at h
  unfold q6v at h
  split at h
  ·exact q3v (g:=Zd g 2) h
  ·exact q3v (g:=Zd g 2) h
 ·rw[e] at h;exact Or.inl h
 ·rw[e] at h;exact Or.inl h
 ·rw[e] at h;exact Or.inl h
theorem rgt_of{n:Nat}(h1:x.1<n)(hk:x.2.k=o.k)(hv:x.2.v=o.v)(hr:x.2.rs=o.rs)(hf:x.2.fs=o.fs)(h:Wir.Qc ⟨o.k,1,o.v,o.rs,o.fs⟩=0/\o.rs.length<=16/\o.fs.length<=12):Rgt n x:=⟨h1,by rw[hk,hv,hr,hf];exact h⟩
structure Told (n:Nat) (lo hi:Int) (l:List (Nat×Wir.Od)):Prop where
 hi:hi=lo+l.length
 asc:Asc lo l
 ok:∀x∈l,Rgt n x
theorem z8p.told{c:Co}{n:Nat}{ls:List Lk}{fs:List Stf.Fl}(h:z8p c n ls fs)(h0:0<=c.num)(h1:c.num<=80000):Told n c.num (Q1 c n ls fs).1.c.num (Q1 c n ls fs).1.out:=by
 have hg:=q1u h.hp
 have hn:n<=8:=by have:=hg.n8;omega
 have hG:Gd n ⟨nx c.now.v,fs,Qs n ls fs⟩:=⟨hg.v1,hg.v2,by show(Qs n ls fs).length<=12;rw[hg.len];exact hg.few,hg.few,hg.gp⟩
 rw[h.eq,show(n:Int).toNat=n from rfl]
 obtain⟨L,l1,l2,l3,l4⟩:=q6y (ord:=addO ⟨nx c.now.v,fs,Qs n ls fs⟩) (g:=⟨⟨1,c.now,⟨nx c.now.v,fs,Qs n ls fs⟩,c.num,c.Qg⟩,[]⟩) h0 (by simp only;omega) n hn
 have hmem:∀x∈(Ct.told n (addO ⟨nx c.now.v,fs,Qs n ls fs⟩) ⟨⟨1,c.now,⟨nx c.now.v,fs,Qs n ls fs⟩,c.num,c.Qg⟩,[]⟩).out,Rgt n x:=fun x hx=>by
  rcases q3v hx with hx | ⟨o,k1,k2,k3,k4,k5,k6⟩
  ·simp at hx
  ·exact rgt_of k1 k3 k4 k5 k6 (z5x hG hn k2)
 have hnow:(Ct.told n (addO ⟨nx c.now.v,fs,Qs n ls fs⟩) ⟨⟨1,c.now,⟨nx c.now.v,fs,Qs n ls fs⟩,c.num,c.Qg⟩,[]⟩).c.Qd=⟨nx c.now.v,fs,Qs n ls fs⟩:=rfl
 generalize Ct.told n (addO ⟨nx c.now.v,fs,Qs n ls fs⟩) ⟨⟨1,c.now,⟨nx c.now.v,fs,Qs n ls fs⟩,c.num,c.Qg⟩,[]⟩=g at l2 l3 hmem hnow ⊢
 simp only[List.nil_append] at l2 l3 l4
 obtain⟨M,m1,m2,m3⟩:=goS_tld (n:=n) (g:=g) hn (by omega) (by omega)
 rw[l3] at m3
 refine⟨?_,?_,fun x hx=>?_⟩
 ·show(goS n g).c.num=_+((goS n g).out.length:Int)
  rw[m2,m1,l3,l2,lap];omega
 ·show Asc c.num (goS n g).out
  rw[m1,l2];exact l4.app m3
 ·rcases goS_mem (show x∈(goS n g).out from hx) with hx | ⟨o,k1,k2,k3,k4,k5,k6⟩
  ·exact hmem x hx
  ·rw[hnow] at k2
   exact rgt_of k1 k3 k4 k5 k6 (q7m hG k2)
theorem back_told{n:Nat}(hw:(Qc n ls).1=0)(hn:n<=8)(hk:k∈c.Qg)(hg:c.st=1->Gd n c.Qd)(h0:0<=c.num)(h1:c.num<=90000):Told n c.num (Qw c n ls k).1.c.num (Qw c n ls k).1.out:=by
 rw[z8f hw hk]
 have hx:∀x∈(goS n ⟨⟨c.st,c.now,c.Qd,c.num,c.Qg.erase k⟩,[]⟩).out,Rgt n x:=fun x hx=>by
  rcases q1h n ⟨⟨c.st,c.now,c.Qd,c.num,c.Qg.erase k⟩,[]⟩ with⟨_,e⟩ | ⟨_,h1,e⟩ | ⟨_,_,e⟩ | ⟨_,_,e⟩ | ⟨_,_,_,_,e⟩
  ·rw[e] at hx;simp at hx
  ·rcases goS_mem hx with hx | ⟨o,k1,k2,k3,k4,k5,k6⟩
   ·simp at hx
   ·exact rgt_of k1 k3 k4 k5 k6 (q7m (hg h1) k2)
  ·rw[e] at hx;simp[Zd] at hx
  ·rw[e] at hx;simp at hx
  ·rw[e] at hx;simp at hx
 obtain⟨M,m1,m2,m3⟩:=goS_tld (n:=n) (g:=⟨⟨c.st,c.now,c.Qd,c.num,c.Qg.erase k⟩,[]⟩) hn h0 h1
 simp only[List.nil_append] at m1 m2 m3
 refine⟨?_,?_,hx⟩
 ·show(goS n _).c.num=_+((goS n _).out.length:Int)
  rw[m2,m1]
 ·show Asc c.num (goS n _).out
  rw[m1];exact m3
theorem drop_told{n:Nat}(hw:(Qc n ls).1=0)(hn:n<=8)(hs:c.st=3)(hg:c.now=pl0\/Gd n c.now)(h0:0<=c.num)(h1:c.num<=80000):Told n c.num (Qq c n ls).1.c.num (Qq c n ls).1.out:=by
 rw[q8q hw hs]
 obtain⟨L,l1,l2,l3,l4⟩:=q6y (ord:=drpO c.now) (g:=⟨⟨4,c.now,c.Qd,c.num,c.Qg⟩,[]⟩) h0 (by simp only;omega) n hn
 have hmem:∀x∈(Ct.told n (drpO c.now) ⟨⟨4,c.now,c.Qd,c.num,c.Qg⟩,[]⟩).out,Rgt n x:=fun x hx=>by
  rcases q3v hx with hx | ⟨o,k1,k2,k3,k4,k5,k6⟩
  ·simp at hx
  ·exact rgt_of k1 k3 k4 k5 k6 (z5c hg k2)
 have hst:(Ct.told n (drpO c.now) ⟨⟨4,c.now,c.Qd,c.num,c.Qg⟩,[]⟩).c.st=4:=rfl
 generalize Ct.told n (drpO c.now) ⟨⟨4,c.now,c.Qd,c.num,c.Qg⟩,[]⟩=g at l2 l3 hmem hst ⊢
 simp only[List.nil_append] at l2 l3 l4
 have hgo:(goS n g).out=g.out/\(goS n g).c.num=g.c.num:=by
  rcases q1h n g with⟨_,e⟩ | ⟨_,h1,e⟩ | ⟨_,h2,e⟩ | ⟨_,_,e⟩ | ⟨_,_,_,_,e⟩
  ·rw[e];exact⟨rfl,rfl⟩
  ·omega
  ·omega
  ·rw[e];exact⟨rfl,rfl⟩
  ·rw[e];exact⟨rfl,rfl⟩
 refine⟨?_,?_,fun x hx=>?_⟩
 ·show(goS n g).c.num=_+((goS n g).out.length:Int)
  rw[hgo.1,hgo.2,l3,l2]
 ·show Asc c.num (goS n g).out
  rw[hgo.1,l2];exact l4
 ·have hx':x∈(goS n g).out:=hx
  rw[hgo.1] at hx'
  exact hmem x hx'
theorem drop_few{n:Nat}(hw:(Qc n ls).1=0)(hn:n<=8)(hs:c.st=3):(Qq c n ls).1.out.length<=16:=by
 rw[q8q hw hs]
 have h1:=(q0t (ord:=drpO c.now) (g:=⟨⟨4,c.now,c.Qd,c.num,c.Qg⟩,[]⟩) n).2
 simp only[List.length_nil] at h1
 exact ltr (z7p n _) (by omega)
end Ct
end Go.Proofs.YthkpbefnkmmaiaaGreat
