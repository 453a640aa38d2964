/- Stamps come behind all rules, in words. -/
import Derived.Test.YtolclgbpjiokfaaU15
import Derived.Test.YtolclgbpjiokfaaU16
import Derived.Test.YtolclgbpjiokfaaU17
namespace Go.Proofs.Ytolclgbpjiokfaa.Ct
open Go.RowKit Go.Deep Stw Stp Tb Rul
theorem sum8:∀(ps:List (List Int)),(∀p∈ps,p.length≤8)→(ps.map List.length).sum≤8*ps.length
 | [],_=>by simp
 | p::r,h=>by
  have h1:=h p (by simp)
  have h2:=sum8 r (fun q hq=>h q (by simp[hq]))
  simp only[List.map_cons,List.sum_cons,List.length_cons]
  omega
theorem plan_ok {n version:Int} {ls:List Lk} {fs:List Stf.Fl} (h:(plnF n version ls fs).1=0):PlOk ⟨version,fs,plnP n ls fs⟩:=by
 have g:=plan_good h
 have hw:(Stw.wrong n ls).1=0:=by
  by_cases e:(Stw.wrong n ls).1=0
  ·exact e
  ·rw[plnF_wrong e] at h;exact absurd h e
 have hv:¬(version<1∨1000<version):=fun e=>by have:=g.v1;have:=g.v2;omega
 have hf:(Stf.wflows fs n).1=0:=by
  by_cases e:(Stf.wflows fs n).1=0
  ·exact e
  ·rw[plnF_flows hw hv e] at h;exact absurd h e
 have hbd:=(right_of hw).bounds
 refine⟨Nat.le_trans g.few (by decide),fun f hm=>?_,?_,?_⟩
 ·obtain⟨k,hk,e⟩:=List.mem_iff_getElem.1 hm
  have h0:=wflows_all hf k hk
  rw[show fs.getD k Fw.f0=f by simp[List.getD_eq_getElem?_getD,hk,e]] at h0
  have hF:=rightF_of h0
  have h1:=rng_len 8 f.via hF.vnd (fun x hx=>by have:=hF.via x hx;omega)
  have h2:=rng_len 8 f.nt hF.nnd (fun x hx=>by have:=hF.nt x hx;omega)
  omega
 ·show(plnP n ls fs).length≤_
  rw[g.len];exact Nat.le_trans g.few (by decide)
 ·show((plnP n ls fs).map List.length).sum≤_
  have h1:=sum8 (plnP n ls fs) (fun p hp=>by
   obtain⟨k,hk,e⟩:=List.mem_iff_getElem.1 hp
   have:=g.short k
   rwa [show(plnP n ls fs).getD k []=p by simp[List.getD_eq_getElem?_getD,hk,e]] at this)
  rw[g.len] at h1
  have:=g.few
  omega
theorem CSt.monoB {B B':Nat} {X:Nat→Prop} {P n:Nat} {w0 w:World} {g:Cg} {a:CA} {wv tv:Value} {TV:List Value} (h:CSt B X P w0 w g a n wv tv TV) (hB:B'≤B):CSt B' X P w0 w g a n wv tv TV:=
 ⟨h.row,h.ownW,h.ownT,h.wP,h.apart,h.lt,h.bel,h.hP,Nat.le_trans hB h.hB,fun V hs hb=>h.hn V hs (fun b h1 h2=>hb b (Nat.le_trans hB h1) h2),fun V hs hb=>h.hx V hs (fun b h1 h2=>hb b (Nat.le_trans hB h1) h2)⟩
set_option maxRecDepth 100000 in
set_option maxHeartbeats 4000000 in
theorem Ask_any (c:Co) (a:CA) (n:Int) (ao:Option Addr) (len cap:Nat) (ls:List Lk) (lo:Option Addr) (ll lc:Nat) (fs:List Stf.Fl) (w:World) (h:CoAt w c a) (hok:CoOk c) (hlen:ls.length=len) (hl:NetAt w ao ls) (hx:len≤9223372036854775807) (hI:I64 n)
 (hll:fs.length=ll) (hf:Fw.FlowsAt w lo fs) (hS:Fw.Sm fs) (hlx:ll≤9223372036854775807):
 Calls Try.prog 65 #[cvl c a,.agg #[.int .i64 n,.slice ao len cap],.slice lo ll lc] w fun e w'=>GoOut w.heap.size w (askS c n ls fs).1 (askS c n ls fs).2 e w':=by
 subst hll
 have HA:=hidp (Aw_ab w c a n (.slice ao len cap))
 have hE0:=Aw_ext w c a n (.slice ao len cap)
 unfold cvl
 by_cases h0:c.st=0
 ·have HD0:Hid (askS c n ls fs=if(plnF n (nx c.now.v) ls fs).1≠0 then(⟨co0,[]⟩,(plnF n (nx c.now.v) ls fs).1) else if full n.toNat c.now ⟨nx c.now.v,fs,plnP n ls fs⟩=true then(⟨co0,[]⟩,10) else(goS n.toNat (told n.toNat (addO ⟨nx c.now.v,fs,plnP n ls fs⟩) ⟨⟨1,c.now,⟨nx c.now.v,fs,plnP n ls fs⟩,c.num,c.wts⟩,[]⟩),0)):=by
   show _=_
   unfold askS
   rw[if_neg (by simpa using h0)]
  have HH0:=hidp h0
  obtain⟨v,hv⟩:∃v,nx c.now.v=v:=⟨_,rfl⟩
  rw[hv] at HD0
  have hv':IntKind.i64.wrap (c.now.v+1)=v:=hv
  clear hv
  have HB0:=hidp HA.out.box
  go_enter Try.func65,Try.ntmps65
  rw[h0]
  go_wp2_with fail
  unfold Aw at HA hE0
  rw[h0] at HA hE0
  obtain⟨W1,hW1⟩:∃W1,W1=((w.alloc (.cells #[.int .i64 0,.int .i64 c.now.v,.slice a.n.fo c.now.fs.length a.n.fc,.slice a.n.qo c.now.ps.length a.n.qc,.int .i64 c.nxt.v,.slice a.x.fo c.nxt.fs.length a.x.fc,.slice a.x.qo c.nxt.ps.length a.x.qc,.int .i64 c.num,.slice a.wo c.wts.length a.wc] 33)).alloc (.cells #[.int .i64 n,.slice ao len cap] 24)).alloc (.cells #[.int .i64 0,.int .i64 0,.slice none 0 0,.slice none 0 0,.int .i64 0,.slice none 0 0,.slice none 0 0,.int .i64 0,.slice none 0 0] 33):=⟨_,rfl⟩
  rw[←hW1] at HA hE0 ⊢
  clear hW1 HB0
  refine Calls.mono (Plan_new n v ao len cap ls lo fs.length lc fs W1 hlen (hl.ext hE0) hx hI rfl (hf.ext hE0) hS hlx) ?_
  rintro e w2 ⟨pv,fo,fl,fc,qo,ql,qc,rfl,E2,hP⟩
  have hlA:=HA.out.lt
  have hE2:=hE0.trans E2
  have HA2:=hidp (HA.out.ext E2)
  have hl2:=HA2.out.lt
  have hl20:w.heap.size<w2.heap.size:=by omega
  have hl21:w.heap.size+1<w2.heap.size:=by omega
  by_cases hp0:(plnF n v ls fs).1=0
  ·rcases hP with hP | ⟨_,e1,e2,e3,hU⟩
   ·exact absurd hp0 hP.1
   obtain rfl:=e1.symm
   obtain rfl:=e2.symm
   obtain rfl:=e3.symm
   clear e1 e2 e3
   have hgd:=plan_good hp0
   have HOK:=hidp (plan_ok hp0)
   obtain⟨nn,rfl⟩:=Int.eq_ofNat_of_zero_le hgd.n0
   have hn8:nn≤8:=by have:=hgd.n8;omega
   have HPN:Hid (PlNew W1.heap.size w2 ⟨v,fs,plnP nn ls fs⟩ ⟨fo,qo,fc,qc⟩):=fun U hs hb=>⟨(hU U hs hb).1,(hU U hs hb).2⟩
   have HP0:=hidp hp0
   rw[hp0]
   clear hU hgd hp0
   obtain⟨y,hy⟩:∃y,(plnF nn v ls fs).2=y:=⟨_,rfl⟩
   rw[hy]
   clear hy
   obtain⟨V2,hV2⟩:∃V2,V2=(w2.alloc (.cells #[.int .i64 v,.slice fo fs.length fc,.slice qo (plnP nn ls fs).length qc] 30)).alloc (.cells #[.int .i64 0,.int .i64 y] 44):=⟨_,rfl⟩
   have E2':Ext w2 V2:=by rw[hV2];exact((Ext.refl w2).alloc _).alloc _
   have HPB:Hid (∀U,Ext V2 U→U.cell? ⟨w2.heap.size,0,none⟩=some (.int .i64 v)∧U.cell? ⟨w2.heap.size,1,none⟩=some (.slice fo fs.length fc)∧U.cell? ⟨w2.heap.size,2,none⟩=some (.slice qo (plnP nn ls fs).length qc)∧w2.heap.size<U.heap.size):=fun U hU=>by
    have l0:w2.heap.size<V2.heap.size:=by rw[hV2];simp;omega
    refine⟨(hU.cells.1 _ _ l0).trans (by rw[hV2];simp),(hU.cells.1 _ _ l0).trans (by rw[hV2];simp),(hU.cells.1 _ _ l0).trans (by rw[hV2];simp),Nat.lt_of_lt_of_le l0 hU.size⟩
   have HRM:=hidp (haveRoom_any c.now ⟨v,fs,plnP nn ls fs⟩ a.n ⟨fo,qo,fc,qc⟩ nn V2 (h.hn.ext (hE2.trans E2')) (HPN.out.at.ext E2') hok.n HOK.out hn8)
   unfold pvl at HRM
   simp only at HRM
   have c1:w2.cell? ⟨w.heap.size,1,none⟩=some (.int .i64 c.now.v):=World.rowIs.cell HA2.out.box (i:=1) (by omega)
   have c2:w2.cell? ⟨w.heap.size,2,none⟩=some (.slice a.n.fo c.now.fs.length a.n.fc):=World.rowIs.cell HA2.out.box (i:=2) (by omega)
   have c3:w2.cell? ⟨w.heap.size,3,none⟩=some (.slice a.n.qo c.now.ps.length a.n.qc):=World.rowIs.cell HA2.out.box (i:=3) (by omega)
   have n0:=HA2.out.n0
   go_wp2_with fail
   rw[←hV2]
   clear c1 c2 c3 n0 hV2
   refine Calls.mono HRM.out ?_
   rintro e w3 ⟨rfl,E3'⟩
   have E3:Ext w2 w3:=E2'.trans E3'
   have HA3:=hidp (HA2.out.ext E3)
   have hl3:=HA3.out.lt
   have hl30:w.heap.size<w3.heap.size:=by omega
   have hl31:w.heap.size+1<w3.heap.size:=by omega
   clear HRM
   cases hfu:full nn c.now ⟨v,fs,plnP nn ls fs⟩ with
   | true=>
    have HD:Hid (askS c nn ls fs=(⟨co0,[]⟩,10)):=by
     show _=_
     rw[HD0.out,if_neg (by simpa using HP0.out),show(nn:Int).toNat=nn from rfl,if_pos hfu]
    clear hfu
    go_wp2_with fail
    refine Calls.mono (refused_any 10 _) ?_
    rintro e w9 ⟨he,E9⟩
    have he':e=.returned (.tuple #[.agg #[.int .i64 0,.int .i64 0,.slice none 0 0,.slice none 0 0,.int .i64 0,.slice none 0 0,.slice none 0 0,.int .i64 0,.slice none 0 0],.slice none 0 0,.int .i64 10]):=he
    subst he'
    clear he
    have E9':Ext W1 w9:=E2.trans (E3.trans E9)
    have HA9:=hidp (HA.out.ext E9')
    obtain⟨r0,r1,r2,r3,r4,r5,r6,r7,r8⟩:=HA9.out.zeros
    have z:=box_frozen HA9.out.ans
    have z0:=z 0
    have z1:=z 1
    have z2:=z 2
    have z3:=z 3
    have z4:=z 4
    have z5:=z 5
    have z6:=z 6
    have z7:=z 7
    have z8:=z 8
    have hl9:=HA9.out.lt
    clear z
    go_wp2
    refine bodyPost_ret (v:=.tuple #[.agg #[.int .i64 0,.int .i64 0,.slice none 0 0,.slice none 0 0,.int .i64 0,.slice none 0 0,.slice none 0 0,.int .i64 0,.slice none 0 0],.slice none 0 0,.int .i64 10]) (by simp[results,Try.results65,go_sem,r0,r1,r2,r3,r4,r5,r6,r7,r8]) rfl ?_
    rw[HD.out]
    exact go_none (by omega) (hE0.trans E9') _ _ _ _ _ _ _ _ _
   | false=>
    have HD:Hid (askS c nn ls fs=(goS nn (told nn (addO ⟨v,fs,plnP nn ls fs⟩) ⟨⟨1,c.now,⟨v,fs,plnP nn ls fs⟩,c.num,c.wts⟩,[]⟩),0)):=by
     show _=_
     rw[HD0.out,if_neg (by simpa using HP0.out),show(nn:Int).toNat=nn from rfl,if_neg (by simp[hfu])]
    clear hfu
    have HCH:=hidp (changeOf_any c a nn ao len cap w3 (h.ext (hE2.trans E3)) hok)
    have c0:w3.cell? ⟨w.heap.size,0,none⟩=some (.int .i64 0):=by rw[←HH0.out];exact World.rowIs.cell HA3.out.box (i:=0) (by omega)
    have c1:w3.cell? ⟨w.heap.size,1,none⟩=some (.int .i64 c.now.v):=World.rowIs.cell HA3.out.box (i:=1) (by omega)
    have c2:w3.cell? ⟨w.heap.size,2,none⟩=some (.slice a.n.fo c.now.fs.length a.n.fc):=World.rowIs.cell HA3.out.box (i:=2) (by omega)
    have c3:w3.cell? ⟨w.heap.size,3,none⟩=some (.slice a.n.qo c.now.ps.length a.n.qc):=World.rowIs.cell HA3.out.box (i:=3) (by omega)
    have c4:w3.cell? ⟨w.heap.size,4,none⟩=some (.int .i64 c.nxt.v):=World.rowIs.cell HA3.out.box (i:=4) (by omega)
    have c5:w3.cell? ⟨w.heap.size,5,none⟩=some (.slice a.x.fo c.nxt.fs.length a.x.fc):=World.rowIs.cell HA3.out.box (i:=5) (by omega)
    have c6:w3.cell? ⟨w.heap.size,6,none⟩=some (.slice a.x.qo c.nxt.ps.length a.x.qc):=World.rowIs.cell HA3.out.box (i:=6) (by omega)
    have c7:w3.cell? ⟨w.heap.size,7,none⟩=some (.int .i64 c.num):=World.rowIs.cell HA3.out.box (i:=7) (by omega)
    have c8:w3.cell? ⟨w.heap.size,8,none⟩=some (.slice a.wo c.wts.length a.wc):=World.rowIs.cell HA3.out.box (i:=8) (by omega)
    have n0:=HA3.out.n0
    have n1:=HA3.out.n1
    unfold cvl at HCH
    rw[h0] at HCH
    go_wp2_with fail
    clear c0 c1 c2 c3 c4 c5 c6 c7 c8 n0 n1
    refine Calls.mono HCH.out ?_
    rintro e w4 ⟨P,w0,a3,wv,rfl,hC3,E0⟩
    have HC3:=hidp (hC3.monoB (show W1.heap.size≤w3.heap.size from Nat.le_trans E2.size E3.size))
    have hPl:=hC3.row.lt
    have s0:w4.cell? ⟨P,0,none⟩=some (.int .i64 c.st):=hC3.row.cell (i:=0) (by omega)
    have s4:w4.cell? ⟨P,4,none⟩=some (.int .i64 c.nxt.v):=hC3.row.cell (i:=4) (by omega)
    have s5:w4.cell? ⟨P,5,none⟩=some (.slice a3.x.fo c.nxt.fs.length a3.x.fc):=hC3.row.cell (i:=5) (by omega)
    have s6:w4.cell? ⟨P,6,none⟩=some (.slice a3.x.qo c.nxt.ps.length a3.x.qc):=hC3.row.cell (i:=6) (by omega)
    have z0:=hC3.row.frozen 0
    have z4:=hC3.row.frozen 4
    have z5:=hC3.row.frozen 5
    have z6:=hC3.row.frozen 6
    have HE0:=hidp (E3.trans E0)
    have hE34:Ext w3 w4:=E0.trans hC3.bel
    obtain⟨b0,b1,b2,bl⟩:=HPB.out w4 (E3'.trans hE34)
    have HPne:Hid (w2.heap.size≠P):=fun e=>by have:=hC3.hP;have:=E0.size;have:=(HPB.out w3 E3').2.2.2;omega
    have hPne:=HPne.out
    clear hC3 HCH
    go_upto_region 11 with fail
    obtain⟨w5,hw5⟩:∃w5,w5=(((w4.setCell ⟨P,4,none⟩ (.int .i64 v)).setCell ⟨P,5,none⟩ (.slice fo fs.length fc)).setCell ⟨P,6,none⟩ (.slice qo (plnP nn ls fs).length qc)).setCell ⟨P,0,none⟩ (.int .i64 1):=⟨_,rfl⟩
    have HC5:Hid (CSt W1.heap.size (fun _=>True) P w0 w5 ⟨⟨1,c.now,⟨v,fs,plnP nn ls fs⟩,c.num,c.wts⟩,[]⟩ ⟨a3.n,⟨fo,qo,fc,qc⟩,a3.wo,a3.wc⟩ nn wv (.slice none 0 0) []):=by
     have k:=HC3.out
     have hp:=k.hP
     rw[hw5]
     refine k.redo ?_ (fun b hb=>?_) (by simp) ?_ rfl rfl k.hn (HPN.out.ext HE0.out)
     ·exact rowL_set (rowL_set (rowL_set (rowL_set k.row (i:=4) (by simp[chL]) _) (i:=5) (by simp[chL]) _) (i:=6) (by simp[chL]) _) (i:=0) (by simp[chL]) _
     ·rw[blk_setCell_other _ _ _ _ hb,blk_setCell_other _ _ _ _ hb,blk_setCell_other _ _ _ _ hb,blk_setCell_other _ _ _ _ hb]
     ·exact(((k.bel.setCell (by simpa using hp) _).setCell (by simpa using hp) _).setCell (by simpa using hp) _).setCell (by simpa using hp) _
    rw[←hw5]
    clear hw5 HC3 s0 s4 s5 s6 z0 z4 z5 z6 b0 b1 b2 bl hPl hE34
    have E5:Ext w2 w5:=HE0.out.trans HC5.out.bel
    have HA5:=hidp (HA2.out.ext E5)
    obtain⟨b0,b1,b2,bl⟩:=HPB.out w5 (E3'.trans (E0.trans HC5.out.bel))
    have n0:=HA5.out.n0
    have HAD:=hidp (adding_any ⟨v,fs,plnP nn ls fs⟩ ⟨fo,qo,fc,qc⟩ nn w0 w5 (HPN.out.at.ext E5) HOK.out hn8)
    unfold pvl at HAD
    simp only at HAD
    go_wp2_with fail
    refine Calls.mono HAD.out ?_
    rintro e w6 ⟨p1,p2,rfl,E6,HST⟩
    clear b0 b1 b2 bl n0 HAD
    go_wp2_with fail
    refine Calls.mono (tell_any W1.heap.size (fun _=>True) 95 p1 p2 P nn (addO ⟨v,fs,plnP nn ls fs⟩) w0 w6 _ _ wv (.slice none 0 0) [] (HC5.out.ext E6) (Or.inl rfl) (fun _ _=>trivial) hn8 (Nat.le_trans hok.w (by decide)) (by simp) (step_tell HC5.out (fun _ _=>trivial) HST)) ?_
    rintro e w7 ⟨rfl,wv7,tv7,TV7,hC7,hK7⟩
    have HC7:=hidp hC7
    clear hC7 hK7 HST
    have HL7:=hidp (told_len (ord:=addO ⟨v,fs,plnP nn ls fs⟩) (g:=⟨⟨1,c.now,⟨v,fs,plnP nn ls fs⟩,c.num,c.wts⟩,[]⟩) nn)
    go_wp2_with fail
    refine Calls.mono (goOn_any W1.heap.size P nn w0 w7 _ _ wv7 tv7 TV7 HC7.out hn8 hok.n HOK.out (by have h1:=HL7.out.1;have h2:=hok.w;exact Nat.le_trans h1 (by show c.wts.length+nn≤_;omega)) (by have:=HL7.out.2;simp only[List.length_nil] at this;omega)) ?_
    intro e w9 hG
    obtain⟨k0,k1,o2,l2,q2,o3,l3,q3,k4,o5,l5,q5,o6,l6,q6,k7,o8,l8,q8,tO,l9,tc,rfl,E9,HF⟩:=hG.letters
    clear hG
    have HA9:=hidp (HA2.out.ext (HE0.out.trans E9))
    obtain⟨r0,r1,r2,r3,r4,r5,r6,r7,r8⟩:=HA9.out.zeros
    have z:=box_frozen HA9.out.ans
    have z0:=z 0
    have z1:=z 1
    have z2:=z 2
    have z3:=z 3
    have z4:=z 4
    have z5:=z 5
    have z6:=z 6
    have z7:=z 7
    have z8:=z 8
    have hl9:=HA9.out.lt
    clear z
    go_wp2
    refine bodyPost_ret (v:=.tuple #[.agg #[.int .i64 k0,.int .i64 k1,.slice o2 l2 q2,.slice o3 l3 q3,.int .i64 k4,.slice o5 l5 q5,.slice o6 l6 q6,.int .i64 k7,.slice o8 l8 q8],.slice tO l9 tc,.int .i64 0]) (by simp[results,Try.results65,go_sem,r0,r1,r2,r3,r4,r5,r6,r7,r8]) rfl ?_
    rw[HD.out]
    exact go_fin HF.out hlA (by omega) (hE2.trans (HE0.out.trans E9)) _ _ _ _ _ _ _ _ _
  ·have HD:Hid (askS c n ls fs=(⟨co0,[]⟩,(plnF n v ls fs).1)):=by
    show _=_
    rw[HD0.out,if_pos hp0]
   have b0:((plnF n v ls fs).1 != 0)=true:=by simpa using hp0
   clear hp0 hP
   go_wp2_with fail
   refine Calls.mono (refused_any (plnF n v ls fs).1 _) ?_
   rintro e w9 ⟨he,E9⟩
   have he':e=.returned (.tuple #[.agg #[.int .i64 0,.int .i64 0,.slice none 0 0,.slice none 0 0,.int .i64 0,.slice none 0 0,.slice none 0 0,.int .i64 0,.slice none 0 0],.slice none 0 0,.int .i64 (plnF n v ls fs).1]):=he
   subst he'
   clear he
   have E9':Ext W1 w9:=E2.trans ((((Ext.refl w2).alloc _).alloc _).trans E9)
   have HA9:=hidp (HA.out.ext E9')
   obtain⟨r0,r1,r2,r3,r4,r5,r6,r7,r8⟩:=HA9.out.zeros
   have z:=box_frozen HA9.out.ans
   have z0:=z 0
   have z1:=z 1
   have z2:=z 2
   have z3:=z 3
   have z4:=z 4
   have z5:=z 5
   have z6:=z 6
   have z7:=z 7
   have z8:=z 8
   have hl9:=HA9.out.lt
   clear z
   go_wp2
   refine bodyPost_ret (v:=.tuple #[.agg #[.int .i64 0,.int .i64 0,.slice none 0 0,.slice none 0 0,.int .i64 0,.slice none 0 0,.slice none 0 0,.int .i64 0,.slice none 0 0],.slice none 0 0,.int .i64 (plnF n v ls fs).1]) (by simp[results,Try.results65,go_sem,r0,r1,r2,r3,r4,r5,r6,r7,r8]) rfl ?_
   rw[HD.out]
   exact go_none (by omega) (hE0.trans E9') _ _ _ _ _ _ _ _ _
 ·have HD:Hid (askS c n ls fs=(⟨co0,[]⟩,11)):=by
   show _=_
   unfold askS
   rw[if_pos h0]
  have b0:(c.st != 0)=true:=by simpa using h0
  clear h0
  go_enter Try.func65,Try.ntmps65
  go_wp2_with fail
  unfold Aw at HA hE0
  obtain⟨W1,hW1⟩:∃W1,W1=((w.alloc (.cells #[.int .i64 c.st,.int .i64 c.now.v,.slice a.n.fo c.now.fs.length a.n.fc,.slice a.n.qo c.now.ps.length a.n.qc,.int .i64 c.nxt.v,.slice a.x.fo c.nxt.fs.length a.x.fc,.slice a.x.qo c.nxt.ps.length a.x.qc,.int .i64 c.num,.slice a.wo c.wts.length a.wc] 33)).alloc (.cells #[.int .i64 n,.slice ao len cap] 24)).alloc (.cells #[.int .i64 0,.int .i64 0,.slice none 0 0,.slice none 0 0,.int .i64 0,.slice none 0 0,.slice none 0 0,.int .i64 0,.slice none 0 0] 33):=⟨_,rfl⟩
  rw[←hW1] at HA hE0 ⊢
  clear hW1
  refine Calls.mono (refused_any 11 _) ?_
  rintro e w9 ⟨he,E9⟩
  have he':e=.returned (.tuple #[.agg #[.int .i64 0,.int .i64 0,.slice none 0 0,.slice none 0 0,.int .i64 0,.slice none 0 0,.slice none 0 0,.int .i64 0,.slice none 0 0],.slice none 0 0,.int .i64 11]):=he
  subst he'
  clear he
  have E9':Ext W1 w9:=E9
  have HA9:=hidp (HA.out.ext E9')
  obtain⟨r0,r1,r2,r3,r4,r5,r6,r7,r8⟩:=HA9.out.zeros
  have z:=box_frozen HA9.out.ans
  have z0:=z 0
  have z1:=z 1
  have z2:=z 2
  have z3:=z 3
  have z4:=z 4
  have z5:=z 5
  have z6:=z 6
  have z7:=z 7
  have z8:=z 8
  have hl9:=HA9.out.lt
  clear z
  go_wp2
  refine bodyPost_ret (v:=.tuple #[.agg #[.int .i64 0,.int .i64 0,.slice none 0 0,.slice none 0 0,.int .i64 0,.slice none 0 0,.slice none 0 0,.int .i64 0,.slice none 0 0],.slice none 0 0,.int .i64 11]) (by simp[results,Try.results65,go_sem,r0,r1,r2,r3,r4,r5,r6,r7,r8]) rfl ?_
  rw[HD.out]
  exact go_none (by omega) (hE0.trans E9') _ _ _ _ _ _ _ _ _
end Go.Proofs.Ytolclgbpjiokfaa.Ct
namespace Go.Proofs.Ytolclgbpjiokfaa.Ct
open Go.RowKit Go.Deep Stw Stp Tb Rul
def Stb (Y:Nat→Prop) (w:World) (D:World→Prop):Prop:=∀U:World,w.heap.size≤U.heap.size→(∀b,Y b→b<w.heap.size→U.heap[b]? =w.heap[b]?)→D U
theorem Stb.at {Y:Nat→Prop} {w:World} {D:World→Prop} (h:Stb Y w D):D w:=h w (Nat.le_refl _) (fun _ _ _=>rfl)
theorem Stb.step {Y:Nat→Prop} {w w':World} {D:World→Prop} (h:Stb Y w D) (hs:w.heap.size≤w'.heap.size) (hb:∀b,Y b→b<w.heap.size→w'.heap[b]? =w.heap[b]?):Stb Y w' D:=
 fun U hU kU=>h U (Nat.le_trans hs hU) (fun b h1 h2=>(kU b h1 (Nat.lt_of_lt_of_le h2 hs)).trans (hb b h1 h2))
theorem Stb.ext {Y:Nat→Prop} {w w':World} {D:World→Prop} (h:Stb Y w D) (E:Ext w w'):Stb Y w' D:=h.step E.size (fun b _ h2=>Below.block E b h2)
theorem Stb.more {Y Y':Nat→Prop} {w:World} {D:World→Prop} (h:Stb Y w D) (hY:∀b,Y b→b<w.heap.size→Y' b):Stb Y' w D:=fun U hU kU=>h U hU (fun b h1 h2=>kU b (hY b h1 h2) h2)
theorem Stb.imp {Y:Nat→Prop} {w:World} {D D':World→Prop} (h:Stb Y w D) (hD:∀U,D U→D' U):Stb Y w D':=fun U hU kU=>hD U (h U hU kU)
theorem Stb.and {Y:Nat→Prop} {w:World} {D D':World→Prop} (h:Stb Y w D) (h':Stb Y w D'):Stb Y w (fun U=>D U∧D' U):=fun U hU kU=>⟨h U hU kU,h' U hU kU⟩
theorem ext_of {w U:World} (hs:w.heap.size≤U.heap.size) (hb:∀b,b<w.heap.size→U.heap[b]? =w.heap[b]?):Ext w {w with heap:=U.heap}:=⟨rfl,rfl,rfl,hs,hb⟩
theorem CoAt.stb {w:World} {c:Co} {a:CA} (h:CoAt w c a):Stb (fun b=>b<w.heap.size) w (fun U=>CoAt U c a):=fun U hs hb=>by
 have k:=h.ext (ext_of hs (fun b h1=>hb b h1 h1))
 exact⟨⟨k.hn.hf,k.hn.hq⟩,⟨k.hx.hf,k.hx.hq⟩,k.hw⟩
def pot (c:Co):Nat:=c.wts.length+if c.st=1 then 8 else 0
theorem back_in {c:Co} {n:Nat} {ls:List Lk} {k:Int} (hw:(wrong n ls).1=0) (hk:k∈c.wts):backS c n ls k=(goS n ⟨⟨c.st,c.now,c.nxt,c.num,c.wts.erase k⟩,[]⟩,0):=by
 unfold backS
 rw[if_neg (by simpa using hw),if_neg (by simpa using hk)]
 rfl
theorem goS_cases (n:Nat) (g:Cg):(g.c.wts≠[]∧goS n g=g)∨(g.c.wts=[]∧g.c.st=1∧goS n g=calmS (told n (stpO g.c.now g.c.nxt) (setSt g 2)))∨(g.c.wts=[]∧g.c.st=2∧goS n g=setSt g 3)∨(g.c.wts=[]∧g.c.st=4∧goS n g=⟨⟨0,g.c.nxt,pl0,g.c.num,g.c.wts⟩,g.out⟩)∨(g.c.wts=[]∧g.c.st≠1∧g.c.st≠2∧g.c.st≠4∧goS n g=g):=by
 unfold goS
 by_cases hw:g.c.wts=[]
 ·rw[if_neg (by simpa using hw)]
  by_cases h1:g.c.st=1
  ·exact Or.inr (Or.inl ⟨hw,h1,by rw[if_pos h1]⟩)
  ·by_cases h2:g.c.st=2
   ·exact Or.inr (Or.inr (Or.inl ⟨hw,h2,by rw[if_neg h1,if_pos h2]⟩))
   ·by_cases h4:g.c.st=4
    ·exact Or.inr (Or.inr (Or.inr (Or.inl ⟨hw,h4,by rw[if_neg h1,if_neg h2,if_pos h4]⟩)))
    ·exact Or.inr (Or.inr (Or.inr (Or.inr ⟨hw,h1,h2,h4,by rw[if_neg h1,if_neg h2,if_neg h4]⟩)))
 ·exact Or.inl ⟨hw,by rw[if_pos hw]⟩
theorem pot_goS {n:Nat} {g:Cg} (hn:n≤8):pot (goS n g).c≤pot g.c:=by
 rcases goS_cases n g with⟨_,e⟩ | ⟨hw,h1,e⟩ | ⟨hw,h2,e⟩ | ⟨hw,h4,e⟩ | ⟨_,_,_,_,e⟩
 ·rw[e];exact Nat.le_refl _
 ·rw[e]
  have hl:=(told_len (ord:=stpO g.c.now g.c.nxt) (g:=setSt g 2) n).1
  have hs:(setSt g 2).c.wts=g.c.wts:=rfl
  rw[hs,hw] at hl
  have hp:pot g.c=8:=by unfold pot;rw[hw,if_pos h1];rfl
  rw[hp]
  unfold calmS
  split
  ·unfold pot;rw[if_neg (by simp[told,setSt])];simp at hl;omega
  ·unfold pot;rw[if_neg (by simp[setSt])];simp[setSt] at hl ⊢;omega
 ·rw[e];unfold pot;rw[if_neg (by simp[setSt])];simp[setSt,hw]
 ·rw[e];unfold pot;simp[hw]
 ·rw[e];exact Nat.le_refl _
theorem pot_back {c:Co} {n:Nat} {ls:List Lk} {k:Int} (hw:(wrong n ls).1=0) (hn:n≤8) (hk:k∈c.wts):pot (backS c n ls k).1.c<pot c:=by
 rw[back_in hw hk]
 have h1:=pot_goS (n:=n) (g:=⟨⟨c.st,c.now,c.nxt,c.num,c.wts.erase k⟩,[]⟩) hn
 have h2:=List.length_erase_of_mem hk
 have h3:0<c.wts.length:=List.length_pos_of_mem hk
 refine Nat.lt_of_le_of_lt h1 ?_
 unfold pot
 simp only
 omega
theorem goS_ok {n:Nat} {g:Cg} (hn:n≤8) (h1:PlOk g.c.now) (h2:PlOk g.c.nxt) (h3:g.c.wts.length≤16777200):CoOk (goS n g).c:=by
 rcases goS_cases n g with⟨_,e⟩ | ⟨hw,_,e⟩ | ⟨hw,_,e⟩ | ⟨hw,_,e⟩ | ⟨_,_,_,_,e⟩
 ·rw[e];exact⟨h1,h2,h3⟩
 ·rw[e]
  have hl:=(told_len (ord:=stpO g.c.now g.c.nxt) (g:=setSt g 2) n).1
  have hs:(setSt g 2).c.wts=g.c.wts:=rfl
  rw[hs,hw] at hl
  unfold calmS
  split
  ·exact⟨h1,h2,by simp at hl;omega⟩
  ·exact⟨h1,h2,by show(told n _ _).c.wts.length≤_;simp at hl;omega⟩
 ·rw[e];exact⟨h1,h2,h3⟩
 ·rw[e];exact⟨h2,PlOk.zero,h3⟩
 ·rw[e];exact⟨h1,h2,h3⟩
theorem back_ok {c:Co} {n:Nat} {ls:List Lk} {k:Int} (hw:(wrong n ls).1=0) (hn:n≤8) (hk:k∈c.wts) (h:CoOk c):CoOk (backS c n ls k).1.c:=by
 rw[back_in hw hk]
 exact goS_ok hn h.n h.x (by have h1:=h.w;have h2:=List.length_erase_of_mem hk;show(c.wts.erase k).length≤_;omega)
end Go.Proofs.Ytolclgbpjiokfaa.Ct
namespace Go.Proofs.Ytolclgbpjiokfaa.Ct
open Go.RowKit Go.Deep Stw Stp Tb Rul
def PhA (now nxt:Pl) (c:Co):Prop:=c.now=now∧c.nxt=nxt∧((c.st=1∨c.st=2)∧c.wts≠[]∨c.st=3∧c.wts=[])
def PhB (now nxt:Pl) (c:Co):Prop:=(c.st=4∧c.wts≠[]∧c.now=now∧c.nxt=nxt)∨(c.st=0∧c.wts=[]∧c.now=nxt∧c.nxt=pl0)
theorem goS_A {n:Nat} {g:Cg} (h:g.c.st=1∨g.c.st=2):PhA g.c.now g.c.nxt (goS n g).c:=by
 rcases goS_cases n g with⟨hw,e⟩ | ⟨hw,h1,e⟩ | ⟨hw,h2,e⟩ | ⟨hw,h4,e⟩ | ⟨hw,n1,n2,n4,e⟩
 ·rw[e];exact⟨rfl,rfl,Or.inl ⟨h,hw⟩⟩
 ·rw[e]
  unfold calmS
  split
  ·rename_i hw';exact⟨rfl,rfl,Or.inl ⟨Or.inr rfl,hw'⟩⟩
  ·rename_i hw'
   refine⟨rfl,rfl,Or.inr ⟨rfl,?_⟩⟩
   show(told n _ _).c.wts=[]
   simpa using hw'
 ·rw[e];exact⟨rfl,rfl,Or.inr ⟨rfl,hw⟩⟩
 ·omega
 ·omega
theorem goS_B {n:Nat} {g:Cg} (h:g.c.st=4):PhB g.c.now g.c.nxt (goS n g).c:=by
 rcases goS_cases n g with⟨hw,e⟩ | ⟨hw,h1,e⟩ | ⟨hw,h2,e⟩ | ⟨hw,h4,e⟩ | ⟨hw,n1,n2,n4,e⟩
 ·rw[e];exact Or.inl ⟨h,hw,rfl,rfl⟩
 ·omega
 ·omega
 ·rw[e];exact Or.inr ⟨rfl,hw,rfl,rfl⟩
 ·omega
theorem back_A {n:Nat} {ls:List Lk} {c:Co} {now nxt:Pl} {k:Int} (hw:(wrong n ls).1=0) (h:PhA now nxt c) (hk:k∈c.wts):PhA now nxt (backS c n ls k).1.c:=by
 rw[back_in hw hk]
 obtain⟨h1,h2,h3⟩:=h
 rcases h3 with⟨h3,_⟩ | ⟨_,h4⟩
 ·have:=goS_A (n:=n) (g:=⟨⟨c.st,c.now,c.nxt,c.num,c.wts.erase k⟩,[]⟩) h3
  rw[←h1, ←h2]
  exact this
 ·rw[h4] at hk;simp at hk
theorem back_B {n:Nat} {ls:List Lk} {c:Co} {now nxt:Pl} {k:Int} (hw:(wrong n ls).1=0) (h:PhB now nxt c) (hk:k∈c.wts):PhB now nxt (backS c n ls k).1.c:=by
 rw[back_in hw hk]
 rcases h with⟨h3,_,h1,h2⟩ | ⟨_,h4,_⟩
 ·have:=goS_B (n:=n) (g:=⟨⟨c.st,c.now,c.nxt,c.num,c.wts.erase k⟩,[]⟩) h3
  rw[←h1, ←h2]
  exact this
 ·rw[h4] at hk;simp at hk
structure AskOk (c:Co) (n:Int) (ls:List Lk) (fs:List Stf.Fl):Prop where
 hp:(plnF n (nx c.now.v) ls fs).1=0
 fl:full n.toNat c.now ⟨nx c.now.v,fs,plnP n ls fs⟩=false
 eq:askS c n ls fs=(goS n.toNat (told n.toNat (addO ⟨nx c.now.v,fs,plnP n ls fs⟩) ⟨⟨1,c.now,⟨nx c.now.v,fs,plnP n ls fs⟩,c.num,c.wts⟩,[]⟩),0)
theorem ask_cases {c:Co} {n:Int} {ls:List Lk} {fs:List Stf.Fl} (h:(askS c n ls fs).2=0):AskOk c n ls fs:=by
 unfold askS at h
 split at h
 ·cases h
 ·rename_i h0
  split at h
  ·rename_i h1;exact absurd h h1
  ·rename_i h1
   split at h
   ·cases h
   ·rename_i h2
    refine⟨by simpa using h1,by simpa using h2,?_⟩
    unfold askS
    rw[if_neg h0,if_neg h1,if_neg h2]
theorem AskOk.wrong {c:Co} {n:Int} {ls:List Lk} {fs:List Stf.Fl} (h:AskOk c n ls fs):(Stw.wrong n ls).1=0:=by
 by_cases e:(Stw.wrong n ls).1=0
 ·exact e
 ·have:=h.hp;rw[plnF_wrong e] at this;exact absurd this e
theorem AskOk.A {c:Co} {n:Int} {ls:List Lk} {fs:List Stf.Fl} (h:AskOk c n ls fs):PhA c.now ⟨nx c.now.v,fs,plnP n ls fs⟩ (askS c n ls fs).1.c:=by
 rw[h.eq]
 exact goS_A (n:=n.toNat) (g:=told n.toNat (addO ⟨nx c.now.v,fs,plnP n ls fs⟩) ⟨⟨1,c.now,⟨nx c.now.v,fs,plnP n ls fs⟩,c.num,c.wts⟩,[]⟩) (Or.inl rfl)
theorem AskOk.pot {c:Co} {n:Int} {ls:List Lk} {fs:List Stf.Fl} (h:AskOk c n ls fs) (hw:c.wts=[]):pot (askS c n ls fs).1.c≤200:=by
 have hg:=plan_good h.hp
 have hn:n.toNat≤8:=by have:=hg.n8;omega
 rw[h.eq]
 refine Nat.le_trans (pot_goS hn) ?_
 have:=(told_len (ord:=addO ⟨nx c.now.v,fs,plnP n ls fs⟩) (g:=⟨⟨1,c.now,⟨nx c.now.v,fs,plnP n ls fs⟩,c.num,c.wts⟩,[]⟩) n.toNat).1
 simp only[hw,List.length_nil] at this
 unfold Ct.pot
 simp only[hw]
 split <;> omega
theorem drop_calm {c:Co} {n:Nat} {ls:List Lk} (hw:(wrong n ls).1=0) (h:c.st=3):dropS c n ls=(goS n (told n (drpO c.now) ⟨⟨4,c.now,c.nxt,c.num,c.wts⟩,[]⟩),0):=by
 unfold dropS
 rw[if_neg (by simpa using hw),if_neg (by simpa using h)]
 rfl
theorem drop_B {c:Co} {n:Nat} {ls:List Lk} (hw:(wrong n ls).1=0) (h:c.st=3):PhB c.now c.nxt (dropS c n ls).1.c:=by
 rw[drop_calm hw h]
 exact goS_B (n:=n) (g:=told n (drpO c.now) ⟨⟨4,c.now,c.nxt,c.num,c.wts⟩,[]⟩) rfl
theorem drop_pot {c:Co} {n:Nat} {ls:List Lk} (hn:n≤8) (hw:(wrong n ls).1=0) (h:c.st=3) (hwt:c.wts=[]):pot (dropS c n ls).1.c≤200:=by
 rw[drop_calm hw h]
 refine Nat.le_trans (pot_goS hn) ?_
 have:=(told_len (ord:=drpO c.now) (g:=⟨⟨4,c.now,c.nxt,c.num,c.wts⟩,[]⟩) n).1
 simp only[hwt,List.length_nil] at this
 unfold pot
 simp only[hwt]
 split <;> omega
theorem drop_ok {c:Co} {n:Nat} {ls:List Lk} (hn:n≤8) (hw:(wrong n ls).1=0) (h:c.st=3) (hwt:c.wts=[]) (hok:CoOk c):CoOk (dropS c n ls).1.c:=by
 rw[drop_calm hw h]
 refine goS_ok hn hok.n hok.x ?_
 have:=(told_len (ord:=drpO c.now) (g:=⟨⟨4,c.now,c.nxt,c.num,c.wts⟩,[]⟩) n).1
 simp only[hwt,List.length_nil] at this
 simp only[hwt]
 omega
end Go.Proofs.Ytolclgbpjiokfaa.Ct
namespace Go.Proofs.Ytolclgbpjiokfaa.Ct
open Go.RowKit Go.Deep Stw Stp Tb Rul
theorem told_mem {ord:Nat→Option Wir.Od} {g:Cg} {x:Nat×Wir.Od}:∀{m:Nat},x∈(told m ord g).out→x∈g.out∨∃o,x.1<m∧ord x.1=some o∧x.2.k=o.k∧x.2.v=o.v∧x.2.rs=o.rs∧x.2.fs=o.fs
 | 0,h=>Or.inl h
 | m+1,h=>by
  cases ho:ord m with
  | none=>
   rw[told_none ho] at h
   rcases told_mem h with h | ⟨o,h1,h2⟩
   ·exact Or.inl h
   ·exact Or.inr ⟨o,by omega,h2⟩
  | some o=>
   rw[told_some ho] at h
   rcases List.mem_append.1 h with h | h
   ·rcases told_mem h with h | ⟨o,h1,h2⟩
    ·exact Or.inl h
    ·exact Or.inr ⟨o,by omega,h2⟩
   ·rw[List.mem_singleton] at h
    subst h
    exact Or.inr ⟨o,Nat.lt_succ_self m,ho,rfl,rfl,rfl,rfl⟩
theorem told_same {ord:Nat→Option Wir.Od} {g:Cg}:∀m,(told m ord g).c.wts.length+g.out.length=(told m ord g).out.length+g.c.wts.length
 | 0=>Nat.add_comm _ _
 | m+1=>by
  have ih:=told_same (ord:=ord) (g:=g) m
  cases h:ord m with
  | none=>rw[told_none h];exact ih
  | some x=>rw[told_some h];simp only[List.length_append,List.length_cons,List.length_nil];omega
theorem addO_k {p:Pl} {s:Nat} {o:Wir.Od} (h:addO p s=some o):o.k=1:=by
 unfold addO at h
 split at h
 ·cases h
 ·cases h;rfl
theorem stpO_k {a b:Pl} {s:Nat} {o:Wir.Od} (h:stpO a b s=some o):o.k=2:=by
 unfold stpO at h
 split at h
 ·cases h
 ·cases h;rfl
def cnt (l:List (Nat×Wir.Od)):Nat:=(l.filter (fun x=>x.2.k == 1)).length
def stm (l:List (Nat×Wir.Od)):Bool:=l.any (fun x=>x.2.k == 2)
theorem cnt_all {l:List (Nat×Wir.Od)} (h:∀x∈l,x.2.k=1):cnt l=l.length∧stm l=false:=by
 refine⟨?_,?_⟩
 ·unfold cnt
  rw[List.filter_eq_self.2 (fun x hx=>by simp[h x hx])]
 ·unfold stm
  rw[List.any_eq_false]
  intro x hx
  simp[h x hx]
theorem cnt_none {l:List (Nat×Wir.Od)} (h:∀x∈l,x.2.k=2):cnt l=0:=by
 unfold cnt
 rw[List.length_eq_zero_iff,List.filter_eq_nil_iff]
 intro x hx
 simp[h x hx]
theorem goS_out2 {n:Nat} {g:Cg} (h:g.c.st=1∨g.c.st=2) (ho:g.out=[]):(∀x∈(goS n g).out,x.2.k=2)∧((goS n g).out≠[]→g.c.st=1∧g.c.wts=[])∧(g.c.st=2→(goS n g).c.st≠1)∧((goS n g).c.st=1→g.c.st=1∧(goS n g).c.wts=g.c.wts):=by
 rcases goS_cases n g with⟨hw,e⟩ | ⟨hw,h1,e⟩ | ⟨hw,h2,e⟩ | ⟨hw,h4,e⟩ | ⟨hw,n1,n2,n4,e⟩
 ·rw[e,ho];exact⟨by simp,by simp,fun h=>by omega,fun h=>⟨h,rfl⟩⟩
 ·have hk:∀x∈(told n (stpO g.c.now g.c.nxt) (setSt g 2)).out,x.2.k=2:=fun x hx=>by
   rcases told_mem hx with h | ⟨o,_,h1,h2,_⟩
   ·have:x∈g.out:=h
    rw[ho] at this;simp at this
   ·rw[h2];exact stpO_k h1
  rw[e]
  refine⟨fun x hx=>?_,fun _=>⟨h1,hw⟩,fun h=>by omega,fun h=>?_⟩
  ·unfold calmS at hx
   split at hx
   ·exact hk x hx
   ·exact hk x hx
  ·unfold calmS at h
   split at h
   ·simp[told,setSt] at h
   ·simp[setSt] at h
 ·rw[e]
  refine⟨fun x hx=>?_,fun h=>?_,fun _=>by simp[setSt],fun h=>by simp[setSt] at h⟩
  ·have:x∈g.out:=hx
   rw[ho] at this;simp at this
  ·exact absurd ho h
 ·omega
 ·omega
theorem ask_kinds {c:Co} {n:Int} {ls:List Lk} {fs:List Stf.Fl} (h:AskOk c n ls fs) (hw:c.wts=[]):
 ((askS c n ls fs).1.c.st=1∧cnt (askS c n ls fs).1.out=(askS c n ls fs).1.c.wts.length∧stm (askS c n ls fs).1.out=false)∨((askS c n ls fs).1.c.st≠1∧cnt (askS c n ls fs).1.out=0):=by
 rw[h.eq]
 generalize hp:(⟨nx c.now.v,fs,plnP n ls fs⟩:Pl)=p
 obtain⟨g,hg⟩:∃g,g=told n.toNat (addO p) ⟨⟨1,c.now,p,c.num,c.wts⟩,[]⟩:=⟨_,rfl⟩
 have hs:g.c.st=1:=by rw[hg];rfl
 have hl:g.c.wts.length=g.out.length:=by
  have:=told_same (ord:=addO p) (g:=⟨⟨1,c.now,p,c.num,c.wts⟩,[]⟩) n.toNat
  rw[←hg] at this
  simpa[hw] using this
 have hk:∀x∈g.out,x.2.k=1:=fun x hx=>by
  rw[hg] at hx
  rcases told_mem hx with h | ⟨o,_,h1,h2,_⟩
  ·simp at h
  ·rw[h2];exact addO_k h1
 rw[←hg]
 show((goS n.toNat g).c.st=1∧cnt (goS n.toNat g).out=(goS n.toNat g).c.wts.length∧stm (goS n.toNat g).out=false)∨_
 by_cases hw0:g.c.wts=[]
 ·have ho:g.out=[]:=by rw[hw0] at hl;exact List.eq_nil_of_length_eq_zero hl.symm
  obtain⟨k1,_,_,k4⟩:=goS_out2 (n:=n.toNat) (g:=g) (Or.inl hs) ho
  refine Or.inr ⟨fun e=>?_,cnt_none k1⟩
  obtain⟨_,e2⟩:=k4 e
  have:=(goS_A (n:=n.toNat) (g:=g) (Or.inl hs)).2.2
  rw[e2,hw0,e] at this
  simp at this
 ·rw[goS_wait hw0]
  exact Or.inl ⟨hs,by rw[(cnt_all hk).1,hl],(cnt_all hk).2⟩
theorem back_kinds {c:Co} {n:Nat} {ls:List Lk} {now nxt:Pl} {k:Int} (hw:(wrong n ls).1=0) (h:PhA now nxt c) (hk:k∈c.wts):
 (∀x∈(backS c n ls k).1.out,x.2.k=2)∧((backS c n ls k).1.out≠[]→c.st=1∧c.wts.length=1)∧(c.st≠1→(backS c n ls k).1.c.st≠1)∧((backS c n ls k).1.c.st=1→c.st=1∧(backS c n ls k).1.c.wts.length+1=c.wts.length)∧(c.st=1→(backS c n ls k).1.c.st≠1→c.wts.length=1):=by
 rw[back_in hw hk]
 have hl:=List.length_erase_of_mem hk
 have hp:=List.length_pos_of_mem hk
 have hs:c.st=1∨c.st=2:=by
  rcases h.2.2 with⟨h,_⟩ | ⟨_,h⟩
  ·exact h
  ·rw[h] at hk;simp at hk
 obtain⟨k1,k2,k3,k4⟩:=goS_out2 (n:=n) (g:=⟨⟨c.st,c.now,c.nxt,c.num,c.wts.erase k⟩,[]⟩) hs rfl
 refine⟨k1,fun h=>?_,fun h=>?_,fun h=>?_,fun h1 h2=>?_⟩
 ·obtain⟨e1,e2⟩:=k2 h
  have e2':c.wts.erase k=[]:=e2
  rw[e2'] at hl
  exact⟨e1,by simp at hl;omega⟩
 ·exact k3 (by rcases hs with h' | h';exact absurd h' h;exact h')
 ·obtain⟨e1,e2⟩:=k4 h
  refine⟨e1,?_⟩
  show(goS n _).c.wts.length+1=_
  rw[e2]
  show(c.wts.erase k).length+1=_
  omega
 ·by_cases he:c.wts.erase k=[]
  ·rw[he] at hl;simp at hl;omega
  ·exfalso
   apply h2
   show(goS n ⟨⟨c.st,c.now,c.nxt,c.num,c.wts.erase k⟩,[]⟩).c.st=1
   rw[goS_wait he]
   exact h1
theorem goS_few (n:Nat) (g:Cg):(goS n g).out.length≤g.out.length+n:=by
 rcases goS_cases n g with⟨_,e⟩ | ⟨_,_,e⟩ | ⟨_,_,e⟩ | ⟨_,_,e⟩ | ⟨_,_,_,_,e⟩
 ·rw[e];omega
 ·rw[e]
  have:=(told_len (ord:=stpO g.c.now g.c.nxt) (g:=setSt g 2) n).2
  have hs:(setSt g 2).out=g.out:=rfl
  rw[hs] at this
  unfold calmS
  split
  ·exact this
  ·exact this
 ·rw[e];show g.out.length≤_;omega
 ·rw[e];show g.out.length≤_;omega
 ·rw[e];omega
theorem back_few {c:Co} {n:Nat} {ls:List Lk} {k:Int} (hw:(wrong n ls).1=0) (hn:n≤8) (hk:k∈c.wts):(backS c n ls k).1.out.length≤8:=by
 rw[back_in hw hk]
 have:=goS_few n ⟨⟨c.st,c.now,c.nxt,c.num,c.wts.erase k⟩,[]⟩
 simp only[List.length_nil] at this
 exact Nat.le_trans this (by omega)
theorem AskOk.few {c:Co} {n:Int} {ls:List Lk} {fs:List Stf.Fl} (h:AskOk c n ls fs):(askS c n ls fs).1.out.length≤100:=by
 have hg:=plan_good h.hp
 have hn:n.toNat≤8:=by have:=hg.n8;omega
 rw[h.eq]
 have h1:=(told_len (ord:=addO ⟨nx c.now.v,fs,plnP n ls fs⟩) (g:=⟨⟨1,c.now,⟨nx c.now.v,fs,plnP n ls fs⟩,c.num,c.wts⟩,[]⟩) n.toNat).2
 simp only[List.length_nil] at h1
 generalize told n.toNat (addO ⟨nx c.now.v,fs,plnP n ls fs⟩) ⟨⟨1,c.now,⟨nx c.now.v,fs,plnP n ls fs⟩,c.num,c.wts⟩,[]⟩=g at h1 ⊢
 exact Nat.le_trans (goS_few n.toNat g) (by omega)
end Go.Proofs.Ytolclgbpjiokfaa.Ct
