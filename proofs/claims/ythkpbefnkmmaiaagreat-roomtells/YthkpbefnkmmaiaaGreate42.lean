import Derived.Test.YthkpbefnkmmaiaaGreate41
set_option maxRecDepth 100000
set_option maxHeartbeats 4000000
namespace Stf
def tup (f:Fl):Int×Int×List Int×List Int:=(f.fr,f.to,f.via,f.nt)
theorem tup_inj{f g:Fl}(h:tup f=tup g):f=g:=by
 cases f;cases g
 simp only[tup,Prod.mk.injEq] at h
 obtain⟨h1,h2,h3,h4⟩:=h
 subst h1 h2 h3 h4
 rfl
def z6s (fs gs:List Fl):Bool:=decide (fs.map tup=gs.map tup)
theorem map_inj:∀{fs gs:List Fl},fs.map tup=gs.map tup->fs=gs
 | [],[],_=>rfl
 | [],_::_,h=>by cases h
 | _::_,[],h=>by cases h
 | f::fs,g::gs,h=>by
  simp only[List.map_cons,List.cons.injEq] at h
  rw[tup_inj h.1,map_inj h.2]
variable {fs gs:List Fl}
theorem q9t(h:fs=gs):z6s fs gs=true:=dtt (by rw[h])
theorem q7r(h:fs≠gs):z6s fs gs=false:=dff (fun e=>h (map_inj e))
end Stf
namespace Go.Proofs.YthkpbefnkmmaiaaGreat
open Go.Proofs.Tryz
namespace Fw
open Go.RowKit Go.Maps Stf Go.Sort
variable {w:World} {a:Addr}
theorem cell_lt'{v:Value}(h:w.cell? a=some v):a.block<w.heap.size:=by
 rcases Nat.lt_or_ge a.block w.heap.size with h1 | h1
 ·exact h1
 ·have:w.heap[a.block]? =none:=by simp[h1]
  simp[World.cell?,this] at h
theorem clr{v:Value}(h:w.cell? a=some v)(d:Nat)(os:Array Obj):(grow (redrawn w d) os).cell? a=some v:=(Below.cell (brg w d os) (cell_lt' h)).trans h
theorem same_diff(ao bo:Option Addr)(la lb c1 c2:Nat)(w:World)(h:la≠lb):
 Calls prog 37 #[.slice ao la c1,.slice bo lb c2] w fun e w'=>e=.returned (.bool false)/\w'=w:=by
 have h':((la:Int) == (lb:Int))=false:=by simp;omega
 go_enter func37,ntmps37
 go_wp2
 go_ret
 exact⟨rfl,rfl⟩
theorem ne_at{fs gs:List Fl}{k:Nat}{a t a' t':Int}{X Y X' Y':List Int}(h1:fs.getD k f0=⟨a,t,X,Y⟩)(h2:gs.getD k f0=⟨a',t',X',Y'⟩)(h:¬(a=a'/\t=t'/\X=X'/\Y=Y')):z6s fs gs=false:=by
 refine q7r ?_
 rintro rfl
 rw[h1] at h2
 simp only[Fl.mk.injEq] at h2
 exact h h2
theorem same_some(ao bo:Option Addr)(n c1 c2:Nat)(fs gs:List Fl)(w:World)(ha:fs.length=n)(hb:gs.length=n)(hn:n<=4611686018427387904)(h1:Qk w ao fs)(h2:Qk w bo gs)(hS:Sm fs):
 Calls prog 37 #[.slice ao n c1,.slice bo n c2] w fun e w'=>e=.returned (.bool (z6s fs gs))/\Ext w w':=by
 go_enter func37,ntmps37
 go_wp2
 go_loopw [13] (fun i wr=>∃k:Nat,k<=n/\i=.int .i64 k/\(∀j,j<k->fs.getD j f0=gs.getD j f0)/\Ext w wr) (fun i _=>n - (intOf i).toNat)
 case atStart=>exact⟨0,Zu _,rfl,fun j hj=>by omega,Ext.refl w⟩
 case round=>
  obtain⟨k,hk,rfl,hpre,hext⟩:=hrel
  by_cases hlt:k<n
  ·obtain⟨b,off,vo,vc,no,nc,a,t,X,Y,rfl,hbk,hg,d0,d1,d2,d3,hv,hnn⟩:=(h1.ext hext).get (k:=k) (by omega)
   obtain⟨b',off',vo',vc',no',nc',a',t',X',Y',rfl,hbk',hg',d0',d1',d2',d3',hv',hnn'⟩:=(h2.ext hext).get (k:=k) (by omega)
   have hsm:=hS.get (k:=k) (by omega) hg
   have HP:=hid hpre
   have HG:=hid hg
   have HG':=hid hg'
   have g0:=clr d0
   have g1:=clr d1
   have g2:=clr d2
   have g3:=clr d3
   have q0:=clr d0'
   have q1:=clr d1'
   have q2:=clr d2'
   have q3:=clr d3'
   have i1:(k:Int)<(n:Int):=by omega
   obtain⟨_,_,e1,lv,_⟩:=hv
   obtain⟨_,_,e2,ln,_⟩:=hnn
   obtain⟨_,_,e1',lv',_⟩:=hv'
   obtain⟨_,_,e2',ln',_⟩:=hnn'
   cases e1;cases e2;cases e1';cases e2'
   obtain⟨β2,hβ2⟩:=Qy (decide (X=X'))
   obtain⟨β3,hβ3⟩:=Qy (decide (Y=Y'))
   have HQ:Hid (∀d os,Calls prog 16 #[.slice vo X.length vc,.slice vo' X'.length vc'] (grow (redrawn wr d) os) fun e w''=>e=.returned (.bool β2)/\∃p:Regrown,w''=grow (redrawn wr p.d) p.os):=fun d os=>
    Calls.regrown_of (by rw[hβ2];exact q4e vo vo' X.length X'.length vc vc' X X' _ rfl rfl hsm.1 (lv.ext (brg wr d os)) (lv'.ext (brg wr d os)))
   have HQ2:Hid (∀d os,Calls prog 16 #[.slice no Y.length nc,.slice no' Y'.length nc'] (grow (redrawn wr d) os) fun e w''=>e=.returned (.bool β3)/\∃p:Regrown,w''=grow (redrawn wr p.d) p.os):=fun d os=>
    Calls.regrown_of (by rw[hβ3];exact q4e no no' Y.length Y'.length nc nc' Y Y' _ rfl rfl hsm.2 (ln.ext (brg wr d os)) (ln'.ext (brg wr d os)))
   have HB2:=hid hβ2
   have HB3:=hid hβ3
   clear hβ2 hβ3 hpre hg hg' d0 d1 d2 d3 d0' d1' d2' d3' lv ln lv' ln'
   cases r0:(a != a')
   ·have ea:a=a':=by simpa using r0
    have EA:=hid ea
    clear ea
    cases r1:(t != t')
    ·have et:t=t':=by simpa using r1
     have ET:=hid et
     clear et
     cases β2
     ·go_wp2
      refine qb ?_
      repeat(go_big_quiet_step (first | (with_reducible exact HQ.out _ _) | (with_reducible exact HQ2.out _ _)))
      refine qn fun dq oq=>?_
      clear g0 g1 g2 g3 q0 q1 q2 q3 HQ HQ2
      go_wp2
      go_ret
      exact⟨by rw[ne_at HG.out HG'.out (fun h=>by have:=HB2.out;simp[h.2.2.1] at this)];rfl,hext.trans (brg wr dq oq)⟩
     ·cases β3
      ·go_wp2
       refine qb ?_
       repeat(go_big_quiet_step (first | (with_reducible exact HQ.out _ _) | (with_reducible exact HQ2.out _ _)))
       refine qn fun dq oq=>?_
       clear g0 g1 g2 g3 q0 q1 q2 q3 HQ HQ2
       go_wp2
       go_ret
       exact⟨by rw[ne_at HG.out HG'.out (fun h=>by have:=HB3.out;simp[h.2.2.2] at this)];rfl,hext.trans (brg wr dq oq)⟩
      ·go_wp2
       refine qb ?_
       repeat(go_big_quiet_step (first | (with_reducible exact HQ.out _ _) | (with_reducible exact HQ2.out _ _)))
       refine qn fun dq oq=>?_
       clear g0 g1 g2 g3 q0 q1 q2 q3 HQ HQ2
       go_wp2
       refine⟨⟨k+1,by omega,by go_num,fun j hj=>?_,hext.trans (brg wr dq oq)⟩,by simp[intOf];omega⟩
       by_cases e:j=k
       ·subst e
        rw[HG.out,HG'.out,EA.out,ET.out,of_decide_eq_true HB2.out.symm,of_decide_eq_true HB3.out.symm]
       ·exact HP.out j (by omega)
    ·go_wp2
     refine qb ?_
     repeat(go_big_quiet_step (first | (with_reducible exact HQ.out _ _) | (with_reducible exact HQ2.out _ _)))
     refine qn fun dq oq=>?_
     clear g0 g1 g2 g3 q0 q1 q2 q3 HQ HQ2
     go_wp2
     go_ret
     exact⟨by rw[ne_at HG.out HG'.out (fun h=>by simp[h.2.1] at r1)];rfl,hext.trans (brg wr dq oq)⟩
   ·go_wp2
    refine qb ?_
    repeat(go_big_quiet_step (first | (with_reducible exact HQ.out _ _) | (with_reducible exact HQ2.out _ _)))
    refine qn fun dq oq=>?_
    clear g0 g1 g2 g3 q0 q1 q2 q3 HQ HQ2
    go_wp2
    go_ret
    exact⟨by rw[ne_at HG.out HG'.out (fun h=>by simp[h.1] at r0)];rfl,hext.trans (brg wr dq oq)⟩
  ·have heq:z6s fs gs=true:=by
    refine q9t ?_
    refine List.ext_getElem (by omega) (fun j j1 j2=>?_)
    have:=hpre j (by omega)
    simpa[j1,j2] using this
   have HEQ:=hid heq
   clear heq
   go_wp2
   go_ret
   exact⟨by rw[HEQ.out];rfl,hext⟩
theorem z2v(ao bo:Option Addr)(la lb c1 c2:Nat)(fs gs:List Fl)(w:World)(ha:fs.length=la)(hb:gs.length=lb)(hn:la<=4611686018427387904)(h1:Qk w ao fs)(h2:Qk w bo gs)(hS:Sm fs):
 Calls prog 37 #[.slice ao la c1,.slice bo lb c2] w fun e w'=>e=.returned (.bool (z6s fs gs))/\Ext w w':=by
 by_cases hab:la=lb
 ·subst hab
  exact same_some ao bo la c1 c2 fs gs w ha hb hn h1 h2 hS
 ·refine(same_diff ao bo la lb c1 c2 w hab).mono ?_
  rintro e w' ⟨rfl,rfl⟩
  have:z6s fs gs=false:=by
   refine q7r ?_
   rintro rfl
   omega
  exact⟨by rw[this],Ext.refl _⟩
end Fw
namespace Rm
open Go.RowKit Go.Deep Go.Maps Go.Sort Stw Stp Tb Rul Ct
theorem z6l(n len cap:Nat)(ls:List Lk)(ao:Option Addr)(t:Nat)(w0:World)(P:Nat)(tg:Nat->Nat)(w:World)(W:Wd)(a:CA)(sb ob bb:Nat)(kv lv:Value)(dn:Int)(fo:Option Addr)(fl fc:Nat)(h:Q0 39 [] w0 P n tg w W a sb ob bb kv lv)(hwn:a.wo=none->a.wc=0)(hI:Inv n ls t W)(hi:¬(0<=dn/\dn<(n:Int))):
 Calls prog 13 #[.pointer (some ⟨P,0,none⟩),.agg #[.int .i64 n,.slice ao len cap],.agg #[.int .i64 3,.int .i64 dn,.slice fo fl fc]] w fun e w'=>ROut w0 P n tg w sb ob bb (hapK n ls W dn) e w':=by
 have HD:=Qa (hapK_out (ls:=ls) (W:=W) hi)
 have HW:=Qa h
 have HI:=Qa hI
 have hP:=h.row.lt
 have HWN:=Qa hwn
 obtain⟨B,hB,EB,HBS,hb0,hb1,hb2⟩:=box3 w P n ao len cap 3 dn fo fl fc
 have HS:Hid (∀V,Ext B V->cl V w.heap.size 0 (.pointer (some ⟨P,0,none⟩))/\cl V P 0 (.int .i64 W.co.st)/\cl V P 1 (.int .i64 W.co.now.v)/\cl V P 2 (.slice a.n.fo W.co.now.fs.length a.n.fc)/\cl V P 3 (.slice a.n.qo W.co.now.ps.length a.n.qc)/\cl V P 4 (.int .i64 W.co.Qd.v)/\cl V P 5 (.slice a.x.fo W.co.Qd.fs.length a.x.fc)/\cl V P 6 (.slice a.x.qo W.co.Qd.ps.length a.x.qc)/\cl V P 7 (.int .i64 W.co.num)/\cl V P 8 (.slice a.wo W.co.Qg.length a.wc)/\cl V (w.heap.size+1) 0 (.int .i64 n)/\cl V (w.heap.size+1) 1 (.slice ao len cap)/\cl V (w.heap.size+1+1) 1 (.int .i64 dn)):=fun V hV=>by
  have hr:=HW.out.row.of_block (Below.block (EB.trans hV) P hP)
  have:=HBS.out
  exact⟨(hV.cells.1 _ _ (by omega)).trans (Qb hb0 0),hr.cell (i:=0) (by simp),hr.cell (i:=1) (by simp),hr.cell (i:=2) (by simp),hr.cell (i:=3) (by simp),hr.cell (i:=4) (by simp),hr.cell (i:=5) (by simp),hr.cell (i:=6) (by simp),hr.cell (i:=7) (by simp),hr.cell (i:=8) (by simp),(hV.cells.1 _ _ (by omega)).trans (Qb hb1 0),(hV.cells.1 _ _ (by omega)).trans (Qb hb1 1),(hV.cells.1 _ _ (by omega)).trans (Qb hb2 1)⟩
 clear hb0 hb1
 have HPB:=hpb4 hP HBS
 clear h hI hwn
 obtain⟨lP,lw,lt1,lt2⟩:=HPB.out B (Ext.refl B)
 by_cases h0:0<=dn
 focus
  have h1:¬dn<(n:Int):=fun e=>hi ⟨h0,e⟩
  have b0:decide (0<=dn)=true:=by simpa using h0
  have b1:decide (dn<(n:Int))=false:=by simpa using h1
 rotate_left
 focus
  have b0:decide (0<=dn)=false:=by simpa using h0
 rotate_left
 all_goals(
  clear hi
  go_enter func13,ntmps13
  go_upto_region 27 with fail
  rw[<-hB]
  refine qb ?_
  repeat(go_big_quiet_step (fail))
  refine qn fun dq oq=>?_
  have EQ:Ext B (grow (redrawn B dq) oq):=brg B dq oq
  generalize grow (redrawn B dq) oq=B2 at EQ
  go_wp2
  go_ret
  rw[HD.out]
  exact⟨rfl,tg,a,kv,lv,HW.out.Qm (EB.trans EQ),Zv.ext (EB.trans EQ),HWN.out⟩)
theorem z6m(n len cap:Nat)(ls:List Lk)(ao:Option Addr)(t:Nat)(w0:World)(P:Nat)(tg:Nat->Nat)(w:World)(W:Wd)(a:CA)(sb ob bb:Nat)(kv lv:Value)(s:Nat)(fo:Option Addr)(fl fc:Nat)(h:Q0 39 [] w0 P n tg w W a sb ob bb kv lv)(hwn:a.wo=none->a.wc=0)(hI:Inv n ls t W)(hs:s<n)(hb:W.bk.getD s []=[]):
 Calls prog 13 #[.pointer (some ⟨P,0,none⟩),.agg #[.int .i64 n,.slice ao len cap],.agg #[.int .i64 3,.int .i64 s,.slice fo fl fc]] w fun e w'=>ROut w0 P n tg w sb ob bb (hapK n ls W s) e w':=by
 have HD:=Qa (hapK_nil (n:=n) (ls:=ls) hb)
 have HW:=Qa h
 have HI:=Qa hI
 have hP:=h.row.lt
 have HWN:=Qa hwn
 obtain⟨B,hB,EB,HBS,hb0,hb1,hb2⟩:=box3 w P n ao len cap 3 (s:Int) fo fl fc
 have HS:Hid (∀V,Ext B V->cl V w.heap.size 0 (.pointer (some ⟨P,0,none⟩))/\cl V P 0 (.int .i64 W.co.st)/\cl V P 1 (.int .i64 W.co.now.v)/\cl V P 2 (.slice a.n.fo W.co.now.fs.length a.n.fc)/\cl V P 3 (.slice a.n.qo W.co.now.ps.length a.n.qc)/\cl V P 4 (.int .i64 W.co.Qd.v)/\cl V P 5 (.slice a.x.fo W.co.Qd.fs.length a.x.fc)/\cl V P 6 (.slice a.x.qo W.co.Qd.ps.length a.x.qc)/\cl V P 7 (.int .i64 W.co.num)/\cl V P 8 (.slice a.wo W.co.Qg.length a.wc)/\cl V (w.heap.size+1) 0 (.int .i64 n)/\cl V (w.heap.size+1) 1 (.slice ao len cap)/\cl V (w.heap.size+1+1) 1 (.int .i64 s)):=fun V hV=>by
  have hr:=HW.out.row.of_block (Below.block (EB.trans hV) P hP)
  have:=HBS.out
  exact⟨(hV.cells.1 _ _ (by omega)).trans (Qb hb0 0),hr.cell (i:=0) (by simp),hr.cell (i:=1) (by simp),hr.cell (i:=2) (by simp),hr.cell (i:=3) (by simp),hr.cell (i:=4) (by simp),hr.cell (i:=5) (by simp),hr.cell (i:=6) (by simp),hr.cell (i:=7) (by simp),hr.cell (i:=8) (by simp),(hV.cells.1 _ _ (by omega)).trans (Qb hb1 0),(hV.cells.1 _ _ (by omega)).trans (Qb hb1 1),(hV.cells.1 _ _ (by omega)).trans (Qb hb2 1)⟩
 clear hb0 hb1
 have HPB:=hpb4 hP HBS
 obtain⟨v,cv,fv,hbl,hv⟩:=h.bks.get hs
 rw[hb] at hv
 obtain⟨vo,vc,hvv⟩:=hv.rw.form
 rw[hvv,List.length_nil] at cv
 have c11:w.cell? ⟨P,11,none⟩=some (.slice (some ⟨bb,0,none⟩) n n):=h.row.cell (i:=11) (by simp)
 have d11:=(EB.cells.1 _ _ hP).trans c11
 have dbb:=(EB.cells.1 _ _ hbl).trans cv
 have hblB:bb<B.heap.size:=Q5 hbl EB.size
 have HQ:Hid (∀V,Ext B V->cl V w.heap.size 0 (.pointer (some ⟨P,0,none⟩))/\cl V (w.heap.size+1+1) 1 (.int .i64 s)/\cl V P 11 (.slice (some ⟨bb,0,none⟩) n n)/\cl V bb s (.slice vo 0 vc)):=fun V hV=>⟨(HS.out V hV).1,(HS.out V hV).2.2.2.2.2.2.2.2.2.2.2.2,(hV.cells.1 _ _ (Q5 hP EB.size)).trans d11,(hV.cells.1 _ _ hblB).trans dbb⟩
 clear h hI hwn hv hvv fv cv c11
 obtain⟨lP,lw,lt1,lt2⟩:=HPB.out B (Ext.refl B)
 have j1:(0:Int)<=(s:Int):=by omega
 have j2:(s:Int)<(n:Int):=by omega
 have b0:decide ((0:Int)<=(s:Int))=true:=dtt j1
 have b1:decide ((s:Int)<(n:Int))=true:=by simpa using j2
 have b2:decide (s<n)=true:=dtt hs
 go_enter func13,ntmps13
 go_upto_region 27 with fail
 rw[<-hB]
 have hdq:Ext B B.drew:=(Ext.refl B).drew
 go_region_held3 (fun V=>cl V w.heap.size 0 (.pointer (some ⟨P,0,none⟩))/\cl V (w.heap.size+1+1) 1 (.int .i64 s)/\cl V P 11 (.slice (some ⟨bb,0,none⟩) n n)/\cl V bb s (.slice vo 0 vc))
  (first | (with_reducible exact HQ.out _ hdq) | fail)
  (fail)
 have EQ:Ext B B.drew:=hdq
 clear hdq
 generalize B.drew=B2 at EQ
 go_wp2
 go_ret
 rw[HD.out]
 exact⟨rfl,tg,a,kv,lv,HW.out.Qm (EB.trans EQ),Zv.ext (EB.trans EQ),HWN.out⟩
theorem z3o(n len cap:Nat)(ls:List Lk)(ao:Option Addr)(t:Nat)(w0:World)(P:Nat)(tg:Nat->Nat)(w:World)(W:Wd)(a:CA)(sb ob bb:Nat)(kv lv:Value)(s:Nat)(fo:Option Addr)(fl fc:Nat)(h:Q0 39 [] w0 P n tg w W a sb ob bb kv lv)(hwn:a.wo=none->a.wc=0)(hI:Inv n ls t W)(ht:t<=1000)(hlen:ls.length=len)(hnet:Zg w0 ao ls)(hx:len<=9223372036854775807)(hcap:len<=cap)(k:Int)(r:List Int)(hs:s<n)(hb:W.bk.getD s []=k::r):
 Calls prog 13 #[.pointer (some ⟨P,0,none⟩),.agg #[.int .i64 n,.slice ao len cap],.agg #[.int .i64 3,.int .i64 s,.slice fo fl fc]] w fun e w'=>ROut w0 P n tg w sb ob bb (hapK n ls W s) e w':=by
 have HW:=Qa h
 obtain⟨v,cv,fv,hbl,hv⟩:=h.bks.get hs
 rw[hb] at hv
 obtain⟨g,off,rc,rfl,hgl,hrc,hcells⟩:=hv.last (by simp)
 have cg:=hcells 0 (by simp)
 simp only[Nat.add_zero,List.getD_cons_zero,List.length_cons] at cg cv hrc
 have HVB:=Qa hv
 have HFV:=Qa fv
 have HI:=Qa hI
 have hln:r.length=0:=by rw[(q5x HI.out hs hb).1];rfl
 have HLN:=Qa hln
 have hP:=h.row.lt
 have HWN:=Qa hwn
 obtain⟨B,hB,EB,HBS,hb0,hb1,hb2⟩:=box3 w P n ao len cap 3 (s:Int) fo fl fc
 have HS:Hid (∀V,Ext B V->cl V w.heap.size 0 (.pointer (some ⟨P,0,none⟩))/\cl V P 0 (.int .i64 W.co.st)/\cl V P 1 (.int .i64 W.co.now.v)/\cl V P 2 (.slice a.n.fo W.co.now.fs.length a.n.fc)/\cl V P 3 (.slice a.n.qo W.co.now.ps.length a.n.qc)/\cl V P 4 (.int .i64 W.co.Qd.v)/\cl V P 5 (.slice a.x.fo W.co.Qd.fs.length a.x.fc)/\cl V P 6 (.slice a.x.qo W.co.Qd.ps.length a.x.qc)/\cl V P 7 (.int .i64 W.co.num)/\cl V P 8 (.slice a.wo W.co.Qg.length a.wc)/\cl V (w.heap.size+1) 0 (.int .i64 n)/\cl V (w.heap.size+1) 1 (.slice ao len cap)/\cl V (w.heap.size+1+1) 1 (.int .i64 s)/\cl V P 11 (.slice (some ⟨bb,0,none⟩) n n)/\cl V bb s (.slice (some ⟨g,off,none⟩) (r.length+1) rc)/\cl V g off (.int .i64 k)):=fun V hV=>by
  have hr:=HW.out.row.of_block (Below.block (EB.trans hV) P hP)
  have:=HBS.out
  exact⟨(hV.cells.1 _ _ (by omega)).trans (Qb hb0 0),hr.cell (i:=0) (by simp),hr.cell (i:=1) (by simp),hr.cell (i:=2) (by simp),hr.cell (i:=3) (by simp),hr.cell (i:=4) (by simp),hr.cell (i:=5) (by simp),hr.cell (i:=6) (by simp),hr.cell (i:=7) (by simp),hr.cell (i:=8) (by simp),(hV.cells.1 _ _ (by omega)).trans (Qb hb1 0),(hV.cells.1 _ _ (by omega)).trans (Qb hb1 1),(hV.cells.1 _ _ (by omega)).trans (Qb hb2 1),hr.cell (i:=11) (by simp),((EB.trans hV).cells.1 _ _ hbl).trans cv,((EB.trans hV).cells.1 _ _ hgl).trans cg⟩
 clear hb0 hb1
 have HPB:=hpb4 hP HBS
 have HCA:Hid (∀V,Ext B V->Calls prog 33 #[cvl W.co a,.agg #[.int .i64 n,.slice ao len cap],.int .i64 k] V fun e w'=>LtW (fun b=>tg b=0/\b<w.heap.size) V (Qw W.co n ls k).1 (Qw W.co n ls k).2 e w'):=fun V hV=>(z7f (fun b=>tg b=0/\b<w.heap.size) W.co a n k ao len cap ls V (z6n HW.out.co (EB.trans hV)) (HI.out.small ht) hlen (hnet.ext (HW.out.ext.trans (EB.trans hV))) hx hcap).mono (fun _ _ hh=>ltW hh)
 clear h hI hlen hnet hx hcap hwn hv hcells fv
 have HQ:Hid (∀V,Ext B V->cl V w.heap.size 0 (.pointer (some ⟨P,0,none⟩))/\cl V (w.heap.size+1+1) 1 (.int .i64 s)/\cl V P 11 (.slice (some ⟨bb,0,none⟩) n n)/\cl V bb s (.slice (some ⟨g,off,none⟩) (r.length+1) rc)):=fun V hV=>by
  obtain⟨z0,_,_,_,_,_,_,_,_,_,_,_,zd,z11,zbb,_⟩:=HS.out V hV
  exact⟨z0,zd,z11,zbb⟩
 unfold cvl at HCA
 obtain⟨lP,lw,lt1,lt2⟩:=HPB.out B (Ext.refl B)
 have hblB:bb<B.heap.size:=Q5 hbl EB.size
 have hglB:g<B.heap.size:=Q5 hgl EB.size
 have j1:(0:Int)<=(s:Int):=by omega
 have j2:(s:Int)<(n:Int):=by omega
 have b0:decide ((0:Int)<=(s:Int))=true:=dtt j1
 have b1:decide ((s:Int)<(n:Int))=true:=by simpa using j2
 have b2:decide (s<n)=true:=dtt hs
 go_enter func13,ntmps13
 go_upto_region 27 with fail
 rw[<-hB]
 have hdq:Ext B B.drew:=(Ext.refl B).drew
 go_region_held3 (fun V=>cl V w.heap.size 0 (.pointer (some ⟨P,0,none⟩))/\cl V (w.heap.size+1+1) 1 (.int .i64 s)/\cl V P 11 (.slice (some ⟨bb,0,none⟩) n n)/\cl V bb s (.slice (some ⟨g,off,none⟩) (r.length+1) rc))
  (first | (with_reducible exact HQ.out _ hdq) | fail)
  (fail)
 have EQ:Ext B B.drew:=hdq
 clear hdq
 generalize B.drew=B2 at EQ
 obtain⟨lP,lw,lt1,lt2⟩:=HPB.out B2 EQ
 have hblB:bb<B2.heap.size:=Q5 hbl (EB.trans EQ).size
 have hglB:g<B2.heap.size:=Q5 hgl (EB.trans EQ).size
 clear hB hb2
 go_upto_region 29 with fail
 have hd:Ext B B2.drew:=EQ.drew
 have hda:Ext B (B2.alloc (.cells #[.int .i64 0,.int .i64 0,.slice none 0 0,.slice none 0 0,.int .i64 0,.slice none 0 0,.slice none 0 0,.int .i64 0,.slice none 0 0] 32)).drew:=(EQ.alloc _).drew
 go_region_held3 (fun V=>cl V w.heap.size 0 (.pointer (some ⟨P,0,none⟩))/\cl V P 0 (.int .i64 W.co.st)/\cl V P 1 (.int .i64 W.co.now.v)/\cl V P 2 (.slice a.n.fo W.co.now.fs.length a.n.fc)/\cl V P 3 (.slice a.n.qo W.co.now.ps.length a.n.qc)/\cl V P 4 (.int .i64 W.co.Qd.v)/\cl V P 5 (.slice a.x.fo W.co.Qd.fs.length a.x.fc)/\cl V P 6 (.slice a.x.qo W.co.Qd.ps.length a.x.qc)/\cl V P 7 (.int .i64 W.co.num)/\cl V P 8 (.slice a.wo W.co.Qg.length a.wc)/\cl V (w.heap.size+1) 0 (.int .i64 n)/\cl V (w.heap.size+1) 1 (.slice ao len cap)/\cl V (w.heap.size+1+1) 1 (.int .i64 s)/\cl V P 11 (.slice (some ⟨bb,0,none⟩) n n)/\cl V bb s (.slice (some ⟨g,off,none⟩) (r.length+1) rc)/\cl V g off (.int .i64 k))
  (first | (with_reducible exact HS.out _ hd) | (with_reducible exact HS.out _ hda) | (with_reducible exact HS.out _ mk1) | (with_reducible exact HS.out _ mk2) | (with_reducible exact HS.out _ (mk1.alloc _)) | (with_reducible exact HS.out _ mk3) | fail)
  (first
  | (go_at_call 33
     with_reducible refine(HCA.out _ hd).mono ?_
     intro e w3 hG
     obtain⟨k0,k1,o2,l2,q2,o3,l3,q3,k4,o5,l5,q5,o6,l6,q6,k7,o8,l8,q8,tO,l9,tc,rfl,E9,HF⟩:=hG
     have mk1:=hd.trans E9)
  | (go_at_call 33
     with_reducible refine(HCA.out _ hda).mono ?_
     intro e w3 hG
     obtain⟨k0,k1,o2,l2,q2,o3,l3,q3,k4,o5,l5,q5,o6,l6,q6,k7,o8,l8,q8,tO,l9,tc,rfl,E9,HF⟩:=hG
     have mk2:=hda.trans E9
     have mk3:=q0g mk2 EQ.size (x0:=.int .i64 k0) (x1:=.int .i64 k1) (x2:=.slice o2 l2 q2) (x3:=.slice o3 l3 q3) (x4:=.int .i64 k4) (x5:=.slice o5 l5 q5) (x6:=.slice o6 l6 q6) (x7:=.int .i64 k7) (x8:=.slice o8 l8 q8)
     unfold W9 at mk3
     have HB:w3.rowIs B2.heap.size 32 9 _:=(q0k (T:=32) (show B2.heap.size=B2.heap.size from rfl) _ _ _ _ _ _ _ _ _).of_block (Below.block E9 _ (by simp))
     obtain⟨u0,u1,u2,u3,u4,u5,u6,u7,u8⟩:=q2p HB
     have uz:=HB.frozen
     have HHB:=Qa HB
     clear HB))
 focus
  have _t:=mk1
  obtain⟨w4,hw4⟩:=Qy (w3.alloc (.cells #[.int .i64 k0,.int .i64 k1,.slice o2 l2 q2,.slice o3 l3 q3,.int .i64 k4,.slice o5 l5 q5,.slice o6 l6 q6,.int .i64 k7,.slice o8 l8 q8] 32))
  have R4:w4.rowIs w3.heap.size 32 9 (fun j=>[.int .i64 k0,.int .i64 k1,.slice o2 l2 q2,.slice o3 l3 q3,.int .i64 k4,.slice o5 l5 q5,.slice o6 l6 q6,.int .i64 k7,.slice o8 l8 q8].getD j vd):=by rw[hw4];exact q0k rfl _ _ _ _ _ _ _ _ _
  have E4:Ext B w4:=by rw[hw4];exact mk1.alloc _
  have HST:Hid (∃a',Value.agg #[.int .i64 k0,.int .i64 k1,.slice o2 l2 q2,.slice o3 l3 q3,.int .i64 k4,.slice o5 l5 q5,.slice o6 l6 q6,.int .i64 k7,.slice o8 l8 q8]=cvl (Qw W.co n ls k).1.c a'/\l9=(Qw W.co n ls k).1.out.length/\(a'.wo=none->a'.wc=0)/\Stb (fun b=>tg b=0) w4 (fun U=>Zr U (Qw W.co n ls k).1.c a'/\Zw U tO (Qw W.co n ls k).1.out)):=by
   obtain⟨a',ea,el,hwn',hU⟩:=HF.out
   exact⟨a',ea,el,hwn',q9u HW.out.nw (EB.trans EQ).size hU (by rw[hw4];simp) (fun b hb _=>by rw[hw4];exact bal _ _ _ hb)⟩
  have HX0:Hid (tg w3.heap.size=0):=HW.out.nw _ (EB.trans mk1).size
  rw[<-hw4]
  clear hw4 mk1 E9 HF _t
  generalize w3.heap.size=X at R4 HX0 ⊢
 rotate_left
 focus
  have _t:=mk2
  obtain⟨w4,hw4⟩:=Qy (W9 w3 B2.heap.size (.int .i64 k0) (.int .i64 k1) (.slice o2 l2 q2) (.slice o3 l3 q3) (.int .i64 k4) (.slice o5 l5 q5) (.slice o6 l6 q6) (.int .i64 k7) (.slice o8 l8 q8))
  have R4:w4.rowIs B2.heap.size 32 9 (fun j=>[.int .i64 k0,.int .i64 k1,.slice o2 l2 q2,.slice o3 l3 q3,.int .i64 k4,.slice o5 l5 q5,.slice o6 l6 q6,.int .i64 k7,.slice o8 l8 q8].getD j vd):=by rw[hw4];exact q9p HHB.out
  have E4:Ext B w4:=by rw[hw4];exact q0g mk2 EQ.size
  have HST:Hid (∃a',Value.agg #[.int .i64 k0,.int .i64 k1,.slice o2 l2 q2,.slice o3 l3 q3,.int .i64 k4,.slice o5 l5 q5,.slice o6 l6 q6,.int .i64 k7,.slice o8 l8 q8]=cvl (Qw W.co n ls k).1.c a'/\l9=(Qw W.co n ls k).1.out.length/\(a'.wo=none->a'.wc=0)/\Stb (fun b=>tg b=0) w4 (fun U=>Zr U (Qw W.co n ls k).1.c a'/\Zw U tO (Qw W.co n ls k).1.out)):=by
   obtain⟨a',ea,el,hwn',hU⟩:=HF.out
   refine⟨a',ea,el,hwn',?_⟩
   rw[hw4]
   exact q9u HW.out.nw (ltr (EB.trans EQ).size (by simp)) hU (Nat.le_of_eq q1n.symm) (fun b hb hb2=>q0z b (by have:=(EB.trans EQ).size;simp at hb2;omega))
  have HX0:Hid (tg B2.heap.size=0):=HW.out.nw _ (EB.trans EQ).size
  unfold W9 at hw4
  rw[<-hw4]
  clear hw4 mk2 mk3 E9 HF _t u0 u1 u2 u3 u4 u5 u6 u7 u8 uz HHB
  generalize B2.heap.size=X at R4 HX0 ⊢
 rotate_left
 all_goals(
  obtain⟨x0,x1,x2,x3,x4,x5,x6,x7,x8⟩:=q2p R4
  simp only[List.getD_cons_zero,List.getD_cons_succ] at x0 x1 x2 x3 x4 x5 x6 x7 x8
  have hXl:=R4.lt
  clear R4
  obtain⟨lP4,lw4,_,lw42⟩:=HPB.out w4 E4
  by_cases h0:(Qw W.co n ls k).2=0
  ·have HD:=Qa (hapK_yes hs hb h0)
   have HDW:=Qa (z0j HI.out ht hs hb)
   rw[h0]
   clear h0
   obtain⟨z0,_,_,_,_,_,_,_,_,_,_,_,zd,z11,zbb,_⟩:=HS.out w4 E4
   have fbb:w4.frozen? ⟨bb,s,none⟩=false:=((EB.trans E4).cells.2 _ _ hbl).trans HFV.out
   have hbb4:bb<w4.heap.size:=Q5 hbl (EB.trans E4).size
   obtain⟨ao',hao⟩:=Qy ((if rc=1 then some (⟨g,off,none⟩:Addr) else some ⟨g,off+1,none⟩))
   have HAO:=Qa hao
   clear hao
   have HCUT:=Qa ((HW.out.Qm (EB.trans E4)).cutB hs HI.out.lbk (v':=.slice ao' 0 (rc - 1)) (ns':=r) (by rw[HAO.out];exact(HVB.out.Qh (Qf.ext (S:=fun _=>True) (EB.trans E4)) trivial).tail1 HLN.out))
   have HBT:Hid (tg bb=4):=HW.out.bks.1
   go_upto_region 32 with fail
   refine Last.LH.start (m:=16) (S:=fun V=>cl V w.heap.size 0 (.pointer (some ⟨P,0,none⟩))/\cl V (w.heap.size+1+1) 1 (.int .i64 s)/\cl V P 11 (.slice (some ⟨bb,0,none⟩) n n)/\cl V bb s (.slice (some ⟨g,off,none⟩) (r.length+1) rc)) (by kernel_rfl) ?_
   have Qe:(fun V:World=>cl V w.heap.size 0 (.pointer (some ⟨P,0,none⟩))/\cl V (w.heap.size+1+1) 1 (.int .i64 s)/\cl V P 11 (.slice (some ⟨bb,0,none⟩) n n)/\cl V bb s (.slice (some ⟨g,off,none⟩) (r.length+1) rc)) w4.drew:=⟨z0,zd,z11,zbb⟩
   refine ltk 0 Qe ?_
   refine ltk 1 Qe ?_
   refine ltk 2 Qe ?_
   refine ltk 3 Qe ?_
   refine ltk 4 Qe ?_
   refine ltk 5 Qe ?_
   refine ltk 6 Qe ?_
   refine ltk 7 Qe ?_
   refine ltk 8 Qe ?_
   refine ltk 9 Qe ?_
   refine ltk 10 Qe ?_
   refine ltk 11 Qe ?_
   refine ltk 12 Qe ?_
   refine ltk 13 Qe ?_
   refine ltk (v:=.slice ao' 0 (rc - 1)) 14 Qe ?_ (hy:=by intro W hSW;(try dsimp only at hSW);go_simp;rw[HAO.out])
   refine ltk 15 Qe ?_
   refine lon 16 (fun K hK=>?_)
   go_simp
   refine hK _ _ (fun h=>absurd rfl h) ?_
   clear hK K Qe
   refine ldn ?_
   obtain⟨w8,hw8⟩:=Qy ((w4.setCell ⟨bb,s,none⟩ (.slice ao' 0 (rc - 1))).drew)
   have HV:Hid (Q0 39 [] w0 P n tg w8 ⟨W.co,W.sw,W.od,W.bk.set s r,W.pk,W.pn⟩ a sb ob bb kv lv):=by rw[hw8];exact HCUT.out.1.Qm (Ext.refl _).drew
   have hK48:Zv tg tg w4 w8:=by rw[hw8];exact HCUT.out.2.trans (Zv.ext (Ext.refl _).drew)
   have HK8:=Qa hK48
   have e2:=(hK48.blk _ hXl (Or.inl HX0.out)).2
   have y0:=(cob (a:=⟨X,0,none⟩) e2).trans x0
   have y1:=(cob (a:=⟨X,1,none⟩) e2).trans x1
   have y2:=(cob (a:=⟨X,2,none⟩) e2).trans x2
   have y3:=(cob (a:=⟨X,3,none⟩) e2).trans x3
   have y4:=(cob (a:=⟨X,4,none⟩) e2).trans x4
   have y5:=(cob (a:=⟨X,5,none⟩) e2).trans x5
   have y6:=(cob (a:=⟨X,6,none⟩) e2).trans x6
   have y7:=(cob (a:=⟨X,7,none⟩) e2).trans x7
   have y8:=(cob (a:=⟨X,8,none⟩) e2).trans x8
   have hXl8:X<w8.heap.size:=Q5 hXl hK48.size
   have HBX:Hid (w8.cell? ⟨w.heap.size,0,none⟩=some (.pointer (some ⟨P,0,none⟩))/\tg w.heap.size=0/\w.heap.size<w8.heap.size):=by
    obtain⟨e1,e2⟩:=hK48.blk w.heap.size lw4 (Or.inl (HW.out.nw _ (Ql _)))
    exact⟨(cob (a:=⟨w.heap.size,0,none⟩) e2).trans (HS.out w4 E4).1,HW.out.nw _ (Ql _),Q5 lw4 hK48.size⟩
   have HT:Hid (Calls prog 29 #[.agg #[.int .i64 k0,.int .i64 k1,.slice o2 l2 q2,.slice o3 l3 q3,.int .i64 k4,.slice o5 l5 q5,.slice o6 l6 q6,.int .i64 k7,.slice o8 l8 q8],.slice tO l9 tc,.pointer (some ⟨w.heap.size,0,none⟩)] w8 fun e w'=>e=.returned (.tuple #[])/\∃tg' a',Q0 39 [] w0 P n tg' w' ⟨(Qw W.co n ls k).1.c,W.sw,Zh W.od (Qw W.co n ls k).1.out,W.bk.set s r,W.pk,W.pn⟩ a' sb ob bb kv lv/\Zv tg tg' w8 w'/\(a'.wo=none->a'.wc=0)):=by
    obtain⟨a',ea,el,hwn',hSt⟩:=HST.out
    show Calls _ _ _ _ _
    rw[ea,el]
    exact(q6g w0 P n tg w8 _ a sb ob bb w.heap.size kv lv _ a' _ tO tc HV.out HI.out.lod (hSt.Qh HK8.out (Or.inl rfl)) HDW.out.1 HDW.out.2 (fun s=>by have:=(HI.out.rows s).1;show(W.od.getD s []).length<=_;omega) HBX.out.1 HBX.out.2.1 HBX.out.2.2).mono (fun e w' ⟨h1,tg',h2,h3⟩=>⟨h1,tg',a',h2,h3,hwn'⟩)
   rw[<-hw8]
   clear hw8 e2 hK48 x0 x1 x2 x3 x4 x5 x6 x7 x8 z0 zd z11 zbb fbb HCUT
   go_wp2_with fail
   refine Calls.mono HT.out ?_
   rintro e w9 ⟨rfl,tg9,a9,hW9,hK9,hn9⟩
   have HW9:=Qa (And.intro hW9 (And.intro hK9 hn9))
   clear hW9 hK9 hn9 HT y0 y1 y2 y3 y4 y5 y6 y7 y8
   go_wp2
   go_ret
   rw[HD.out]
   exact⟨rfl,tg9,a9,kv,lv,HW9.out.1,((Zv.ext (EB.trans E4)).trans HK8.out).trans HW9.out.2.1,HW9.out.2.2⟩
  ·have HD:=Qa (hapK_no hs hb h0)
   have b9:((Qw W.co n ls k).2 != 0)=true:=by simpa using h0
   clear h0
   go_wp2
   go_ret
   rw[HD.out]
   exact⟨rfl,tg,a,kv,lv,HW.out.Qm (EB.trans E4),Zv.ext (EB.trans E4),HWN.out⟩)
end Rm
end Go.Proofs.YthkpbefnkmmaiaaGreat
