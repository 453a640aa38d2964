/- What goOn does: the stages that follow, for as long as nothing is waited for. -/
import Derived.Test.YtolclgbpjiokfaaU12
namespace Go.Proofs.Ytolclgbpjiokfaa.Ct
open Go.RowKit Go.Deep Stw Stp Tb Rul
theorem step_tell {B:Nat} {X:Nat→Prop} {F n P p1 p2:Nat} {ord:Nat→Option Wir.Od} {w0 w w1:World} {g:Cg} {a:CA} {wv tv:Value} {TV:List Value} (hC:CSt B X P w0 w g a n wv tv TV) (hX:∀b,w.heap.size≤b→X b)
 (h:Hid (∀(Q:Nat→Prop) (W:World),(∀b,w.heap.size≤b→b<w1.heap.size→Q b∧b<W.heap.size∧W.heap[b]? =w1.heap[b]?)→Ext w0 W→(∀b,W.heap.size≤b→Q b)→∀s:Nat,s<n→Calls Try.prog F #[.int .i64 s,.pointer (some ⟨p1,0,none⟩),.pointer (some ⟨p2,0,none⟩)] W fun e w''=>StOut Q (ord s) e w''∧Ext W w'')):
 ∀W tv' wv',Kp P w1 tv wv W tv' wv'→Ext w0 W→(∀b,W.heap.size≤b→Qn P tv' wv' b∧X b)→∀s:Nat,s<n→Calls Try.prog F #[.int .i64 s,.pointer (some ⟨p1,0,none⟩),.pointer (some ⟨p2,0,none⟩)] W fun e w'=>StOut (fun b=>Qn P tv' wv' b∧X b) (ord s) e w'∧Ext W w':=
 fun W tv' wv' hk hW hf s hs=>h.out (fun b=>Qn P tv' wv' b∧X b) W (fun b hb hlt=>⟨⟨(hk.block b (hC.fresh b hb) hlt).1,hX b hb⟩,Nat.lt_of_lt_of_le hlt hk.size,(hk.block b (hC.fresh b hb) hlt).2⟩) hW hf s hs
theorem rowL_set {P i:Nat} {w:World} {l:List Value} {T:TypeId} (h:w.rowIs P T 11 (fun j=>l.getD j vd)) (hi:i<l.length) (v:Value):(w.setCell ⟨P,i,none⟩ v).rowIs P T 11 (fun j=>(l.set i v).getD j vd):=
 (h.set i v).congr (fun j _=>getD_put hi j)
theorem CSt.redo {B:Nat} {X:Nat→Prop} {P n:Nat} {w0 w w':World} {g g':Cg} {a a':CA} {wv tv:Value} {TV:List Value} (h:CSt B X P w0 w g a n wv tv TV) (hrow:w'.rowIs P 157 11 (fun j=>(chL g'.c a' n wv tv).getD j vd)) (H:∀b,b≠P→w'.heap[b]? =w.heap[b]?) (hs:w'.heap.size=w.heap.size) (hE:Ext w0 w')
 (hw:g'.c.wts=g.c.wts) (ho:g'.out=g.out) (hn:PlNew B w0 g'.c.now a'.n) (hx:PlNew B w0 g'.c.nxt a'.x):CSt B X P w0 w' g' a' n wv tv TV:=by
 refine⟨hrow,?_,?_,h.wP,h.apart,?_,hE,h.hP,h.hB,hn,hx⟩
 ·rw[hw]
  refine⟨h.ownW.1,?_⟩
  rcases h.ownW.2 with h2 | ⟨b,cap,cur,h1,h2,h3,h4⟩
  ·exact Or.inl h2
  ·exact Or.inr ⟨b,cap,cur,h1,h2,(H b (fun e=>h.wP (by rw[h1,e];rfl))).trans h3,h4⟩
 ·rw[ho]
  refine⟨h.ownT.1,?_⟩
  rcases h.ownT.2 with h2 | ⟨b,cap,cur,h1,h2,h3,h4⟩
  ·exact Or.inl h2
  ·exact Or.inr ⟨b,cap,cur,h1,h2,(H b (by omega)).trans h3,h4⟩
 ·rw[ho];exact h.lt.mono (fun b hb hlt=>⟨hb,by omega,H b (by have:=hb.1.1;omega)⟩)
def NsOut (B:Nat) (X:Nat→Prop) (P n:Nat) (w0 w:World) (tv wv:Value) (g:Cg) (e:Ending) (w':World):Prop:=e=.returned (.bool (nextS n g).isSome)∧∃a' wv' tv' TV',CSt B X P w0 w' ((nextS n g).getD g) a' n wv' tv' TV'∧Kp P w tv wv w' tv' wv'
abbrev S7 (P:Nat) (v1:Int) (f1 q1:Value) (v2:Int) (f2 q2:Value) (V:World):Prop:=V.cell? ⟨P,1,none⟩=some (.int .i64 v1)∧V.cell? ⟨P,2,none⟩=some f1∧V.cell? ⟨P,3,none⟩=some q1∧V.cell? ⟨P,4,none⟩=some (.int .i64 v2)∧V.cell? ⟨P,5,none⟩=some f2∧V.cell? ⟨P,6,none⟩=some q2
theorem CSt.s7 {B:Nat} {X:Nat→Prop} {P n:Nat} {w0 w:World} {g:Cg} {a:CA} {wv tv:Value} {TV:List Value} (h:CSt B X P w0 w g a n wv tv TV):S7 P g.c.now.v (.slice a.n.fo g.c.now.fs.length a.n.fc) (.slice a.n.qo g.c.now.ps.length a.n.qc) g.c.nxt.v (.slice a.x.fo g.c.nxt.fs.length a.x.fc) (.slice a.x.qo g.c.nxt.ps.length a.x.qc) w:=
 ⟨h.row.cell (i:=1) (by omega),h.row.cell (i:=2) (by omega),h.row.cell (i:=3) (by omega),h.row.cell (i:=4) (by omega),h.row.cell (i:=5) (by omega),h.row.cell (i:=6) (by omega)⟩
set_option maxRecDepth 100000 in
set_option maxHeartbeats 4000000 in
theorem nextStage_any (B:Nat) (X:Nat→Prop) (P n:Nat) (w0 w:World) (g:Cg) (a:CA) (wv tv:Value) (TV:List Value) (h:CSt B X P w0 w g a n wv tv TV) (hX:∀b,w.heap.size≤b→X b) (hn:n≤8) (hnk:PlOk g.c.now) (hxk:PlOk g.c.nxt) (hwl:g.c.wts.length≤16777216) (hol:g.c.st=1→g.out.length≤100):
 Calls Try.prog 96 #[.pointer (some ⟨P,0,none⟩)] w fun e w'=>NsOut B X P n w0 w tv wv g e w':=by
 obtain⟨⟨st,now,nxt,num,wts⟩,out⟩:=g
 simp only at hnk hxk hwl hol
 have s0:w.cell? ⟨P,0,none⟩=some (.int .i64 st):=h.row.cell (i:=0) (by omega)
 have z0:=h.row.frozen 0
 have HC:=hidp h
 have hPl:=h.row.lt
 clear h
 by_cases h1:st=1
 ·subst h1
  have ho:out.length≤100:=hol rfl
  clear hol
  have HN:Hid (nextS n ⟨⟨1,now,nxt,num,wts⟩,out⟩=some (told n (stpO now nxt) ⟨⟨2,now,nxt,num,wts⟩,out⟩)):=rfl
  go_enter Try.func96,Try.ntmps96
  go_upto_region 6 with fail
  obtain⟨w2,hw2⟩:∃w2,w2=w.setCell ⟨P,0,none⟩ (.int .i64 2):=⟨_,rfl⟩
  have HC2:Hid (CSt B X P w0 w2 ⟨⟨2,now,nxt,num,wts⟩,out⟩ a n wv tv TV):=by rw[hw2];exact HC.out.put (g':=⟨⟨2,now,nxt,num,wts⟩,out⟩) 0 (by omega) _ rfl rfl rfl HC.out.hn HC.out.hx
  have HKp:Hid (Kp P w tv wv w2 tv wv):=by rw[hw2];exact CSt.kput
  rw[←hw2]
  clear hw2 HC s0 z0
  have HX2:Hid (∀b,w2.drew.heap.size≤b→X b):=hidp (fun b hb=>hX b (by have:=HKp.out.size;exact Nat.le_trans this hb))
  have hd:Ext w2 w2.drew:=(Ext.refl w2).drew
  have HS7:Hid (∀V,Ext w2 V→S7 P now.v (.slice a.n.fo now.fs.length a.n.fc) (.slice a.n.qo now.ps.length a.n.qc) nxt.v (.slice a.x.fo nxt.fs.length a.x.fc) (.slice a.x.qo nxt.ps.length a.x.qc) V):=fun V hV=>(HC2.out.ext hV).s7
  have HST:Hid (Calls Try.prog 111 #[.agg #[.int .i64 now.v,.slice a.n.fo now.fs.length a.n.fc,.slice a.n.qo now.ps.length a.n.qc],.agg #[.int .i64 nxt.v,.slice a.x.fo nxt.fs.length a.x.fc,.slice a.x.qo nxt.ps.length a.x.qc]] w2.drew fun e w'=>StepOf 117 n (stpO now nxt) w0 w2.drew w' e):=stamping_any now nxt a.n a.x n w0 _ HC2.out.hn.at HC2.out.hx.at hnk hxk
  have HTE:Hid (∀(w1:World) (p1 p2:Nat),Ext w2.drew w1→Hid (∀(Q:Nat→Prop) (W:World),(∀b,w2.drew.heap.size≤b→b<w1.heap.size→Q b∧b<W.heap.size∧W.heap[b]? =w1.heap[b]?)→Ext w0 W→(∀b,W.heap.size≤b→Q b)→∀s:Nat,s<n→Calls Try.prog 117 #[.int .i64 s,.pointer (some ⟨p1,0,none⟩),.pointer (some ⟨p2,0,none⟩)] W fun e w''=>StOut Q (stpO now nxt s) e w''∧Ext W w'')→
   Calls Try.prog 84 #[.pointer (some ⟨P,0,none⟩),.func (.func 117) #[] #[.pointer (some ⟨p1,0,none⟩),.pointer (some ⟨p2,0,none⟩)]] w1 fun e w'=>TeOut B X P w0 w1 (told n (stpO now nxt) ⟨⟨2,now,nxt,num,wts⟩,out⟩) a n wv tv e w'):=fun w1 p1 p2 E1 hs=>
   tell_any B X 117 p1 p2 P n (stpO now nxt) w0 w1 _ a wv tv TV ((HC2.out.ext hd).ext E1) (Or.inr (Or.inr rfl)) (fun b hb=>HX2.out b (Nat.le_trans E1.size hb)) hn hwl ho (step_tell (HC2.out.ext hd) HX2.out hs)
  clear hnk hxk hwl ho
  obtain⟨v1,f1,q1,v2,f2,q2,e1,e2,e3,e4,e5,e6⟩:∃v1 f1 q1 v2 f2 q2,now.v=v1∧Value.slice a.n.fo now.fs.length a.n.fc=f1∧Value.slice a.n.qo now.ps.length a.n.qc=q1∧nxt.v=v2∧Value.slice a.x.fo nxt.fs.length a.x.fc=f2∧Value.slice a.x.qo nxt.ps.length a.x.qc=q2:=⟨_,_,_,_,_,_,rfl,rfl,rfl,rfl,rfl,rfl⟩
  have HS8:Hid (∀V wv' tv' TV',CSt B X P w0 V (told n (stpO now nxt) ⟨⟨2,now,nxt,num,wts⟩,out⟩) a n wv' tv' TV'→S7 P now.v (.slice a.n.fo now.fs.length a.n.fc) (.slice a.n.qo now.ps.length a.n.qc) nxt.v (.slice a.x.fo nxt.fs.length a.x.fc) (.slice a.x.qo nxt.ps.length a.x.qc) V):=fun V wv' tv' TV' hV=>hV.s7
  rw[e1,e2,e3,e4,e5,e6] at HS7 HST HS8
  clear e1 e2 e3 e4 e5 e6
  go_region_held3 (fun V=>V.cell? ⟨P,1,none⟩=some (.int .i64 v1)∧V.cell? ⟨P,2,none⟩=some f1∧V.cell? ⟨P,3,none⟩=some q1∧V.cell? ⟨P,4,none⟩=some (.int .i64 v2)∧V.cell? ⟨P,5,none⟩=some f2∧V.cell? ⟨P,6,none⟩=some q2)
   (first | with_reducible exact HS7.out _ hd | with_reducible exact HS7.out _ mk1 | with_reducible exact HSL.out)
   (first
   | (have _t:=mk1
      go_at_call 84
      refine(HTE.out _ _ _ E1 HP).mono ?_
      rintro e w4 ⟨rfl,wv',tv',TV',hC4,hK4⟩
      have HC4:=hidp hC4
      have HSL:=hidp (HS8.out _ _ _ _ hC4)
      have HK4:=hidp (HKp.out.trans ((Kp.ext mk1).trans hK4))
      clear hC4 hK4)
   | (go_at_call 111
      refine HST.out.mono ?_
      rintro e w3 ⟨p1,p2,rfl,E1,HP⟩
      have mk1:=hd.trans E1)
   | fail)
  all_goals
   go_wp2
   go_ret
   exact⟨by rw[HN.out];first | done | rfl,a,wv',tv',TV',by rw[HN.out];exact HC4.out,HK4.out⟩
 ·by_cases h2:st=2
  ·subst h2
   have HN:Hid (nextS n ⟨⟨2,now,nxt,num,wts⟩,out⟩=some ⟨⟨3,now,nxt,num,wts⟩,out⟩):=rfl
   clear hol hnk hxk hwl h1
   go_enter Try.func96,Try.ntmps96
   go_wp2
   go_ret
   exact⟨by rw[HN.out];first | done | rfl,a,wv,tv,TV,by rw[HN.out];exact HC.out.put (g':=⟨⟨3,now,nxt,num,wts⟩,out⟩) 0 (by omega) _ rfl rfl rfl HC.out.hn HC.out.hx,CSt.kput⟩
  ·by_cases h4:st=4
   ·subst h4
    have HN:Hid (nextS n ⟨⟨4,now,nxt,num,wts⟩,out⟩=some ⟨⟨0,nxt,pl0,num,wts⟩,out⟩):=rfl
    clear hol hnk hxk hwl h1 h2
    obtain⟨t1,t2,t3,t4,t5,t6⟩:=HC.out.s7
    simp only at t1 t2 t3 t4 t5 t6
    have z1:=HC.out.row.frozen 1
    have z2:=HC.out.row.frozen 2
    have z3:=HC.out.row.frozen 3
    have z4:=HC.out.row.frozen 4
    have z5:=HC.out.row.frozen 5
    have z6:=HC.out.row.frozen 6
    have HF:Hid (∃a',CSt B X P w0 (((((((w.setCell ⟨P,0,none⟩ (.int .i64 0)).setCell ⟨P,1,none⟩ (.int .i64 nxt.v)).setCell ⟨P,2,none⟩ (.slice a.x.fo nxt.fs.length a.x.fc)).setCell ⟨P,3,none⟩ (.slice a.x.qo nxt.ps.length a.x.qc)).setCell ⟨P,4,none⟩ (.int .i64 0)).setCell ⟨P,5,none⟩ (.slice none 0 0)).setCell ⟨P,6,none⟩ (.slice none 0 0)) ⟨⟨0,nxt,pl0,num,wts⟩,out⟩ a' n wv tv TV):=by
     have c:=HC.out
     have hp:w0.heap.size≤P:=c.hP
     refine⟨⟨a.x,pa0,a.wo,a.wc⟩,c.redo ?_ (fun b hb=>?_) (by simp) ?_ rfl rfl c.hx (PlNew.zero B w0)⟩
     ·exact rowL_set (rowL_set (rowL_set (rowL_set (rowL_set (rowL_set (rowL_set c.row (i:=0) (by simp[chL]) _) (i:=1) (by simp[chL]) _) (i:=2) (by simp[chL]) _) (i:=3) (by simp[chL]) _) (i:=4) (by simp[chL]) _) (i:=5) (by simp[chL]) _) (i:=6) (by simp[chL]) _
     ·simp only[blk_setCell_other _ _ _ _ (show b≠(⟨P,0,none⟩:Addr).block from hb),blk_setCell_other _ _ _ _ (show b≠(⟨P,1,none⟩:Addr).block from hb),blk_setCell_other _ _ _ _ (show b≠(⟨P,2,none⟩:Addr).block from hb),blk_setCell_other _ _ _ _ (show b≠(⟨P,3,none⟩:Addr).block from hb),blk_setCell_other _ _ _ _ (show b≠(⟨P,4,none⟩:Addr).block from hb),blk_setCell_other _ _ _ _ (show b≠(⟨P,5,none⟩:Addr).block from hb),blk_setCell_other _ _ _ _ (show b≠(⟨P,6,none⟩:Addr).block from hb)]
     ·exact((((((c.bel.setCell (by simpa using hp) _).setCell (by simpa using hp) _).setCell (by simpa using hp) _).setCell (by simpa using hp) _).setCell (by simpa using hp) _).setCell (by simpa using hp) _).setCell (by simpa using hp) _
    obtain⟨a',hF⟩:=HF.out
    have HF':=hidp hF
    clear hF HF
    go_enter Try.func96,Try.ntmps96
    go_wp2
    go_ret
    exact⟨by rw[HN.out];first | done | rfl,a',wv,tv,TV,by rw[HN.out];exact HF'.out,(CSt.kput.trans (CSt.kput.trans (CSt.kput.trans (CSt.kput.trans (CSt.kput.trans (CSt.kput.trans CSt.kput))))))⟩
   ·have HN:Hid (nextS n ⟨⟨st,now,nxt,num,wts⟩,out⟩=none):=by show nextS _ _=_;unfold nextS;simp[h1,h2,h4]
    have b1:(st == 1)=false:=by simpa using h1
    have b2:(st == 2)=false:=by simpa using h2
    have b4:(st == 4)=false:=by simpa using h4
    clear hol hnk hxk hwl h1 h2 h4
    go_enter Try.func96,Try.ntmps96
    go_wp2
    go_ret
    exact⟨by rw[HN.out];first | done | rfl,a,wv,tv,TV,by rw[HN.out];exact HC.out,Kp.ext (Ext.refl w)⟩
end Go.Proofs.Ytolclgbpjiokfaa.Ct
namespace Go.Proofs.Ytolclgbpjiokfaa.Ct
open Go.RowKit Go.Deep Stw Stp Tb Rul
theorem goS_wait {n:Nat} {g:Cg} (h:g.c.wts≠[]):goS n g=g:=by unfold goS;rw[if_pos h]
theorem goS_stay {n:Nat} {g:Cg} (hw:g.c.wts=[]) (h:nextS n g=none):goS n g=g:=by
 unfold nextS at h
 unfold goS
 rw[if_neg (by simp[hw])]
 split at h
 ·cases h
 ·split at h
  ·cases h
  ·split at h
   ·cases h
   ·rename_i h1 h2 h4
    rw[if_neg h1,if_neg h2,if_neg h4]
theorem goS_step {n:Nat} {g g':Cg} (hw:g.c.wts=[]) (h:nextS n g=some g'):goS n g'=goS n g∧g'.c.st≠1∧(g.c.st=1→g'.c.st=2)∧(g.c.st≠1→(g.c.st=2∨g.c.st=4)∧g'.c.st≠2∧g'.c.st≠4):=by
 unfold nextS at h
 split at h
 ·rename_i h1
  cases h
  refine⟨?_,by simp[told,setSt],fun _=>rfl,fun h=>absurd h1 h⟩
  rw[show goS n g=calmS (told n (stpO g.c.now g.c.nxt) (setSt g 2)) by unfold goS;rw[if_neg (by simp[hw]),if_pos h1]]
  unfold goS calmS
  split
  ·rfl
  ·rw[if_neg (by simp[told,setSt]),if_pos (by simp[told,setSt])]
 ·rename_i h1
  split at h
  ·rename_i h2
   cases h
   refine⟨?_,by simp[setSt],fun h=>absurd h h1,fun _=>⟨Or.inl h2,by simp[setSt],by simp[setSt]⟩⟩
   rw[show goS n g=setSt g 3 by unfold goS;rw[if_neg (by simp[hw]),if_neg h1,if_pos h2]]
   unfold goS
   rw[if_neg (by simp[setSt,hw]),if_neg (by simp[setSt]),if_neg (by simp[setSt]),if_neg (by simp[setSt])]
  ·rename_i h2
   split at h
   ·rename_i h4
    cases h
    refine⟨?_,by simp,fun h=>absurd h h1,fun _=>⟨Or.inr h4,by simp,by simp⟩⟩
    rw[show goS n g=⟨⟨0,g.c.nxt,pl0,g.c.num,g.c.wts⟩,g.out⟩ by unfold goS;rw[if_neg (by simp[hw]),if_neg h1,if_neg h2,if_pos h4]]
    unfold goS
    rw[if_neg (by simp[hw]),if_neg (by simp),if_neg (by simp),if_neg (by simp)]
   ·cases h
theorem nextS_ok {n:Nat} {g g':Cg} (h:nextS n g=some g') (hn:PlOk g.c.now) (hx:PlOk g.c.nxt):PlOk g'.c.now∧PlOk g'.c.nxt:=by
 unfold nextS at h
 split at h
 ·cases h;exact⟨hn,hx⟩
 ·split at h
  ·cases h;exact⟨hn,hx⟩
  ·split at h
   ·cases h;exact⟨hx,PlOk.zero⟩
   ·cases h
def rk (st:Int):Nat:=if st=1 then 2 else if st=2∨st=4 then 1 else 0
def rkW (P:Nat) (w:World):Nat:=match w.cell? ⟨P,0,none⟩ with
 | some (.int .i64 k)=>rk k
 | _=>0
theorem CSt.rkW {B:Nat} {X:Nat→Prop} {P n:Nat} {w0 w:World} {g:Cg} {a:CA} {wv tv:Value} {TV:List Value} (h:CSt B X P w0 w g a n wv tv TV):rkW P w=rk g.c.st:=by
 have:w.cell? ⟨P,0,none⟩=some (.int .i64 g.c.st):=h.row.cell (i:=0) (by omega)
 unfold Ct.rkW;rw[this]
theorem nextS_len {n:Nat} {g g':Cg} (hw:g.c.wts.length≤8) (hn:n≤8) (h:nextS n g=some g'):g'.c.wts.length≤16777216:=by
 unfold nextS at h
 split at h
 ·cases h
  have:=(told_len (ord:=stpO g.c.now g.c.nxt) (g:=setSt g 2) n).1
  have e:(setSt g 2).c.wts=g.c.wts:=rfl
  rw[e] at this
  omega
 ·split at h
  ·cases h;show g.c.wts.length≤_;omega
  ·split at h
   ·cases h;show g.c.wts.length≤_;omega
   ·cases h
theorem rk_lt {s s':Int} (h:s'≠1∧(s=1→s'=2)∧(s≠1→(s=2∨s=4)∧s'≠2∧s'≠4)):rk s'<rk s:=by
 unfold rk
 by_cases h1:s=1
 ·rw[if_pos h1,h.2.1 h1];decide
 ·obtain⟨h2,h3,h4⟩:=h.2.2 h1
  rw[if_neg h1,if_pos h2,if_neg h.1,if_neg (by omega)];decide
def GoOut (B:Nat) (w0:World) (G:Cg) (k:Int) (e:Ending) (w':World):Prop:=∃a' tO tc,e=.returned (.tuple #[cvl G.c a',.slice tO G.out.length tc,.int .i64 k])∧Hid (∀U:World,w'.heap.size≤U.heap.size→(∀b,B≤b→b<w'.heap.size→U.heap[b]? =w'.heap[b]?)→CoAt U G.c a'∧TosAt U tO G.out)∧Ext w0 w'
theorem drew_heap (V:World):V.drew.heap=V.heap:=rfl
def W9 (V:World) (R:Nat) (x0 x1 x2 x3 x4 x5 x6 x7 x8:Value):World:=((((((((V.setCell ⟨R,0,none⟩ x0).setCell ⟨R,1,none⟩ x1).setCell ⟨R,2,none⟩ x2).setCell ⟨R,3,none⟩ x3).setCell ⟨R,4,none⟩ x4).setCell ⟨R,5,none⟩ x5).setCell ⟨R,6,none⟩ x6).setCell ⟨R,7,none⟩ x7).setCell ⟨R,8,none⟩ x8
theorem W9_block0 {V:World} {R:Nat} {x0 x1 x2 x3 x4 x5 x6 x7 x8:Value}:∀b,b≠R→(W9 V R x0 x1 x2 x3 x4 x5 x6 x7 x8).heap[b]? =V.heap[b]?:=fun b hb=>by
 unfold W9
 rw[blk_setCell_other _ _ _ _ hb,blk_setCell_other _ _ _ _ hb,blk_setCell_other _ _ _ _ hb,blk_setCell_other _ _ _ _ hb,blk_setCell_other _ _ _ _ hb,blk_setCell_other _ _ _ _ hb,blk_setCell_other _ _ _ _ hb,blk_setCell_other _ _ _ _ hb,blk_setCell_other _ _ _ _ hb]
theorem W9_size0 {V:World} {R:Nat} {x0 x1 x2 x3 x4 x5 x6 x7 x8:Value}:(W9 V R x0 x1 x2 x3 x4 x5 x6 x7 x8).heap.size=V.heap.size:=by
 unfold W9
 simp
theorem W9_ext0 {w0 V:World} {R:Nat} {x0 x1 x2 x3 x4 x5 x6 x7 x8:Value} (h:Ext w0 V) (hR:w0.heap.size≤R):Ext w0 (W9 V R x0 x1 x2 x3 x4 x5 x6 x7 x8):=
 ((((((((h.setCell hR _).setCell hR _).setCell hR _).setCell hR _).setCell hR _).setCell hR _).setCell hR _).setCell hR _).setCell hR _
theorem W9_block {V:World} {R:Nat} {x0 x1 x2 x3 x4 x5 x6 x7 x8:Value}:∀b,b≠R→(W9 V R x0 x1 x2 x3 x4 x5 x6 x7 x8).drew.heap[b]? =V.heap[b]?:=fun b hb=>by
 rw[drew_heap];exact W9_block0 b hb
theorem W9_size {V:World} {R:Nat} {x0 x1 x2 x3 x4 x5 x6 x7 x8:Value}:(W9 V R x0 x1 x2 x3 x4 x5 x6 x7 x8).drew.heap.size=V.heap.size:=by
 rw[drew_heap];exact W9_size0
theorem W9_ext {w0 V:World} {R:Nat} {x0 x1 x2 x3 x4 x5 x6 x7 x8:Value} (h:Ext w0 V) (hR:w0.heap.size≤R):Ext w0 (W9 V R x0 x1 x2 x3 x4 x5 x6 x7 x8).drew:=(W9_ext0 h hR).drew
def GInv (B R P n:Nat) (w0 w1:World) (tv wv:Value) (g:Cg) (wr:World):Prop:=∃g' a' wv' tv' TV',CSt B (· ≠R) P w0 wr g' a' n wv' tv' TV'∧Kp P w1 tv wv wr tv' wv'∧goS n g'=goS n g∧PlOk g'.c.now∧PlOk g'.c.nxt∧(g'.c.st=1→g'.out.length≤100)∧g'.c.wts.length≤16777216
theorem CSt.fin9 {B R P n:Nat} {w0 w V:World} {g:Cg} {a:CA} {wv tv:Value} {TV:List Value} (h:CSt B (· ≠R) P w0 w g a n wv tv TV) (hR:Qn P tv wv R) (hw0:w0.heap.size≤R) (hV:∀b,b≠R→V.heap[b]? =w.heap[b]?) (hs:V.heap.size=w.heap.size) {wo tO:Option Addr} {wc tc:Nat} (ew:wv=.slice wo g.c.wts.length wc) (et:tv=.slice tO g.out.length tc):
 ∀U:World,V.heap.size≤U.heap.size→(∀b,B≤b→b<V.heap.size→U.heap[b]? =V.heap[b]?)→CoAt U g.c ⟨a.n,a.x,wo,wc⟩∧TosAt U tO g.out:=fun U hsU hU=>by
 have hB:=h.hB
 have hP:=h.hP
 have hK:∀b,b≠R→B≤b→b<w.heap.size→U.heap[b]? =w.heap[b]?:=fun b h1 h2 h3=>(hU b h2 (by omega)).trans (hV b h1)
 have oW:U.ownsRow w0.heap.size 3 1 wv g.c.wts.length (g.c.wts.map (Value.int .i64)):=by
  refine⟨h.ownW.1,?_⟩
  rcases h.ownW.2 with h2 | ⟨b,cap,cur,h1,h2,h3,h4⟩
  ·exact Or.inl h2
  ·exact Or.inr ⟨b,cap,cur,h1,h2,(hK b (fun e=>hR.2.1 (by rw[h1,e];rfl)) (by omega) (h.ownW.lt b (by rw[h1];rfl)).2).trans h3,h4⟩
 have oT:U.ownsRow (P+1) 164 6 tv g.out.length TV:=by
  refine⟨h.ownT.1,?_⟩
  rcases h.ownT.2 with h2 | ⟨b,cap,cur,h1,h2,h3,h4⟩
  ·exact Or.inl h2
  ·exact Or.inr ⟨b,cap,cur,h1,h2,(hK b (fun e=>hR.2.2 (by rw[h1,e];rfl)) (by omega) (h.ownT.lt b (by rw[h1];rfl)).2).trans h3,h4⟩
 obtain⟨wo',wc',e1,hl,_⟩:=(fn_own oW).fv
 obtain⟨tO',tc',e2,ht⟩:=tos_own oT (h.lt.mono (w':=U) (Q':=fun _=>True) (fun b hb hlt=>⟨trivial,by omega,hK b hb.2 (by have:=hb.1.1;omega) hlt⟩))
 rw[ew] at e1
 rw[et] at e2
 cases e1
 cases e2
 have hbl:=h.bel.size
 have hp:∀b,B≤b→b<w0.heap.size→U.heap[b]? =w0.heap[b]?:=fun b h1 h2=>(hK b (by omega) h1 (by omega)).trans (Below.block h.bel b h2)
 exact⟨⟨h.hn U (by omega) hp,h.hx U (by omega) hp,hl⟩,ht⟩
set_option maxRecDepth 100000 in
set_option maxHeartbeats 4000000 in
theorem goOn_any (B P n:Nat) (w0 w:World) (g:Cg) (a:CA) (wv tv:Value) (TV:List Value) (h:CSt B (fun _=>True) P w0 w g a n wv tv TV) (hn:n≤8) (hnk:PlOk g.c.now) (hxk:PlOk g.c.nxt) (hwl:g.c.wts.length≤16777216) (hol:g.out.length≤100):
 Calls Try.prog 86 #[.pointer (some ⟨P,0,none⟩)] w fun e w'=>GoOut B w0 (goS n g) 0 e w':=by
 have HC:=hidp h
 have hPl:=h.row.lt
 have HK:=hidp (And.intro hnk hxk)
 have hw0:w0.heap.size≤w.heap.size:=h.bel.size
 clear h hnk hxk
 go_enter Try.func86,Try.ntmps86
 go_wp2
 obtain⟨w1,hw1⟩:∃w1,w1=w.alloc (.cells #[.int .i64 0,.int .i64 0,.slice none 0 0,.slice none 0 0,.int .i64 0,.slice none 0 0,.slice none 0 0,.int .i64 0,.slice none 0 0] 33):=⟨_,rfl⟩
 have hE1:Ext w w1:=by rw[hw1];exact(Ext.refl w).alloc _
 have HC1:Hid (CSt B (· ≠w.heap.size) P w0 w1 g a n wv tv TV):=by
  have c:=HC.out.ext hE1
  refine⟨c.row,c.ownW,c.ownT,c.wP,c.apart,?_,c.bel,c.hP,c.hB,c.hn,c.hx⟩
  exact HC.out.lt.mono (fun b hb hlt=>⟨⟨hb.1,by omega⟩,Nat.lt_of_lt_of_le hlt hE1.size,Below.block hE1 b hlt⟩)
 have HR:Hid (Qn P tv wv w.heap.size∧w1.heap[w.heap.size]? =some (.cells #[.int .i64 0,.int .i64 0,.slice none 0 0,.slice none 0 0,.int .i64 0,.slice none 0 0,.slice none 0 0,.int .i64 0,.slice none 0 0] 33 (0,0))∧w.heap.size<w1.heap.size):=by
  refine⟨HC.out.fresh _ (Nat.le_refl _),?_,by rw[hw1];simp⟩
  rw[hw1];exact blk_alloc_new _ _
 rw[←hw1]
 obtain⟨R,hR⟩:∃R,R=w.heap.size:=⟨_,rfl⟩
 rw[←hR] at HC1 HR hw0 ⊢
 clear hw1 HC hE1 hR
 go_loopw [] (fun wr=>Hid (GInv B R P n w0 w1 tv wv g wr)) (fun wr=>rkW P wr)
 case atStart=>exact⟨g,a,wv,tv,TV,HC1.out,Kp.ext (Ext.refl w1),rfl,HK.out.1,HK.out.2,fun _=>hol,hwl⟩
 case round=>
  clear HC1 HK
  obtain⟨⟨⟨st,now,nxt,num,wts⟩,out⟩,a2,wv2,tv2,TV2,hC2,hK2,hg2,hn2,hx2,ho2,hwl2⟩:=hrel.out
  clear hrel
  have HC2:=hidp hC2
  have HK2:=hidp hK2
  have HG2:=hidp hg2
  have hRK:rkW P wr=rk st:=hC2.rkW
  obtain⟨wo,wc,hwv,_⟩:=fn_own hC2.ownW
  have c8:wr.cell? ⟨P,8,none⟩=some (.slice wo wts.length wc):=by rw[←hwv];exact hC2.row.cell (i:=8) (by omega)
  have hPl2:=hC2.row.lt
  clear hC2 hK2 hg2 hwv
  have HRK:=hidp hRK
  clear hRK
  by_cases hw:wts=[]
  ·subst hw
   simp only[List.length_nil] at c8 hwl2
   have HNS:=hidp (nextStage_any B (· ≠R) P n w0 wr _ a2 wv2 tv2 TV2 HC2.out (fun b hb=>by have:=HR.out.2.2;have:=HK2.out.size;omega) hn hn2 hx2 (by simp) ho2)
   go_wp2_with fail
   refine HNS.out.mono ?_
   rintro e w2 ⟨rfl,a3,wv3,tv3,TV3,hC3,hK3⟩
   have HC3:=hidp hC3
   have HK3:=hidp (HK2.out.trans hK3)
   clear hC3 hK3 HNS c8
   cases hns:nextS n ⟨⟨st,now,nxt,num,[]⟩,out⟩ with
   | some g4=>
    rw[hns] at HC3
    have HST:=hidp (goS_step rfl hns)
    have HOK:=hidp (nextS_ok hns hn2 hx2)
    have HWL:Hid (g4.c.wts.length≤16777216):=nextS_len (by simp) hn hns
    clear hns
    go_wp2
    refine⟨⟨g4,a3,wv3,tv3,TV3,HC3.out,HK3.out,HST.out.1.trans HG2.out,HOK.out.1,HOK.out.2,fun h=>absurd h HST.out.2.1,HWL.out⟩,?_⟩
    rw[HRK.out,HC3.out.rkW]
    exact rk_lt HST.out.2
   | none=>
    rw[hns] at HC3
    have HST:=hidp ((goS_stay rfl hns).symm.trans HG2.out)
    clear hns
    go_wp2
    obtain⟨G5,hG5⟩:∃G5:Cg,(⟨⟨st,now,nxt,num,[]⟩,out⟩:Cg)=G5:=⟨_,rfl⟩
    have HC5:Hid (CSt B (· ≠R) P w0 w2 G5 a3 n wv3 tv3 TV3):=by rw[←hG5];exact HC3.out
    rw[hG5] at HST
    obtain⟨V5,a5,wv5,tv5,TV5,eV,ea,ew,et,eT⟩:∃V5 a5 wv5 tv5 TV5,w2=V5∧a3=a5∧wv3=wv5∧tv3=tv5∧TV3=TV5:=⟨_,_,_,_,_,rfl,rfl,rfl,rfl,rfl⟩
    rw[ea,ew,et,eT] at HC5
    rw[ew,et] at HK3
    rw[eV] at HC5 HK3 ⊢
    have HK5:=HK3
    clear HC3 HK3 HC2 HK2 HG2 HRK hG5 eV ea ew et eT hn2 hx2 ho2 hwl2
    have hb5:V5.heap[R]? =some (.cells #[.int .i64 0,.int .i64 0,.slice none 0 0,.slice none 0 0,.int .i64 0,.slice none 0 0,.slice none 0 0,.int .i64 0,.slice none 0 0] 33 (0,0)):=((HK5.out.block R HR.out.1 HR.out.2.2).2).trans HR.out.2.1
    have HFIN:Hid (∀(V:World) (wo tO:Option Addr) (wc tc:Nat),(∀b,b≠R→V.heap[b]? =V5.heap[b]?)→V.heap.size=V5.heap.size→wv5=.slice wo G5.c.wts.length wc→tv5=.slice tO G5.out.length tc→_):=fun V wo tO wc tc hV hs ew et=>HC5.out.fin9 (V:=V) ((HK5.out.block R HR.out.1 HR.out.2.2).1) hw0 hV hs ew et
    have HBE:Hid (Ext w0 V5):=HC5.out.bel
    obtain⟨wo5,wc5,hwv,_⟩:=fn_own HC5.out.ownW
    obtain⟨tO5,tc5,htv,_⟩:=tos_own HC5.out.ownT HC5.out.lt
    obtain⟨k0,hk0⟩:∃v,G5.c.st=v:=⟨_,rfl⟩
    obtain⟨k1,hk1⟩:∃v,G5.c.now.v=v:=⟨_,rfl⟩
    obtain⟨k4,hk4⟩:∃v,G5.c.nxt.v=v:=⟨_,rfl⟩
    obtain⟨k7,hk7⟩:∃v,G5.c.num=v:=⟨_,rfl⟩
    obtain⟨o2,l2,q2,eo2,el2,eq2⟩:∃o l q,a5.n.fo=o∧G5.c.now.fs.length=l∧a5.n.fc=q:=⟨_,_,_,rfl,rfl,rfl⟩
    obtain⟨o3,l3,q3,eo3,el3,eq3⟩:∃o l q,a5.n.qo=o∧G5.c.now.ps.length=l∧a5.n.qc=q:=⟨_,_,_,rfl,rfl,rfl⟩
    obtain⟨o5,l5,q5,eo5,el5,eq5⟩:∃o l q,a5.x.fo=o∧G5.c.nxt.fs.length=l∧a5.x.fc=q:=⟨_,_,_,rfl,rfl,rfl⟩
    obtain⟨o6,l6,q6,eo6,el6,eq6⟩:∃o l q,a5.x.qo=o∧G5.c.nxt.ps.length=l∧a5.x.qc=q:=⟨_,_,_,rfl,rfl,rfl⟩
    obtain⟨l8,el8⟩:∃l,G5.c.wts.length=l:=⟨_,rfl⟩
    obtain⟨l9,el9⟩:∃l,G5.out.length=l:=⟨_,rfl⟩
    have c0:V5.cell? ⟨P,0,none⟩=some (.int .i64 k0):=by rw[←hk0];exact HC5.out.row.cell (i:=0) (by omega)
    have c1:V5.cell? ⟨P,1,none⟩=some (.int .i64 k1):=by rw[←hk1];exact HC5.out.row.cell (i:=1) (by omega)
    have c2:V5.cell? ⟨P,2,none⟩=some (.slice o2 l2 q2):=by rw[←eo2, ←el2, ←eq2];exact HC5.out.row.cell (i:=2) (by omega)
    have c3:V5.cell? ⟨P,3,none⟩=some (.slice o3 l3 q3):=by rw[←eo3, ←el3, ←eq3];exact HC5.out.row.cell (i:=3) (by omega)
    have c4:V5.cell? ⟨P,4,none⟩=some (.int .i64 k4):=by rw[←hk4];exact HC5.out.row.cell (i:=4) (by omega)
    have c5:V5.cell? ⟨P,5,none⟩=some (.slice o5 l5 q5):=by rw[←eo5, ←el5, ←eq5];exact HC5.out.row.cell (i:=5) (by omega)
    have c6:V5.cell? ⟨P,6,none⟩=some (.slice o6 l6 q6):=by rw[←eo6, ←el6, ←eq6];exact HC5.out.row.cell (i:=6) (by omega)
    have c7:V5.cell? ⟨P,7,none⟩=some (.int .i64 k7):=by rw[←hk7];exact HC5.out.row.cell (i:=7) (by omega)
    have c8:V5.cell? ⟨P,8,none⟩=some (.slice wo5 l8 wc5):=by rw[←el8, ←hwv];exact HC5.out.row.cell (i:=8) (by omega)
    have c10:V5.cell? ⟨P,10,none⟩=some (.slice tO5 l9 tc5):=by rw[←el9, ←htv];exact HC5.out.row.cell (i:=10) (by omega)
    have HV:Hid (cvl G5.c ⟨a5.n,a5.x,wo5,wc5⟩=.agg #[.int .i64 k0,.int .i64 k1,.slice o2 l2 q2,.slice o3 l3 q3,.int .i64 k4,.slice o5 l5 q5,.slice o6 l6 q6,.int .i64 k7,.slice wo5 l8 wc5]∧G5.out.length=l9∧wv5=.slice wo5 G5.c.wts.length wc5∧tv5=.slice tO5 G5.out.length tc5):=⟨by rw[←hk0, ←hk1, ←hk4, ←hk7, ←eo2, ←el2, ←eq2, ←eo3, ←el3, ←eq3, ←eo5, ←el5, ←eq5, ←eo6, ←el6, ←eq6, ←el8];rfl,el9,hwv,htv⟩
    clear hk0 hk1 hk4 hk7 eo2 el2 eq2 eo3 el3 eq3 eo5 el5 eq5 eo6 el6 eq6 el8 el9 hwv htv
    have r0:=box_cell hb5 0
    have r1:=box_cell hb5 1
    have r2:=box_cell hb5 2
    have r3:=box_cell hb5 3
    have r4:=box_cell hb5 4
    have r5:=box_cell hb5 5
    have r6:=box_cell hb5 6
    have r7:=box_cell hb5 7
    have r8:=box_cell hb5 8
    have z0:=box_frozen hb5 0
    have z1:=box_frozen hb5 1
    have z2:=box_frozen hb5 2
    have z3:=box_frozen hb5 3
    have z4:=box_frozen hb5 4
    have z5:=box_frozen hb5 5
    have z6:=box_frozen hb5 6
    have z7:=box_frozen hb5 7
    have z8:=box_frozen hb5 8
    simp only[List.getElem?_toArray,List.getElem?_cons_zero,List.getElem?_cons_succ] at r0 r1 r2 r3 r4 r5 r6 r7 r8
    have hPR:P<R:=HR.out.1.1
    have hRl:R<V5.heap.size:=(Array.getElem?_eq_some_iff.1 hb5).1
    have hPl5:=HC5.out.row.lt
    clear hb5
    go_region
    go_wp2
    refine bodyPost_ret (v:=.tuple #[.agg #[.int .i64 k0,.int .i64 k1,.slice o2 l2 q2,.slice o3 l3 q3,.int .i64 k4,.slice o5 l5 q5,.slice o6 l6 q6,.int .i64 k7,.slice wo5 l8 wc5],.slice tO5 l9 tc5,.int .i64 0]) (by simp[results,Try.results86,go_sem,r0,r1,r2,r3,r4,r5,r6,r7,r8]) rfl ?_
    rw[←HST.out]
    have h1:=HFIN.out (W9 V5 R (.int .i64 k0) (.int .i64 k1) (.slice o2 l2 q2) (.slice o3 l3 q3) (.int .i64 k4) (.slice o5 l5 q5) (.slice o6 l6 q6) (.int .i64 k7) (.slice wo5 l8 wc5)).drew _ _ _ _ W9_block W9_size HV.out.2.2.1 HV.out.2.2.2
    exact⟨_,_,_,by rw[HV.out.1,HV.out.2.1],h1,W9_ext HBE.out hw0⟩
  ·have HST:=hidp ((goS_wait (n:=n) (g:=⟨⟨st,now,nxt,num,wts⟩,out⟩) hw).symm.trans HG2.out)
   have b0:((wts.length:Int) == 0)=false:=by
    cases wts with
    | nil=>exact absurd rfl hw
    | cons=>simp;omega
   clear hw
   go_wp2
   obtain⟨G5,hG5⟩:∃G5:Cg,(⟨⟨st,now,nxt,num,wts⟩,out⟩:Cg)=G5:=⟨_,rfl⟩
   have HC5:Hid (CSt B (· ≠R) P w0 wr G5 a2 n wv2 tv2 TV2):=by rw[←hG5];exact HC2.out
   rw[hG5] at HST
   obtain⟨V5,a5,wv5,tv5,TV5,eV,ea,ew,et,eT⟩:∃V5 a5 wv5 tv5 TV5,wr=V5∧a2=a5∧wv2=wv5∧tv2=tv5∧TV2=TV5:=⟨_,_,_,_,_,rfl,rfl,rfl,rfl,rfl⟩
   rw[ea,ew,et,eT] at HC5
   rw[ew,et] at HK2
   rw[eV] at HC5 HK2 ⊢
   have HK5:=HK2
   clear HC2 HK2 HG2 HRK hG5 eV ea ew et eT hn2 hx2 ho2 hwl2 c8 b0 hPl2
   have hb5:V5.heap[R]? =some (.cells #[.int .i64 0,.int .i64 0,.slice none 0 0,.slice none 0 0,.int .i64 0,.slice none 0 0,.slice none 0 0,.int .i64 0,.slice none 0 0] 33 (0,0)):=((HK5.out.block R HR.out.1 HR.out.2.2).2).trans HR.out.2.1
   have HFIN:Hid (∀(V:World) (wo tO:Option Addr) (wc tc:Nat),(∀b,b≠R→V.heap[b]? =V5.heap[b]?)→V.heap.size=V5.heap.size→wv5=.slice wo G5.c.wts.length wc→tv5=.slice tO G5.out.length tc→_):=fun V wo tO wc tc hV hs ew et=>HC5.out.fin9 (V:=V) ((HK5.out.block R HR.out.1 HR.out.2.2).1) hw0 hV hs ew et
   have HBE:Hid (Ext w0 V5):=HC5.out.bel
   obtain⟨wo5,wc5,hwv,_⟩:=fn_own HC5.out.ownW
   obtain⟨tO5,tc5,htv,_⟩:=tos_own HC5.out.ownT HC5.out.lt
   obtain⟨k0,hk0⟩:∃v,G5.c.st=v:=⟨_,rfl⟩
   obtain⟨k1,hk1⟩:∃v,G5.c.now.v=v:=⟨_,rfl⟩
   obtain⟨k4,hk4⟩:∃v,G5.c.nxt.v=v:=⟨_,rfl⟩
   obtain⟨k7,hk7⟩:∃v,G5.c.num=v:=⟨_,rfl⟩
   obtain⟨o2,l2,q2,eo2,el2,eq2⟩:∃o l q,a5.n.fo=o∧G5.c.now.fs.length=l∧a5.n.fc=q:=⟨_,_,_,rfl,rfl,rfl⟩
   obtain⟨o3,l3,q3,eo3,el3,eq3⟩:∃o l q,a5.n.qo=o∧G5.c.now.ps.length=l∧a5.n.qc=q:=⟨_,_,_,rfl,rfl,rfl⟩
   obtain⟨o5,l5,q5,eo5,el5,eq5⟩:∃o l q,a5.x.fo=o∧G5.c.nxt.fs.length=l∧a5.x.fc=q:=⟨_,_,_,rfl,rfl,rfl⟩
   obtain⟨o6,l6,q6,eo6,el6,eq6⟩:∃o l q,a5.x.qo=o∧G5.c.nxt.ps.length=l∧a5.x.qc=q:=⟨_,_,_,rfl,rfl,rfl⟩
   obtain⟨l8,el8⟩:∃l,G5.c.wts.length=l:=⟨_,rfl⟩
   obtain⟨l9,el9⟩:∃l,G5.out.length=l:=⟨_,rfl⟩
   have c0:V5.cell? ⟨P,0,none⟩=some (.int .i64 k0):=by rw[←hk0];exact HC5.out.row.cell (i:=0) (by omega)
   have c1:V5.cell? ⟨P,1,none⟩=some (.int .i64 k1):=by rw[←hk1];exact HC5.out.row.cell (i:=1) (by omega)
   have c2:V5.cell? ⟨P,2,none⟩=some (.slice o2 l2 q2):=by rw[←eo2, ←el2, ←eq2];exact HC5.out.row.cell (i:=2) (by omega)
   have c3:V5.cell? ⟨P,3,none⟩=some (.slice o3 l3 q3):=by rw[←eo3, ←el3, ←eq3];exact HC5.out.row.cell (i:=3) (by omega)
   have c4:V5.cell? ⟨P,4,none⟩=some (.int .i64 k4):=by rw[←hk4];exact HC5.out.row.cell (i:=4) (by omega)
   have c5:V5.cell? ⟨P,5,none⟩=some (.slice o5 l5 q5):=by rw[←eo5, ←el5, ←eq5];exact HC5.out.row.cell (i:=5) (by omega)
   have c6:V5.cell? ⟨P,6,none⟩=some (.slice o6 l6 q6):=by rw[←eo6, ←el6, ←eq6];exact HC5.out.row.cell (i:=6) (by omega)
   have c7:V5.cell? ⟨P,7,none⟩=some (.int .i64 k7):=by rw[←hk7];exact HC5.out.row.cell (i:=7) (by omega)
   have c8:V5.cell? ⟨P,8,none⟩=some (.slice wo5 l8 wc5):=by rw[←el8, ←hwv];exact HC5.out.row.cell (i:=8) (by omega)
   have c10:V5.cell? ⟨P,10,none⟩=some (.slice tO5 l9 tc5):=by rw[←el9, ←htv];exact HC5.out.row.cell (i:=10) (by omega)
   have HV:Hid (cvl G5.c ⟨a5.n,a5.x,wo5,wc5⟩=.agg #[.int .i64 k0,.int .i64 k1,.slice o2 l2 q2,.slice o3 l3 q3,.int .i64 k4,.slice o5 l5 q5,.slice o6 l6 q6,.int .i64 k7,.slice wo5 l8 wc5]∧G5.out.length=l9∧wv5=.slice wo5 G5.c.wts.length wc5∧tv5=.slice tO5 G5.out.length tc5):=⟨by rw[←hk0, ←hk1, ←hk4, ←hk7, ←eo2, ←el2, ←eq2, ←eo3, ←el3, ←eq3, ←eo5, ←el5, ←eq5, ←eo6, ←el6, ←eq6, ←el8];rfl,el9,hwv,htv⟩
   clear hk0 hk1 hk4 hk7 eo2 el2 eq2 eo3 el3 eq3 eo5 el5 eq5 eo6 el6 eq6 el8 el9 hwv htv
   have r0:=box_cell hb5 0
   have r1:=box_cell hb5 1
   have r2:=box_cell hb5 2
   have r3:=box_cell hb5 3
   have r4:=box_cell hb5 4
   have r5:=box_cell hb5 5
   have r6:=box_cell hb5 6
   have r7:=box_cell hb5 7
   have r8:=box_cell hb5 8
   have z0:=box_frozen hb5 0
   have z1:=box_frozen hb5 1
   have z2:=box_frozen hb5 2
   have z3:=box_frozen hb5 3
   have z4:=box_frozen hb5 4
   have z5:=box_frozen hb5 5
   have z6:=box_frozen hb5 6
   have z7:=box_frozen hb5 7
   have z8:=box_frozen hb5 8
   simp only[List.getElem?_toArray,List.getElem?_cons_zero,List.getElem?_cons_succ] at r0 r1 r2 r3 r4 r5 r6 r7 r8
   have hPR:P<R:=HR.out.1.1
   have hRl:R<V5.heap.size:=(Array.getElem?_eq_some_iff.1 hb5).1
   have hPl5:=HC5.out.row.lt
   clear hb5
   go_region
   go_wp2
   refine bodyPost_ret (v:=.tuple #[.agg #[.int .i64 k0,.int .i64 k1,.slice o2 l2 q2,.slice o3 l3 q3,.int .i64 k4,.slice o5 l5 q5,.slice o6 l6 q6,.int .i64 k7,.slice wo5 l8 wc5],.slice tO5 l9 tc5,.int .i64 0]) (by simp[results,Try.results86,go_sem,r0,r1,r2,r3,r4,r5,r6,r7,r8]) rfl ?_
   rw[←HST.out]
   have h1:=HFIN.out (W9 V5 R (.int .i64 k0) (.int .i64 k1) (.slice o2 l2 q2) (.slice o3 l3 q3) (.int .i64 k4) (.slice o5 l5 q5) (.slice o6 l6 q6) (.int .i64 k7) (.slice wo5 l8 wc5)).drew _ _ _ _ W9_block W9_size HV.out.2.2.1 HV.out.2.2.2
   exact⟨_,_,_,by rw[HV.out.1,HV.out.2.1],h1,W9_ext HBE.out hw0⟩
end Go.Proofs.Ytolclgbpjiokfaa.Ct
