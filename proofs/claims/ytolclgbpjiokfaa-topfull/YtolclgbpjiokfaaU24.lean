/- What holds always in a net that is played, in words: the change. -/
import Derived.Test.YtolclgbpjiokfaaU03
import Derived.Test.YtolclgbpjiokfaaU23
import Derived.Test.YtolclgbpjiokfaaU20
namespace Go.Proofs.Ytolclgbpjiokfaa
open Go.ChangeShapes Go.WideShapes Go.ChangeAt Go.RowKit Go.Deep Go.Joins Stw
theorem Try.cellsDo:Try.prog.cellsOf 66=3:=by kernel_rfl
theorem Try.cellsFs:Try.prog.cellsOf 27=1:=by kernel_rfl
section
variable {H:Type} {enc:TypeId×Value→H} {W:World}
theorem cells3q {w:World} {a:Addr} {cs:List Value} {x y z:Value} (h:w.cells? 0 a 3=some cs) (e:cs=[x,y,z]):w.cell? a=some x∧w.cell? (a.add 1)=some y∧w.cell? (a.add 2)=some z:=by
 obtain⟨_,_,hc⟩:=World.cells?_some h
 subst e
 exact⟨by simpa[Addr.add] using hc 0 (by omega),hc 1 (by omega),hc 2 (by omega)⟩
theorem three_of {cs:List Value} (h:cs.length=3):∃c0 c1 c2,cs=[c0,c1,c2]:=by
 match cs,h with
 | [c0,c1,c2],_=>exact⟨c0,c1,c2,rfl⟩
set_option maxRecDepth 100000 in
theorem open_do3 {fuel:Nat} {cs:List Value} {x:DataW H×List MemPlace} (h:DataW.trod enc Try.prog W 0 (fun _=>true) true fuel 66 cs=some x) (hw:∀m∈x.1.weights Try.prog 66,m≤reachBytes):
 ∃(d:Rm.Dd) (fo:Option Addr) (fc:Nat),cs=[.int .i64 d.k,.int .i64 d.n,.slice fo d.fs.length fc]∧Fw.FlowsAt W fo d.fs∧Fw.Sm d.fs∧d.fs.length≤9223372036854775807:=by
 obtain⟨y0,y1,y2,n',rfl,hlen,t0,t1,t2⟩:=trod_struct3 Try.underlying66 h
 rw[Try.cellsDo] at hlen
 obtain⟨c0,c1,c2,rfl⟩:∃c0 c1 c2,cs=[c0,c1,c2]:=three_of hlen
 obtain⟨a0,e0,_,w0⟩:=DataW.trod_int Try.underlying3 t0
 obtain⟨a1,e1,_,w1⟩:=DataW.trod_int Try.underlying3 t1
 obtain⟨fo,fl,fc,fs,e2,hl,hfa,hfx,hsm⟩:=open_flows t2 (fun m hm=>hw m (by simp[DataW.weights,DataW.weightsEach,Try.underlying66];exact Or.inr (Or.inr hm)))
 simp[Try.cells3,Try.cellsFs] at e0 e1 e2
 subst e0 e1 e2 hl
 exact⟨⟨a0,a1,fs⟩,fo,fc,rfl,hfa,hsm,hfx⟩
set_option maxRecDepth 100000 in
theorem open_dos {fuel:Nat} {cs:List Value} {x:DataW H×List MemPlace} (h:DataW.trod enc Try.prog W 0 (fun _=>true) true fuel 25 cs=some x) (hw:∀m∈x.1.weights Try.prog 25,m≤reachBytes):
 ∃(ao:Option Addr) (len cap:Nat) (ds:List Rm.Dd),cs=[.slice ao len cap]∧ds.length=len∧Rm.DosAt W ao ds∧len≤9223372036854775807∧Rm.DsSm ds∧len≤cap∧cap≤9223372036854775807:=by
 rcases open_slice Try.underlying25 h with⟨hcs,_⟩ | ⟨a,len,cap,m,n,D,Pl,hcs,_,hl,hm,hmm,hx,hel⟩
 ·exact⟨none,0,0,[],hcs,rfl,Or.inl rfl,by omega,(fun d hd=>by cases hd),by omega,by omega⟩
 ·have hmc:m=cap:=by simpa using hmm
  have hwD:∀i,i<len→∀m∈(D i).weights Try.prog 66,m≤reachBytes:=fun i hi m hm=>hw m (by
   rw[hx]
   simp only[DataW.weights,Try.underlying25]
   refine List.mem_cons_of_mem _ (List.mem_append_left _ (weights_all (List.mem_map.2 ⟨i,by simpa using hi,rfl⟩) m hm)))
  have hfam:∀i,i<len→∃q:Rm.Dd×Option Addr×Nat,(W.cell? (a.add (i*3))=some (.int .i64 q.1.k)∧W.cell? ((a.add (i*3)).add 1)=some (.int .i64 q.1.n)∧W.cell? ((a.add (i*3)).add 2)=some (.slice q.2.1 q.1.fs.length q.2.2))∧Fw.FlowsAt W q.2.1 q.1.fs∧Fw.Sm q.1.fs∧q.1.fs.length≤9223372036854775807:=by
   intro i hi
   obtain⟨cs',hcell,htr⟩:=hel i (by omega)
   rw[Try.cellsDo] at hcell
   obtain⟨d,fo,fc,hc,h1,h2,h3⟩:=open_do3 htr (hwD i hi)
   exact⟨(d,fo,fc),cells3q hcell hc,h1,h2,h3⟩
  have:Inhabited (Rm.Dd×Option Addr×Nat):=⟨(Rm.dd0,none,0)⟩
  obtain⟨F,hF⟩:=choose_lt hfam
  have hget:∀k,k<len→((List.range len).map (fun i=>(F i).1)).getD k Rm.dd0=(F k).1:=fun k h=>by simp[List.getD_eq_getElem?_getD,h]
  refine⟨some a,len,cap,(List.range len).map (fun i=>(F i).1),hcs,by simp,?_,by unfold maxLen at hm;omega,fun d hd=>?_,hl,by unfold maxLen at hm;omega⟩
  ·by_cases h0:len=0
   ·exact Or.inl (by simp[h0])
   ·obtain⟨b,off,spot⟩:=a
    have hc:=(hF 0 (by omega)).1.1
    have hspot:spot=none:=by simpa[Addr.add] using World.cell?_spot hc
    subst hspot
    refine Or.inr ⟨b,off,rfl,by have:=cell_lt hc;simpa[Addr.add] using this,fun k hk=>?_⟩
    have hk':k<len:=by simpa using hk
    obtain⟨⟨g0,g1,g2⟩,hv,_⟩:=hF k hk'
    have e0:(⟨b,off,none⟩:Addr).add (k*3)=⟨b,off+k*3,none⟩:=by
     unfold Addr.add
     split
     ·simp_all
     ·rfl
    rw[e0] at g0 g1 g2
    rw[hget k hk']
    exact⟨_,_,g0,by simpa[Addr.add] using g1,by simpa[Addr.add] using g2,hv⟩
  ·obtain⟨i,hi,rfl⟩:=List.mem_map.1 hd
   exact(hF i (by simpa using hi)).2.2
end
end Go.Proofs.Ytolclgbpjiokfaa
namespace Go.Proofs.Ytolclgbpjiokfaa.Rm
open Go.RowKit Go.Deep Stw Stp Tb Rul Ct
def stOf (p:Pl) (s:Nat):List (Int×Int):=Agt.stamps p.v (beg s p.fs p.fs.length)
def both (a b:Pl) (s:Nat):List Ru:=(add (rls a s) (rls b s)).1
def ordC (c:Co) (s:Nat):Option Wir.Od:=if c.st=1 then addO c.nxt s else if c.st=2 then stpO c.now c.nxt s else if c.st=4 then drpO c.now s else none
def bef (c:Co) (s:Nat):Agt.Sw:=
 if c.st=0∨c.st=1 then⟨rls c.now s,stOf c.now s⟩ else if c.st=2 then⟨both c.now c.nxt s,stOf c.now s⟩ else⟨both c.now c.nxt s,stOf c.nxt s⟩
def aft (c:Co) (s:Nat):Agt.Sw:=
 if c.st=0 then⟨rls c.now s,stOf c.now s⟩ else if c.st=1 then⟨both c.now c.nxt s,stOf c.now s⟩ else if c.st=4 then⟨rls c.nxt s,stOf c.nxt s⟩ else⟨both c.now c.nxt s,stOf c.nxt s⟩
structure Ok (n:Nat) (c:Co):Prop where
 n8:n≤8
 now:c.now=pl0∨Gd n c.now
 nxt:c.st≠0→Gd n c.nxt∧c.nxt.v=c.now.v+1∧full n c.now c.nxt=false
theorem rls_pl0 (s:Nat):rls pl0 s=[]:=rfl
theorem stOf_pl0 (s:Nat):stOf pl0 s=[]:=rfl
theorem rls_ver {p:Pl} {s:Nat} {r:Ru} (h:r∈rls p s):r.1=p.v:=by
 obtain⟨i,_,k,_,_,rfl⟩:=mem_rof.1 h
 rfl
theorem rls_tab {n:Nat} {p:Pl} {s:Nat} (hn:n≤8) (h:p=pl0∨Gd n p):tab (rls p s):=by
 rcases h with rfl | h
 ·rw[rls_pl0];exact tab_iff.2 ⟨by simp,by simp,List.Pairwise.nil⟩
 ·exact rof_tab h.gp hn h.pl h.v1 h.v2
theorem rls_ris {n:Nat} {p:Pl} {s:Nat} (hn:n≤8) (h:p=pl0∨Gd n p):Ris (rls p s):=(tab_iff.1 (rls_tab hn h)).2.2
theorem full_get {n:Nat} {a b:Pl} (h:full n a b=false) {s:Nat} (hs:s<n):(rls a s).length+(rls b s).length≤16:=by
 unfold full at h
 rw[List.any_eq_false] at h
 have:=h s (by simpa using hs)
 simp only[decide_eq_true_eq] at this
 omega
theorem both_ok {n:Nat} {a b:Pl} {s:Nat} (hn:n≤8) (ha:a=pl0∨Gd n a) (hb:Gd n b) (hv:b.v=a.v+1) (hf:full n a b=false) (hs:s<n):(add (rls a s) (rls b s)).2=0:=by
 have ta:=rls_tab (s:=s) hn ha
 have tb:=rls_tab (s:=s) hn (Or.inr hb)
 have hl:=full_get hf hs
 obtain⟨a1,a2,a3⟩:=tab_iff.1 ta
 obtain⟨b1,b2,b3⟩:=tab_iff.1 tb
 have t:tab (dd (sst (rls a s++rls b s))):=by
  refine tab_iff.2 ⟨?_,fun r hr=>?_,?_⟩
  ·refine Nat.le_trans (dd_len _) ?_
   rw[sst_len,List.length_append];exact hl
  ·rcases add_mem.1 hr with h | h
   ·exact a2 r h
   ·exact b2 r h
  ·refine dd_pair (sst_ok _).1 (fun x hx y hy hk=>?_)
   have hx':=List.mem_append.1 ((sst_ok (rls a s++rls b s)).2.mem hx)
   have hy':=List.mem_append.1 ((sst_ok (rls a s++rls b s)).2.mem hy)
   have hk1:x.1=y.1:=(Prod.ext_iff.1 hk).1
   rcases hx' with hx' | hx' <;> rcases hy' with hy' | hy'
   ·exact a3.uniq x hx' y hy' hk
   ·have:=rls_ver hx';have:=rls_ver hy';omega
   ·have:=rls_ver hx';have:=rls_ver hy';omega
   ·exact b3.uniq x hx' y hy' hk
 have h1:(Rul.wrong (rls a s)).1=0:=ta
 have h2:(Rul.wrong (dd (sst (rls a s++rls b s)))).1=0:=t
 unfold add
 rw[if_neg (by simpa using h1),if_neg (by simpa using h2)]
theorem both_mem {n:Nat} {a b:Pl} {s:Nat} (hn:n≤8) (ha:a=pl0∨Gd n a) (hb:Gd n b) (hv:b.v=a.v+1) (hf:full n a b=false) (hs:s<n) {r:Ru}:r∈both a b s↔r∈rls a s∨r∈rls b s:=Agt.mem_add (both_ok hn ha hb hv hf hs)
theorem both_tab {n:Nat} {a b:Pl} {s:Nat} (hn:n≤8) (ha:a=pl0∨Gd n a) (hb:Gd n b) (hv:b.v=a.v+1) (hf:full n a b=false) (hs:s<n):tab (both a b s):=(add_zero (both_ok hn ha hb hv hf hs)).2.1
theorem both_left {n:Nat} {a b:Pl} {s:Nat} (hn:n≤8) (ha:a=pl0∨Gd n a) (hb:Gd n b) (hv:b.v=a.v+1) (hf:full n a b=false) (hs:s<n) (h:rls b s=[]):both a b s=rls a s:=by
 refine ris_eq (tab_iff.1 (both_tab hn ha hb hv hf hs)).2.2 (rls_ris hn ha) (fun r=>?_)
 rw[both_mem hn ha hb hv hf hs,h];simp
theorem both_right {n:Nat} {a b:Pl} {s:Nat} (hn:n≤8) (ha:a=pl0∨Gd n a) (hb:Gd n b) (hv:b.v=a.v+1) (hf:full n a b=false) (hs:s<n) (h:rls a s=[]):both a b s=rls b s:=by
 refine ris_eq (tab_iff.1 (both_tab hn ha hb hv hf hs)).2.2 (rls_ris hn (Or.inr hb)) (fun r=>?_)
 rw[both_mem hn ha hb hv hf hs,h];simp
theorem both_drp {n:Nat} {a b:Pl} {s:Nat} (hn:n≤8) (ha:a=pl0∨Gd n a) (hb:Gd n b) (hv:b.v=a.v+1) (hf:full n a b=false) (hs:s<n):drp (both a b s) a.v=rls b s:=by
 refine ris_eq (Agt.drp_ris _ (tab_iff.1 (both_tab hn ha hb hv hf hs)).2.2) (rls_ris hn (Or.inr hb)) (fun r=>?_)
 rw[drp_mem,both_mem hn ha hb hv hf hs]
 constructor
 ·rintro⟨h | h,h2⟩
  ·exact absurd (rls_ver h) h2
  ·exact h
 ·intro h
  exact⟨Or.inr h,by have:=rls_ver h;omega⟩
theorem stOf_right {n:Nat} {p:Pl} {s:Nat} (h:p=pl0∨Gd n p):Agt.wst none (stOf p s)=0:=by
 rcases h with rfl | h
 ·rw[stOf_pl0];rfl
 ·exact Agt.wst_stamps h.v1 h.v2 (last:= -1) (Int.le_refl _) (fun q hq=>by cases hq) (beg_good _ h.fl)
theorem bef_right {n:Nat} {c:Co} {s:Nat} (h:Ok n c) (hs:s<n):Agt.wrongS (bef c s)=0:=by
 unfold bef
 split
 ·exact Agt.wrongS_of (rls_tab h.n8 h.now) (stOf_right h.now)
 ·rename_i h0
  obtain⟨g1,g2,g3⟩:=h.nxt (fun e=>h0 (Or.inl e))
  have tb:=both_tab h.n8 h.now g1 g2 g3 hs
  split
  ·exact Agt.wrongS_of tb (stOf_right h.now)
  ·exact Agt.wrongS_of tb (stOf_right (Or.inr g1))
theorem aft_right {n:Nat} {c:Co} {s:Nat} (h:Ok n c) (hs:s<n):Agt.wrongS (aft c s)=0:=by
 unfold aft
 split
 ·exact Agt.wrongS_of (rls_tab h.n8 h.now) (stOf_right h.now)
 ·rename_i h0
  obtain⟨g1,g2,g3⟩:=h.nxt h0
  have tb:=both_tab h.n8 h.now g1 g2 g3 hs
  split
  ·exact Agt.wrongS_of tb (stOf_right h.now)
  ·split
   ·exact Agt.wrongS_of (rls_tab h.n8 (Or.inr g1)) (stOf_right (Or.inr g1))
   ·exact Agt.wrongS_of tb (stOf_right (Or.inr g1))
theorem ord_right {n:Nat} {c:Co} {s:Nat} {o:Wir.Od} {k:Int} (h:Ok n c) (ho:ordC c s=some o) (hs:s<n) (h1:1≤k) (h2:k≤100000):Wir.wrong (nmb o k)=0∧o.rs.length≤16∧o.fs.length≤12:=by
 have hx:Wir.wrong ⟨o.k,1,o.v,o.rs,o.fs⟩=0∧o.rs.length≤16∧o.fs.length≤12:=by
  unfold ordC at ho
  split at ho
  ·rename_i e;exact add_right (h.nxt (by omega)).1 h.n8 ho
  ·split at ho
   ·rename_i e;exact stp_right (h.nxt (by omega)).1 ho
   ·split at ho
    ·exact drp_right h.now ho
    ·cases ho
 exact⟨Rgt.wrong (n:=n) (x:=(s,nmb o k)) ⟨hs,hx⟩ h1 h2,hx.2⟩
theorem do_ord {n:Nat} {c:Co} {s:Nat} {o:Wir.Od} {k:Int} (h:Ok n c) (ho:ordC c s=some o) (hs:s<n) (h1:1≤k) (h2:k≤100000):Agt.doS (bef c s) (nmb o k)=(aft c s,0):=by
 have hw:=bef_right h hs
 have hr:=(ord_right h ho hs h1 h2).1
 unfold ordC at ho
 split at ho
 ·rename_i e
  obtain⟨g1,g2,g3⟩:=h.nxt (by omega)
  unfold addO at ho
  split at ho
  ·cases ho
  ·cases ho
   have eb:bef c s=⟨rls c.now s,stOf c.now s⟩:=by unfold bef;rw[if_pos (Or.inr e)]
   have ea:aft c s=⟨both c.now c.nxt s,stOf c.now s⟩:=by unfold aft;rw[if_neg (by omega),if_pos e]
   rw[eb] at hw
   rw[eb,ea,Agt.do_add hw hr rfl (both_ok h.n8 h.now g1 g2 g3 hs)]
   rfl
 ·rename_i e1
  split at ho
  ·rename_i e
   unfold stpO at ho
   split at ho
   ·cases ho
   ·cases ho
    have eb:bef c s=⟨both c.now c.nxt s,stOf c.now s⟩:=by unfold bef;rw[if_neg (by omega),if_pos e]
    have ea:aft c s=⟨both c.now c.nxt s,stOf c.nxt s⟩:=by unfold aft;rw[if_neg (by omega),if_neg (by omega),if_neg (by omega)]
    rw[eb] at hw
    rw[eb,ea,Agt.do_stamp hw hr rfl]
    rfl
  ·rename_i e2
   split at ho
   ·rename_i e
    obtain⟨g1,g2,g3⟩:=h.nxt (by omega)
    unfold drpO at ho
    split at ho
    ·cases ho
    ·cases ho
     have eb:bef c s=⟨both c.now c.nxt s,stOf c.nxt s⟩:=by unfold bef;rw[if_neg (by omega),if_neg (by omega)]
     have ea:aft c s=⟨rls c.nxt s,stOf c.nxt s⟩:=by unfold aft;rw[if_neg (by omega),if_neg (by omega),if_pos e]
     rw[eb] at hw
     rw[eb,ea,Agt.do_drop hw hr rfl]
     show((⟨drp (both c.now c.nxt s) c.now.v,stOf c.nxt s⟩:Agt.Sw),(0:Int))=_
     rw[both_drp h.n8 h.now g1 g2 g3 hs]
   ·cases ho
theorem bef_aft {n:Nat} {c:Co} {s:Nat} (h:Ok n c) (ho:ordC c s=none) (hs:s<n):bef c s=aft c s:=by
 by_cases e0:c.st=0
 ·unfold bef aft;rw[if_pos (Or.inl e0),if_pos e0]
 ·obtain⟨g1,g2,g3⟩:=h.nxt e0
  unfold ordC at ho
  split at ho
  ·rename_i e
   have eb:bef c s=⟨rls c.now s,stOf c.now s⟩:=by unfold bef;rw[if_pos (Or.inr e)]
   have ea:aft c s=⟨both c.now c.nxt s,stOf c.now s⟩:=by unfold aft;rw[if_neg (by omega),if_pos e]
   unfold addO at ho
   split at ho
   ·rename_i hr;rw[eb,ea,both_left h.n8 h.now g1 g2 g3 hs hr]
   ·cases ho
  ·rename_i e1
   split at ho
   ·rename_i e
    have eb:bef c s=⟨both c.now c.nxt s,stOf c.now s⟩:=by unfold bef;rw[if_neg (by omega),if_pos e]
    have ea:aft c s=⟨both c.now c.nxt s,stOf c.nxt s⟩:=by unfold aft;rw[if_neg (by omega),if_neg (by omega),if_neg (by omega)]
    unfold stpO at ho
    split at ho
    ·rename_i hb
     rw[eb,ea]
     unfold stOf
     rw[hb.1,hb.2]
     rfl
    ·cases ho
   ·rename_i e2
    split at ho
    ·rename_i e
     have eb:bef c s=⟨both c.now c.nxt s,stOf c.nxt s⟩:=by unfold bef;rw[if_neg (by omega),if_neg (by omega)]
     have ea:aft c s=⟨rls c.nxt s,stOf c.nxt s⟩:=by unfold aft;rw[if_neg (by omega),if_neg (by omega),if_pos e]
     unfold drpO at ho
     split at ho
     ·rename_i hr;rw[eb,ea,both_right h.n8 h.now g1 g2 g3 hs hr]
     ·cases ho
    ·rename_i e3
     unfold bef aft
     rw[if_neg (by omega),if_neg e2,if_neg e0,if_neg e1,if_neg e3]
theorem bef_cases (c:Co) (s:Nat):((bef c s).rs=rls c.now s∨(bef c s).rs=both c.now c.nxt s)∧((bef c s).st=stOf c.now s∨(bef c s).st=stOf c.nxt s):=by
 unfold bef
 split
 ·exact⟨Or.inl rfl,Or.inl rfl⟩
 ·split
  ·exact⟨Or.inr rfl,Or.inl rfl⟩
  ·exact⟨Or.inr rfl,Or.inr rfl⟩
end Go.Proofs.Ytolclgbpjiokfaa.Rm
namespace Go.Proofs.Ytolclgbpjiokfaa.Rm
open Go.RowKit Go.Deep Stw Stp Tb Rul Ct
def pend (os:List Wir.Od) (bs:List Int):List Int:=os.map (fun o=>o.n)++bs
def SwP (c:Co) (s:Nat) (x:Agt.Sw) (os:List Wir.Od) (bs:List Int):Prop:=
 (os=[]∧bs=[]∧x=aft c s)∨(∃o k,ordC c s=some o∧os=[nmb o k]∧bs=[]∧x=bef c s)∨(∃k,os=[]∧bs=[k]∧x=aft c s)
structure Core (n:Nat) (c:Co) (sw:List Agt.Sw) (od:List (List Wir.Od)) (bk:List (List Int)):Prop where
 sws:∀s,s<n→SwP c s (sw.getD s Agt.sw0) (od.getD s []) (bk.getD s [])
 wmem:∀k,k∈c.wts↔∃s,s<n∧k∈pend (od.getD s []) (bk.getD s [])
 wnd:c.wts.Nodup
 wone:∀s s' k,s<n→s'<n→k∈pend (od.getD s []) (bk.getD s [])→k∈pend (od.getD s' []) (bk.getD s' [])→s=s'
 nle:∀k∈c.wts,1≤k∧k≤c.num
def Quiet (n:Nat) (od:List (List Wir.Od)) (bk:List (List Int)):Prop:=∀s,s<n→od.getD s []=[]∧bk.getD s []=[]
theorem Core.quiet {n:Nat} {c:Co} {sw:List Agt.Sw} {od:List (List Wir.Od)} {bk:List (List Int)} (h:Core n c sw od bk) (hw:c.wts=[]):Quiet n od bk∧∀s,s<n→sw.getD s Agt.sw0=aft c s:=by
 have hk:∀s k,s<n→¬k∈pend (od.getD s []) (bk.getD s []):=fun s k hs hk=>by
  have:=(h.wmem k).2 ⟨s,hs,hk⟩
  rw[hw] at this;cases this
 have key:∀s,s<n→od.getD s []=[]∧bk.getD s []=[]∧sw.getD s Agt.sw0=aft c s:=fun s hs=>by
  rcases h.sws s hs with h1 | ⟨o,k,_,e2,_,_⟩ | ⟨k,_,e2,_⟩
  ·exact h1
  ·exact absurd (by rw[e2];simp[pend,nmb]) (hk s k hs)
  ·exact absurd (by rw[e2];simp[pend]) (hk s k hs)
 exact⟨fun s hs=>⟨(key s hs).1,(key s hs).2.1⟩,fun s hs=>(key s hs).2.2⟩
theorem idle_core {n:Nat} {c:Co} {sw:List Agt.Sw} {od:List (List Wir.Od)} {bk:List (List Int)} (hw:c.wts=[]) (hq:Quiet n od bk) (hs:∀s,s<n→sw.getD s Agt.sw0=aft c s):Core n c sw od bk:=by
 have hp:∀s k,s<n→¬k∈pend (od.getD s []) (bk.getD s []):=fun s k h=>by rw[(hq s h).1,(hq s h).2];simp[pend]
 refine⟨fun s h=>Or.inl ⟨(hq s h).1,(hq s h).2,hs s h⟩,fun k=>?_,by rw[hw];exact List.nodup_nil,fun s s' k h _ hk=>absurd hk (hp s k h),fun k hk=>by rw[hw] at hk;cases hk⟩
 rw[hw]
 exact⟨fun h=>(by cases h),fun⟨s,h,hk⟩=>absurd hk (hp s k h)⟩
theorem outL_len {ord:Nat→Option Wir.Od} {num:Int}:∀m,(outL ord num m).length=cn ord m
 | 0=>rfl
 | m+1=>by
  rw[outL,List.length_append,outL_len m,cn]
  cases ord m <;> simp
theorem tell_core {n:Nat} {c:Co} {sw:List Agt.Sw} {od:List (List Wir.Od)} {bk:List (List Int)} (hok:Ok n c) (hw:c.wts=[]) (h0:0≤c.num) (h1:c.num≤90000) (hl:n≤od.length) (hq:Quiet n od bk) (hs:∀s,s<n→sw.getD s Agt.sw0=bef c s):
 Core n (told n (ordC c) ⟨c,[]⟩).c sw (putO od (told n (ordC c) ⟨c,[]⟩).out) bk:=by
 rw[told_eq (g:=⟨c,[]⟩) h0 h1 hok.n8]
 simp only[hw,List.nil_append]
 have hod:∀s,s<n→(putO od (outL (ordC c) c.num n)).getD s []=asL (ordC c s) (c.num+cn (ordC c) s+1):=fun s h=>by rw[putO_get hl s,(hq s h).1,if_pos h];rfl
 have hpd:∀s k,s<n→(k∈pend ((putO od (outL (ordC c) c.num n)).getD s []) (bk.getD s [])↔∃o,ordC c s=some o∧k=c.num+cn (ordC c) s+1):=fun s k h=>by
  rw[hod s h,(hq s h).2]
  cases ho:ordC c s with
  | none=>simp[pend,asL]
  | some o=>simp[pend,nmb,asL]
 refine⟨fun s h=>?_,fun k=>?_,nums_nodup n,fun s s' k h h' hk hk'=>?_,fun k hk=>?_⟩
 ·rw[hod s h]
  cases ho:ordC c s with
  | none=>exact Or.inl ⟨rfl,(hq s h).2,(hs s h).trans (bef_aft hok ho h)⟩
  | some o=>exact Or.inr (Or.inl ⟨o,_,ho,rfl,(hq s h).2,hs s h⟩)
 ·rw[nums_outL]
  constructor
  ·rintro⟨s,o,k1,k2,k3⟩;exact⟨s,k1,(hpd s k k1).2 ⟨o,k2,k3⟩⟩
  ·rintro⟨s,k1,k2⟩
   obtain⟨o,k3,k4⟩:=(hpd s k k1).1 k2
   exact⟨s,o,k1,k3,k4⟩
 ·obtain⟨o,k3,k4⟩:=(hpd s k h).1 hk
  obtain⟨o',k3',k4'⟩:=(hpd s' k h').1 hk'
  rcases Nat.lt_trichotomy s s' with e | e | e
  ·have:=cn_lt e k3;omega
  ·exact e
  ·have:=cn_lt e k3';omega
 ·obtain⟨s,o,k1,k2,k3⟩:=nums_outL.1 hk
  have:=cn_lt k1 k2
  simp only
  omega
def lp (pn:List Pl):Nat→Pl
 | 0=>pl0
 | m+1=>pn.getD m pl0
def Pln (n:Nat) (ls:List Lk) (v:Int) (p:Pl):Prop:=∃fs,p=⟨v,fs,plnP n ls fs⟩∧(plnF n v ls fs).1=0
def Plans (n:Nat) (ls:List Lk) (pn:List Pl):Prop:=∀m,m<pn.length→Pln n ls ((m:Int)+1) (pn.getD m pl0)
def Stg (n:Nat) (pn:List Pl) (c:Co):Prop:=
 (c.st=0∧c.nxt=pl0∧c.now=lp pn pn.length)∨
 ((c.st=1∨c.st=2∨c.st=3∨c.st=4)∧∃m,pn.length=m+1∧c.nxt=lp pn (m+1)∧c.now=lp pn m∧full n c.now c.nxt=false)
theorem Pln.gd {n:Nat} {ls:List Lk} {v:Int} {p:Pl} (h:Pln n ls v p):Gd n p:=by
 obtain⟨fs,rfl,h2⟩:=h
 have g:=plan_good h2
 exact⟨g.v1,g.v2,by show(plnP n ls fs).length≤12;rw[g.len];exact g.few,g.few,g.gp⟩
theorem Pln.v {n:Nat} {ls:List Lk} {v:Int} {p:Pl} (h:Pln n ls v p):p.v=v:=by obtain⟨fs,rfl,_⟩:=h;rfl
theorem Pln.ok {n:Nat} {ls:List Lk} {v:Int} {p:Pl} (h:Pln n ls v p):PlOk p:=by obtain⟨fs,rfl,h2⟩:=h;exact plan_ok h2
theorem Plans.lp {n:Nat} {ls:List Lk} {pn:List Pl} (h:Plans n ls pn):∀{m:Nat},m≤pn.length→(Rm.lp pn m).v=m∧(Rm.lp pn m=pl0∨Gd n (Rm.lp pn m))∧PlOk (Rm.lp pn m)
 | 0,_=>⟨rfl,Or.inl rfl,PlOk.zero⟩
 | m+1,hm=>by
  have hp:=h m (by omega)
  exact⟨by rw[Rm.lp,hp.v];omega,Or.inr hp.gd,hp.ok⟩
theorem Stg.ok {n:Nat} {ls:List Lk} {pn:List Pl} {c:Co} (h:Stg n pn c) (hP:Plans n ls pn) (hn:n≤8):Ok n c:=by
 rcases h with⟨h1,h2,h3⟩ | ⟨h1,m,h2,h3,h4,h5⟩
 ·exact⟨hn,by rw[h3];exact(hP.lp (Nat.le_refl _)).2.1,fun h=>absurd h1 h⟩
 ·refine⟨hn,by rw[h4];exact(hP.lp (by omega)).2.1,fun _=>⟨?_,?_,h5⟩⟩
  ·rw[h3];exact(hP m (by omega)).gd
  ·rw[h3,h4,(hP.lp (show m+1≤pn.length by omega)).1,(hP.lp (show m≤pn.length by omega)).1];omega
structure Dyn (n:Nat) (pn:List Pl) (c:Co) (sw:List Agt.Sw) (od:List (List Wir.Od)) (bk:List (List Int)):Prop where
 core:Core n c sw od bk
 stg:Stg n pn c
 wst:c.wts=[]↔(c.st=0∨c.st=3)
 n0:0≤c.num
theorem adv {n:Nat} {ls:List Lk} {pn:List Pl} {c:Co} {sw:List Agt.Sw} {od:List (List Wir.Od)} {bk:List (List Int)} (hP:Plans n ls pn) (hn:n≤8) (hst:Stg n pn c) (h3:c.st=1∨c.st=2∨c.st=4) (hw:c.wts=[]) (h0:0≤c.num) (h1:c.num≤90000) (hl:n≤od.length) (hq:Quiet n od bk) (hs:∀s,s<n→sw.getD s Agt.sw0=aft c s):
 Dyn n pn (goS n ⟨c,[]⟩).c sw (putO od (goS n ⟨c,[]⟩).out) bk∧(goS n ⟨c,[]⟩).c.num≤c.num+8:=by
 have hok:=hst.ok hP hn
 have hstg:∀(st num:Int) (wts:List Int),(st=1∨st=2∨st=3∨st=4)→Stg n pn ⟨st,c.now,c.nxt,num,wts⟩:=fun st num wts h=>by
  rcases hst with⟨k,_,_⟩ | ⟨_,k⟩
  ·omega
  ·exact Or.inr ⟨h,k⟩
 rcases h3 with e | e | e
 ·have eg:goS n ⟨c,[]⟩=calmS (told n (stpO c.now c.nxt) (setSt ⟨c,[]⟩ 2)):=by unfold goS;rw[if_neg (by simpa using hw),if_pos e]
  have hok2:Ok n ⟨2,c.now,c.nxt,c.num,c.wts⟩:=⟨hn,hok.now,fun _=>hok.nxt (by omega)⟩
  have hf:stpO c.now c.nxt=ordC ⟨2,c.now,c.nxt,c.num,c.wts⟩:=by funext s;rfl
  have hb:∀s,s<n→sw.getD s Agt.sw0=bef ⟨2,c.now,c.nxt,c.num,c.wts⟩ s:=fun s h=>by
   rw[hs s h];unfold aft bef;rw[if_neg (by omega),if_pos e];rfl
  have hc:=tell_core (c:=⟨2,c.now,c.nxt,c.num,c.wts⟩) hok2 hw h0 h1 hl hq hb
  rw[←hf] at hc
  have et:=told_eq (ord:=stpO c.now c.nxt) (g:=setSt ⟨c,[]⟩ 2) (m:=n) h0 h1 hn
  have hcn:=cn_le (ord:=stpO c.now c.nxt) n
  rw[eg]
  generalize hT:told n (stpO c.now c.nxt) (setSt ⟨c,[]⟩ 2)=T at et
  have hc':Core n T.c sw (putO od T.out) bk:=by rw[←hT];exact hc
  have t1:T.c.st=2:=by rw[et];rfl
  have t2:T.c.now=c.now:=by rw[et];rfl
  have t3:T.c.nxt=c.nxt:=by rw[et];rfl
  have t4:T.c.num=c.num+cn (stpO c.now c.nxt) n:=by rw[et];rfl
  unfold calmS
  split
  ·rename_i hne
   refine⟨⟨hc',?_,⟨fun h=>absurd h hne,fun h=>by omega⟩,by omega⟩,by omega⟩
   have:=hstg 2 T.c.num T.c.wts (by omega)
   rw[←t1, ←t2, ←t3] at this
   exact this
  ·rename_i hne
   have hne':T.c.wts=[]:=by simpa using hne
   obtain⟨q1,q2⟩:=hc'.quiet hne'
   refine⟨⟨idle_core (c:=⟨3,T.c.now,T.c.nxt,T.c.num,T.c.wts⟩) hne' q1 (fun s h=>?_),?_,⟨fun _=>Or.inr rfl,fun _=>hne'⟩,by show 0≤T.c.num;omega⟩,by show T.c.num≤_;omega⟩
   ·rw[q2 s h];unfold aft;rw[t1];rfl
   ·have:=hstg 3 T.c.num T.c.wts (by omega)
    rw[←t2, ←t3] at this
    exact this
 ·have eg:goS n ⟨c,[]⟩=⟨⟨3,c.now,c.nxt,c.num,c.wts⟩,[]⟩:=by unfold goS;rw[if_neg (by simpa using hw),if_neg (by show ¬c.st=1;omega),if_pos e];rfl
  rw[eg]
  refine⟨⟨idle_core (c:=⟨3,c.now,c.nxt,c.num,c.wts⟩) hw hq (fun s h=>?_),hstg 3 _ _ (by omega),⟨fun _=>Or.inr rfl,fun _=>hw⟩,h0⟩,by simp only;omega⟩
  rw[hs s h];unfold aft;rw[e];rfl
 ·have eg:goS n ⟨c,[]⟩=⟨⟨0,c.nxt,pl0,c.num,c.wts⟩,[]⟩:=by unfold goS;rw[if_neg (by simpa using hw),if_neg (by show ¬c.st=1;omega),if_neg (by show ¬c.st=2;omega),if_pos e]
  rw[eg]
  refine⟨⟨idle_core (c:=⟨0,c.nxt,pl0,c.num,c.wts⟩) hw hq (fun s h=>?_),?_,⟨fun _=>Or.inl rfl,fun _=>hw⟩,h0⟩,by simp only;omega⟩
  ·rw[hs s h];unfold aft;rw[e];rfl
  ·rcases hst with⟨k,_,_⟩ | ⟨_,m,k1,k2,_,_⟩
   ·omega
   ·exact Or.inl ⟨rfl,rfl,by rw[k1];exact k2⟩
theorem tellgo {n:Nat} {ls:List Lk} {pn:List Pl} {c:Co} {sw:List Agt.Sw} {od:List (List Wir.Od)} {bk:List (List Int)} (hP:Plans n ls pn) (hn:n≤8) (hst:Stg n pn c) (h3:c.st=1∨c.st=4) (hw:c.wts=[]) (h0:0≤c.num) (h1:c.num≤80000) (hl:n≤od.length) (hq:Quiet n od bk) (hs:∀s,s<n→sw.getD s Agt.sw0=bef c s):
 Dyn n pn (goS n (told n (ordC c) ⟨c,[]⟩)).c sw (putO od (goS n (told n (ordC c) ⟨c,[]⟩)).out) bk∧(goS n (told n (ordC c) ⟨c,[]⟩)).c.num≤c.num+16:=by
 have hok:=hst.ok hP hn
 have hc:=tell_core hok hw h0 (by omega) hl hq hs
 have et:=told_eq (ord:=ordC c) (g:=⟨c,[]⟩) (m:=n) h0 (by simp only;omega) hn
 have hcn:=cn_le (ord:=ordC c) n
 by_cases hne:nums (outL (ordC c) c.num n)=[]
 ·have e1:outL (ordC c) c.num n=[]:=List.map_eq_nil_iff.1 hne
  have e2:cn (ordC c) n=0:=by rw[←outL_len (num:=c.num),e1];rfl
  have e3:told n (ordC c) ⟨c,[]⟩=⟨c,[]⟩:=by
   rw[et]
   simp only[e1,e2,hw,nums,List.map_nil,List.append_nil,Int.natCast_zero,Int.add_zero]
   obtain⟨a1,a2,a3,a4,a5⟩:=c
   simp only at hw
   rw[hw]
  rw[e3] at hc ⊢
  obtain⟨q1,q2⟩:=hc.quiet hw
  have:=adv hP hn hst (by omega) hw h0 (by omega) hl hq q2
  exact⟨this.1,by omega⟩
 ·generalize hT:told n (ordC c) ⟨c,[]⟩=T at et hc
  have t1:T.c.st=c.st:=by rw[et]
  have t2:T.c.now=c.now:=by rw[et]
  have t3:T.c.nxt=c.nxt:=by rw[et]
  have t4:T.c.num=c.num+cn (ordC c) n:=by rw[et]
  have t5:T.c.wts≠[]:=by rw[et];simp only[hw,List.nil_append];exact hne
  have eg:goS n T=T:=by unfold goS;rw[if_pos t5]
  rw[eg]
  refine⟨⟨hc,?_,⟨fun h=>absurd h t5,fun h=>by omega⟩,by omega⟩,by omega⟩
  rcases hst with⟨k,_,_⟩ | ⟨_,m,k1,k2,k3,k4⟩
  ·omega
  ·exact Or.inr ⟨by omega,m,k1,by rw[t3];exact k2,by rw[t2];exact k3,by rw[t2,t3];exact k4⟩
end Go.Proofs.Ytolclgbpjiokfaa.Rm
namespace Go.Proofs.Ytolclgbpjiokfaa.Rm
open Go.RowKit Go.Deep Stw Stp Tb Rul Ct
def PkOk (n:Nat) (pn:List Pl) (p:Pk):Prop:=
 (p.v=0∧p.dn=true∧∃x,p.tr=[x]∧0≤x∧x<(n:Int))∨
 (∃m i j:Nat,m<pn.length∧p.v=(m:Int)+1∧p.fl=(i:Int)∧i<(pn.getD m pl0).ps.length∧1≤j∧j≤((pn.getD m pl0).ps.getD i []).length∧p.tr=((pn.getD m pl0).ps.getD i []).take j)
structure Inv (n:Nat) (ls:List Lk) (t:Nat) (W:Wd):Prop where
 wr:(wrong n ls).1=0
 lsw:W.sw.length=n
 lod:W.od.length=n
 lbk:W.bk.length=n
 pls:Plans n ls W.pn
 dyn:Dyn n W.pn W.co W.sw W.od W.bk
 num:W.co.num≤16*t
 pl:W.pn.length≤t
 pkl:W.pk.length≤40
 pks:∀p∈W.pk,PkOk n W.pn p
theorem Inv.n8 {n:Nat} {ls:List Lk} {t:Nat} {W:Wd} (h:Inv n ls t W):1≤n∧n≤8:=by have:=(right_of h.wr).bounds;omega
theorem Inv.ok {n:Nat} {ls:List Lk} {t:Nat} {W:Wd} (h:Inv n ls t W):Ok n W.co:=h.dyn.stg.ok h.pls h.n8.2
theorem Inv.more {n:Nat} {ls:List Lk} {t:Nat} {W:Wd} (h:Inv n ls t W):Inv n ls (t+1) W:=⟨h.wr,h.lsw,h.lod,h.lbk,h.pls,h.dyn,by have:=h.num;omega,by have:=h.pl;omega,h.pkl,h.pks⟩
theorem getD_rep {α:Type} {n s:Nat} {z:α}:(List.replicate n z).getD s z=z:=by
 rw[List.getD_eq_getElem?_getD,List.getElem?_replicate];split <;> rfl
theorem Inv.start {n:Nat} {ls:List Lk} (h:(wrong n ls).1=0):Inv n ls 0 (wdN n):=by
 refine⟨h,by simp[wdN],by simp[wdN],by simp[wdN],fun m hm=>by simp[wdN] at hm,⟨idle_core rfl (fun s _=>⟨getD_rep,getD_rep⟩) (fun s _=>getD_rep.trans rfl),Or.inl ⟨rfl,rfl,rfl⟩,⟨fun _=>Or.inl rfl,fun _=>rfl⟩,Int.le_refl _⟩,by simp[wdN,co0],by simp[wdN],by simp[wdN],fun p hp=>by simp[wdN] at hp⟩
theorem lp_append {pn:List Pl} {p:Pl}:∀{m:Nat},m≤pn.length→lp (pn++[p]) m=lp pn m
 | 0,_=>rfl
 | m+1,h=>by simp only[lp,List.getD_eq_getElem?_getD];rw[List.getElem?_append_left (by omega)]
theorem lp_last {pn:List Pl} {p:Pl}:lp (pn++[p]) (pn.length+1)=p:=by simp[lp,List.getD_eq_getElem?_getD]
theorem PkOk.push {n:Nat} {pn:List Pl} {p:Pk} {q:Pl} (h:PkOk n pn p):PkOk n (pn++[q]) p:=by
 rcases h with h | ⟨m,i,j,h1,h2,h3,h4,h5,h6,h7⟩
 ·exact Or.inl h
 ·have e:(pn++[q]).getD m pl0=pn.getD m pl0:=lp_append (m:=m+1) h1
  exact Or.inr ⟨m,i,j,by simp;omega,h2,h3,by rw[e];exact h4,h5,by rw[e];exact h6,by rw[e];exact h7⟩
theorem ask_idle {c:Co} {n:Int} {ls:List Lk} {fs:List Stf.Fl} (h:(askS c n ls fs).2=0):c.st=0:=by
 by_cases e:c.st=0
 ·exact e
 ·unfold askS at h;rw[if_pos e] at h;cases h
theorem hapA_inv {n:Nat} {ls:List Lk} {t:Nat} {W:Wd} {fs:List Stf.Fl} (h:Inv n ls t W) (ht:t≤1000):Inv n ls (t+1) (hapA n ls W fs).1:=by
 unfold hapA
 split
 ·exact h.more
 ·rename_i h0
  have h0':(askS W.co n ls fs).2=0:=by simpa using h0
  have hst:=ask_idle h0'
  have ha:=Ct.ask_cases h0'
  obtain⟨_,hA,_⟩:=ha.A
  have hn:=h.n8.2
  rcases h.dyn.stg with⟨_,hx,hnow⟩ | ⟨k,_⟩
  ·have hwt:W.co.wts=[]:=h.dyn.wst.2 (Or.inl hst)
   have hv:=(h.pls.lp (Nat.le_refl W.pn.length)).1
   rw[←hnow] at hv
   have hnx:nx W.co.now.v=(W.pn.length:Int)+1:=by
    have:=h.pl
    unfold nx;rw[hv,IntKind.wrap_i64];omega
   have hP:Plans n ls (W.pn++[(askS W.co n ls fs).1.c.nxt]):=fun m hm=>by
    by_cases e:m=W.pn.length
    ·subst e
     rw[show(W.pn++[(askS W.co n ls fs).1.c.nxt]).getD W.pn.length pl0=(askS W.co n ls fs).1.c.nxt from lp_last,hA]
     exact⟨fs,by rw[hnx],by rw[←hnx];exact ha.hp⟩
    ·have hm':m<W.pn.length:=by simp at hm;omega
     rw[show(W.pn++[(askS W.co n ls fs).1.c.nxt]).getD m pl0=W.pn.getD m pl0 from lp_append (m:=m+1) hm']
     exact h.pls m hm'
   obtain⟨q1,q2⟩:=h.dyn.core.quiet hwt
   have hpl:=h.pl
   have hnum:=h.num
   have key:=tellgo (n:=n) (ls:=ls) (pn:=W.pn++[(askS W.co n ls fs).1.c.nxt]) (c:=⟨1,W.co.now,⟨nx W.co.now.v,fs,plnP n ls fs⟩,W.co.num,W.co.wts⟩) (sw:=W.sw) (od:=W.od) (bk:=W.bk) hP hn
    (Or.inr ⟨Or.inl rfl,W.pn.length,by simp,by rw[lp_last,hA],by rw[lp_append (Nat.le_refl _)];exact hnow,ha.fl⟩) (Or.inl rfl) hwt h.dyn.n0 (by simp only;omega) (by rw[h.lod];exact Nat.le_refl _) q1
    (fun s hs=>by rw[q2 s hs];unfold aft bef;rw[if_pos hst];rfl)
   have eg:(askS W.co n ls fs).1=goS n (told n (ordC ⟨1,W.co.now,⟨nx W.co.now.v,fs,plnP n ls fs⟩,W.co.num,W.co.wts⟩) ⟨⟨1,W.co.now,⟨nx W.co.now.v,fs,plnP n ls fs⟩,W.co.num,W.co.wts⟩,[]⟩):=by rw[ha.eq];rfl
   rw[←eg] at key
   refine⟨h.wr,h.lsw,by show(putO _ _).length=n;rw[putO_len];exact h.lod,h.lbk,hP,key.1,?_,by simp;omega,h.pkl,fun p hp=>(h.pks p hp).push⟩
   have:=key.2
   simp only at this ⊢
   omega
  ·omega
theorem drop_calm' {c:Co} {n:Nat} {ls:List Lk} (h:(dropS c n ls).2=0):c.st=3:=by
 by_cases e:c.st=3
 ·exact e
 ·unfold dropS at h
  split at h
  ·rename_i h1;exact absurd h h1
  ·cases h
theorem hapD_inv {n:Nat} {ls:List Lk} {t:Nat} {W:Wd} (h:Inv n ls t W) (ht:t≤1000):Inv n ls (t+1) (hapD n ls W).1:=by
 unfold hapD
 split
 ·exact h.more
 ·rename_i h0
  have h0':(dropS W.co n ls).2=0:=by simpa using h0
  have hst:=drop_calm' h0'
  have hn:=h.n8.2
  have hwt:W.co.wts=[]:=h.dyn.wst.2 (Or.inr hst)
  obtain⟨q1,q2⟩:=h.dyn.core.quiet hwt
  have hnum:=h.num
  rcases h.dyn.stg with⟨k,_⟩ | ⟨_,hs⟩
  ·omega
  ·have key:=tellgo (n:=n) (ls:=ls) (pn:=W.pn) (c:=⟨4,W.co.now,W.co.nxt,W.co.num,W.co.wts⟩) (sw:=W.sw) (od:=W.od) (bk:=W.bk) h.pls hn
    (Or.inr ⟨Or.inr (Or.inr (Or.inr rfl)),hs⟩) (Or.inr rfl) hwt h.dyn.n0 (by simp only;omega) (by rw[h.lod];exact Nat.le_refl _) q1
    (fun s hs=>by rw[q2 s hs];unfold aft bef;rw[hst];rfl)
   have eg:(dropS W.co n ls).1=goS n (told n (ordC ⟨4,W.co.now,W.co.nxt,W.co.num,W.co.wts⟩) ⟨⟨4,W.co.now,W.co.nxt,W.co.num,W.co.wts⟩,[]⟩):=by rw[drop_calm h.wr hst];rfl
   rw[←eg] at key
   refine⟨h.wr,h.lsw,by show(putO _ _).length=n;rw[putO_len];exact h.lod,h.lbk,h.pls,key.1,?_,by have:=h.pl;simp only;omega,h.pkl,h.pks⟩
   have:=key.2
   simp only at this ⊢
   omega
theorem order_done {n:Nat} {ls:List Lk} {t:Nat} {W:Wd} {s:Nat} {o:Wir.Od} {r:List Wir.Od} (h:Inv n ls t W) (ht:t≤1000) (hs:s<n) (ho:W.od.getD s []=o::r):r=[]∧W.bk.getD s []=[]∧Agt.doS (W.sw.getD s Agt.sw0) o=(aft W.co s,0)∧o.rs.length≤16∧o.fs.length≤12∧W.sw.getD s Agt.sw0=bef W.co s:=by
 rcases h.dyn.core.sws s hs with⟨e,_,_⟩ | ⟨o',k,e1,e2,e3,e4⟩ | ⟨k,e,_,_⟩
 ·rw[ho] at e;cases e
 ·rw[ho] at e2
  injection e2 with e2 e5
  have hk:=h.dyn.core.nle k ((h.dyn.core.wmem k).2 ⟨s,hs,by rw[ho,e2];simp[pend,nmb]⟩)
  have hnum:=h.num
  have hr:=ord_right (k:=k) h.ok e1 hs hk.1 (by omega)
  subst e2
  exact⟨e5,e3,by rw[e4];exact do_ord h.ok e1 hs hk.1 (by omega),hr.2.1,hr.2.2,e4⟩
 ·rw[ho] at e;cases e
theorem hapO_inv {n:Nat} {ls:List Lk} {t:Nat} {W:Wd} {i:Int} (h:Inv n ls t W) (ht:t≤1000):Inv n ls (t+1) (hapO n W i).1∧((hapO n W i).2=0∨(hapO n W i).2=6):=by
 unfold hapO
 split
 ·exact⟨h.more,Or.inr rfl⟩
 ·rename_i hi
  have hi':0≤i∧i<(n:Int):=by simpa using hi
  obtain⟨s,rfl⟩:=Int.eq_ofNat_of_zero_le hi'.1
  have hs:s<n:=by omega
  simp only[Int.toNat_natCast]
  split
  ·exact⟨h.more,Or.inr rfl⟩
  ·rename_i o r ho
   obtain⟨hr,hb,hd,_,_,_⟩:=order_done h ht hs ho
   subst hr
   rw[hd,hb]
   simp only[ne_eq,not_true_eq_false,if_false]
   refine⟨⟨h.wr,by simpa using h.lsw,by simpa using h.lod,by simpa using h.lbk,h.pls,⟨?_,h.dyn.stg,h.dyn.wst,h.dyn.n0⟩,by have:=h.num;simp only;omega,by have:=h.pl;simp only;omega,h.pkl,h.pks⟩,by simp⟩
   have g1:∀j,(W.od.set s []).getD j []=if j=s then [] else W.od.getD j []:=fun j=>getD_set (by rw[h.lod];exact hs)
   have g2:∀j,(W.bk.set s ([]++[o.n])).getD j []=if j=s then [o.n] else W.bk.getD j []:=fun j=>getD_set (by rw[h.lbk];exact hs)
   have g3:∀j,(W.sw.set s (aft W.co s)).getD j Agt.sw0=if j=s then aft W.co s else W.sw.getD j Agt.sw0:=fun j=>getD_set (by rw[h.lsw];exact hs)
   have gp:∀j,pend ((W.od.set s []).getD j []) ((W.bk.set s ([]++[o.n])).getD j [])=pend (W.od.getD j []) (W.bk.getD j []):=fun j=>by
    rw[g1 j,g2 j]
    by_cases e:j=s
    ·subst e;rw[if_pos rfl,if_pos rfl,ho,hb];simp[pend]
    ·rw[if_neg e,if_neg e]
   refine⟨fun j hj=>?_,fun k=>?_,h.dyn.core.wnd,fun a b k ha hb' hka hkb=>?_,h.dyn.core.nle⟩
   ·show SwP W.co j ((W.sw.set s (aft W.co s)).getD j Agt.sw0) ((W.od.set s []).getD j []) ((W.bk.set s ([]++[o.n])).getD j [])
    rw[g1 j,g2 j,g3 j]
    by_cases e:j=s
    ·subst e;rw[if_pos rfl,if_pos rfl,if_pos rfl];exact Or.inr (Or.inr ⟨o.n,rfl,rfl,rfl⟩)
    ·rw[if_neg e,if_neg e,if_neg e];exact h.dyn.core.sws j hj
   ·simp only[gp];exact h.dyn.core.wmem k
   ·simp only[gp] at hka hkb;exact h.dyn.core.wone a b k ha hb' hka hkb
theorem back_done {n:Nat} {ls:List Lk} {t:Nat} {W:Wd} {s:Nat} {k:Int} {r:List Int} (h:Inv n ls t W) (hs:s<n) (hb:W.bk.getD s []=k::r):r=[]∧W.od.getD s []=[]∧k∈W.co.wts∧W.sw.getD s Agt.sw0=aft W.co s∧backS W.co n ls k=(goS n ⟨⟨W.co.st,W.co.now,W.co.nxt,W.co.num,W.co.wts.erase k⟩,[]⟩,0):=by
 have hk:k∈W.co.wts:=(h.dyn.core.wmem k).2 ⟨s,hs,by rw[hb];simp[pend]⟩
 have e:=back_in (c:=W.co) h.wr hk
 rcases h.dyn.core.sws s hs with⟨_,e1,_⟩ | ⟨_,_,_,_,e1,_⟩ | ⟨k',e1,e2,e3⟩
 ·rw[hb] at e1;cases e1
 ·rw[hb] at e1;cases e1
 ·rw[hb] at e2
  injection e2 with _ e5
  exact⟨e5,e1,hk,e3,e⟩
theorem hapK_inv {n:Nat} {ls:List Lk} {t:Nat} {W:Wd} {i:Int} (h:Inv n ls t W) (ht:t≤1000):Inv n ls (t+1) (hapK n ls W i).1∧((hapK n ls W i).2=0∨(hapK n ls W i).2=6):=by
 unfold hapK
 split
 ·exact⟨h.more,Or.inr rfl⟩
 ·rename_i hi
  have hi':0≤i∧i<(n:Int):=by simpa using hi
  obtain⟨s,rfl⟩:=Int.eq_ofNat_of_zero_le hi'.1
  have hs:s<n:=by omega
  simp only[Int.toNat_natCast]
  split
  ·exact⟨h.more,Or.inr rfl⟩
  ·rename_i k r hb
   obtain⟨hr,ho,hk,hsw,hB⟩:=back_done h hs hb
   subst hr
   rw[hB]
   simp only[ne_eq,not_true_eq_false,if_false]
   refine⟨?_,by simp⟩
   have hnum:=h.num
   have g2:∀j,(W.bk.set s []).getD j []=if j=s then [] else W.bk.getD j []:=fun j=>getD_set (by rw[h.lbk];exact hs)
   have hpd:∀j x,j<n→(x∈pend (W.od.getD j []) ((W.bk.set s []).getD j [])↔x∈pend (W.od.getD j []) (W.bk.getD j [])∧x≠k):=fun j x hj=>by
    rw[g2 j]
    by_cases e:j=s
    ·subst e;rw[if_pos rfl,ho,hb];simp[pend]
    ·rw[if_neg e]
     refine⟨fun hx=>⟨hx,fun ex=>e ?_⟩,fun hx=>hx.1⟩
     exact h.dyn.core.wone j s k hj hs (by rw[←ex];exact hx) (by rw[hb];simp[pend])
   have hcore:Core n ⟨W.co.st,W.co.now,W.co.nxt,W.co.num,W.co.wts.erase k⟩ W.sw W.od (W.bk.set s []):=by
    refine⟨fun j hj=>?_,fun x=>?_,h.dyn.core.wnd.erase k,fun a b x ha hb' hka hkb=>h.dyn.core.wone a b x ha hb' ((hpd a x ha).1 hka).1 ((hpd b x hb').1 hkb).1,fun x hx=>h.dyn.core.nle x (List.mem_of_mem_erase hx)⟩
    ·show SwP W.co j _ _ _
     rw[g2 j]
     by_cases e:j=s
     ·subst e;rw[if_pos rfl];exact Or.inl ⟨ho,rfl,hsw⟩
     ·rw[if_neg e];exact h.dyn.core.sws j hj
    ·show x∈W.co.wts.erase k↔_
     rw[h.dyn.core.wnd.mem_erase_iff,h.dyn.core.wmem x]
     constructor
     ·rintro⟨hx,j,hj,hp⟩;exact⟨j,hj,(hpd j x hj).2 ⟨hp,hx⟩⟩
     ·rintro⟨j,hj,hp⟩
      have:=(hpd j x hj).1 hp
      exact⟨this.2,j,hj,this.1⟩
   have hns:¬(W.co.st=0∨W.co.st=3):=fun e=>by rw[h.dyn.wst.2 e] at hk;cases hk
   by_cases he:W.co.wts.erase k=[]
   ·have h4:W.co.st=1∨W.co.st=2∨W.co.st=4:=by
     rcases h.dyn.stg with⟨e,_⟩ | ⟨e,_⟩ <;> omega
    obtain⟨q1,q2⟩:=hcore.quiet he
    have key:=adv (n:=n) (ls:=ls) (pn:=W.pn) (c:=⟨W.co.st,W.co.now,W.co.nxt,W.co.num,W.co.wts.erase k⟩) (sw:=W.sw) (od:=W.od) (bk:=W.bk.set s []) h.pls h.n8.2 h.dyn.stg h4 he h.dyn.n0 (by simp only;omega) (by rw[h.lod];exact Nat.le_refl _) q1 q2
    refine⟨h.wr,h.lsw,by show(putO _ _).length=n;rw[putO_len];exact h.lod,by simpa using h.lbk,h.pls,key.1,?_,by have:=h.pl;simp only;omega,h.pkl,h.pks⟩
    have:=key.2
    simp only at this ⊢
    omega
   ·have eg:goS n ⟨⟨W.co.st,W.co.now,W.co.nxt,W.co.num,W.co.wts.erase k⟩,[]⟩=⟨⟨W.co.st,W.co.now,W.co.nxt,W.co.num,W.co.wts.erase k⟩,[]⟩:=by unfold goS;rw[if_pos he]
    rw[eg]
    exact⟨h.wr,h.lsw,h.lod,by simpa using h.lbk,h.pls,⟨hcore,h.dyn.stg,⟨fun e=>absurd e he,fun e=>absurd e hns⟩,h.dyn.n0⟩,by simp only;omega,by have:=h.pl;simp only;omega,h.pkl,h.pks⟩
end Go.Proofs.Ytolclgbpjiokfaa.Rm
