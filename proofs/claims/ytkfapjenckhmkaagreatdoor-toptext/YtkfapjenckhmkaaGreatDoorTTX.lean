/- A text's flows, asked for in a net, and a packet of each: it serves its flow: TopText answers true, for every net and every text, and leaves them as they were. The variables that the row lists hold what the program's text lays. -/
import Derived.Test.YtkfapjenckhmkaaGreatDoorU25
import Derived.Test.YtkfapjenckhmkaaGreatDoorTTv
import Derived.Test.YtkfapjenckhmkaaGreatDoorTTd
import Derived.Test.YtkfapjenckhmkaaGreatDoorTTc
import Derived.Test.YtkfapjenckhmkaaGreatDoorTTg
import Derived.Test.YtkfapjenckhmkaaGreatDoorU24
import Derived.Test.YtkfapjenckhmkaaGreatDoorCards
import Derived.Test.YtkfapjenckhmkaaGreatDoorTie
import Derived.ProofKit
import Derived.OpenShut
import Derived.ChangeMaps5
import Derived.Lay
import Derived.SevenTiedAt
import Derived.Stop.Joined
import Derived.Stop.LaidErr
import Derived.MakeChecks
import Derived.Deep.DeepHandedRow
namespace Go.Proofs.YtkfapjenckhmkaaGreatDoor.Rm
open Go.RowKit Go.Deep Stw Stp Tb Rul Ct
theorem fnd_all {n version:Int} {ls:List Lk} {fs:List Stf.Fl} (h:(plnF n version ls fs).1=0):∀k,k<fs.length→(fnd n ls (fs.getD k Fw.f0)).1=0:=by
 have hw:(Stw.wrong n ls).1=0:=by
  by_cases e:(Stw.wrong n ls).1=0
  ·exact e
  ·rw[plnF_wrong e] at h;exact absurd h e
 have hv:¬(version<1∨1000<version):=fun e=>by rw[plnF_range hw e] at h;cases h
 have hfl:(Stf.wflows fs n).1=0:=by
  by_cases e:(Stf.wflows fs n).1=0
  ·exact e
  ·rw[plnF_flows hw hv e] at h;exact absurd h e
 intro k
 induction k using Nat.strongRecOn with
 | ind k ih=>
  intro hk
  by_cases e:(fnd n ls (fs.getD k Fw.f0)).1=0
  ·exact e
  ·rw[plnF_bad hw hv hfl hk (fun j hj=>ih j hj (by omega)) e] at h
   exact absurd h e
theorem fnd_sv {n:Int} {ls:List Lk} {f:Stf.Fl} (h:(fnd n ls f).1=0):svB n ls f.fr f.to f.via f.nt (fnd n ls f).2=true:=by
 unfold fnd at h ⊢
 by_cases hw:(wrong n ls).1=0
 ·have hr:=right_of hw
  rw[if_neg (by simp[hw])] at h ⊢
  by_cases hf:Stf.wflow f n=0
  ·rw[if_neg (by simp[hf])] at h ⊢
   have hF:=rightF_of hf
   have hb:=hr.bounds
   have hC:∀x y,0≤cost ls x y:=fun x y=>(hr.cost x y).1
   cases hfi:find (cost ls) f.fr f.to f.via f.nt with
   | none=>rw[hfi] at h;simp at h
   | some y=>
    obtain⟨p,c⟩:=y
    have hbest:=find_some hC (by have:=hF.fr;omega) (fun h=>(hF.nt _ h).2.2.1 rfl) hfi
    exact(svB_iff hr hF.fr).2 hbest.1
  ·rw[if_pos hf] at h;exact absurd h hf
 ·rw[if_pos hw] at h;exact absurd h hw
theorem Pln.serves {n:Nat} {ls:List Lk} {v:Int} {p:Pl} (h:Pln n ls v p) {i:Nat} (hi:i<p.fs.length):svB n ls (p.fs.getD i Fw.f0).fr (p.fs.getD i Fw.f0).to (p.fs.getD i Fw.f0).via (p.fs.getD i Fw.f0).nt (p.ps.getD i [])=true∧(p.fs.getD i Fw.f0).via.length≤16777216∧(p.fs.getD i Fw.f0).nt.length≤16777216:=by
 obtain⟨fs,rfl,h2⟩:=h
 simp only at hi ⊢
 refine⟨?_,(plan_ok h2).sm _ (by rw[List.getD_eq_getElem?_getD,List.getElem?_eq_getElem hi];exact List.getElem_mem hi)⟩
 have e:(plnP n ls fs).getD i []=(fnd n ls (fs.getD i Fw.f0)).2:=by
  unfold plnP
  rw[List.getD_eq_getElem?_getD,List.getElem?_map,List.getElem?_eq_getElem hi,List.getD_eq_getElem?_getD,List.getElem?_eq_getElem hi]
  rfl
 rw[e]
 exact fnd_sv (fnd_all h2 i hi)
end Go.Proofs.YtkfapjenckhmkaaGreatDoor.Rm
namespace Go.Proofs.YtkfapjenckhmkaaGreatDoor.Rm
open Go.RowKit Go.Deep Stw Stp Tb Rul Ct
def alls:Nat→List Dd
 | 0=>[]
 | k+1=>alls k++[⟨4,k,[]⟩]++List.replicate 8 ⟨5,k,[]⟩
theorem alls_len:∀k,(alls k).length=9*k
 | 0=>rfl
 | k+1=>by rw[alls,List.length_append,List.length_append,alls_len k,List.length_replicate,List.length_singleton];omega
theorem alls_fs:∀k,∀d∈alls k,d.fs=[]
 | 0,d,h=>by cases h
 | k+1,d,h=>by
  rw[alls] at h
  rcases List.mem_append.1 h with h | h
  ·rcases List.mem_append.1 h with h | h
   ·exact alls_fs k d h
   ·rw[List.mem_singleton.1 h]
  ·rw[List.eq_of_mem_replicate h]
theorem txt_first {n:Nat} {ls:List Lk} {fs:List Stf.Fl}:(run n ls (drn n ls 10 [⟨1,0,fs⟩])).2.getD 0 0=(askS co0 n ls fs).2∧0<(drn n ls 10 [⟨1,0,fs⟩]).length:=by
 obtain⟨z,hz,_⟩:=drn_suf (N:=n) (ls:=ls) 10 [⟨1,0,fs⟩]
 rw[hz]
 refine⟨?_,by simp⟩
 rw[run_at (by simp)]
 simp only[List.take_zero,List.singleton_append,List.getD_cons_zero]
 rw[hap_ask]
 show(hapA n ls (wdN n) fs).2=_
 unfold hapA
 split
 ·rfl
 ·rename_i h
  have h':(askS (wdN n).co n ls fs).2=0:=by simpa using h
  exact h'.symm
theorem txt_err {n:Int} {ls:List Lk} {fs:List Stf.Fl}:((plnF n 1 ls fs).1≠0→(askS co0 n ls fs).2=(plnF n 1 ls fs).1)∧((plnF n 1 ls fs).1=0→(askS co0 n ls fs).2=0∨(askS co0 n ls fs).2=10):=by
 have e:nx co0.now.v=1:=rfl
 unfold askS
 rw[e,if_neg (by simp[co0])]
 refine⟨fun h=>by rw[if_pos h],fun h=>?_⟩
 rw[if_neg (by simp[h])]
 split
 ·exact Or.inr rfl
 ·exact Or.inl rfl
structure Txt (n:Nat) (ls:List Lk) (fs:List Stf.Fl) (W:Wd):Prop where
 st:W.co.st=3
 wt:W.co.wts=[]
 nx:W.co.nxt=⟨1,fs,plnP n ls fs⟩
 pn:W.pn=[⟨1,fs,plnP n ls fs⟩]
theorem txt_start {n:Nat} {ls:List Lk} {fs:List Stf.Fl} (hw:(wrong n ls).1=0) (hl:(drn n ls 10 [⟨1,0,fs⟩]).length≤200) (h0:(askS co0 n ls fs).2=0):
 Txt n ls fs (run n ls (drn n ls 10 [⟨1,0,fs⟩])).1∧(run n ls (drn n ls 10 [⟨1,0,fs⟩])).1.pk=[]:=by
 obtain⟨z,e1,_,e3⟩:=drn_ok (n:=n) (ls:=ls) hw 10 [⟨1,0,fs⟩] (by simp) (Nat.le_trans (rk_le _) (by decide))
 rw[e1] at hl ⊢
 obtain⟨⟨s1,s2,s3,s4,s5,s6⟩,_⟩:=e3 hl
 have er:run n ls [⟨1,0,fs⟩]=((hapA n ls (wdN n) fs).1,[(hapA n ls (wdN n) fs).2]):=by
  have:=run_snoc (n:=n) (ls:=ls) (ds:=[]) (d:=⟨1,0,fs⟩)
  rw[List.nil_append,hap_ask] at this
  exact this
 obtain⟨a1,a2,a3⟩:=(Ct.ask_cases h0).A
 have eh:(hapA n ls (wdN n) fs).1=⟨(askS co0 n ls fs).1.c,(wdN n).sw,putO (wdN n).od (askS co0 n ls fs).1.out,(wdN n).bk,[],[(askS co0 n ls fs).1.c.nxt]⟩:=by
  unfold hapA
  rw[if_neg (by show ¬(askS co0 n ls fs).2≠0;simp[h0])]
  rfl
 rw[er,eh] at s2 s3 s6
 simp only at s2 s3 s6
 have hg:(askS co0 n ls fs).1.c.st=1∨(askS co0 n ls fs).1.c.st=2∨(askS co0 n ls fs).1.c.st=3:=by
  rcases a3 with⟨b,_⟩ | ⟨b,_⟩
  ·exact b.imp id Or.inl
  ·exact Or.inr (Or.inr b)
 obtain⟨t1,_,t3⟩:=s6 hg
 exact⟨⟨t1,s1,t3.trans a2,by rw[s3,a2];rfl⟩,s2⟩
theorem Txt.begin {n:Nat} {ls:List Lk} {fs:List Stf.Fl} {t:Nat} {W:Wd} {i:Nat} (h:Txt n ls fs W) (hI:Inv n ls t W) (hi:i<fs.length) (hp:W.pk.length<40):
 hap n ls W ⟨4,i,[]⟩=(⟨W.co,W.sw,W.od,W.bk,W.pk++[⟨i,1,((plnP n ls fs).getD i []).take 1,false⟩],W.pn⟩,0)∧1≤((plnP n ls fs).getD i []).length∧((plnP n ls fs).getD i []).length≤8:=by
 have hpl:Pln n ls 1 ⟨1,fs,plnP n ls fs⟩:=by
  have:=hI.pls 0 (by rw[h.pn];simp)
  rw[h.pn] at this
  exact this
 obtain⟨q1,q2,q3⟩:=hpl.head
 obtain⟨q4,q5,q6,q7⟩:=q2 i hi
 simp only at q4 q5 q6 q7
 refine⟨?_,q5,q3 i⟩
 have hfr:frm W.co i=some (fs.getD i Fw.f0).fr:=by
  unfold frm
  rw[h.nx]
  rw[if_pos (by simp only;omega)]
  simp only[Int.toNat_natCast]
 have hh:hap n ls W ⟨4,i,[]⟩=(⟨W.co,W.sw,W.od,W.bk,W.pk++[newP W.sw i (fs.getD i Fw.f0).fr],W.pn⟩,0):=by
  unfold hap
  simp only[show((4:Int)=1)=False by simp,show((4:Int)=2)=False by simp,show((4:Int)=3)=False by simp,if_false,if_true]
  unfold hapB
  rw[if_neg (by omega),hfr]
 rw[hh]
 obtain⟨s,hs⟩:=Int.eq_ofNat_of_zero_le q6
 have hsn:s<n:=by omega
 have hst:Agt.ver (W.sw.getD s Agt.sw0).st i≠0:=by
  rw[(hI.dyn.core.quiet h.wt).2 s hsn]
  unfold aft
  rw[if_neg (by rw[h.st];decide),if_neg (by rw[h.st];decide),if_neg (by rw[h.st];decide)]
  simp only
  rw[ver_at (p:=W.co.nxt) (s:=s) (i:=i) (by rw[h.nx];exact hi),h.nx]
  simp only
  rw[if_pos hs];decide
 rcases hI.new_live (f:=i) (a:=(fs.getD i Fw.f0).fr) with e | ⟨m,i',hv,hi0,hi',hl,e⟩
 ·exfalso
  unfold newP at e
  split at e
  ·rename_i x hx
   have h4:=(sat_some hx).2.2.2.1
   have e2:x.2=0:=congrArg Pk.v e
   exact h4 e2
  ·rename_i hx
   exact hst (sat_none hx s)
 ·have hii:i'=i:=by omega
  subst hii
  have hm:m=0:=by have:=hv.1;rw[h.pn] at this;simpa using this
  subst hm
  rw[e,h.pn]
  rfl
theorem Txt.live {n:Nat} {ls:List Lk} {fs:List Stf.Fl} {W:Wd} (h:Txt n ls fs W):Live W 0:=⟨by rw[h.pn];simp,Or.inr ⟨by rw[h.pn,h.nx];rfl,by rw[h.st];decide,by rw[h.st];decide⟩⟩
theorem txt_all {n:Nat} {ls:List Lk} {fs:List Stf.Fl} (hw:(wrong n ls).1=0) (hl:(drn n ls 10 [⟨1,0,fs⟩]).length≤200) (h0:(askS co0 n ls fs).2=0) (h12:fs.length≤39):∀i,i≤fs.length→
 ∃X c,run n ls (drn n ls 10 [⟨1,0,fs⟩]++alls i)=(X,c)∧Txt n ls fs X∧X.pk.length=i∧∀j,j<i→(X.pk.getD j pk0).tr=(plnP n ls fs).getD j []:=by
 intro i
 induction i with
 | zero=>
  intro _
  obtain⟨k1,k2⟩:=txt_start hw hl h0
  refine⟨_,_,by rw[alls,List.append_nil],k1,by rw[k2];rfl,fun j hj=>by omega⟩
 | succ i ih=>
  intro hi
  obtain⟨X,c,e,hT,hlen,hp⟩:=ih (by omega)
  have hI:Inv n ls (drn n ls 10 [⟨1,0,fs⟩]++alls i).length X:=by
   have:=run_inv (n:=n) (ls:=ls) (ds:=drn n ls 10 [⟨1,0,fs⟩]++alls i) hw (by rw[List.length_append,alls_len];omega)
   rwa [e] at this
  obtain⟨hh,h1,h8⟩:=hT.begin hI (i:=i) (by omega) (by omega)
  rw[alls, ←List.append_assoc, ←List.append_assoc,run_append,run_snoc,e]
  simp only
  rw[hh]
  simp only
  obtain⟨z,e2⟩:=moves_run (n:=n) (ls:=ls) (i:=i) (k:=8) (W:=⟨X.co,X.sw,X.od,X.bk,X.pk++[⟨i,1,((plnP n ls fs).getD i []).take 1,false⟩],X.pn⟩) (c:=c++[0]) (by simp[hlen])
  rw[e2]
  have eg:(X.pk++[(⟨i,1,((plnP n ls fs).getD i []).take 1,false⟩:Pk)]).getD i pk0=⟨i,1,((plnP n ls fs).getD i []).take 1,false⟩:=by rw[←hlen];simp[List.getD_eq_getElem?_getD]
  have hii:i<(X.pn.getD 0 pl0).ps.length:=by
   rw[hT.pn]
   have:=((hI.pls 0 (by rw[hT.pn];simp)).head).1
   rw[hT.pn] at this
   simp only[List.getD_cons_zero] at this ⊢
   omega
  have hit:itM X.sw 8 ⟨i,1,((plnP n ls fs).getD i []).take 1,false⟩=⟨i,1,(plnP n ls fs).getD i [],true⟩:=by
   have:=hI.itM_live (m:=0) (i:=i) (by rw[hT.st];decide) hT.live hii 8 1 (by omega) (by rw[hT.pn];exact h1) (by rw[hT.pn];simp only[List.getD_cons_zero];omega)
   rw[hT.pn] at this
   exact this
  simp only[eg,hit]
  refine⟨_,_,rfl,⟨hT.st,hT.wt,hT.nx,hT.pn⟩,by simp[hlen],fun j hj=>?_⟩
  simp only
  rw[getD_set (by simp[hlen])]
  by_cases ej:j=i
  ·rw[if_pos ej,ej]
  ·rw[if_neg ej]
   have hj':j<X.pk.length:=by omega
   rw[List.getD_eq_getElem?_getD,List.getElem?_append_left hj', ←List.getD_eq_getElem?_getD]
   exact hp j (by omega)
end Go.Proofs.YtkfapjenckhmkaaGreatDoor.Rm
namespace Go.Proofs.YtkfapjenckhmkaaGreatDoor.Rm
open Go.RowKit Go.Deep Go.Maps Go.Sort Stw Stp Tb Rul Ct
theorem plyNt {N:Int} {ls:List Lk} {ds:List Dd} (h:(plyF N ls ds).1=0):∃n:Nat,N=(n:Int)∧(wrong n ls).1=0∧ds.length≤200∧plyW N ls ds=run n ls ds:=by
 obtain⟨h1,h2,h3,h4⟩:=plyF_right h
 have hb:=(right_of h1).bounds
 obtain⟨n,rfl⟩:=Int.eq_ofNat_of_zero_le (show 0≤N by omega)
 exact⟨n,rfl,h1,h2,h4⟩
theorem cellRg {w:World} {a:Addr} {v:Value} (h:w.cell? a=some v) (d:Nat) (os:Array Obj):(grow (redrawn w d) os).cell? a=some v:=(Below.cell (below_regrown w d os) (Zg.cell_lt h)).trans h
theorem cellB {w w':World} {b o:Nat} (h:w.heap[b]? =w'.heap[b]?):w.cell? ⟨b,o,none⟩=w'.cell? ⟨b,o,none⟩:=by simp[World.cell?,h]
theorem WoAt.pkT {w:World} {W:Wd} {A:WA} {s:Nat} (h:WoAt w W A) (hs:s<W.pk.length):∃g off ao c,A.ko=some ⟨g,off,none⟩∧g<w.heap.size∧w.cell? ⟨g,off+s*4+2,none⟩=some (.slice ao (W.pk.getD s pk0).tr.length c)∧ListAt w ao (W.pk.getD s pk0).tr:=by
 rcases h.pk with h0 | ⟨g,off,h1,h2,h3⟩
 ·rw[h0] at hs;simp at hs
 ·obtain⟨ao,c,k0,k1,k2,k3,k4,_⟩:=h3 s hs
  exact⟨g,off,ao,c,h1,h2,k2,k4⟩
theorem txt_few {n:Nat} {ls:List Lk} {fs:List Stf.Fl} (h:(askS co0 n ls fs).2=0):fs.length≤12∧Pln n ls 1 ⟨1,fs,plnP n ls fs⟩:=by
 have hp:Pln n ls 1 ⟨1,fs,plnP n ls fs⟩:=⟨fs,rfl,(Ct.ask_cases h).hp⟩
 exact⟨hp.gd.fl,hp⟩
theorem flowG {w:World} {ao:Option Addr} {fs:List Stf.Fl} {k:Nat} (h:Fw.FlowsAt w ao fs) (hk:k<fs.length):∃b off vo vc no nc,ao=some ⟨b,off,none⟩∧b<w.heap.size∧w.cell? ⟨b,off+k*4,none⟩=some (.int .i64 (fs.getD k Fw.f0).fr)∧w.cell? ⟨b,off+k*4+1,none⟩=some (.int .i64 (fs.getD k Fw.f0).to)∧w.cell? ⟨b,off+k*4+2,none⟩=some (.slice vo (fs.getD k Fw.f0).via.length vc)∧w.cell? ⟨b,off+k*4+3,none⟩=some (.slice no (fs.getD k Fw.f0).nt.length nc)∧ListAt w vo (fs.getD k Fw.f0).via∧ListAt w no (fs.getD k Fw.f0).nt:=by
 have e:fs.getD k Fw.f0=fs[k]:=by rw[List.getD_eq_getElem?_getD,List.getElem?_eq_getElem hk];rfl
 rcases h with h0 | ⟨b,off,h1,h2,h3⟩
 ·rw[h0] at hk;simp at hk
 ·obtain⟨v,n,c0,c1,c2,c3,⟨vo,vc,e1,l1,_⟩,⟨no,nc,e2,l2,_⟩⟩:=h3 k hk
  subst e1 e2
  rw[e]
  exact⟨b,off,vo,vc,no,nc,h1,h2,c0,c1,c2,c3,l1,l2⟩
set_option maxRecDepth 100000 in
set_option maxHeartbeats 4000000 in
theorem topText_any (N:Int) (ao:Option Addr) (len cap:Nat) (ls:List Lk) (s:ByteArray) (w:World) (hlen:ls.length=len) (hl:NetAt w ao ls) (hx:len≤9223372036854775807) (hI:I64 N) (hsx:s.size≤9223372036854775807) (hm:Zg.MaxAt w):
 Calls Tryz.prog 3 #[.agg #[.int .i64 N,.slice ao len cap],.string s] w fun e w'=>e=.returned (.bool true)∧Ext w w':=by
 have hE0:=(Ext.refl w).alloc (.cells #[.int .i64 N,.slice ao len cap] 24)
 go_enter Tryz.func3,Tryz.ntmps3
 go_wp2_with fail
 refine(t_alive_any _).mono ?_
 rintro e w1 ⟨rfl,E1⟩
 have n0:w1.cell? ⟨w.heap.size,0,none⟩=some (.int .i64 N):=(E1.cells.1 _ _ (by simp)).trans (by simp)
 have n1:w1.cell? ⟨w.heap.size,1,none⟩=some (.slice ao len cap):=(E1.cells.1 _ _ (by simp)).trans (by simp)
 have hs1:w.heap.size<w1.heap.size:=by have:=E1.size;simp at this;omega
 have E01:=hE0.trans E1
 clear hE0 E1
 go_wp2_with fail
 refine(prs_any s w1 hsx (Zg.MaxAt.ext hm E01)).mono ?_
 rintro e w2 ⟨E2,hPO⟩
 have E02:=E01.trans E2
 have m0:=(E2.cells.1 _ _ hs1).trans n0
 have m1:=(E2.cells.1 _ _ hs1).trans n1
 have hs2:w.heap.size<w2.heap.size:=by have:=E2.size;omega
 clear n0 n1 E2 E01 hs1
 rcases hPO with⟨c,p,hc,rfl⟩ | ⟨fs,lo,lc,rfl,hF,hcap,hn2,hsm⟩
 ·have b1:(c != 0)=true:=by simpa using hc
  go_wp2
  go_ret
  exact⟨rfl,E02.alloc _⟩
 ·have HNT:=hidp (hl.ext E02)
  have HFL:=hidp hF
  have HSM:Hid (Fw.Sm fs∧fs.length≤9223372036854775807):=⟨fun k hk=>by have:=hsm _ (List.getElem_mem hk);omega,by omega⟩
  clear hl hF hsm
  go_upto_region 6 with fail
  obtain⟨z1,hz1⟩:∃z1,z1=w2.alloc (.cells #[.int .i64 0,.int .i64 0] 29):=⟨_,rfl⟩
  rw[←hz1]
  have Ez1:Ext w2 z1:=by rw[hz1];exact(Ext.refl w2).alloc _
  have hzs:z1.heap.size=w2.heap.size+1:=by rw[hz1];simp
  have hbk1:z1.heap[w2.heap.size]? =some (.cells #[.int .i64 0,.int .i64 0] 29 (0,0)):=by rw[hz1];exact new_at rfl
  have p0:=(Ez1.cells.1 _ _ hs2).trans m0
  have p1:=(Ez1.cells.1 _ _ hs2).trans m1
  have hs3:w.heap.size<z1.heap.size:=by omega
  have HPL:=hidp (Plan_any N 1 ao len cap ls lo fs.length lc fs z1 hlen (HNT.out.ext Ez1) hx hI rfl (HFL.out.ext Ez1) HSM.out.1 HSM.out.2)
  clear hz1
  go_wp2_with fail
  with_reducible refine Calls.mono HPL.out ?_
  rintro e w3 ⟨pv,fo,fl,fc,qo,ql,qc,rfl,E3,_⟩
  have HER:Hid (∀n:Nat,N=(n:Int)→((plnF N 1 ls fs).1≠0→(askS co0 n ls fs).2=(plnF N 1 ls fs).1)∧((plnF N 1 ls fs).1=0→(askS co0 n ls fs).2=0∨(askS co0 n ls fs).2=10)):=fun n hn=>by rw[hn];exact txt_err
  generalize plnF N 1 ls fs=F at HER
  obtain⟨f0,f1⟩:=F
  simp only at HER
  have hbk3:=(Below.block E3 _ (by omega)).trans hbk1
  have hl3:w2.heap.size<w3.heap.size:=by have:=E3.size;omega
  have hfz0:w3.frozen? ⟨w2.heap.size,0,none⟩=false:=box_frozen hbk3 0
  have hfz1:w3.frozen? ⟨w2.heap.size,1,none⟩=false:=box_frozen hbk3 1
  have d0:=box_cell hbk3 0
  have d1:=box_cell hbk3 1
  simp only[List.getElem?_toArray,List.getElem?_cons_zero,List.getElem?_cons_succ] at d0 d1
  have t0:=((Ez1.trans E3).cells.1 _ _ hs2).trans m0
  have t1:=((Ez1.trans E3).cells.1 _ _ hs2).trans m1
  have hne:w.heap.size≠w2.heap.size:=by omega
  clear p0 p1 m0 m1 HPL hbk1
  go_upto_region 7 with fail
  obtain⟨z,hz⟩:∃z,z=(w3.setCell ⟨w2.heap.size,0,none⟩ (.int .i64 f0)).setCell ⟨w2.heap.size,1,none⟩ (.int .i64 f1):=⟨_,rfl⟩
  have Ez:Ext w2 z:=by rw[hz];exact((Ez1.trans E3).setCell (Nat.le_refl _) _).setCell (Nat.le_refl _) _
  have hbz:z.heap[w2.heap.size]? =some (.cells #[.int .i64 f0,.int .i64 f1] 29 (0,0)):=by rw[hz];simp[World.setCell,Array.getElem?_modify,hbk3]
  have hsz:w2.heap.size<z.heap.size:=by rw[hz];simpa using hl3
  have hwz:w.heap.size<z.heap.size:=by omega
  have y0:z.cell? ⟨w.heap.size,0,none⟩=some (.int .i64 N):=by
   rw[cellB (w:=z) (w':=w3) (by rw[hz,blk_setCell_other _ _ _ _ (by simpa using hne),blk_setCell_other _ _ _ _ (by simpa using hne)])];exact t0
  have y1:z.cell? ⟨w.heap.size,1,none⟩=some (.slice ao len cap):=by
   rw[cellB (w:=z) (w':=w3) (by rw[hz,blk_setCell_other _ _ _ _ (by simpa using hne),blk_setCell_other _ _ _ _ (by simpa using hne)])];exact t1
  rw[←hz]
  clear hz d0 d1 t0 t1 hbk3 hfz0 hfz1 E3 Ez1 hzs hne hl3
  have HTB:Hid (∀V,Ext z V→V.cell? ⟨w.heap.size,0,none⟩=some (.int .i64 N)∧V.cell? ⟨w.heap.size,1,none⟩=some (.slice ao len cap)∧w.heap.size<V.heap.size):=fun V hV=>⟨(hV.cells.1 _ _ hwz).trans y0,(hV.cells.1 _ _ hwz).trans y1,by have:=hV.size;omega⟩
  have HFB:Hid (∀V,Ext z V→V.cell? ⟨w2.heap.size,0,none⟩=some (.int .i64 f0)∧w2.heap.size<V.heap.size):=fun V hV=>⟨(hV.cells.1 _ _ hsz).trans (by have:=box_cell hbz 0;simpa using this),by have:=hV.size;omega⟩
  have HNZ:=hidp (HNT.out.ext Ez)
  have HFZ:=hidp (HFL.out.ext Ez)
  have HEz:=hidp (E02.trans Ez)
  clear hbz Ez E02 HNT HFL hsz hs2 hs3
  have HDS:Hid (DsSm [⟨1,0,fs⟩]):=fun d hd=>by rw[List.mem_singleton] at hd;rw[hd];exact HSM.out
  have HDR:=hidp (t_drain_any N ao len cap ls (.slice (some ⟨z.heap.size,0,none⟩) 1 1) [⟨1,0,fs⟩] z (z.alloc (.cells #[.int .i64 1,.int .i64 0,.slice lo fs.length lc] 40)) hlen HNZ.out hx (ask_row rfl (Ext.refl z) HFZ.out) ((Ext.refl z).alloc _) HDS.out (by simp))
  go_wp2_with fail
  with_reducible refine Calls.mono HDR.out ?_
  rintro e w5 ⟨v5,rfl,HR5⟩
  clear HDR y0 y1
  obtain⟨hmS,hmL⟩:=drn_small (N:=N) (ls:=ls) 10 HDS.out (by simp)
  obtain⟨m,hmE⟩:∃m,m=drn N ls 10 [⟨1,0,fs⟩]:=⟨_,rfl⟩
  rw[←hmE] at HR5 hmS hmL
  generalize z.alloc (.cells #[.int .i64 1,.int .i64 0,.slice lo fs.length lc] 40)=Y at HR5
  generalize (Value.slice (some ⟨z.heap.size,0,none⟩) 1 1).ownBlock=gY at HR5
  have HME:=hidp hmE
  have HMS:=hidp hmS
  obtain⟨lo5,lc5,hv5,hDI,_⟩:=HR5.out.row.form
  have hE5:=HR5.out.ext
  have HPL:=hidp (Play_any N ao len cap ls lo5 lc5 m w5 hlen (HNZ.out.ext hE5) hx (hDI.dos hE5) hmS (by omega))
  have HW:Hid ((plyF N ls m).1=0→∃n:Nat,N=(n:Int)∧(wrong n ls).1=0∧m.length≤200∧plyW N ls m=run n ls m):=fun h=>plyNt h
  generalize plyF N ls m=g at HPL HW
  generalize plyW N ls m=q at HPL HW
  obtain⟨W,came⟩:=q
  obtain⟨g0,g1⟩:=g
  simp only at HPL HW
  obtain⟨y0,y1,yl⟩:=HTB.out w5 hE5
  clear hmE hmS hDI
  subst hv5
  go_wp2_with fail
  refine Calls.mono HPL.out ?_
  rintro e w6 ⟨A,co,cc,rfl,E6,HP⟩
  unfold wvl
  clear HPL y0 y1
  go_upto_region 9 with fail
  obtain⟨w7,hw7⟩:∃w7,w7=(w6.alloc (.cells #[.int .i64 W.co.st,.int .i64 W.co.now.v,.slice A.ca.n.fo W.co.now.fs.length A.ca.n.fc,.slice A.ca.n.qo W.co.now.ps.length A.ca.n.qc,.int .i64 W.co.nxt.v,.slice A.ca.x.fo W.co.nxt.fs.length A.ca.x.fc,.slice A.ca.x.qo W.co.nxt.ps.length A.ca.x.qc,.int .i64 W.co.num,.slice A.ca.wo W.co.wts.length A.ca.wc,.slice A.so W.sw.length A.sc,.slice A.oo W.od.length A.oc,.slice A.bo W.bk.length A.bc,.slice A.ko W.pk.length A.kc,.slice A.lo W.pn.length A.lc] 50)).alloc (.cells #[.int .i64 g0,.int .i64 g1] 29):=⟨_,rfl⟩
  rw[←hw7]
  have E67:Ext w6 w7:=by rw[hw7];exact((Ext.refl w6).alloc _).alloc _
  have hz7:w7.heap.size=w6.heap.size+1+1:=by rw[hw7];simp
  have HE57:=hidp (E6.trans E67)
  have hEz7:Ext z w7:=hE5.trans HE57.out
  obtain⟨u0,ul0⟩:=HFB.out w7 hEz7
  have u1:w7.cell? ⟨w6.heap.size+1,0,none⟩=some (.int .i64 g0):=by rw[hw7];simp
  have ul1:w6.heap.size+1<w7.heap.size:=by omega
  have HCA:=hidp (HP.out.2.ext E67)
  have HE7:=hidp (HEz.out.trans hEz7)
  clear hw7 E67 E6 hz7 HP hE5
  by_cases hg:g0=0
  ·obtain⟨n,rfl,hw,hl2,hq⟩:=HW.out hg
   subst hg
   have her:came.getD 0 0=(askS co0 n ls fs).2∧0<came.length:=by
    have h1:=txt_first (n:=n) (ls:=ls) (fs:=fs)
    rw[←HME.out, ←hq] at h1
    refine⟨h1.1,?_⟩
    have:=run_len (n:=n) (ls:=ls) (ds:=m)
    rw[←hq] at this
    simp only at this
    omega
   obtain⟨eb,eoff,hco,heb,hec⟩:=HCA.out.get her.2
   have d0:=hec 0 her.2
   rw[her.1,Nat.add_zero] at d0
   have HAS:=hidp (HER.out n rfl)
   have hcl:(0:Int)<(came.length:Int):=by omega
   have HWR:=hidp hw
   have HMP:Hid (0<m.length):=by
    show _<_
    rw[HME.out];exact(txt_first (n:=n) (ls:=ls) (fs:=fs)).2
   have HEQ:Hid (askS co0 n ls fs=askS co0 n ls fs):=rfl
   generalize hee:(askS co0 n ls fs).2=er at d0 HAS
   have HEE:=hidp hee
   clear hee her hec HW hq hw HER HCA
   subst hco
   by_cases hf:f0=0
   ·subst hf
    rcases HAS.out.2 rfl with he | he
    ·subst he
     obtain⟨h12,hPN⟩:=txt_few HEE.out
     have HPN:=hidp hPN
     have HTX:Hid (∀i,i≤fs.length→∃X c,run n ls (m++alls i)=(X,c)∧Txt n ls fs X∧X.pk.length=i∧∀j,j<i→(X.pk.getD j pk0).tr=(plnP n ls fs).getD j []):=by
      have h1:=txt_all (n:=n) (ls:=ls) (fs:=fs) HWR.out (by rw[←HME.out];exact hl2) HEE.out (by omega)
      rw[←HME.out] at h1
      exact h1
     have HR7:Hid (RS z Y gY w7 (.slice lo5 m.length lc5) m):=HR5.out.toExt HE57.out
     have hmp:(0:Int)<(m.length:Int):=by have:=HMP.out;omega
     clear hPN HR5 HAS HE57 hEz7
     go_wp2
     clear u0 u1 d0 ul0 ul1
     go_loopw [7,91] (fun mv iv wd=>∃(k:Nat) (v:Value),k≤fs.length∧iv=.int .i64 k∧mv=v∧Hid (RS z Y gY wd v (m++alls k))) (fun _ iv _=>fs.length - (intOf iv).toNat)
     case atStart=>exact⟨0,_,Nat.zero_le _,rfl,rfl,by rw[alls,List.append_nil];exact HR7.out⟩
     case round=>as_aux_lemma=>
      obtain⟨k,v,hk,rfl,hlv,HX⟩:=hrel
      obtain rfl:=hlv.symm
      clear HR7
      by_cases hlt:k<fs.length
      ·have i1:(k:Int)<(fs.length:Int):=by omega
       obtain⟨lo6,lc6,hv6,_⟩:=HX.out.row.form
       have HLL:Hid ((m++alls k).length+200≤1000000):=by
        show _≤_
        rw[List.length_append,alls_len];omega
       have HSU:Hid (m++alls (k+1)=m++alls k++[(⟨4,k,[]⟩:Dd)]++List.replicate 8 (⟨5,k,[]⟩:Dd)):=by
        show _=_
        rw[alls, ←List.append_assoc, ←List.append_assoc]
       generalize m++alls k=cx at HX HLL hv6 HSU
       have HR2:Hid (RS z Y gY ((doW wr 4 k).alloc (.cells #[.int .i64 4,.int .i64 k,.slice none 0 0] 40)) v cx):=HX.out.toExt ((doW_ext (Ext.refl wr)).alloc _)
       have HD2:Hid (DosIn z ((doW wr 4 k).alloc (.cells #[.int .i64 4,.int .i64 k,.slice none 0 0] 40)) (some ⟨wr.heap.size+1,0,none⟩) [⟨4,k,[]⟩]):=one_in (d:=⟨4,k,[]⟩) (by simp[doW]) (Or.inl rfl)
       have HL1:Hid (cx.length+1≤1000000):=by show _≤_;have:=HLL.out;omega
       subst hv6
       go_wp2_with fail
       refine(t_do_any _ _ _).mono ?_
       rintro e _ ⟨rfl,rfl⟩
       have hdw:(doW wr 4 k).heap.size=wr.heap.size+1:=by simp[doW]
       go_wp2_with (first | (at_builtin;refine wpList_append_rs rfl _ _ rfl rfl rfl HR2.out rfl (by decide) HD2.out HL1.out ?_) | fail)
       intro bb off cp W7 h7
       have H7:=hidp h7
       clear h7 HR2 HD2 hdw HL1 HX
       go_wp2
       go_loopw [7,99] (fun mv iv wd=>∃(j:Nat) (v:Value),j≤8∧iv=.int .i64 j∧mv=v∧Hid (RS z Y gY wd v (cx++[(⟨4,k,[]⟩:Dd)]++List.replicate j ⟨5,k,[]⟩))) (fun _ iv _=>8 - (intOf iv).toNat)
       case atStart=>exact⟨0,_,by omega,rfl,rfl,by rw[List.replicate_zero,List.append_nil];exact H7.out⟩
       case round=>as_aux_lemma=>
        obtain⟨j,v,hj,rfl,hlv,HX⟩:=hrel
        obtain rfl:=hlv.symm
        clear H7
        by_cases hj8:j<8
        ·have j2:(j:Int)<8:=by omega
         obtain⟨lo2,lc2,hv2,_⟩:=HX.out.row.form
         have HL2:Hid ((cx++[(⟨4,k,[]⟩:Dd)]++List.replicate j (⟨5,k,[]⟩:Dd)).length+1≤1000000):=by
          show _≤_
          have:=HLL.out
          simp;omega
         have HS2:Hid (cx++[(⟨4,k,[]⟩:Dd)]++List.replicate j (⟨5,k,[]⟩:Dd)++[(⟨5,k,[]⟩:Dd)]=cx++[(⟨4,k,[]⟩:Dd)]++List.replicate (j+1) (⟨5,k,[]⟩:Dd)):=by
          show _=_
          rw[List.replicate_succ',List.append_assoc (cx++_)]
         generalize cx++[(⟨4,k,[]⟩:Dd)]++List.replicate j (⟨5,k,[]⟩:Dd)=dx at HX HL2 HS2 hv2
         have HR2:Hid (RS z Y gY ((doW wr 5 k).alloc (.cells #[.int .i64 5,.int .i64 k,.slice none 0 0] 40)) v dx):=HX.out.toExt ((doW_ext (Ext.refl wr)).alloc _)
         have HD2:Hid (DosIn z ((doW wr 5 k).alloc (.cells #[.int .i64 5,.int .i64 k,.slice none 0 0] 40)) (some ⟨wr.heap.size+1,0,none⟩) [⟨5,k,[]⟩]):=one_in (d:=⟨5,k,[]⟩) (by simp[doW]) (Or.inl rfl)
         subst hv2
         go_wp2_with fail
         refine(t_do_any _ _ _).mono ?_
         rintro e _ ⟨rfl,rfl⟩
         have hdw:(doW wr 5 k).heap.size=wr.heap.size+1:=by simp[doW]
         go_wp2_with (first | (at_builtin;refine wpList_append_rs rfl _ _ rfl rfl rfl HR2.out rfl (by decide) HD2.out HL2.out ?_) | fail)
         intro bb off cp W7 h7
         have H7:=hidp h7
         clear h7 HR2 HD2 hdw
         go_wp2
         refine⟨⟨j+1,_,by omega,by go_num,rfl,?_⟩,by simp[intOf];omega⟩
         rw[←HS2.out]
         exact H7.out
        ·have j2:¬(j:Int)<8:=by omega
         have hj9:j=8:=by omega
         have HX8:Hid (RS z Y gY wr v (m++alls (k+1))):=by rw[HSU.out, ←hj9];exact HX.out
         clear HX HSU
         go_wp2
         exact⟨⟨k+1,_,by omega,by go_num,rfl,HX8.out⟩,by simp[intOf];omega⟩
      ·have i1:¬(k:Int)<(fs.length:Int):=by omega
       have hkd:k=fs.length:=by omega
       have HX9:Hid (RS z Y gY wr v (m++alls fs.length)):=by rw[←hkd];exact HX.out
       clear HX hkd
       obtain⟨lo2,lc2,hv2,hDI,_⟩:=HX9.out.row.form
       have hEr:=HX9.out.ext
       have HMA:Hid (DsSm (m++alls fs.length)):=HMS.out.append (DsSm.of_nil (alls_fs fs.length))
       have HTI:=hidp (HTX.out fs.length (Nat.le_refl _))
       obtain⟨M,hM⟩:∃M,M=m++alls fs.length:=⟨_,rfl⟩
       rw[←hM] at HMA HTI hDI hv2
       have HEr:=hidp hEr
       have HDI:=hidp (hDI.dos hEr)
       clear HX9 hM hDI hEr
       subst hv2
       by_cases h200:(200:Int)<(M.length:Int)
       ·go_wp2
        go_ret
        refine⟨?_,HEz.out.trans HEr.out⟩
        show Ending.returned (.bool (decide (0<m.length)))=_
        rw[decide_eq_true HMP.out]
       ·have hM2:M.length≤200:=by omega
        have HPL:=hidp (Play_any n ao len cap ls lo2 lc2 M wr hlen (HNZ.out.ext HEr.out) hx HDI.out HMA.out (by omega))
        have hpl:=plyF_of (n:=(n:Int)) (ds:=M) HWR.out hM2
        have HRN:Hid (plyW n ls M=run n ls M):=hpl.2
        rw[HRN.out,hpl.1] at HPL
        obtain⟨y0,y1,yl⟩:=HTB.out wr HEr.out
        obtain⟨X,dame,eX,hT,hpk,htr⟩:=HTI.out
        rw[eX] at HPL
        simp only at HPL
        have HPK:=hidp (And.intro hpk htr)
        clear hpl HRN eX hT hpk htr HTI HDI
        go_wp2_with fail
        refine Calls.mono HPL.out ?_
        rintro e w8 ⟨B,bo,bc,rfl,E8,HB⟩
        unfold wvl
        clear HPL y0 y1
        go_upto_region 24 with fail
        obtain⟨w9,hw9⟩:∃w9,w9=(w8.alloc (.cells #[.int .i64 X.co.st,.int .i64 X.co.now.v,.slice B.ca.n.fo X.co.now.fs.length B.ca.n.fc,.slice B.ca.n.qo X.co.now.ps.length B.ca.n.qc,.int .i64 X.co.nxt.v,.slice B.ca.x.fo X.co.nxt.fs.length B.ca.x.fc,.slice B.ca.x.qo X.co.nxt.ps.length B.ca.x.qc,.int .i64 X.co.num,.slice B.ca.wo X.co.wts.length B.ca.wc,.slice B.so X.sw.length B.sc,.slice B.oo X.od.length B.oc,.slice B.bo X.bk.length B.bc,.slice B.ko X.pk.length B.kc,.slice B.lo X.pn.length B.lc] 50)).alloc (.cells #[.int .i64 0,.int .i64 0] 29):=⟨_,rfl⟩
        rw[←hw9]
        have E89:Ext w8 w9:=by rw[hw9];exact((Ext.refl w8).alloc _).alloc _
        have hz9:w9.heap.size=w8.heap.size+1+1:=by rw[hw9];simp
        have HEz9:Hid (Ext z w9):=HEr.out.trans (E8.trans E89)
        have HB9:Hid (∀V,Ext w9 V→WoAt V X B):=fun V hV=>HB.out.1.ext (E89.trans hV)
        have HBL:Hid (∀V,Ext w9 V→V.cell? ⟨w8.heap.size,12,none⟩=some (.slice B.ko fs.length B.kc)∧w8.heap.size<V.heap.size):=fun V hV=>
         ⟨(hV.cells.1 _ _ (by omega)).trans (by rw[hw9, ←HPK.out.1];simp),by have:=hV.size;omega⟩
        clear hw9 E89 E8 HB hz9 HEr
        go_wp2
        go_loopw [122] (fun iv wd=>∃k:Nat,k≤fs.length∧iv=.int .i64 k∧Ext w9 wd) (fun iv _=>fs.length - (intOf iv).toNat)
        case atStart=>exact⟨0,Nat.zero_le _,rfl,Ext.refl _⟩
        case round=>as_aux_lemma=>
         obtain⟨j,hj,rfl,hEj⟩:=hrel
         have hEz:=HEz9.out.trans hEj
         by_cases hjl:j<fs.length
         ·have j1:(j:Int)<(fs.length:Int):=by omega
          obtain⟨b,off,vo,vc,no,nc,hlo,hb,c0,c1,c2,c3,l1,l2⟩:=flowG (HFZ.out.ext hEz) hjl
          obtain⟨pg,po,tO,tc,hko,hpg,t2,hT⟩:=(HB9.out _ hEj).pkT (s:=j) (by rw[HPK.out.1];exact hjl)
          obtain⟨sv1,sv2,sv3⟩:=HPN.out.serves (i:=j) hjl
          obtain⟨_,_,h8⟩:=HPN.out.head
          have h8:=h8 j
          simp only at sv1 sv2 sv3 h8
          rw[HPK.out.2 j hjl] at t2 hT
          obtain⟨y0,y1,yl⟩:=HTB.out wr hEz
          obtain⟨x12,xl⟩:=HBL.out wr hEj
          rw[hko] at x12
          generalize fs.getD j Fw.f0=f at c0 c1 c2 c3 l1 l2 sv1 sv2 sv3
          generalize (plnP n ls fs).getD j []=tr at t2 hT sv1 h8
          obtain⟨fr,tto,via,nt⟩:=f
          simp only at c0 c1 c2 c3 l1 l2 sv1 sv2 sv3
          obtain⟨wx,hwx⟩:∃wx,wx=wr.alloc (.cells #[.int .i64 fr,.int .i64 tto,.slice vo via.length vc,.slice no nt.length nc] 56):=⟨_,rfl⟩
          have Ex:Ext wr wx:=by rw[hwx];exact(Ext.refl wr).alloc _
          have HQ:Hid (∀d us,Calls Tryz.prog 10 #[.agg #[.int .i64 n,.slice ao len cap],.agg #[.int .i64 fr,.int .i64 tto,.slice vo via.length vc,.slice no nt.length nc],.slice tO tr.length tc] (grow (redrawn wx d) us) fun e w''=>e=.returned (.bool true)∧∃p:Regrown,w''=grow (redrawn wx p.d) p.os):=fun d us=>
           Calls.regrown_of (by
            have E9:Ext wr (grow (redrawn wx d) us):=Ex.trans (below_regrown wx d us)
            have h1:=Serves_any n ao len cap ls fr tto via nt vo no vc nc tr tO tr.length tc (grow (redrawn wx d) us) hlen (HNZ.out.ext (hEz.trans E9)) hx (right_of HWR.out).wrong (l1.ext E9) (by omega) (l2.ext E9) (by omega) rfl (by omega) (hT.ext E9)
            rw[sv1] at h1
            exact h1)
          have hxs:wx.heap.size=wr.heap.size+1:=by rw[hwx];simp
          have q0:=cellRg ((Ex.cells.1 _ _ yl).trans y0)
          have q1:=cellRg ((Ex.cells.1 _ _ yl).trans y1)
          have q2:=cellRg ((Ex.cells.1 _ _ xl).trans x12)
          have q3:=cellRg ((Ex.cells.1 _ _ hpg).trans t2)
          have z0:wx.cell? ⟨wr.heap.size,0,none⟩=some (.int .i64 fr):=by rw[hwx];simp
          have z1:wx.cell? ⟨wr.heap.size,1,none⟩=some (.int .i64 tto):=by rw[hwx];simp
          have z2:wx.cell? ⟨wr.heap.size,2,none⟩=some (.slice vo via.length vc):=by rw[hwx];simp
          have z3:wx.cell? ⟨wr.heap.size,3,none⟩=some (.slice no nt.length nc):=by rw[hwx];simp
          have q4:=cellRg z0
          have q5:=cellRg z1
          have q6:=cellRg z2
          have q7:=cellRg z3
          have HEx:=hidp (hEj.trans Ex)
          clear z0 z1 z2 z3 y0 y1 x12 t2 hT l1 l2 sv1 sv2 sv3 hko
          subst hlo
          go_upto_region 27 with fail
          rw[←hwx]
          clear c0 c1 c2 c3 hwx
          refine wp_region_quiet_below (by kernel_rfl) (by kernel_rfl) ?_
          repeat(go_big_quiet_step (with_reducible exact HQ.out _ _))
          refine wpQuiet_nil ?_
          intro _ hw'
          obtain⟨⟨dq,oq⟩,hw''⟩:=hw'
          subst hw''
          clear q0 q1 q2 q3 q4 q5 q6 q7 HQ
          go_wp2
          exact⟨⟨j+1,by omega,by go_num,HEx.out.trans (below_regrown _ dq oq)⟩,by simp[intOf];omega⟩
         ·have j1:¬(j:Int)<(fs.length:Int):=by omega
          obtain⟨x12,xl⟩:=HBL.out wr hEj
          go_wp2
          go_ret
          exact⟨rfl,HEz.out.trans hEz⟩
    ·subst he
     go_wp2
     have r0:=cellRg u0
     have r1:=cellRg u1
     try have r2:=cellRg d0
     refine wp_region_quiet_below (by kernel_rfl) (by kernel_rfl) ?_
     repeat(go_big_quiet_step (fail))
     refine wpQuiet_nil ?_
     intro _ hw'
     obtain⟨⟨dq,oq⟩,hw''⟩:=hw'
     subst hw''
     go_wp2
     go_ret
     exact⟨rfl,HE7.out.trans (below_regrown _ dq oq)⟩
   ·have he:=HAS.out.1 hf
    have b1:(f0 != 0)=true:=by simpa using hf
    have b2:(f0 == 0)=false:=by simpa using hf
    subst he
    go_wp2
    have r0:=cellRg u0
    have r1:=cellRg u1
    try have r2:=cellRg d0
    refine wp_region_quiet_below (by kernel_rfl) (by kernel_rfl) ?_
    repeat(go_big_quiet_step (fail))
    refine wpQuiet_nil ?_
    intro _ hw'
    obtain⟨⟨dq,oq⟩,hw''⟩:=hw'
    subst hw''
    go_wp2
    go_ret
    exact⟨rfl,HE7.out.trans (below_regrown _ dq oq)⟩
  ·have b1:(g0 != 0)=true:=by simpa using hg
   clear HW HCA HER
   by_cases hf:f0=0
   ·subst hf
    go_wp2
    have r0:=cellRg u0
    have r1:=cellRg u1
    try have r2:=cellRg d0
    refine wp_region_quiet_below (by kernel_rfl) (by kernel_rfl) ?_
    repeat(go_big_quiet_step (fail))
    refine wpQuiet_nil ?_
    intro _ hw'
    obtain⟨⟨dq,oq⟩,hw''⟩:=hw'
    subst hw''
    go_wp2
    go_ret
    exact⟨rfl,HE7.out.trans (below_regrown _ dq oq)⟩
   ·have b3:(f0 != 0)=true:=by simpa using hf
    go_wp2
    have r0:=cellRg u0
    have r1:=cellRg u1
    try have r2:=cellRg d0
    refine wp_region_quiet_below (by kernel_rfl) (by kernel_rfl) ?_
    repeat(go_big_quiet_step (fail))
    refine wpQuiet_nil ?_
    intro _ hw'
    obtain⟨⟨dq,oq⟩,hw''⟩:=hw'
    subst hw''
    go_wp2
    go_ret
    exact⟨rfl,HE7.out.trans (below_regrown _ dq oq)⟩
end Go.Proofs.YtkfapjenckhmkaaGreatDoor.Rm
namespace Go.Proofs.YtkfapjenckhmkaaGreatDoor
open Go.ChangeShapes Go.WideShapes Go.ChangeAt Go.RowKit Go.ChangeMaps Go.Deep Go.Joins Stw
set_option maxRecDepth 100000 in
theorem contract (H:Type) (enc:TypeId×Value→H) (W:World) (base:Nat) (args:Array Value) (ds gs:List (DataW H)) (before:List MemPlace)
 (hval:∀(j:Nat) t v,Tryz.f3.params[j]? =some t→args[j]? =some v→Value.okWide Tryz.prog W .any base t v)
 (hW:DataW.Whole enc Tryz.prog Tryz.f3.params.toList Rows.topTextSpec.vars false W args.toList ds gs before) (hsz:(DataW.weightsEach Tryz.prog (Tryz.f3.params.toList++Rows.topTextSpec.plain.varTypes Tryz.prog) (ds++gs)).all (· ≤reachBytes)=true) (hsh:W.ShapedOpen Tryz.prog):
 Calls Tryz.prog 3 args W fun e W'=>∃v,e=.returned v∧Rows.topTextSpec.post enc Tryz.prog Tryz.f3 false true false false W args v W':=by
 have hW':=hW
 obtain⟨p,q,hA0,hV,rfl,hfz,hnd⟩:=hW
 have hA:DataW.TrodAll enc Tryz.prog W 0 (fun _=>true) true Tryz.f3.params.toList args.toList ds p:=hA0
 rw[Tryz.params3] at hA hval hsz
 obtain⟨v0,vs0,d0,ds0,p0,q0,hargs,rfl,rfl,h0,r0⟩:=trodAll_cons hA
 obtain⟨v1,vs1,d1,ds1,p1,q1,rfl,rfl,rfl,h1,r1⟩:=trodAll_cons r0
 obtain⟨rfl,rfl,rfl⟩:=trodAll_nil r1
 obtain rfl:args=#[v0,v1]:=by cases args;simp_all
 obtain⟨rfl,rfl⟩:=trodVars_none hV
 have k0:=h0
 have lt0:∀x∈p0,x.block<W.heap.size:=by obtain⟨m,hm⟩:=k0;exact DataW.trod_lt m _ _ _ hm
 obtain⟨n0,ao0,len0,cap0,ls0,rfl,hn0,hlen0,hnet0,hlw0,hreach0,hcap0,hcm0⟩:=open_topo (hval 0 24 v0 rfl rfl) h0 (weights_arg hsz (j:=0) rfl rfl)
 obtain⟨t,rfl,rfl,rfl,wt⟩:=open_string Tryz.underlying9 (hval 1 9 v1 rfl rfl) h1
 clear hA0
 refine(Rm.topText_any n0 ao0 len0 cap0 ls0 t W hlen0 hnet0 (by omega) hn0 (by unfold maxLen at wt;omega) (Tryz.lays145.s1_3 W hsh)).mono fun e W' ⟨he,bel0⟩=>?_
 subst he
 have bel:Below W.heap.size W W':=bel0
 exact⟨_,rfl,_,_,_,[],_,[],hW',trodAll_mk1 (shut_bool Tryz.underlying4 _),trodAll_cons_mk (Below.trod Tryz.laidOut (by kernel_rfl) (of_decide_eq_true (by kernel_rfl)) k0 bel lt0) (trodAll_cons_mk (shut_string Tryz.underlying9 wt) trodAll_mk0),rfl,bel.frame _,fun h=>by cases h⟩
theorem laid_met (os:Os):laidMet Tryz.prog Rows.topTextRow.laid ((World.laidAll Tryz.prog os Rows.topTextRow.laid).forCall (fun _ _=>0) ⟨#[],#[.agg #[.int .i64 0,.slice none 0 0],.string ⟨#[]⟩],[]⟩).memory:=
 laidMet_laidAll _ (by kernel_rfl) (by kernel_rfl)
theorem reads (os:Os) {H:Type} (enc:TypeId×Value→H):∃places,DataW.whole enc Tryz.prog ((World.laidAll Tryz.prog os Rows.topTextRow.laid).forCall (fun _ _=>0) ⟨#[],#[.agg #[.int .i64 0,.slice none 0 0],.string ⟨#[]⟩],[]⟩).memory Tryz.f3.params.toList Rows.topTextSpec.vars false #[Value.agg #[.int .i64 0,.slice none 0 0],.string ⟨#[]⟩].toList 8=some ([.agg [.lit (.int .i64 0),.nil],.lit (.string [])],[],places):=
 ⟨[],by kernel_rfl⟩
set_option maxRecDepth 100000 in
theorem lifted (os:Os) (started:os.Started) (H:Type) (enc:TypeId×Value→H) (F:Stop.Interp):
 ReturnsInHanded {} Tryz.checked os 3 .any ((OpenSpec.ofChange Rows.topTextSpec).preRow enc Tryz.prog Tryz.f3 Rows.topTextRow.domain false Rows.topTextRow.laid) (((OpenSpec.ofChange Rows.topTextSpec).at F).post enc Tryz.prog Tryz.f3 false true false false):=by
 obtain⟨places,hx⟩:=reads os enc
 refine returnsInHanded_of_row (C:=Tryz.checked) (s:=OpenSpec.ofChange Rows.topTextSpec) Tryz.own started (by kernel_rfl) Tryz.func3
  (witness_row_at (enc:=enc) (C:=Tryz.checked) false (World.laidAll Tryz.prog os Rows.topTextRow.laid) #[.agg #[.int .i64 0,.slice none 0 0],.string ⟨#[]⟩] (World.laidAll_os _ _ _) (by kernel_rfl) (by kernel_rfl) (by kernel_rfl)
   (OpenSpec.preRow_of_cond 8 hx (by kernel_rfl) (fun k hk=>by cases hk) (by kernel_rfl) (laid_met os))) ?_
 intro W base args ds gs before hval hW _ _ hsz _ hsh _
 exact contract H enc W base args ds gs before hval hW hsz hsh
theorem said:Rows.TopTextSaid:=
 OpenClaim.holds_of_cond 3 Tryz.f3 rfl rfl rfl rfl rfl rfl rfl ⟨rfl,rfl,rfl,rfl,rfl⟩ rfl rfl rfl rfl rfl (by kernel_rfl) Tryz.func3 (by kernel_rfl)
  (of_decide_eq_true (by kernel_rfl)) (by unfold Func.isWrapper;first | (rw[if_pos (by decide+kernel)];kernel_rfl) | (rw[if_neg (by decide+kernel)];exact⟨rfl,rfl⟩))
  (fun os started H enc _ F=>by rw[OpenClaim.pre_eq_preRow];exact lifted os started H enc F)
theorem plain (f : FuncId) (fn : Func) (hf : Tryz.pinned.checked.prog.funcNamed "stampways/stamptop.TopText" = some f) (hfn : Tryz.pinned.checked.prog.funcs[f]? = some fn) :
 false=Tryz.pinned.checked.prog.looks []∧∀(j:Nat) t,fn.params[j]? =some t→Tryz.pinned.checked.prog.wantsStandIn t=false:=by
 obtain rfl : f = 3 := Option.some.inj ((show Tryz.prog.funcNamed "stampways/stamptop.TopText" = some 3 by kernel_rfl).symm.trans hf) |>.symm
 obtain rfl:fn=Tryz.f3:=(Option.some.inj (Tryz.func3.symm.trans hfn)).symm
 refine⟨by kernel_rfl,fun j t ht=>?_⟩
 rw[Tryz.params3] at ht
 have hm:t∈[24,9]:=by simpa using Array.mem_of_getElem? ht
 have hall:([24,9].all fun u=>!Tryz.prog.wantsStandIn u)=true:=by kernel_rfl
 exact(show Tryz.prog.wantsStandIn t=false by simpa using List.all_eq_true.1 hall t hm)
theorem topText_holds:Rows.TopTextCardSaid:=
 Claim7.holds_tied_plain_at .later [] _ _ _ _ said (fun _ h=>by cases h) (by kernel_rfl) (fun _ h=>by cases h) topText_row_tie rfl ⟨rfl,rfl⟩ (by kernel_rfl) rfl plain (by kernel_rfl)
#print axioms topText_holds
end Go.Proofs.YtkfapjenckhmkaaGreatDoor
