/- TopAvoid: in a ring of switches a flow that may not go over one between goes the other way round; for every input. -/
import Derived.Test.YtolclgbpjiokfaaU39
import Derived.Test.YtolclgbpjiokfaaU43
import Derived.Test.YtolclgbpjiokfaaU24
import Derived.Test.YtolclgbpjiokfaaU36
namespace Go.Proofs.Ytolclgbpjiokfaa.Rm
open Go.RowKit Go.Deep Stw Stp Tb Rul Ct
def tlB (n a b:Nat):Bool:=
 decide (plnF n 1 (lnk (n - 1)) [⟨(a:Int),(b:Int),[],[]⟩]=(0,0)) && decide (lengthOf n (lnk (n - 1)) (fnd n (lnk (n - 1)) ⟨(a:Int),(b:Int),[],[]⟩).2=(((max (a - b) (b - a):Nat):Int),true)) && decide ((fnd n (lnk (n - 1)) ⟨(a:Int),(b:Int),[],[]⟩).2.length=max (a - b) (b - a)+1) &&
  decide (((List.range n).map (fun(s:Nat)=>(rof 1 (s:Int) [(fnd n (lnk (n - 1)) ⟨(a:Int),(b:Int),[],[]⟩).2] 1).length)).sum=max (a - b) (b - a)) && (fnd n (lnk (n - 1)) ⟨(a:Int),(b:Int),[],[]⟩).2.all (fun x=>decide (0≤x) && decide (x<9))
theorem tl_all:((List.range 9).all fun n=>decide (n<2) || (List.range n).all fun a=>(List.range n).all fun b=>decide (a=b) || tlB n a b)=true:=by decide+kernel
theorem tl_get {n a b:Nat} (h2:2≤n) (h8:n≤8) (ha:a<n) (hb:b<n) (hab:a≠b):plnF n 1 (lnk (n - 1)) [⟨(a:Int),(b:Int),[],[]⟩]=(0,0)∧lengthOf n (lnk (n - 1)) (fnd n (lnk (n - 1)) ⟨(a:Int),(b:Int),[],[]⟩).2=(((max (a - b) (b - a):Nat):Int),true)∧(fnd n (lnk (n - 1)) ⟨(a:Int),(b:Int),[],[]⟩).2.length=max (a - b) (b - a)+1∧
 ((List.range n).map (fun(s:Nat)=>(rof 1 (s:Int) [(fnd n (lnk (n - 1)) ⟨(a:Int),(b:Int),[],[]⟩).2] 1).length)).sum=max (a - b) (b - a)∧∀x∈(fnd n (lnk (n - 1)) ⟨(a:Int),(b:Int),[],[]⟩).2,0≤x∧x<9:=by
 have h:=tl_all
 rw[List.all_eq_true] at h
 have h1:=h n (by rw[List.mem_range];omega)
 rw[Bool.or_eq_true,decide_eq_true_iff,List.all_eq_true] at h1
 have h3:=h1.resolve_left (by omega) a (List.mem_range.2 ha)
 rw[List.all_eq_true] at h3
 have h4:=h3 b (List.mem_range.2 hb)
 rw[Bool.or_eq_true,decide_eq_true_iff] at h4
 have h5:=h4.resolve_left hab
 unfold tlB at h5
 simp only[Bool.and_eq_true,decide_eq_true_iff,List.all_eq_true] at h5
 exact⟨h5.1.1.1.1,h5.1.1.1.2,h5.1.1.2,h5.1.2,h5.2⟩
def rng (n:Nat):List Lk:=lnk (n - 1)++[⟨(n:Int) - 1,0,1⟩]
def taB (n t x:Nat):Bool:=
 decide ((fnd n (rng n) ⟨0,(t:Int),[],[(x:Int)]⟩).1=0) && decide ((fnd n (rng n) ⟨0,(t:Int),[],[(x:Int)]⟩).2.length=n - t+1) && decide ((fnd n (rng n) ⟨0,(t:Int),[],[(x:Int)]⟩).2.getD 1 0=(n:Int) - 1) &&
 decide ((fnd n (rng n) ⟨0,(t:Int),[(x:Int)],[]⟩).1=0) && decide ((fnd n (rng n) ⟨0,(t:Int),[(x:Int)],[]⟩).2.length=t+1) && decide ((fnd n (rng n) ⟨0,(t:Int),[(x:Int)],[]⟩).2.getD 1 0=1)
theorem ta_all:((List.range 9).all fun n=>decide (n<4) || (List.range (n - 1)).all fun t=>decide (t<2) || (List.range t).all fun x=>decide (x<1) || taB n t x)=true:=by decide+kernel
theorem ta_get {n t x:Nat} (h4:4≤n) (h8:n≤8) (ht:2≤t) (htn:t<n - 1) (hx:1≤x) (hxt:x<t):
 ((fnd n (rng n) ⟨0,(t:Int),[],[(x:Int)]⟩).1=0∧(fnd n (rng n) ⟨0,(t:Int),[],[(x:Int)]⟩).2.length=n - t+1∧(fnd n (rng n) ⟨0,(t:Int),[],[(x:Int)]⟩).2.getD 1 0=(n:Int) - 1)∧
 (fnd n (rng n) ⟨0,(t:Int),[(x:Int)],[]⟩).1=0∧(fnd n (rng n) ⟨0,(t:Int),[(x:Int)],[]⟩).2.length=t+1∧(fnd n (rng n) ⟨0,(t:Int),[(x:Int)],[]⟩).2.getD 1 0=1:=by
 have h:=ta_all
 rw[List.all_eq_true] at h
 have h1:=h n (by rw[List.mem_range];omega)
 rw[Bool.or_eq_true,decide_eq_true_iff,List.all_eq_true] at h1
 have h3:=h1.resolve_left (by omega) t (List.mem_range.2 htn)
 rw[Bool.or_eq_true,decide_eq_true_iff,List.all_eq_true] at h3
 have h4:=h3.resolve_left (by omega) x (List.mem_range.2 hxt)
 rw[Bool.or_eq_true,decide_eq_true_iff] at h4
 have h5:=h4.resolve_left (by omega)
 unfold taB at h5
 simp only[Bool.and_eq_true,decide_eq_true_iff] at h5
 exact⟨⟨h5.1.1.1.1.1,h5.1.1.1.1.2,h5.1.1.1.2⟩,h5.1.1.2,h5.1.2,h5.2⟩
end Go.Proofs.Ytolclgbpjiokfaa.Rm
namespace Go.Proofs.Ytolclgbpjiokfaa.Rm
open Go.RowKit Go.Deep Stw Stp Tb Rul Ct
theorem one_at {W:World} {b:Nat} {x:Int} (h:W.heap.size=b):ListAt (W.alloc (.cells #[.int .i64 x] 3)) (some ⟨b,0,none⟩) [x]:=by
 subst h
 refine Or.inr ⟨_,0,rfl,by simp,fun k hk=>?_⟩
 have hk1:k<1:=hk
 match k,hk1 with
 | 0,_=>simp
set_option maxRecDepth 100000 in
set_option maxHeartbeats 4000000 in
theorem topAvoid_any (N T X:Int) (w:World):
 Calls Try.prog 15 #[.int .i64 N,.int .i64 T,.int .i64 X] w fun e w'=>e=.returned (.bool true)∧Ext w w':=by
 obtain⟨i0,hi0,hz00,hz01,hz02⟩:=info_parts infoLk
 go_enter Try.func15,Try.ntmps15
 go_wp2_with fail
 refine(t_alive_any _).mono ?_
 rintro e w1 ⟨rfl,E1⟩
 by_cases h1:N<4
 ·go_wp2
  go_ret
  exact⟨rfl,E1⟩
 by_cases h2:8<N
 ·go_wp2
  go_ret
  exact⟨rfl,E1⟩
 by_cases h3:T<2
 ·go_wp2
  go_ret
  exact⟨rfl,E1⟩
 have hwr:IntKind.i64.wrap (N - 1)=N - 1:=by rw[IntKind.wrap_i64];omega
 by_cases h4:N - 1≤T
 ·go_wp2
  go_ret
  exact⟨rfl,E1⟩
 by_cases h5:X<1
 ·go_wp2
  go_ret
  exact⟨rfl,E1⟩
 by_cases h6:T≤X
 ·go_wp2
  go_ret
  exact⟨rfl,E1⟩
 obtain⟨n,rfl⟩:=Int.eq_ofNat_of_zero_le (show 0≤N by omega)
 obtain⟨t,rfl⟩:=Int.eq_ofNat_of_zero_le (show 0≤T by omega)
 obtain⟨x,rfl⟩:=Int.eq_ofNat_of_zero_le (show 0≤X by omega)
 obtain⟨⟨a1,a2,a3⟩,a4,a5,a6⟩:=ta_get (n:=n) (t:=t) (x:=x) (by omega) (by omega) (by omega) (by omega) (by omega) (by omega)
 have HTA:=hidp (And.intro a1 (And.intro a2 (And.intro a3 (And.intro a4 (And.intro a5 a6)))))
 clear a1 a2 a3 a4 a5 a6
 go_wp2_with fail
 refine(line_any n w1 (by omega)).mono ?_
 rintro e w2 ⟨ao,cap,rfl,E2,HL⟩
 have HE2:=hidp (E1.trans E2)
 have HOW:Hid (∀k,(Value.slice ao (n - 1) cap).ownBlock=some k→w.heap.size≤k∧k<w2.heap.size):=fun k hk=>⟨Nat.le_trans E1.size (HL.out.2.1 k hk),HL.out.1.lt k hk⟩
 obtain⟨m,hm⟩:∃m,m=n - 1:=⟨_,rfl⟩
 rw[←hm] at HL HOW ⊢
 have HR:Hid (Rw ((w2.alloc (.cells #[.int .i64 n,.slice ao m cap] 24)).alloc (.cells #[.int .i64 ((n:Int) - 1),.int .i64 0,.int .i64 1] 88)) 88 3 (.slice ao m cap) m (lcs (lnk m))):=HL.out.1.keep (fun k hk=>by
  have:=HL.out.1.lt k hk
  rw[blk_alloc_lt _ _ _ (by simp;omega),blk_alloc_lt _ _ _ this])
 have hm8:m≤8:=by omega
 have HM:=hidp hm
 have hI:I64 (n:Int):=i64_small (by omega) (by omega)
 clear HL hm E1 E2
 go_wp2_with (first | (at_builtin;refine wpList_append_rw _ rfl _ _ 22 rfl 88 i0 _ 3 24 Try.underlying22 hi0 hz00 hz01 hz02 rfl (by decide) _ m (lcs (lnk m)) rfl HR.out ⟨w2.heap.size+1,0,none⟩ 1 [.int .i64 ((n:Int) - 1),.int .i64 0,.int .i64 1] rfl rfl (cells3n (by simp) _ _ _ _) (one3 _ _ _) (by unfold maxLen;omega) (by omega) ?_) | fail)
 intro g off cp w7 hr7 hg7 hat7
 have hgg:g≠w2.heap.size∧w.heap.size≤g:=by
  have:=HE2.out.size
  rcases hat7 with e | e
  ·have:=HOW.out g e;omega
  ·omega
 have hk:w7.heap[w2.heap.size]? =some (.cells #[.int .i64 n,.slice ao m cap] 24 (0,0)):=(hg7.block _ (by simp;omega) (fun e=>by have:=(HOW.out _ e.symm).2;omega)).trans ((blk_alloc_lt _ _ _ (by simp)).trans (blk_alloc_new _ _))
 have E7:Ext w w7:=Below.grown ((HE2.out.alloc _).alloc _) hg7 ((HE2.out.alloc _).alloc _).size (fun k hk=>(HOW.out k hk).1)
 obtain⟨w8,hw8⟩:∃w8,w8=w7.setCell ⟨w2.heap.size,1,none⟩ (.slice (some ⟨g,off,none⟩) (m+1) cp):=⟨_,rfl⟩
 have hk8:w8.heap[w2.heap.size]? =some (.cells #[.int .i64 n,.slice (some ⟨g,off,none⟩) (m+1) cp] 24 (0,0)):=by rw[hw8];exact set_snd hk
 have HE8:Hid (Ext w w8):=by
  show Ext w w8
  rw[hw8]
  exact E7.setCell (by have:=HE2.out.size;simpa using this) _
 have hrl:(rng n).length=m+1:=by rw[HM.out];simp[rng,lnk_len]
 have hrw8:Rw w8 88 3 (.slice (some ⟨g,off,none⟩) (m+1) cp) (rng n).length (lcs (rng n)):=by
  rw[hrl]
  have e:lcs (rng n)=lcs (lnk m)++[.int .i64 ((n:Int) - 1),.int .i64 0,.int .i64 1]:=by unfold rng;rw[lcs_append, ←HM.out];rfl
  rw[e]
  refine hr7.keep (fun k hk=>?_)
  simp[Value.ownBlock] at hk
  subst hk
  rw[hw8]
  exact blk_setCell_other _ _ _ _ (by simpa using hgg.1)
 have HNT:Hid (NetAt w8 (some ⟨g,off,none⟩) (rng n)):=by
  obtain⟨ao',cap',e,hn⟩:=hrw8.net
  simp only[Value.slice.injEq] at e
  show NetAt _ _ _
  rw[e.1]
  exact hn
 have HBX:Hid (∀V,Ext w8 V→V.cell? ⟨w2.heap.size,0,none⟩=some (.int .i64 n)∧V.cell? ⟨w2.heap.size,1,none⟩=some (.slice (some ⟨g,off,none⟩) (m+1) cp)∧w2.heap.size<V.heap.size):=fun V hV=>by
  have hl:w2.heap.size<w8.heap.size:=(Array.getElem?_eq_some_iff.1 hk8).1
  have hb:=(Below.block hV _ hl).trans hk8
  exact⟨box_cell hb 0,box_cell hb 1,by have:=hV.size;omega⟩
 have d0:=box_cell hk 0
 have d1:=box_cell hk 1
 simp only[List.getElem?_toArray,List.getElem?_cons_zero,List.getElem?_cons_succ] at d0 d1
 have df:=box_frozen hk
 have dl:w2.heap.size<w7.heap.size:=(Array.getElem?_eq_some_iff.1 hk).1
 have HRL:=hidp hrl
 clear HR hr7 hg7 hat7 hk hk8 E7 hrw8 hgg hrl HOW
 go_upto_region 7 with fail
 rw[←hw8]
 obtain⟨b0,b1,bl⟩:=HBX.out w8 (Ext.refl w8)
 clear hw8 d0 d1 df dl
 have HF1:=hidp (Find_any (n:Int) (some ⟨g,off,none⟩) (m+1) cp (rng n) ⟨0,(t:Int),[],[(x:Int)]⟩ none (some ⟨w8.heap.size,0,none⟩) 0 1 (w8.alloc (.cells #[.int .i64 (x:Int)] 3)) HRL.out (HNT.out.ext ((Ext.refl w8).alloc _)) (by omega) hI (Or.inl rfl) (by simp) (by simp) (one_at rfl) (by simp) (by simp))
 rw[show fnd (n:Int) (rng n) ⟨0,(t:Int),[],[(x:Int)]⟩=(0,(fnd (n:Int) (rng n) ⟨0,(t:Int),[],[(x:Int)]⟩).2) from Prod.ext HTA.out.1 rfl] at HF1
 obtain⟨P,hP⟩:∃P,P=(fnd (n:Int) (rng n) ⟨0,(t:Int),[],[(x:Int)]⟩).2:=⟨_,rfl⟩
 obtain⟨Q,hQ⟩:∃Q,Q=(fnd (n:Int) (rng n) ⟨0,(t:Int),[(x:Int)],[]⟩).2:=⟨_,rfl⟩
 have HPQ:Hid (P.length=n - t+1∧P.getD 1 0=(n:Int) - 1∧Q.length=t+1∧Q.getD 1 0=1):=by
  rw[hP,hQ]
  exact⟨HTA.out.2.1,HTA.out.2.2.1,HTA.out.2.2.2.2.1,HTA.out.2.2.2.2.2⟩
 rw[←hP] at HF1
 have HQE:=hidp hQ
 clear hP hQ
 go_wp2_with fail
 refine Calls.mono HF1.out ?_
 rintro e w9 ⟨go,gc,rfl,hG,hgc,E9⟩
 replace hG:ListAt w9 go P:=hG
 have E89:=((Ext.refl w8).alloc _).trans E9
 obtain⟨c0,c1,cl⟩:=HBX.out w9 E89
 have HF2:=hidp (Find_any (n:Int) (some ⟨g,off,none⟩) (m+1) cp (rng n) ⟨0,(t:Int),[(x:Int)],[]⟩ (some ⟨w9.heap.size,0,none⟩) none 1 0 (w9.alloc (.cells #[.int .i64 (x:Int)] 3)) HRL.out (HNT.out.ext (E89.alloc _)) (by omega) hI (one_at rfl) (by simp) (by simp) (Or.inl rfl) (by simp) (by simp))
 rw[show fnd (n:Int) (rng n) ⟨0,(t:Int),[(x:Int)],[]⟩=(0,Q) from Prod.ext HTA.out.2.2.2.1 HQE.out.symm] at HF2
 have HG:=hidp hG
 clear b0 b1 hG HF1
 simp only
 go_wp2_with fail
 refine Calls.mono HF2.out ?_
 rintro e w10 ⟨ho,hc,rfl,hH,hhc,E10⟩
 replace hH:ListAt w10 ho Q:=hH
 have E910:=((Ext.refl w9).alloc _).trans E10
 have HE10:=hidp (HE8.out.trans (E89.trans E910))
 obtain⟨pb,poff,hgo,hpb,hpc⟩:=(HG.out.ext E910).get (k:=1) (by have:=HPQ.out.1;omega)
 obtain⟨qb,qoff,hho,hqb,hqc⟩:=hH.get (k:=1) (by have:=HPQ.out.2.2.1;omega)
 have p1:=hpc 1 (by have:=HPQ.out.1;omega)
 have q1:=hqc 1 (by have:=HPQ.out.2.2.1;omega)
 rw[HPQ.out.2.1] at p1
 rw[HPQ.out.2.2.2] at q1
 have hPl:(1:Int)<(P.length:Int):=by have:=HPQ.out.1;omega
 have hQl:(1:Int)<(Q.length:Int):=by have:=HPQ.out.2.2.1;omega
 have hw1:IntKind.i64.wrap ((n:Int) - (t:Int))=(n:Int) - (t:Int):=by rw[IntKind.wrap_i64];omega
 have hw2:IntKind.i64.wrap ((n:Int) - (t:Int)+1)=(n:Int) - (t:Int)+1:=by rw[IntKind.wrap_i64];omega
 have hw3:IntKind.i64.wrap ((t:Int)+1)=(t:Int)+1:=by rw[IntKind.wrap_i64];omega
 have e1:((P.length:Int) == (n:Int) - (t:Int)+1)=true:=by have:=HPQ.out.1;simp;omega
 have e2:((Q.length:Int) == (t:Int)+1)=true:=by have:=HPQ.out.2.2.1;simp;omega
 rw[hgo,hho]
 clear c0 c1 hpc hqc hgo hho hH HF2 E9 E10
 go_wp2
 go_ret
 exact⟨rfl,HE10.out⟩
end Go.Proofs.Ytolclgbpjiokfaa.Rm
namespace Go.Proofs.Ytolclgbpjiokfaa
open Go.ChangeShapes Go.WideShapes Go.ChangeAt Go.RowKit Go.Deep Go.Joins Stw
set_option maxRecDepth 100000 in
theorem topAvoid_lifted (os:Os) (started:os.Started) (H:Type) (enc:TypeId×Value→H):
 ReturnsInHanded {} Try.checked os 15 .any (Rows.topAvoidSpec.pre6 enc Try.prog Try.f15 Rows.topAvoidRow.domain false) (Rows.topAvoidSpec.post enc Try.prog Try.f15 false true false false):=by
 refine returnsInHanded_of_change_sized (C:=Try.checked) Try.own started (by kernel_rfl) Try.func15
  (ChangeSpec.witness6 (enc:=enc) (C:=Try.checked) false ⟨#[],#[.int .i64 0,.int .i64 0,.int .i64 0],[]⟩ 8 (by kernel_rfl) (by kernel_rfl) (by kernel_rfl) (by kernel_rfl)) ?_
 intro W base args ds gs before hval0 hW hcnd hsz0 _
 have hval:∀(j:Nat) t v,Try.f15.params[j]? =some t→args[j]? =some v→Value.okWide Try.prog W .any base t v:=hval0
 have hsz:(DataW.weightsEach Try.prog (Try.f15.params.toList++Rows.topAvoidSpec.plain.varTypes Try.prog) (ds++gs)).all (· ≤reachBytes)=true:=hsz0
 have hW':=hW
 obtain⟨p,q,hA0,hV,rfl,hfz,hnd⟩:=hW
 have hA:DataW.TrodAll enc Try.prog W 0 (fun _=>true) true Try.f15.params.toList args.toList ds p:=hA0
 rw[Try.params15] at hA hval hsz
 obtain⟨v0,vs0,d0,dt0,p0,q0,hargs,rfl,rfl,h0,r0⟩:=trodAll_cons hA
 obtain⟨v1,vs1,d1,dt1,p1,q1,rfl,rfl,rfl,h1,r1⟩:=trodAll_cons r0
 obtain⟨v2,vs2,d2,dt2,p2,q2,rfl,rfl,rfl,h2,r2⟩:=trodAll_cons r1
 obtain⟨rfl,rfl,rfl⟩:=trodAll_nil r2
 obtain rfl:args=#[v0,v1,v2]:=by cases args;simp_all
 obtain⟨rfl,rfl⟩:=trodVars_none hV
 obtain⟨a0,rfl,rfl,rfl,w0⟩:=open_int Try.underlying3 (hval 0 3 v0 rfl rfl) h0
 obtain⟨a1,rfl,rfl,rfl,w1⟩:=open_int Try.underlying3 (hval 1 3 v1 rfl rfl) h1
 obtain⟨a2,rfl,rfl,rfl,w2⟩:=open_int Try.underlying3 (hval 2 3 v2 rfl rfl) h2
 clear hA0 hval0 hsz0
 refine(Rm.topAvoid_any a0 a1 a2 W).mono fun e W' ⟨he,bel0⟩=>?_
 subst he
 have bel:Below W.heap.size W W':=bel0
 exact⟨_,rfl,_,_,_,[],_,[],hW',trodAll_mk1 (shut_bool Try.underlying4 _),(trodAll_cons_mk (shut_int Try.underlying3 w0) (trodAll_cons_mk (shut_int Try.underlying3 w1) (trodAll_cons_mk (shut_int Try.underlying3 w2) trodAll_mk0))),rfl,bel.frame _,fun h=>by cases h⟩
theorem topAvoid_holds:Rows.TopAvoidSaid:=
 OpenClaim.holds_of_wide 15 Try.f15 rfl rfl rfl rfl rfl rfl rfl ⟨rfl,rfl,rfl,rfl,rfl⟩ rfl rfl rfl rfl rfl (by kernel_rfl) Try.func15 (by kernel_rfl)
  (of_decide_eq_true (by kernel_rfl)) (by unfold Func.isWrapper;first | (rw[if_pos (by decide+kernel)];kernel_rfl) | (rw[if_neg (by decide+kernel)];exact⟨rfl,rfl⟩))
  (fun os started H enc _=>topAvoid_lifted os started H enc)
#print axioms topAvoid_holds
end Go.Proofs.Ytolclgbpjiokfaa
