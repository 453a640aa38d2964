import Derived.Test.YthkpbefnkmmaiaaGreate10
set_option maxRecDepth 100000
set_option maxHeartbeats 4000000
namespace Go.Proofs.YthkpbefnkmmaiaaGreat
open Go.Proofs.Tryz
namespace Ct
open Go.RowKit Go.Deep Stw Stp Tb Rul
variable {w W w':World} {s H:Nat} {vs:Nat->Value} {ts:Nat->List Ru} {Q:Nat->Prop}
theorem TB.rq{n:Nat}(h:TB w' H n vs ts)(hH:w.heap.size<=H)(hk:∀b,w.heap.size<=b->b<w'.heap.size->Q b/\b<W.heap.size/\W.heap[b]? =w'.heap[b]?)(hs:s<n):
 W.cell? ⟨H,s,none⟩=some (vs s)/\RQ W Q (ts s) (vs s):=by
 have hlt:=h.row.lt
 refine⟨(cob (a:=⟨H,s,none⟩) (hk H hH hlt).2.2).trans (h.row.cell hs),?_⟩
 have ho:=h.own s hs
 obtain⟨ao,cap,hv,Q2,_⟩:=RO.form ho
 refine RQ.mono (w:=w') (Q:=fun b=>w.heap.size<=b) ⟨ao,cap,hv,?_⟩ (fun b hb hlt=>hk b hb hlt)
 rcases Q2 with h0 | ⟨g,off,rfl,hg,hcs⟩
 ·exact Or.inl h0
 ·by_cases h0:ts s=[]
  ·exact Or.inl h0
  ·rcases ho.2 with⟨h1,h2⟩ | ⟨g',c',cur,h1,h2,_⟩
   ·exact absurd (List.eq_nil_of_length_eq_zero h2) h0
   ·rw[hv] at h1
    cases h1
    exact Or.inr ⟨g,0,rfl,by omega,hg,hcs⟩
theorem z8i(v:Int)(p1 p2 H n s:Nat)(ro:Option Addr)(rl rc:Nat)(W:World)(h1:W.cell? ⟨p1,0,none⟩=some (.int .i64 v))(h2:W.cell? ⟨p2,0,none⟩=some (.slice (some ⟨H,0,none⟩) n n))(h3:W.cell? ⟨H,s,none⟩=some (.slice ro rl rc))(hs:s<n)(l1:p1<W.heap.size)(l2:p2<W.heap.size)(l3:H<W.heap.size):
  Calls prog 86 #[.int .i64 s,.pointer (some ⟨p1,0,none⟩),.pointer (some ⟨p2,0,none⟩)] W fun e w'=>e=.returned (.tuple #[.agg #[.int .i64 1,.int .i64 0,.int .i64 v,.slice ro rl rc,.slice none 0 0],.bool (decide (0<rl))])/\Ext W w':=by
  have i1:(s:Int)<(n:Int):=by omega
  have i2:(0:Int)<=(s:Int):=by omega
  go_enter func86,ntmps86
  go_wp2
  go_region
  go_wp2
  refine bodyPost_ret (v:=.tuple #[.agg #[.int .i64 1,.int .i64 0,.int .i64 v,.slice ro rl rc,.slice none 0 0],.bool (decide (0<rl))]) (by simp[results,results86,go_sem]) rfl ⟨rfl,((Ext.refl W).alloc _).drew⟩
theorem z2j(v:Int)(p1 p2 H n s:Nat)(ro:Option Addr)(rl rc:Nat)(W:World)(h1:W.cell? ⟨p1,0,none⟩=some (.int .i64 v))(h2:W.cell? ⟨p2,0,none⟩=some (.slice (some ⟨H,0,none⟩) n n))(h3:W.cell? ⟨H,s,none⟩=some (.slice ro rl rc))(hs:s<n)(l1:p1<W.heap.size)(l2:p2<W.heap.size)(l3:H<W.heap.size):
  Calls prog 102 #[.int .i64 s,.pointer (some ⟨p1,0,none⟩),.pointer (some ⟨p2,0,none⟩)] W fun e w'=>e=.returned (.tuple #[.agg #[.int .i64 3,.int .i64 0,.int .i64 v,.slice none 0 0,.slice none 0 0],.bool (decide (0<rl))])/\Ext W w':=by
  have i1:(s:Int)<(n:Int):=by omega
  have i2:(0:Int)<=(s:Int):=by omega
  go_enter func102,ntmps102
  go_wp2
  go_region
  go_wp2
  refine bodyPost_ret (v:=.tuple #[.agg #[.int .i64 3,.int .i64 0,.int .i64 v,.slice none 0 0,.slice none 0 0],.bool (decide (0<rl))]) (by simp[results,results102,go_sem]) rfl ⟨rfl,((Ext.refl W).alloc _).drew⟩
theorem tot_take(ps:List (List Int)):∀k,k<=ps.length->tot ps k=((ps.take k).map List.length).sum
 | 0,_=>by simp[tot]
 | k+1,h=>by
  rw[tot,tot_take ps k (by omega),List.take_succ_eq_append_getElem (show k<ps.length by omega),List.map_append,List.sum_append,List.map_cons,List.map_nil,List.sum_cons,List.sum_nil,Zt,List.getElem?_eq_getElem (show k<ps.length by omega)]
  rfl
theorem q3g(ps:List (List Int)):tot ps ps.length=(ps.map List.length).sum:=by
 rw[tot_take ps _ (Ql _),List.take_of_length_le (Ql _)]
theorem z1p{qo:Option Addr}{ps:List (List Int)}(h:q0i w qo ps):PsAt w qo ps:=by
 rcases h with h | ⟨g,off,h1,h2,h3⟩
 ·exact Or.inl h
 ·refine Or.inr ⟨g,off,h1,h2,fun k hk=>?_⟩
  obtain⟨v,k1,o,c,rfl,k2,_⟩:=h3 k hk
  exact⟨o,c,k1,k2⟩
variable {p:Pl}
theorem z1f(h:PlOk p)(s:Nat):(rls p s).length<=16777216:=ltr (z1e _) (by rw[q3g];exact h.tt)
def StepOf (F n:Nat) (ord:Nat->Option Wir.Od) (w0 w w':World) (e:Ending):Prop:=∃p1 p2,e=.returned (.func (.func F) #[] #[.pointer (some ⟨p1,0,none⟩),.pointer (some ⟨p2,0,none⟩)])/\Ext w w'/\Hid (∀(Q:Nat->Prop) (W:World),(∀b,w.heap.size<=b->b<w'.heap.size->Q b/\b<W.heap.size/\W.heap[b]? =w'.heap[b]?)->Ext w0 W->(∀b,W.heap.size<=b->Q b)->∀s:Nat,s<n->Calls prog F #[.int .i64 s,.pointer (some ⟨p1,0,none⟩),.pointer (some ⟨p2,0,none⟩)] W fun e w''=>StOut Q (ord s) e w''/\Ext W w'')
theorem table_at{w1:World}{n:Nat}{pv:Int}{T:TypeId}(h:TB w1 H n vs ts)(hH:w.heap.size<=H)(l0:w.heap.size<w1.heap.size)(p1:w1.cell? ⟨w.heap.size,0,none⟩=some (.int .i64 pv))(hk:∀b,w.heap.size<=b->b<(w1.alloc (.cells #[.slice (some ⟨H,0,none⟩) n n] T)).heap.size->Q b/\b<W.heap.size/\W.heap[b]? =(w1.alloc (.cells #[.slice (some ⟨H,0,none⟩) n n] T)).heap[b]?)(hs:s<n):
  W.cell? ⟨w.heap.size,0,none⟩=some (.int .i64 pv)/\W.cell? ⟨w1.heap.size,0,none⟩=some (.slice (some ⟨H,0,none⟩) n n)/\∃ro rc,W.cell? ⟨H,s,none⟩=some (.slice ro (ts s).length rc)/\RQ W Q (ts s) (.slice ro (ts s).length rc)/\w.heap.size<W.heap.size/\w1.heap.size<W.heap.size/\H<W.heap.size:=by
  have hlt:=h.row.lt
  have hs1:(w1.alloc (.cells #[.slice (some ⟨H,0,none⟩) n n] T)).heap.size=w1.heap.size+1:=by simp
  have k0:=hk w.heap.size (Ql _) (by omega)
  have k1:=hk w1.heap.size (by omega) (by omega)
  have kH:=hk H hH (by omega)
  obtain⟨q1,q2⟩:=TB.rq (w:=w) (W:=W) (Q:=Q) (h.ext ((Ext.refl w1).alloc (.cells #[.slice (some ⟨H,0,none⟩) n n] T))) hH hk hs
  obtain⟨ro,rc,e,r3⟩:=q2
  refine⟨(cob (a:=⟨w.heap.size,0,none⟩) k0.2.2).trans ((World.cell?_alloc_past _ _ _ l0).trans p1),(cob (a:=⟨w1.heap.size,0,none⟩) k1.2.2).trans (by simp),ro,rc,by rw[q1,e],⟨ro,rc,rfl,r3⟩,k0.2.1,k1.2.1,kH.2.1⟩
theorem addO_some:(addO p s).isSome=decide (0<(rls p s).length):=by
 unfold addO
 cases rls p s <;> simp
theorem drpO_some:(drpO p s).isSome=decide (0<(rls p s).length):=by
 unfold drpO
 cases rls p s <;> simp
theorem adding_any(p:Pl)(a:PA)(n:Nat)(w0 w:World)(h:PlAt w p a)(hok:PlOk p)(hn:n<=8):
 Calls prog 65 #[pvl p a,.int .i64 n] w fun e w'=>StepOf 86 n (addO p) w0 w w' e:=by
 obtain⟨pv,fs,ps⟩:=p
 obtain⟨fo,qo,fc,qc⟩:=a
 obtain⟨_,hq⟩:=h
 simp only at hq
 have htt:tot ps ps.length*24<=140737488351232:=by rw[q3g];have:=hok.tt;simp only at this;omega
 have hql:ps.length<=16777216:=hok.ql
 clear hok
 unfold pvl
 show Calls _ _ #[.agg #[.int .i64 pv,.slice fo fs.length fc,.slice qo ps.length qc],_] _ _
 go_enter func65,ntmps65
 go_wp2_with fail
 refine(Of_any pv fo qo fs.length fc ps.length qc n ps _ rfl (z1p (hq.ext ((Ext.refl w).alloc _))) (by omega) htt (by omega)).mono ?_
 rintro e w1 ⟨vs,rfl,hT,E1⟩
 rw[World.size_alloc] at hT
 have HT:=Qa hT
 have E0:Ext w w1:=((Ext.refl w).alloc _).trans E1
 have p1:w1.cell? ⟨w.heap.size,0,none⟩=some (.int .i64 pv):=(E1.cells.1 _ _ (by simp)).trans (by simp)
 have l0:w.heap.size<w1.heap.size:=by have:=E1.size;simp at this;omega
 clear hT
 go_wp2
 go_ret
 refine⟨w.heap.size,w1.heap.size,rfl,E0.alloc _,fun Q W hk _ _ s hs=>?_⟩
 obtain⟨t1,t2,ro,rc,t3,t4,m1,m2,m3⟩:=table_at (Q:=Q) (W:=W) HT.out (by omega) l0 p1 hk hs
 refine(z8i pv w.heap.size w1.heap.size _ n s ro _ rc W t1 t2 t3 hs m1 m2 m3).mono ?_
 rintro e w2 ⟨rfl,E2⟩
 refine⟨⟨1,pv,ro,none,(rof pv s ps ps.length).length,rc,0,0,?_,fun x hx=>?_⟩,E2⟩
 ·show _=Ending.returned (.tuple #[_,.bool (addO ⟨pv,fs,ps⟩ s).isSome])
  rw[addO_some];rfl
 ·unfold addO at hx
  split at hx
  ·cases hx
  ·cases hx
   exact⟨rfl,rfl,t4.mono (fun b hb hlt=>⟨hb,Q5 hlt E2.size,Below.block E2 b hlt⟩),LQ.nil _ _⟩
theorem z5d(p:Pl)(a:PA)(n:Nat)(w0 w:World)(h:PlAt w p a)(hok:PlOk p)(hn:n<=8):
 Calls prog 76 #[pvl p a,.int .i64 n] w fun e w'=>StepOf 102 n (drpO p) w0 w w' e:=by
 obtain⟨pv,fs,ps⟩:=p
 obtain⟨fo,qo,fc,qc⟩:=a
 obtain⟨_,hq⟩:=h
 simp only at hq
 have htt:tot ps ps.length*24<=140737488351232:=by rw[q3g];have:=hok.tt;simp only at this;omega
 have hql:ps.length<=16777216:=hok.ql
 clear hok
 unfold pvl
 show Calls _ _ #[.agg #[.int .i64 pv,.slice fo fs.length fc,.slice qo ps.length qc],_] _ _
 go_enter func76,ntmps76
 go_wp2_with fail
 refine(Of_any pv fo qo fs.length fc ps.length qc n ps _ rfl (z1p (hq.ext ((Ext.refl w).alloc _))) (by omega) htt (by omega)).mono ?_
 rintro e w1 ⟨vs,rfl,hT,E1⟩
 rw[World.size_alloc] at hT
 have HT:=Qa hT
 have E0:Ext w w1:=((Ext.refl w).alloc _).trans E1
 have p1:w1.cell? ⟨w.heap.size,0,none⟩=some (.int .i64 pv):=(E1.cells.1 _ _ (by simp)).trans (by simp)
 have l0:w.heap.size<w1.heap.size:=by have:=E1.size;simp at this;omega
 clear hT
 go_wp2
 go_ret
 refine⟨w.heap.size,w1.heap.size,rfl,E0.alloc _,fun Q W hk _ _ s hs=>?_⟩
 obtain⟨t1,t2,ro,rc,t3,_,m1,m2,m3⟩:=table_at (Q:=Q) (W:=W) HT.out (by omega) l0 p1 hk hs
 refine(z2j pv w.heap.size w1.heap.size _ n s ro _ rc W t1 t2 t3 hs m1 m2 m3).mono ?_
 rintro e w2 ⟨rfl,E2⟩
 refine⟨⟨3,pv,none,none,0,0,0,0,?_,fun x hx=>?_⟩,E2⟩
 ·show _=Ending.returned (.tuple #[_,.bool (drpO ⟨pv,fs,ps⟩ s).isSome])
  rw[drpO_some];rfl
 ·unfold drpO at hx
  split at hx
  ·cases hx
  ·cases hx
   exact⟨rfl,rfl,RQ.nil _ _,LQ.nil _ _⟩
theorem z0i(f:Stf.Fl)(vv nv:Value)(s:Int)(p:Nat)(w:World)(hp:w.cell? ⟨p,0,none⟩=some (.int .i64 s))(hl:p<w.heap.size):
 Calls prog 124 #[.agg #[.int .i64 f.fr,.int .i64 f.to,vv,nv],.pointer (some ⟨p,0,none⟩)] w fun e w'=>e=.returned (.bool (f.fr == s))/\Ext w w':=by
 go_enter func124,ntmps124
 go_wp2
 go_ret
 exact⟨rfl,(Ext.refl w).alloc _⟩
theorem beg_none{s:Int}{fs:List Stf.Fl}:∀{k:Nat},(∀j,j<k->(fs.getD j Fw.f0).fr≠s)->beg s fs k=[]
 | 0,_=>rfl
 | k+1,h=>by rw[beg,beg_none (fun j hj=>h j (by omega)),if_neg (h k (by omega))];rfl
theorem beg_mono{s:Int}{fs:List Stf.Fl}{j:Nat}:∀{k:Nat},j<=k->beg s fs k=[]->beg s fs j=[]
 | 0,h,e=>by rw[show j=0 by omega];rfl
 | k+1,h,e=>by
  rcases Nat.lt_or_ge j (k+1) with h1 | h1
  ·rw[beg,List.append_eq_nil_iff] at e
   exact beg_mono (by omega) e.1
  ·rw[show j=k+1 by omega];exact e
theorem beg_some{s:Int}{fs:List Stf.Fl}{j k:Nat}(hj:j<k)(h:(fs.getD j Fw.f0).fr=s):beg s fs k≠[]:=fun e=>by
 have:=beg_mono (j:=j+1) (by omega) e
 rw[beg,if_pos h] at this
 simp at this
theorem q8t{s:Int}{fs:List Stf.Fl}:∀k,(beg s fs k).length<=k
 | 0=>Ql _
 | k+1=>by
  have:=q8t (s:=s) (fs:=fs) k
  rw[beg,lap]
  split
  ·simp;omega
  ·simp;omega
def z5z (s:Int) (fs:List Stf.Fl) (r:Int):Prop:=(r= -1/\beg s fs fs.length=[])\/(0<=r/\beg s fs fs.length≠[])
theorem q3e(fo:Option Addr)(fc:Nat)(fs:List Stf.Fl)(s:Int)(p:Nat)(w:World)(hf:Fw.Qk w fo fs)(hfl:fs.length<=16777216)(hp0:w.cell? ⟨p,0,none⟩=some (.int .i64 s))(hl0:p<w.heap.size):
 Calls prog 130 #[.slice fo fs.length fc,.func (.func 124) #[] #[.pointer (some ⟨p,0,none⟩)]] w fun e w'=>∃r,e=.returned (.int .i64 r)/\Hid (z5z s fs r)/\Ext w w':=by
 have HP:Hid (∀W,Ext w W->cl W p 0 (.int .i64 s)/\p<W.heap.size):=fun W hW=>⟨(hW.cells.1 _ _ hl0).trans hp0,Q5 hl0 hW.size⟩
 clear hp0 hl0
 go_enter func130,ntmps130
 go_wp2
 go_loopw [8] (fun iv wd=>∃k:Nat,k<=fs.length/\iv=.int .i64 k/\Hid (∀j,j<k->(fs.getD j Fw.f0).fr≠s)/\Ext w wd) (fun iv _=>fs.length - (intOf iv).toNat)
 case atStart=>exact⟨0,Zu _,rfl,Qa (fun j hj=>by omega),Ext.refl w⟩
 case round=>
  obtain⟨k,hk,rfl,HW,hE⟩:=hrel
  by_cases hlt:k<fs.length
  ·obtain⟨b,off,vo,vc,no,nc,a,t,X,Y,rfl,hb,hg,c0,c1,c2,c3,⟨_,_,e1,hv,hvc⟩,⟨_,_,e2,hn,hnc⟩⟩:=(hf.ext hE).get (k:=k) (by omega)
   cases e1
   cases e2
   have i1:(k:Int)<(fs.length:Int):=by omega
   have HG:=Qa hg
   clear hg
   obtain⟨p0,pl⟩:=HP.out _ hE
   go_wp2_with fail
   refine(z0i ⟨a,t,X,Y⟩ _ _ s p _ p0 pl).mono ?_
   rintro e w1 ⟨rfl,E1⟩
   clear p0 pl c0 c1 c2 c3
   by_cases h1:a=s
   ·have HF:Hid (z5z s fs k):=Or.inr ⟨by omega,beg_some hlt (by rw[HG.out];exact h1)⟩
    have b1:(a == s)=true:=by simpa using h1
    rw[show((⟨a,t,X,Y⟩:Stf.Fl).fr == s)=true from b1]
    clear h1 b1
    go_wp2
    go_ret
    exact⟨_,rfl,HF,hE.trans E1⟩
   ·have HW2:Hid (∀j,j<k+1->(fs.getD j Fw.f0).fr≠s):=Qa (fun j hj=>by
     by_cases e:j=k
     ·subst e;rw[HG.out];exact h1
     ·exact HW.out j (by omega))
    have b1:(a == s)=false:=by simpa using h1
    rw[show((⟨a,t,X,Y⟩:Stf.Fl).fr == s)=false from b1]
    clear h1 b1
    go_wp2
    exact⟨⟨k+1,by omega,by go_num,HW2,hE.trans E1⟩,by simp[intOf];omega⟩
  ·have HF:Hid (z5z s fs (-1)):=Or.inl ⟨rfl,beg_none (fun j hj=>HW.out j (by omega))⟩
   have i1:¬(k:Int)<(fs.length:Int):=by omega
   clear HW
   go_wp2
   go_ret
   exact⟨_,rfl,HF,hE⟩
theorem q6x(fo:Option Addr)(fc:Nat)(fs:List Stf.Fl)(s:Int)(p:Nat)(w:World)(hf:Fw.Qk w fo fs)(hfl:fs.length<=16777216)(hp0:w.cell? ⟨p,0,none⟩=some (.int .i64 s))(hl0:p<w.heap.size):
 Calls prog 125 #[.slice fo fs.length fc,.func (.func 124) #[] #[.pointer (some ⟨p,0,none⟩)]] w fun e w'=>e=.returned (.bool (decide (beg s fs fs.length≠[])))/\Ext w w':=by
 have HA:=Qa (q3e fo fc fs s p w hf hfl hp0 hl0)
 clear hf hfl hp0 hl0
 go_enter func125,ntmps125
 go_wp2_with fail
 refine Calls.mono HA.out ?_
 rintro e w1 ⟨r,rfl,HI,E1⟩
 clear HA
 rcases HI.out with⟨rfl,hv⟩ | ⟨h0,hv⟩
 ·have HV:Hid (decide (beg s fs fs.length≠[])=false):=by show _=_;simpa using hv
  clear hv HI
  go_wp2
  go_ret
  exact⟨by rw[HV.out];first | done | rfl,E1⟩
 ·have HV:Hid (decide (beg s fs fs.length≠[])=true):=by show _=_;simpa using hv
  clear hv HI
  go_wp2
  go_ret
  exact⟨by rw[HV.out];first | done | rfl,E1⟩
structure OSt (P:Nat) (w0 w:World) (v:Int) (fv:Value) (L:List Int):Prop where
 row:w.rowIs P 69 5 (fun j=>([.int .i64 2,.int .i64 0,.int .i64 v,.slice none 0 0,fv]:List Value).getD j vd)
 own:w.ownsRow (P+1) 3 1 fv L.length (L.map (Value.int .i64))
 bel:Below P w0 w
variable {P:Nat} {w0:World} {L:List Int}
theorem OSt.ext{v:Int}{fv:Value}(h:OSt P w0 w v fv L)(E:Ext w w'):OSt P w0 w' v fv L:=
 ⟨h.row.of_block (Below.block E _ h.row.lt),q0h h.own E,q0n h.bel E (by have:=h.row.lt;omega)⟩
theorem OSt.push{g c:Nat}{v x:Int}{fv:Value}{o:Obj}(h:OSt P w0 w v fv L)(hown:w'.ownsRow (P+1) 3 1 (.slice (some ⟨g,0,none⟩) (L.length+1) c) (L.length+1) (L.map (Value.int .i64)++[.int .i64 x]))(hg:(w.alloc o).grownBy w' fv.ownBlock):
  w'.cell? ⟨P,4,none⟩=some fv/\w'.frozen? ⟨P,4,none⟩=false/\OSt P w0 (w'.setCell ⟨P,4,none⟩ (.slice (some ⟨g,0,none⟩) (L.length+1) c)) v (.slice (some ⟨g,0,none⟩) (L.length+1) c) (L++[x]):=by
  have hP:=h.row.lt
  have hneP:some P≠fv.ownBlock:=fun e=>by have:=(h.own.lt P e.symm).1;omega
  have hr:=h.row.of_block ((hg.block P (by simp;omega) hneP).trans (bal _ _ _ hP))
  refine⟨hr.cell (i:=4) (by omega),hr.frozen 4,((hr.set 4 _).congr (fun j _=>(q1m (by simp) j).trans rfl)),?_,?_⟩
  ·have:=ownsRow_setCell_below hown (a:=⟨P,4,none⟩) (by simp) (.slice (some ⟨g,0,none⟩) (L.length+1) c)
   simpa using this
  ·exact(Below.grown (h.bel.alloc (by omega) o) hg (by simp;omega) (fun j hj=>by have:=(h.own.lt j hj).1;omega)).setCell (by simp) _
def Sw2 (W:World) (s:Int):World:=(W.alloc (.cells #[.int .i64 s] 3)).alloc (.cells #[.int .i64 0,.int .i64 0,.int .i64 0,.slice none 0 0,.slice none 0 0] 69)
theorem q7h(W:World)(s:Int):(Sw2 W s).heap.size=W.heap.size+1+1:=by unfold Sw2;simp
theorem Sw2_ext(W:World)(s:Int):Ext W (Sw2 W s):=((Ext.refl W).alloc _).alloc _
structure SB (V:World) (b:Nat) (s:Int):Prop where
 all:V.cell? ⟨b,0,none⟩=some (.int .i64 s)/\V.cell? ⟨b+1,0,none⟩=some (.int .i64 0)/\V.cell? ⟨b+1,1,none⟩=some (.int .i64 0)/\V.cell? ⟨b+1,2,none⟩=some (.int .i64 0)/\V.cell? ⟨b+1,3,none⟩=some (.slice none 0 0)/\V.cell? ⟨b+1,4,none⟩=some (.slice none 0 0)/\(∀i,V.frozen? ⟨b+1,i,none⟩=false)/\b+1<V.heap.size
variable {V:World}
theorem SB.of{s:Int}(E:Ext (Sw2 W s) V):SB V W.heap.size s:=by
 have l0:W.heap.size<(Sw2 W s).heap.size:=by rw[q7h];omega
 have l1:W.heap.size+1<(Sw2 W s).heap.size:=by rw[q7h];omega
 obtain⟨hc,hf⟩:=E.cells
 refine⟨?_,?_,?_,?_,?_,?_,fun i=>?_,Q5 l1 E.size⟩
 ·rw[hc _ _ l0];unfold Sw2;first | (simp;done) | (simp[go_sem];done)
 ·rw[hc _ _ l1];unfold Sw2;first | (simp;done) | (simp[go_sem];done)
 ·rw[hc _ _ l1];unfold Sw2;first | (simp;done) | (simp[go_sem];done)
 ·rw[hc _ _ l1];unfold Sw2;first | (simp;done) | (simp[go_sem];done)
 ·rw[hc _ _ l1];unfold Sw2;first | (simp;done) | (simp[go_sem];done)
 ·rw[hc _ _ l1];unfold Sw2;first | (simp;done) | (simp[go_sem];done)
 ·rw[hf _ _ l1];unfold Sw2;first | (simp;done) | (simp[go_sem];done)
variable {b:Nat}
theorem ost_start(h:W.heap.size=b)(v:Int):OSt b W (W.alloc (.cells #[.int .i64 2,.int .i64 0,.int .i64 v,.slice none 0 0,.slice none 0 0] 69)) v (.slice none 0 0) []:=by
 subst h
 refine⟨?_,World.ownsRow_nil _ _ _ _,(Below.refl _ _).alloc (by omega) _⟩
 exact World.rowIs_alloc W #[.int .i64 2,.int .i64 0,.int .i64 v,.slice none 0 0,.slice none 0 0] 69 _ (fun i hi=>by
  have hi':i<5:=hi
  match i,hi' with
  | 0,_ | 1,_ | 2,_ | 3,_ | 4,_=>simp)
def S1Out (W:World) (v:Int) (L:List Int) (B:Bool) (e:Ending) (w':World):Prop:=∃fo fc,e=.returned (.tuple #[.agg #[.int .i64 2,.int .i64 0,.int .i64 v,.slice none 0 0,.slice fo L.length fc],.bool B])/\LQ w' (fun b=>W.heap.size<=b) L (.slice fo L.length fc)/\Ext W w'
abbrev S6 (b pw:Nat) (v:Int) (fv nv:Value) (V:World):Prop:=V.cell? ⟨b+1+1,0,none⟩=some (.int .i64 2)/\V.cell? ⟨b+1+1,1,none⟩=some (.int .i64 0)/\V.cell? ⟨b+1+1,2,none⟩=some (.int .i64 v)/\V.cell? ⟨b+1+1,3,none⟩=some (.slice none 0 0)/\V.cell? ⟨b+1+1,4,none⟩=some fv/\V.cell? ⟨pw,1,none⟩=some nv
theorem S6.set{pw i:Nat}{v:Int}{fv nv u:Value}(h:S6 b pw v fv nv V)(hp:pw<b):S6 b pw v fv nv (V.setCell ⟨b+1,i,none⟩ u):=by
 obtain⟨h0,h1,h2,h3,h4,h5⟩:=h
 have oth:∀(c j:Nat),c≠b+1->(V.setCell ⟨b+1,i,none⟩ u).cell? ⟨c,j,none⟩=V.cell? ⟨c,j,none⟩:=fun c j hc=>World.cell?_setCell_other V ⟨b+1,i,none⟩ ⟨c,j,none⟩ u (fun e=>by cases e;exact hc rfl)
 exact⟨(oth _ _ (by omega)).trans h0,(oth _ _ (by omega)).trans h1,(oth _ _ (by omega)).trans h2,(oth _ _ (by omega)).trans h3,(oth _ _ (by omega)).trans h4,(oth _ _ (by omega)).trans h5⟩
theorem z1a(v:Int)(pn pw s:Nat)(xo no:Option Addr)(xc nc:Nat)(xfs nfs:List Stf.Fl)(W:World)(h0:W.cell? ⟨pn,0,none⟩=some (.int .i64 v))(h1:W.cell? ⟨pn,1,none⟩=some (.slice xo xfs.length xc))(h2:W.cell? ⟨pw,1,none⟩=some (.slice no nfs.length nc))(l1:pn<W.heap.size)(l2:pw<W.heap.size)(hx:Fw.Qk W xo xfs)(hn:Fw.Qk W no nfs)(hxl:xfs.length<=16777216)(hnl:nfs.length<=16777216):
  Calls prog 123 #[.int .i64 s,.pointer (some ⟨pn,0,none⟩),.pointer (some ⟨pw,0,none⟩)] W fun e w'=>S1Out W v (beg s xfs xfs.length) (decide (beg s xfs xfs.length≠[]) || decide (beg s nfs nfs.length≠[])) e w':=by
  obtain⟨i0,hi0,hz00,hz01,hz02⟩:=info_parts q8k
  have HPN:Hid (∀V,Ext W V->cl V pw 1 (.slice no nfs.length nc)/\pw<V.heap.size):=fun V hV=>⟨(hV.cells.1 _ _ l2).trans h2,Q5 l2 hV.size⟩
  have h13:(((W.alloc (.cells #[.int .i64 s] 3)).alloc (.cells #[.int .i64 0,.int .i64 0,.int .i64 0,.slice none 0 0,.slice none 0 0] 69)).alloc (.cells #[.int .i64 2,.int .i64 0,.int .i64 v,.slice none 0 0,.slice none 0 0] 69)).cell? ⟨pn,1,none⟩=some (.slice xo xfs.length xc):=(((Sw2_ext W s).alloc _).cells.1 _ _ l1).trans h1
  go_enter func123,ntmps123
  go_wp2
  obtain⟨W2,hW2⟩:=Qy ((W.alloc (.cells #[.int .i64 s] 3)).alloc (.cells #[.int .i64 0,.int .i64 0,.int .i64 0,.slice none 0 0,.slice none 0 0] 69))
  have hE2:Ext W W2:=by rw[hW2];exact Sw2_ext W s
  have HS2:Hid (W2.heap.size=W.heap.size+1+1):=by show _=_;rw[hW2];exact q7h W s
  have HSB:Hid (∀V,Below (W.heap.size+1+1) W2 V->SB V W.heap.size s):=fun V hV=>SB.of (W:=W) (by show Below _ _ _;rw[q7h];rw[hW2] at hV;exact hV)
  rw[<-hW2]
  clear hW2 h0 h1 h2 h13
  go_loopw [17] (fun iv wr=>∃(k:Nat) (fv:Value),k<=xfs.length/\iv=.int .i64 k/\Hid (OSt (W.heap.size+1+1) W2 wr v fv (beg s xfs k))) (fun iv _=>xfs.length - (intOf iv).toNat)
  case atStart=>exact⟨0,.slice none 0 0,Zu _,rfl,ost_start HS2.out _⟩
  case round=>
   obtain⟨k,fv,hk,rfl,HOS⟩:=hrel
   have hEr:Ext W wr:=Below.trans hE2 (HOS.out.bel.mono (by omega))
   obtain⟨b0,r0,r1,r2,r3,r4,rz,hbs⟩:=(HSB.out _ HOS.out.bel).all
   have hPl:=HOS.out.row.lt
   by_cases hlt:k<xfs.length
   ·obtain⟨b,off,vo,vc,no',nc',a,t,X,Y,rfl,hb,hg,c0,c1,c2,c3,⟨_,_,e1,hv,hvc⟩,⟨_,_,e2,hn',hnc⟩⟩:=(hx.ext hEr).get (k:=k) (by omega)
    cases e1
    cases e2
    have i1:(k:Int)<(xfs.length:Int):=by omega
    have HG:=Qa hg
    clear hg r0 r1 r2 r3 r4 rz
    have l0:W.heap.size<wr.heap.size:=by omega
    go_wp2_with fail
    refine(z0i ⟨a,t,X,Y⟩ _ _ s W.heap.size _ ((World.cell?_alloc_past _ _ _ l0).trans b0) (by simp;omega)).mono ?_
    rintro e w1 ⟨rfl,E1⟩
    have E1':Ext wr w1:=((Ext.refl wr).alloc _).trans E1
    have HO1:=Qa (HOS.out.ext E1')
    have hPl1:=HO1.out.row.lt
    clear c0 c1 c2 c3 b0 HOS
    by_cases h1:a=s
    ·have HB:Hid (beg s xfs (k+1)=beg s xfs k++[(k:Int)]):=by show _=_;rw[beg,HG.out,if_pos h1]
     have b1:(a == (s:Int))=true:=by simpa using h1
     rw[show((⟨a,t,X,Y⟩:Stf.Fl).fr == (s:Int))=true from b1]
     clear h1 b1
     have hbl:=q8t (s:=s) (fs:=xfs) k
     obtain⟨L,hL⟩:∃L,beg s xfs k=L:=⟨_,rfl⟩
     rw[hL] at HO1 HB hbl
     clear hL
     have q4:w1.cell? ⟨W.heap.size+1+1,4,none⟩=some fv:=HO1.out.row.cell (i:=4) (by omega)
     go_wp2_with (first | (at_builtin;refine wpList_append_lies _ rfl _ _ 30 rfl (W.heap.size+1+1+1) 3 i0 (.int .i64 0) 1 8 underlying30 hi0 hz00 hz01 hz02 rfl (by decide) _ _ _ rfl (HO1.out.own.alloc _) ⟨w1.heap.size,0,none⟩ 1 1 [.int .i64 k] rfl rfl (news1' rfl _ _) (z1t _) (by decide) (by unfold maxLen;omega) (by omega) (by simp;omega) _ rfl ?_) | go_in)
     intro g7 gc7 w7 hown7 hgr7 hat7 hlt7
     have H7:=Qa (HO1.out.push hown7 hgr7)
     have q7:=H7.out.1
     have q7z:=H7.out.2.1
     clear hown7 hgr7 hat7 q4
     go_wp2
     refine⟨⟨k+1,_,by omega,by go_num,by rw[HB.out];exact H7.out.2.2⟩,by simp[intOf];omega⟩
    ·have HB:Hid (beg s xfs (k+1)=beg s xfs k):=by show _=_;rw[beg,HG.out,if_neg h1,List.append_nil]
     have b1:(a == (s:Int))=false:=by simpa using h1
     rw[show((⟨a,t,X,Y⟩:Stf.Fl).fr == (s:Int))=false from b1]
     clear h1 b1
     go_wp2
     exact⟨⟨k+1,fv,by omega,by go_num,by rw[HB.out];exact HO1⟩,by simp[intOf];omega⟩
   ·have i1:¬(k:Int)<(xfs.length:Int):=by omega
    have hkl:k=xfs.length:=by omega
    rw[hkl] at HOS
    clear hkl
    obtain⟨L,hL⟩:∃L,beg s xfs xfs.length=L:=⟨_,rfl⟩
    have hLl:L.length<=16777216:=by rw[<-hL];exact ltr (q8t _) hxl
    rw[hL] at HOS
    have HLL:=Qa hL
    clear hL
    have hfn:=q8o HOS.out.own
    obtain⟨fo,fc,rfl,hfn'⟩:=hfn
    have HFN:Hid (LQ wr (fun b=>W.heap.size+1+1+1<=b) L (.slice fo L.length fc)):=FN.lq ⟨fo,fc,rfl,hfn'⟩
    clear hfn'
    have HO:=Qa (fun(V:World) (hV:Ext wr V)=>(HOS.out.ext hV).row)
    obtain⟨q2,q2l⟩:=HPN.out _ hEr
    have z0:=rz 0
    have z1:=rz 1
    have z2:=rz 2
    have z3:=rz 3
    have z4:=rz 4
    have o0:wr.cell? ⟨W.heap.size+1+1,0,none⟩=some (.int .i64 2):=HOS.out.row.cell (i:=0) (by omega)
    have o1:wr.cell? ⟨W.heap.size+1+1,1,none⟩=some (.int .i64 0):=HOS.out.row.cell (i:=1) (by omega)
    have o2:wr.cell? ⟨W.heap.size+1+1,2,none⟩=some (.int .i64 v):=HOS.out.row.cell (i:=2) (by omega)
    have o3:wr.cell? ⟨W.heap.size+1+1,3,none⟩=some (.slice none 0 0):=HOS.out.row.cell (i:=3) (by omega)
    have o4:wr.cell? ⟨W.heap.size+1+1,4,none⟩=some (.slice fo L.length fc):=HOS.out.row.cell (i:=4) (by omega)
    clear rz
    have HSBr:Hid (∀V,Ext wr V->SB V W.heap.size s):=fun V hV=>HSB.out V (q0n HOS.out.bel hV (by have:=HOS.out.row.lt;omega))
    go_wp2
    by_cases hL0:L=[]
    ·have HNC:Hid (∀V,Ext wr V->Calls prog 125 #[.slice no nfs.length nc,.func (.func 124) #[] #[.pointer (some ⟨W.heap.size,0,none⟩)]] V fun e w'=>e=.returned (.bool (decide (beg s nfs nfs.length≠[])))/\Ext V w'):=fun V hV=>
      q6x no nc nfs s W.heap.size V ((hn.ext hEr).ext hV) hnl (HSBr.out V hV).all.1 (by have:=(HSBr.out V hV).all.2.2.2.2.2.2.2;omega)
     subst hL0
     simp only[List.length_nil] at o4 HO HFN
     have hd:Ext wr wr.drew:=(Ext.refl wr).drew
     have HS6:Hid (∀V,Ext wr V->S6 W.heap.size pw v (.slice fo 0 fc) (.slice no nfs.length nc) V):=fun V hV=>⟨(HO.out _ hV).cell (i:=0) (by omega),(HO.out _ hV).cell (i:=1) (by omega),(HO.out _ hV).cell (i:=2) (by omega),(HO.out _ hV).cell (i:=3) (by omega),(HO.out _ hV).cell (i:=4) (by omega),(HPN.out _ (hEr.trans hV)).1⟩
     clear b0 r0 r1 r2 r3 r4 z0 z1 z2 z3 z4
     obtain⟨B,hB⟩:∃B,decide (beg s nfs nfs.length≠[])=B:=⟨_,rfl⟩
     have HD:Hid ((decide (([]:List Int)≠[]) || decide (beg s nfs nfs.length≠[]))=B):=by show _=_;rw[hB];simp
     rw[hB] at HNC
     clear hB
     go_region_held3 (fun V=>cl V (W.heap.size+1+1) 0 (.int .i64 2)/\cl V (W.heap.size+1+1) 1 (.int .i64 0)/\cl V (W.heap.size+1+1) 2 (.int .i64 v)/\cl V (W.heap.size+1+1) 3 (.slice none 0 0)/\cl V (W.heap.size+1+1) 4 (.slice fo 0 fc)/\cl V pw 1 (.slice no nfs.length nc))
      (first | with_reducible exact HS6.out _ hd | with_reducible exact HS6.out _ mk1 | with_reducible exact(((((S6.set (HS6.out _ mk1) l2).set l2).set l2).set l2).set l2))
      (first
      | (go_at_call 125
         refine(HNC.out _ hd).mono ?_
         rintro e w1 ⟨rfl,E1⟩
         have mk1:=hd.trans E1
         obtain⟨b0,r0,r1,r2,r3,r4,rz,hbs1⟩:=(HSBr.out _ mk1).all
         have z0:=rz 0
         have z1:=rz 1
         have z2:=rz 2
         have z3:=rz 3
         have z4:=rz 4
         clear rz)
      | fail)
     all_goals
      go_wp2
      refine bodyPost_ret (v:=.tuple #[.agg #[.int .i64 2,.int .i64 0,.int .i64 v,.slice none 0 0,.slice fo 0 fc],.bool B]) (by simp[results,results123,go_sem,r0,r1,r2,r3,r4]) rfl ?_
      rw[HLL.out,HD.out]
      refine⟨fo,fc,rfl,?_,((((((hEr.trans mk1).setCell (by simp) _).setCell (by simp) _).setCell (by simp) _).setCell (by simp) _).setCell (by simp) _)⟩
      refine HFN.out.mono (fun b hb hlt=>⟨by omega,by have:=mk1.size;simp;omega,?_⟩)
      rw[Zm _ _ _ _ (by simp;omega),Zm _ _ _ _ (by simp;omega),Zm _ _ _ _ (by simp;omega),Zm _ _ _ _ (by simp;omega),Zm _ _ _ _ (by simp;omega)]
      exact Below.block mk1 b hlt
    ·have i2:0<L.length:=by cases L with
      | nil=>exact absurd rfl hL0
      | cons=>simp
     have HD:Hid ((decide (L≠[]) || decide (beg s nfs nfs.length≠[]))=true):=by show _=_;simp[hL0]
     clear hL0
     go_region
     go_wp2
     refine bodyPost_ret (v:=.tuple #[.agg #[.int .i64 2,.int .i64 0,.int .i64 v,.slice none 0 0,.slice fo L.length fc],.bool true]) (by simp[results,results123,go_sem,r0,r1,r2,r3,r4]) rfl ?_
     rw[HLL.out,HD.out]
     refine⟨fo,fc,rfl,?_,(((((hEr.setCell (by simp) _).setCell (by simp) _).setCell (by simp) _).setCell (by simp) _).setCell (by simp) _).drew⟩
     refine HFN.out.mono (fun b hb hlt=>⟨by omega,by simpa using hlt,?_⟩)
     show(World.setCell _ _ _).heap[b]? =_
     rw[Zm _ _ _ _ (by simp;omega),Zm _ _ _ _ (by simp;omega),Zm _ _ _ _ (by simp;omega),Zm _ _ _ _ (by simp;omega),Zm _ _ _ _ (by simp;omega)]
theorem stpO_some{now Qd:Pl}:(Zz now Qd s).isSome=(decide (beg s Qd.fs Qd.fs.length≠[]) || decide (beg s now.fs now.fs.length≠[])):=by
 unfold Zz
 by_cases h1:beg s Qd.fs Qd.fs.length=[]
 ·by_cases h2:beg s now.fs now.fs.length=[] <;> simp[h1,h2]
 ·simp[h1]
theorem z3r(now Qd:Pl)(an ax:PA)(n:Nat)(w0 w:World)(hn:PlAt w0 now an)(hx:PlAt w0 Qd ax)(hnk:PlOk now)(hxk:PlOk Qd):
 Calls prog 111 #[pvl now an,pvl Qd ax] w fun e w'=>StepOf 123 n (Zz now Qd) w0 w w' e:=by
 obtain⟨nv,nfs,nps⟩:=now
 obtain⟨nfo,nqo,nfc,nqc⟩:=an
 obtain⟨xv,xfs,xps⟩:=Qd
 obtain⟨xfo,xqo,xfc,xqc⟩:=ax
 have hnf:Fw.Qk w0 nfo nfs:=hn.hf
 have hxf:Fw.Qk w0 xfo xfs:=hx.hf
 have hnl:nfs.length<=16777216:=hnk.fl
 have hxl:xfs.length<=16777216:=hxk.fl
 clear hn hx hnk hxk
 unfold pvl
 show Calls _ _ #[.agg #[.int .i64 nv,.slice nfo nfs.length nfc,.slice nqo nps.length nqc],.agg #[.int .i64 xv,.slice xfo xfs.length xfc,.slice xqo xps.length xqc]] _ _
 go_enter func111,ntmps111
 go_wp2
 go_ret
 refine⟨w.heap.size+1,w.heap.size,rfl,((Ext.refl w).alloc _).alloc _,fun Q W hk hW hfr s hs=>?_⟩
 have k0:=hk w.heap.size (Ql _) (by simp;omega)
 have k1:=hk (w.heap.size+1) (by omega) (by simp)
 refine(z1a xv (w.heap.size+1) w.heap.size s xfo nfo xfc nfc xfs nfs W ((cob (a:=⟨w.heap.size+1,0,none⟩) k1.2.2).trans (by simp)) ((cob (a:=⟨w.heap.size+1,1,none⟩) k1.2.2).trans (by simp)) ((cob (a:=⟨w.heap.size,1,none⟩) k0.2.2).trans (by simp)) k1.2.1 k0.2.1 (hxf.ext hW) (hnf.ext hW) hxl hnl).mono ?_
 rintro e w2 ⟨fo,fc,rfl,hL,E2⟩
 refine⟨⟨2,xv,none,fo,0,0,(beg s xfs xfs.length).length,fc,?_,fun x hx=>?_⟩,E2⟩
 ·rw[stpO_some]
 ·unfold Zz at hx
  split at hx
  ·cases hx
  ·cases hx
   exact⟨rfl,rfl,RQ.nil _ _,hL.mono (fun b hb hlt=>⟨hfr b hb,hlt,rfl⟩)⟩
end Ct
end Go.Proofs.YthkpbefnkmmaiaaGreat
