import Derived.Test.YthkpbefnkmmaiaaGreate31
import Derived.Test.YthkpbefnkmmaiaaGreate21
set_option maxRecDepth 100000
set_option maxHeartbeats 4000000
namespace Go.Last
section
variable {P:Program} {ops:Array Oper} {Q:Exit->Act->World->Prop} {md:Region.Mode} {S:World->Prop} {m:Nat}
theorem LH.two{i j:Nat}{oi oj:Oper}{n:Nat}{l:Array Bool}{a:Act}{w:World}(hr:Region.ready md ops l=[i,j])(hi:ops[i]? =some oi)(hj:ops[j]? =some oj)(h:∀K':Act->World->Prop,(∀a' w',(i≠m->S w')->LH P md ops Q S m n (l.setIfInBounds i true) a' w'->K' a' w')->if Region.wanted oi (yielded ops a.tmps)=true then Oper.wp P oi a w K' Q else K' (a.put oi.dst undef) w)(k:∀K':Act->World->Prop,(∀a' w',(j≠m->S w')->LH P md ops Q S m n (l.setIfInBounds j true) a' w'->K' a' w')->if Region.wanted oj (yielded ops a.tmps)=true then Oper.wp P oj a w K' Q else K' (a.put oj.dst undef) w):LH P md ops Q S m (n+1) l a w:=by
 refine⟨fun h0=>absurd (hr.symm.trans h0) (by simp),fun x hx=>?_⟩
 rw[hr] at hx
 simp only[List.mem_cons,List.not_mem_nil,or_false] at hx
 rcases hx with e | e
 ·subst e
  have:=h (fun a' w'=>(x≠m->S w')/\LH P md ops Q S m n (l.setIfInBounds x true) a' w') (fun a' w' h1 h2=>⟨h1,h2⟩)
  unfold wpOp
  simp only[hi]
  split
  ·rename_i hw;rw[if_pos hw] at this;exact Or.inl this
  ·rename_i hw;rw[if_neg hw] at this;exact this
 ·subst e
  have:=k (fun a' w'=>(x≠m->S w')/\LH P md ops Q S m n (l.setIfInBounds x true) a' w') (fun a' w' h1 h2=>⟨h1,h2⟩)
  unfold wpOp
  simp only[hj]
  split
  ·rename_i hw;rw[if_pos hw] at this;exact Or.inl this
  ·rename_i hw;rw[if_neg hw] at this;exact this
end
end Go.Last
namespace Go.Proofs.YthkpbefnkmmaiaaGreat
open Go.Proofs.Tryz
namespace Rm
open Go.RowKit Go.Deep Stw Stp Tb Rul Ct
theorem z7t{w w2:World}{g:Nat}(E:Ext w w2)(h1:w.heap.size<=g)(h2:g<=w2.heap.size):∃w1,Ext w w1/\w1.heap.size=g/\∀r,w1.grownBy w2 r:=by
 refine⟨{w2 with heap:=w2.heap.extract 0 g},⟨E.os,E.tape,E.output,by simp;omega,fun b hb=>?_⟩,by simp;omega,fun r=>⟨rfl,rfl,rfl,by simp;omega,fun b hb _=>?_⟩⟩
 ·rw[<-E.block b hb]
  simp only[Array.getElem?_extract]
  rw[if_pos (by have:=E.size;omega),Nat.zero_add]
 ·have hb':b<g:=by simp at hb;omega
  simp only[Array.getElem?_extract]
  rw[if_pos (by omega),Nat.zero_add]
section
variable {P:Program}
theorem copy_rw(W:World)(t e:TypeId)(i:TypeInfo)(z:Value)(size bytes:Nat)(ht:P.underlying t=some (.slice e))(hi:P.info? e=some i)(hz:i.zero=some z)(hsize:i.size=size)(hby:i.bytes=bytes)(hzs:z.cells.size=size)(hsz:0<size){g:Nat}(hg:W.heap[g]? =some (.cells #[] e (0,0))){v:Value}{n:Nat}{xs:List Value}(hv:Rw W e size v n xs)(h1:∀u∈xs,u.oneCell'=true)(h63:n<=maxLen)(hbytes:n*bytes<=140737488355328):
 ∃ao cap W',(∀ty,(Builtin.append_ #[t,t] ty #[.slice (some ⟨g,0,none⟩) 0 0,v]).run P W=.ok (.slice ao n cap) W')/\Rw W' e size (.slice ao n cap) n xs/\W.grownBy W' (some g)/\(∀k,(Value.slice ao n cap).ownBlock=some k->g<=k):=by
 have ho:W.ownsRow g e size (.slice (some ⟨g,0,none⟩) 0 0) 0 []:=⟨by simp,Or.inr ⟨g,0,#[],rfl,Ql _,hg,Ql _,Zu _,by simp,by simp⟩⟩
 have fin:∀v' W',(∀ty,(Builtin.append_ #[t,t] ty #[.slice (some ⟨g,0,none⟩) 0 0,v]).run P W=.ok v' W')->W'.ownsRow g e size v' n xs->W.grownBy W' (some g)->∃ao cap W',(∀ty,(Builtin.append_ #[t,t] ty #[.slice (some ⟨g,0,none⟩) 0 0,v]).run P W=.ok (.slice ao n cap) W')/\Rw W' e size (.slice ao n cap) n xs/\W.grownBy W' (some g)/\(∀k,(Value.slice ao n cap).ownBlock=some k->g<=k):=fun v' W' hr h hG=>by
  have hrw:Rw W' e size v' n xs:=by
   refine⟨h.1,?_⟩
   rcases h.2 with⟨hv,h0⟩ | ⟨g,cap,cur,hv,hb,hg,hn,hm,hc,ht⟩
   ·exact Or.inl ⟨hv,h0⟩
   ·refine Or.inr ⟨g,0,cap,cur,hv,hg,hn,hm,by omega,fun j hj=>?_⟩
    rw[<-ht,List.getElem?_take_of_lt hj,Nat.zero_add]
    simp
  obtain⟨ao,cap,rfl⟩:=hrw.form
  exact⟨ao,cap,W',hr,hrw,hG,fun k hk=>(h.lt k hk).1⟩
 rcases hv.alt with⟨rfl,rfl⟩ | ⟨b,off,cap,cur,rfl,hb,hnc,hcm,hcs,hcur⟩
 ·have hx:xs=[]:=List.eq_nil_of_length_eq_zero (by simpa using hv.len)
  subst hx
  exact fin _ W (fun ty=>run_append_owned_none (P:=P) (w:=W) g t ty e i size ht hi _ _ _ ho) ho (Gb.refl _ _)
 ·obtain⟨v',W',hr,h2,h3,_⟩:=run_append_own (P:=P) W g t t e i z size bytes ht hi hz hsize hby hzs hsz _ 0 [] ho ⟨b,off,none⟩ n cap xs (by rw[hv.len]) (fun j u hu=>by
   have hj:j<xs.length:=(List.getElem?_eq_some_iff.1 hu).1
   have hadd:(⟨b,off,none⟩:Addr).add j=⟨b,off+j,none⟩:=by unfold Addr.add;split <;> simp_all
   rw[hadd,cell_of_row W b _ cur e (0,0) hb,hcur j (by rw[<-hv.len];exact hj)]
   exact hu) h1 (by omega) (by rw[Nat.zero_add];exact hbytes) (by have hl:=(asi.1 hg).1;omega)
  rw[Nat.zero_add] at h2
  exact fin v' W' (fun ty=>hr) (by simpa using h2) h3
theorem q0r(W:World){ops:Array Oper}{o:Oper}{a:Act}{K:Act->World->Prop}{Q:Exit->Act->World->Prop}{E:Prop}(hgd:o.guard=none)(s x:Operand)(t:TypeId)(ho:o.op=.call {callee:=.builtin .append,args:=#[s,x],argTypes:=#[t,t]})(e:TypeId)(i:TypeInfo)(z:Value)(size bytes:Nat)(ht:P.underlying t=some (.slice e))(hi:P.info? e=some i)(hz:i.zero=some z)(hsize:i.size=size)(hby:i.bytes=bytes)(hzs:z.cells.size=size)(hsz:0<size){g:Nat}(hg:W.heap[g]? =some (.cells #[] e (0,0))){v:Value}{n:Nat}{xs:List Value}(hs:a.eval s=.slice (some ⟨g,0,none⟩) 0 0)(hx:a.eval x=v)(hv:Rw W e size v n xs)(h1:∀u∈xs,u.oneCell'=true)(h63:n<=maxLen)(hbytes:n*bytes<=140737488355328)(hK:∀ao cap W',Rw W' e size (.slice ao n cap) n xs->W.grownBy W' (some g)->(∀k,(Value.slice ao n cap).ownBlock=some k->g<=k)->K (a.put o.dst (.slice ao n cap)) W'):
 if Region.wanted o (yielded ops a.tmps)=true then Oper.wp P o a W K Q else E:=by
 have hw:Region.wanted o (yielded ops a.tmps)=true:=by simp[Region.wanted,hgd]
 rw[if_pos hw]
 obtain⟨ao,cap,W',hr,h2,h3,h4⟩:=copy_rw (P:=P) W t e i z size bytes ht hi hz hsize hby hzs hsz hg hv h1 h63 hbytes
 unfold Oper.wp execOp
 simp only[ho,resolve,invoke,builtin,Sem.run_bind,Sem.run_pure,Result.andThen_ok,List.map_toArray,List.map_cons,List.map_nil,hs,hx,hr]
 exact hK ao cap W' h2 h3 h4
end
def ROut (w0:World) (P n:Nat) (tg:Nat->Nat) (w:World) (sb ob bb:Nat) (R:Wd×Int) (e:Ending) (w':World):Prop:=
 e=.returned (.int .i64 R.2)/\∃tg' a' kv' lv',Hid (Q0 39 [] w0 P n tg' w' R.1 a' sb ob bb kv' lv'/\Zv tg tg' w w'/\(a'.wo=none->a'.wc=0))
theorem q9u{tg:Nat->Nat}{w V w3 w4:World}{D:World->Prop}(hnw:∀b,w.heap.size<=b->tg b=0)(hwV:w.heap.size<=V.heap.size)(h:∀U:World,w3.heap.size<=U.heap.size->(∀b,((tg b=0/\b<w.heap.size)\/V.heap.size<=b)->b<w3.heap.size->U.heap[b]? =w3.heap[b]?)->D U)(hs:w3.heap.size<=w4.heap.size)(hb:∀b,b<w3.heap.size->(b<w.heap.size\/V.heap.size<=b)->w4.heap[b]? =w3.heap[b]?):Stb (fun b=>tg b=0) w4 D:=
 fun U hU kU=>h U (ltr hs hU) (fun b hb' hlt=>(kU b (by rcases hb' with h1 | h1;exact h1.1;exact hnw b (by omega)) (Q5 hlt hs)).trans (hb b hlt (hb'.imp (fun h=>h.2) id)))
theorem z6n{tg:Nat->Nat}{w V:World}{D:World->Prop}(h:Stb (fun b=>tg b=0) w D)(E:Ext w V):Stb (fun b=>(tg b=0/\b<w.heap.size)/\b<V.heap.size) V D:=
 fun U hU kU=>h U (ltr E.size hU) (fun b hb hlt=>(kU b ⟨⟨hb,hlt⟩,Q5 hlt E.size⟩ (Q5 hlt E.size)).trans (E.block b hlt))
theorem Q0.newO{T:TypeId}{tl:List Value}{w0 w w2:World}{P n:Nat}{tg:Nat->Nat}{W:Wd}{a:CA}{sb ob bb:Nat}{kv lv v:Value}{s:Nat}{o:Wir.Od}{xs:List Value}{g off cap:Nat}{ro fo:Option Addr}{rc fc:Nat}(h:Q0 T tl w0 P n tg w W a sb ob bb kv lv)(hs:s<n)(hl:W.od.length=n)(E:Ext w w2)(hgw:w.heap.size<=g)(hv:RwT tg (10+3*s) w 69 5 v (W.od.getD s []).length xs)(hod:∀i,i<(W.od.getD s []).length->OdAt (fun b=>tg b=0) w ((W.od.getD s []).getD i Wir.od0) (fun j=>xs[i*5+j]?))(hst:Stb (fun b=>tg b=0) w (fun U=>Zl U ro o.rs/\Qj U fo o.fs))(hr:Rw w2 69 5 (.slice (some ⟨g,off,none⟩) ((W.od.getD s []).length+1) cap) ((W.od.getD s []).length+1) (xs++[.int .i64 o.k,.int .i64 o.n,.int .i64 o.v,.slice ro o.rs.length rc,.slice fo o.fs.length fc])):
 ∃tg',Q0 T tl w0 P n tg' (w2.setCell ⟨ob,s,none⟩ (.slice (some ⟨g,off,none⟩) ((W.od.getD s []).length+1) cap)) ⟨W.co,W.sw,W.od.set s (W.od.getD s []++[o]),W.bk,W.pk,W.pn⟩ a sb ob bb kv lv/\Zv tg tg' w (w2.setCell ⟨ob,s,none⟩ (.slice (some ⟨g,off,none⟩) ((W.od.getD s []).length+1) cap)):=by
 obtain⟨w1,E1,hs1,hg1⟩:=z7t E hgw (Nat.le_of_lt (hr.lt g rfl))
 have k:=Q0.pushO (o:=o) (h.Qm E1) hs hl (hv.Qh (Qf.ext (S:=fun _=>True) E1) trivial) (fun i hi=>(hod i hi).Qh (Qf.ext (S:=fun _=>True) E1) trivial) (hst.Qh (Qf.ext (S:=fun _=>True) E1) trivial) hr (hg1 v.ownBlock) (Or.inr hs1.symm)
 exact⟨_,k.1,(Zv.ext E1).trans k.2⟩
theorem Q0.newB{T:TypeId}{tl:List Value}{w0 w w2:World}{P n:Nat}{tg:Nat->Nat}{W:Wd}{a:CA}{sb ob bb:Nat}{kv lv v:Value}{s:Nat}{x:Int}{g off cap:Nat}(h:Q0 T tl w0 P n tg w W a sb ob bb kv lv)(hs:s<n)(hl:W.bk.length=n)(E:Ext w w2)(hgw:w.heap.size<=g)(hv:Za tg (11+3*s) w (W.bk.getD s []) v)(hr:Rw w2 3 1 (.slice (some ⟨g,off,none⟩) ((W.bk.getD s []).length+1) cap) ((W.bk.getD s []).length+1) ((W.bk.getD s []).map (Value.int .i64)++[.int .i64 x])):
 ∃tg',Q0 T tl w0 P n tg' (w2.setCell ⟨bb,s,none⟩ (.slice (some ⟨g,off,none⟩) ((W.bk.getD s []).length+1) cap)) ⟨W.co,W.sw,W.od,W.bk.set s (W.bk.getD s []++[x]),W.pk,W.pn⟩ a sb ob bb kv lv/\Zv tg tg' w (w2.setCell ⟨bb,s,none⟩ (.slice (some ⟨g,off,none⟩) ((W.bk.getD s []).length+1) cap)):=by
 obtain⟨w1,E1,hs1,hg1⟩:=z7t E hgw (Nat.le_of_lt (hr.lt g rfl))
 have k:=Q0.pushB (x:=x) (h.Qm E1) hs hl (hv.Qh (Qf.ext (S:=fun _=>True) E1) trivial) hr (hg1 v.ownBlock) (Or.inr hs1.symm)
 exact⟨_,k.1,(Zv.ext E1).trans k.2⟩
theorem Q0.newT{T:TypeId}{tl:List Value}{w0 w w2:World}{P n:Nat}{tg:Nat->Nat}{W:Wd}{a:CA}{sb ob bb:Nat}{lv tv:Value}{g off cap i gt ot ct:Nat}{y:Int}(h:Q0 T tl w0 P n tg w W a sb ob bb (.slice (some ⟨g,off,none⟩) W.pk.length cap) lv)(hi:i<W.pk.length)(E:Ext w w2)(hgw:w.heap.size<=gt)(hv:Za tg (12+3*i) w (W.pk.getD i Q8).tr tv)(hr:Rw w2 3 1 (.slice (some ⟨gt,ot,none⟩) ((W.pk.getD i Q8).tr.length+1) ct) ((W.pk.getD i Q8).tr.length+1) ((W.pk.getD i Q8).tr.map (Value.int .i64)++[.int .i64 y])):
 ∃tg',Q0 T tl w0 P n tg' (w2.setCell ⟨g,off+(i*4+2),none⟩ (.slice (some ⟨gt,ot,none⟩) ((W.pk.getD i Q8).tr.length+1) ct)) ⟨W.co,W.sw,W.od,W.bk,W.pk.set i ⟨(W.pk.getD i Q8).fl,(W.pk.getD i Q8).v,(W.pk.getD i Q8).tr++[y],(W.pk.getD i Q8).dn⟩,W.pn⟩ a sb ob bb (.slice (some ⟨g,off,none⟩) W.pk.length cap) lv/\Zv tg tg' w (w2.setCell ⟨g,off+(i*4+2),none⟩ (.slice (some ⟨gt,ot,none⟩) ((W.pk.getD i Q8).tr.length+1) ct)):=by
 obtain⟨w1,E1,hs1,hg1⟩:=z7t E hgw (Nat.le_of_lt (hr.lt gt rfl))
 obtain⟨tg',k1,k2⟩:=Q0.moveK (y:=y) (h.Qm E1) hi (hv.Qh (Qf.ext (S:=fun _=>True) E1) trivial) hr (hg1 tv.ownBlock) (Or.inr hs1.symm)
 exact⟨tg',k1,(Zv.ext E1).trans k2⟩
theorem box3(w:World)(P n:Nat)(ao:Option Addr)(len cap:Nat)(k i:Int)(fo:Option Addr)(fl fc:Nat):∃B:World,B=((w.alloc (.cells #[.pointer (some ⟨P,0,none⟩)] 58)).alloc (.cells #[.int .i64 n,.slice ao len cap] 24)).alloc (.cells #[.int .i64 k,.int .i64 i,.slice fo fl fc] 50)/\Ext w B/\Hid (B.heap.size=w.heap.size+1+1+1)/\
 B.heap[w.heap.size]? =some (.cells #[.pointer (some ⟨P,0,none⟩)] 58)/\B.heap[w.heap.size+1]? =some (.cells #[.int .i64 n,.slice ao len cap] 24)/\B.heap[w.heap.size+1+1]? =some (.cells #[.int .i64 k,.int .i64 i,.slice fo fl fc] 50):=by
 refine⟨_,rfl,(((Ext.refl w).alloc _).alloc _).alloc _,by show _=_;simp,?_,?_,?_⟩
 ·rw[bal _ _ _ (by simp;omega),bal _ _ _ (by simp)];exact Q7 rfl
 ·rw[bal _ _ _ (by simp)];exact Q7 (by simp)
 ·exact Q7 (by simp)
theorem hpb4{P:Nat}{w B:World}(hP:P<w.heap.size)(HBS:Hid (B.heap.size=w.heap.size+1+1+1)):Hid (∀V,Ext B V->P<V.heap.size/\w.heap.size<V.heap.size/\w.heap.size+1<V.heap.size/\w.heap.size+1+1<V.heap.size):=fun V hV=>by
 have:=HBS.out;have:=hV.size;omega
theorem hpb5{w0:World}{P n:Nat}{tg:Nat->Nat}{w B:World}{W:Wd}{a:CA}{sb ob bb:Nat}{kv lv:Value}(hP:P<w.heap.size)(HBS:Hid (B.heap.size=w.heap.size+1+1+1))(h:Q0 39 [] w0 P n tg w W a sb ob bb kv lv):Hid (∀V,Ext B V->P<V.heap.size/\w.heap.size<V.heap.size/\w.heap.size+1<V.heap.size/\w.heap.size+1+1<V.heap.size/\sb<V.heap.size):=fun V hV=>by
 have:=HBS.out;have:=hV.size
 obtain⟨_,f,hf,_⟩:=h.sws
 have:=hf.lt
 omega
theorem hpb7{w0:World}{P n:Nat}{tg:Nat->Nat}{w B:World}{W:Wd}{a:CA}{sb ob bb:Nat}{kv lv:Value}(hP:P<w.heap.size)(HBS:Hid (B.heap.size=w.heap.size+1+1+1))(h:Q0 39 [] w0 P n tg w W a sb ob bb kv lv):Hid (∀V,Ext B V->P<V.heap.size/\w.heap.size<V.heap.size/\w.heap.size+1<V.heap.size/\w.heap.size+1+1<V.heap.size/\sb<V.heap.size/\ob<V.heap.size/\bb<V.heap.size):=fun V hV=>by
 have:=HBS.out;have:=hV.size
 obtain⟨_,f,hf,_⟩:=h.sws
 obtain⟨_,f2,hf2,_⟩:=h.ors
 obtain⟨_,f3,hf3,_⟩:=h.bks
 have:=hf.lt;have:=hf2.lt;have:=hf3.lt
 omega
theorem OdAt.cells{Y:Nat->Prop}{w:World}{o:Wir.Od}{c:Nat->Option Value}(h:OdAt Y w o c):∀j u,j<5->c j=some u->u.oneCell'=true:=by
 obtain⟨ro,rc,fo,fc,h0,h1,h2,h3,h4,_⟩:=h
 intro j u hj hu
 obtain rfl | rfl | rfl | rfl | rfl:j=0\/j=1\/j=2\/j=3\/j=4:=by omega
 ·rw[h0] at hu;cases hu;rfl
 ·rw[h1] at hu;cases hu;rfl
 ·rw[h2] at hu;cases hu;rfl
 ·rw[h3] at hu;cases hu;rfl
 ·rw[h4] at hu;cases hu;rfl
theorem ods_one{Y:Nat->Prop}{w:World}{os:List Wir.Od}{xs:List Value}(hl:xs.length=os.length*5)(h:∀i,i<os.length->OdAt Y w (os.getD i Wir.od0) (fun j=>xs[i*5+j]?)):∀u∈xs,u.oneCell'=true:=fun u hu=>by
 obtain⟨j,hj⟩:=List.getElem?_of_mem hu
 have hlt:j<xs.length:=(List.getElem?_eq_some_iff.1 hj).1
 exact(h (j / 5) (by omega)).cells (j % 5) u (by omega) (by show xs[j / 5*5+j % 5]? =_;rw[show j / 5*5+j % 5=j by omega];exact hj)
theorem q1g{W:World}{c:Nat}{cs:List Value}{T:TypeId}(h:W.heap[c]? =some (.cells cs.toArray T)):∀(j:Nat) (u:Value),cs[j]? =some u->W.cell? ((⟨c,0,none⟩:Addr).add j)=some u:=fun j u hu=>by
 have hadd:(⟨c,0,none⟩:Addr).add j=⟨c,j,none⟩:=by unfold Addr.add;split <;> simp_all
 rw[hadd,cell_of_row _ _ _ _ _ _ h]
 simpa using hu
theorem q6g(w0:World)(P n:Nat)(tg:Nat->Nat)(w:World)(W:Wd)(a:CA)(sb ob bb bx:Nat)(kv lv:Value)(c':Co)(a':CA)(out:List (Nat×Wir.Od))(tO:Option Addr)(tc:Nat)(h:Q0 39 [] w0 P n tg w W a sb ob bb kv lv)(hl:W.od.length=n)(hc:Stb (fun b=>tg b=0) w (fun U=>Zr U c' a'/\Zw U tO out))(hx:∀x∈out,x.1<n)(ho:out.length<=1000)(hr:∀s,(W.od.getD s []).length<=100000)(hbx:w.cell? ⟨bx,0,none⟩=some (.pointer (some ⟨P,0,none⟩)))(hbt:tg bx=0)(hbl:bx<w.heap.size):
 Calls prog 29 #[cvl c' a',.slice tO out.length tc,.pointer (some ⟨bx,0,none⟩)] w fun e w'=>e=.returned (.tuple #[])/\∃tg',Q0 39 [] w0 P n tg' w' ⟨c',W.sw,Zh W.od out,W.bk,W.pk,W.pn⟩ a' sb ob bb kv lv/\Zv tg tg' w w':=by
 obtain⟨i0,hi0,hz00,hz01,hz02⟩:=info_parts infoOd
 unfold cvl
 have HW:=Qa h
 have HC:=Qa hc
 have hP:=h.row.lt
 have hL:=z0o (c:=W.co) (a:=a) (n:=n) (sb:=sb) (ob:=ob) (bb:=bb) (kv:=kv) (lv:=lv) (tl:=[])
 have q0:=h.row.cell (i:=0) (by simp)
 have q1:=h.row.cell (i:=1) (by simp)
 have q2:=h.row.cell (i:=2) (by simp)
 have q3:=h.row.cell (i:=3) (by simp)
 have q4:=h.row.cell (i:=4) (by simp)
 have q5:=h.row.cell (i:=5) (by simp)
 have q6:=h.row.cell (i:=6) (by simp)
 have q7:=h.row.cell (i:=7) (by simp)
 have q8:=h.row.cell (i:=8) (by simp)
 have f0:=h.row.frozen 0
 have f1:=h.row.frozen 1
 have f2:=h.row.frozen 2
 have f3:=h.row.frozen 3
 have f4:=h.row.frozen 4
 have f5:=h.row.frozen 5
 have f6:=h.row.frozen 6
 have f7:=h.row.frozen 7
 have f8:=h.row.frozen 8
 have hne:bx≠P:=fun e=>by have:=h.tP;rw[<-e,hbt] at this;omega
 have HBX:Hid (∀tg' V,Zv tg tg' w V->cl V bx 0 (.pointer (some ⟨P,0,none⟩))/\tg' bx=0/\bx<V.heap.size):=fun tg' V hK=>by
  obtain⟨e1,e2⟩:=hK.blk bx hbl (Or.inl hbt)
  exact⟨(cob (a:=⟨bx,0,none⟩) e2).trans hbx,e1.trans hbt,Q5 hbl hK.size⟩
 clear h hc hL
 go_enter func29,ntmps29
 go_upto_region 2 with fail
 clear q0 f0 q1 f1 q2 f2 q3 f3 q4 f4 q5 f5 q6 f6 q7 f7 q8 f8
 obtain⟨W1,hW1⟩:=Qy ((W9 w P (.int .i64 c'.st) (.int .i64 c'.now.v) (.slice a'.n.fo c'.now.fs.length a'.n.fc) (.slice a'.n.qo c'.now.ps.length a'.n.qc) (.int .i64 c'.Qd.v) (.slice a'.x.fo c'.Qd.fs.length a'.x.fc) (.slice a'.x.qo c'.Qd.ps.length a'.x.qc) (.int .i64 c'.num) (.slice a'.wo c'.Qg.length a'.wc)).alloc (.cells #[.int .i64 c'.st,.int .i64 c'.now.v,.slice a'.n.fo c'.now.fs.length a'.n.fc,.slice a'.n.qo c'.now.ps.length a'.n.qc,.int .i64 c'.Qd.v,.slice a'.x.fo c'.Qd.fs.length a'.x.fc,.slice a'.x.qo c'.Qd.ps.length a'.x.qc,.int .i64 c'.num,.slice a'.wo c'.Qg.length a'.wc] 32))
 have HW1:Hid (Q0 39 [] w0 P n tg W1 ⟨c',W.sw,W.od,W.bk,W.pk,W.pn⟩ a' sb ob bb kv lv/\Zv tg tg w W1):=by
  have h1:=HW.out.putC (HC.out.imp (fun U hU=>hU.1))
  rw[hW1]
  exact⟨h1.1.Qm ((Ext.refl _).alloc _),h1.2.trans (Zv.ext ((Ext.refl _).alloc _))⟩
 unfold W9 at hW1
 rw[<-hW1]
 clear hW1 HW
 go_wp2
 go_loopw [13] (fun iv wd=>∃k:Nat,k<=out.length/\iv=.int .i64 k/\Hid (∃tg',Q0 39 [] w0 P n tg' wd ⟨c',W.sw,Zh W.od (out.take k),W.bk,W.pk,W.pn⟩ a' sb ob bb kv lv/\Zv tg tg' w wd)) (fun iv _=>out.length - (intOf iv).toNat)
 case atStart=>exact⟨0,Zu _,rfl,tg,HW1.out.1,HW1.out.2⟩
 case round=>
  obtain⟨k,hk,rfl,HI⟩:=hrel
  clear HW1
  by_cases hlt:k<out.length
  ·have i1:(k:Int)<(out.length:Int):=by omega
   obtain⟨tg1,hW,hK⟩:=HI.out
   have hC1:Stb (fun b=>tg1 b=0) wr (fun U=>Zr U c' a'/\Zw U tO out):=HC.out.Qh hK (Or.inl rfl)
   obtain⟨tb,toff,rfl,htb⟩:=Zw.one hC1.at.2 hlt
   rcases hC1.at.2 with h0 | ⟨_,_,e0,_,hcs⟩
   ·exfalso;rw[h0] at hlt;simp at hlt
   cases e0
   obtain⟨ro,rc,fo,fc,d0,d1,d2,d3,d4,d5,_,_⟩:=hcs k hlt
   have hxn:=hx out[k] (List.getElem_mem hlt)
   have HPT:=Qa (z4d (od:=W.od) hlt)
   have HST:=Qa (Zw.lists (hC1.imp (fun U hU=>hU.2)) htb hlt d4 d5)
   have hps:((Zh W.od (out.take k)).getD out[k].1 []).length<=101000:=by
    have h1:=putO_le (out:=out.take k) (od:=W.od) (s:=out[k].1)
    have h2:=hr out[k].1
    rw[List.length_take] at h1
    omega
   have HOL:Hid ((Zh W.od (out.take k)).length=n):=by show _=_;rw[q3x];exact hl
   generalize out[k]=x at HST HPT d0 d1 d2 d3 d4 d5 hxn hps
   obtain⟨s,ok,on,ov,ors,ofs⟩:=x
   simp only at HST HPT d0 d1 d2 d3 d4 d5 hxn hps
   obtain⟨v,cv,fv,hobl,xs,hrw,hod⟩:=hW.ors.get (s:=s) hxn
   have hRW:=Qa hrw
   have hOD:=Qa hod
   have HXO:=Qa (ods_one hrw.rw.len hod)
   have hWr:=Qa hW
   have hKr:=Qa hK
   obtain⟨cB,tB,lB⟩:=HBX.out tg1 wr hK
   have cP:wr.cell? ⟨P,10,none⟩=some (.slice (some ⟨ob,0,none⟩) n n):=hW.row.cell (i:=10) (by simp)
   have hPl:=hW.row.lt
   have j1:(0:Int)<=(s:Int):=by omega
   have j2:(s:Int)<(n:Int):=by omega
   clear hW hK hC1 hcs hrw hod HI tB
   obtain⟨Z,hZ⟩:=Qy (wr.alloc (.cells #[.int .i64 s,.int .i64 ok,.int .i64 on,.int .i64 ov,.slice ro ors.length rc,.slice fo ofs.length fc] 88))
   have EZ:Ext wr Z:=by rw[hZ];exact(Ext.refl wr).alloc _
   have HZS:Hid (Z.heap.size=wr.heap.size+1):=by show _=_;rw[hZ];simp
   have HSX:Hid (∀V,Ext Z V->cl V bx 0 (.pointer (some ⟨P,0,none⟩))/\cl V P 10 (.slice (some ⟨ob,0,none⟩) n n)/\cl V wr.heap.size 0 (.int .i64 s)/\cl V wr.heap.size 1 (.int .i64 ok)/\cl V wr.heap.size 2 (.int .i64 on)/\cl V wr.heap.size 3 (.int .i64 ov)/\cl V wr.heap.size 4 (.slice ro ors.length rc)/\cl V wr.heap.size 5 (.slice fo ofs.length fc)/\cl V ob s v):=fun V hV=>by
    have l0:wr.heap.size<Z.heap.size:=by have:=HZS.out;omega
    have E0:Ext wr V:=EZ.trans hV
    exact⟨(E0.cells.1 _ _ lB).trans cB,(E0.cells.1 _ _ hPl).trans cP,(hV.cells.1 _ _ l0).trans (by rw[hZ];simp),(hV.cells.1 _ _ l0).trans (by rw[hZ];simp),(hV.cells.1 _ _ l0).trans (by rw[hZ];simp),(hV.cells.1 _ _ l0).trans (by rw[hZ];simp),(hV.cells.1 _ _ l0).trans (by rw[hZ];simp),(hV.cells.1 _ _ l0).trans (by rw[hZ];simp),(E0.cells.1 _ _ hobl).trans cv⟩
   have HFN:Hid (∀w5 g off cap,Ext Z w5->Z.heap.size<=g->Rw w5 69 5 (.slice (some ⟨g,off,none⟩) (((Zh W.od (out.take k)).getD s []).length+1) cap) (((Zh W.od (out.take k)).getD s []).length+1) (xs++[.int .i64 ok,.int .i64 on,.int .i64 ov,.slice ro ors.length rc,.slice fo ofs.length fc])->∃tg',Q0 39 [] w0 P n tg' (w5.setCell ⟨ob,s,none⟩ (.slice (some ⟨g,off,none⟩) (((Zh W.od (out.take k)).getD s []).length+1) cap)) ⟨c',W.sw,Zh W.od (out.take (k+1)),W.bk,W.pk,W.pn⟩ a' sb ob bb kv lv/\Zv tg tg' w (w5.setCell ⟨ob,s,none⟩ (.slice (some ⟨g,off,none⟩) (((Zh W.od (out.take k)).getD s []).length+1) cap))):=fun w5 g off cap E5 hg5 hr5=>by
    obtain⟨tg2,k1,k2⟩:=Q0.newO (o:=⟨ok,on,ov,ors,ofs⟩) hWr.out hxn HOL.out (EZ.trans E5) (by have:=HZS.out;omega) hRW.out hOD.out HST.out hr5
    rw[HPT.out]
    exact⟨tg2,k1,hKr.out.trans k2⟩
   have HRZ:Hid (∀V,Ext Z V->Rw V 69 5 v ((Zh W.od (out.take k)).getD s []).length xs):=fun V hV=>(hRW.out.Qh (Qf.ext (S:=fun _=>True) (EZ.trans hV)) trivial).rw
   have HFZ:Hid (∀V,Ext Z V->V.frozen? ⟨ob,s,none⟩=false/\ob<V.heap.size):=fun V hV=>⟨((EZ.trans hV).cells.2 _ _ hobl).trans fv,Q5 hobl (EZ.trans hV).size⟩
   generalize (Zh W.od (out.take k)).getD s []=os at hps HFN HRZ hRW hOD
   clear hRW hOD HST HPT HOL hWr hKr
   go_upto_region 5 with fail
   rw[<-hZ]
   clear hZ d0 d1 d2 d3 d4 d5 cv fv cP cB
   refine Last.LH.start (m:=21) (S:=fun V=>cl V bx 0 (.pointer (some ⟨P,0,none⟩))/\cl V P 10 (.slice (some ⟨ob,0,none⟩) n n)/\cl V wr.heap.size 0 (.int .i64 s)/\cl V wr.heap.size 1 (.int .i64 ok)/\cl V wr.heap.size 2 (.int .i64 on)/\cl V wr.heap.size 3 (.int .i64 ov)/\cl V wr.heap.size 4 (.slice ro ors.length rc)/\cl V wr.heap.size 5 (.slice fo ofs.length fc)/\cl V ob s v) (by kernel_rfl) ?_
   have Qe:=HSX.out Z.drew (Ext.refl _).drew
   refine ltk 0 Qe ?_
   refine ltk 1 Qe ?_
   refine ltk 2 Qe ?_
   refine ltk 3 Qe ?_
   refine ltk 4 Qe ?_
   refine ltk 5 Qe ?_
   refine ltk 7 Qe ?_
   refine ltk 8 Qe ?_
   refine ltk 9 Qe ?_
   refine ltk 10 Qe ?_
   refine ltk 11 Qe ?_
   refine ltk 12 Qe ?_
   refine ltk 13 Qe ?_
   refine ltk 14 Qe ?_
   refine ltk 16 Qe ?_
   refine ltk 17 Qe ?_
   refine Last.LH.two (i:=6) (j:=18) (by kernel_rfl) rfl rfl (fun K hK=>?_) (fun K hK=>?_)
   ·go_simp
    refine hK _ _ (fun _=>HSX.out _ ((Ext.refl Z).alloc _).drew) ?_
    clear hK K
    have E1:Ext Z (Z.alloc (.cells #[] 69)).drew:=((Ext.refl Z).alloc _).drew
    have b1:(Z.alloc (.cells #[] 69)).drew.heap[Z.heap.size]? =some (.cells #[] 69):=Q7 rfl
    have s1:Hid ((Z.alloc (.cells #[] 69)).drew.heap.size=Z.heap.size+1):=by show _=_;simp
    generalize (Z.alloc (.cells #[] 69)).drew=V1 at E1 b1 s1
    refine Last.LH.two (i:=15) (j:=18) (by kernel_rfl) rfl rfl (fun K hK=>?_) (fun K hK=>?_)
    focus
     refine q0r (v:=v) (n:=os.length) (xs:=xs) V1 rfl (.tmp 23) (.tmp 31) 66 rfl 69 i0 _ 5 72 underlying66 hi0 hz00 hz01 hz02 rfl (by decide) b1 rfl rfl (HRZ.out _ E1) HXO.out (by unfold maxLen;omega) (by omega) ?_
     intro ao2 cap2 V2 hr2 hg2 ho2
     have E2:Ext Z V2:=Below.grown E1 hg2 E1.size (fun k hk=>by cases hk;have:=s1.out;omega)
     refine hK _ _ (fun _=>HSX.out _ E2) ?_
     clear hK K
     have hown:∀k,(Value.slice ao2 os.length cap2).ownBlock=some k->Z.heap.size<=k:=ho2
     refine lon 18 (fun K hK=>?_)
     go_simp
     refine hK _ _ (fun _=>HSX.out _ (E2.alloc _)) ?_
     clear hK K
     have E3:Ext Z (V2.alloc (.cells #[.int .i64 ok,.int .i64 on,.int .i64 ov,.slice ro ors.length rc,.slice fo ofs.length fc] 69)):=E2.alloc _
     have c3:(V2.alloc (.cells #[.int .i64 ok,.int .i64 on,.int .i64 ov,.slice ro ors.length rc,.slice fo ofs.length fc] 69)).heap[V2.heap.size]? =some (.cells #[.int .i64 ok,.int .i64 on,.int .i64 ov,.slice ro ors.length rc,.slice fo ofs.length fc] 69):=Q7 rfl
     have r3:Rw (V2.alloc (.cells #[.int .i64 ok,.int .i64 on,.int .i64 ov,.slice ro ors.length rc,.slice fo ofs.length fc] 69)) 69 5 (.slice ao2 os.length cap2) os.length xs:=hr2.Qh (fun k hk=>bal _ _ _ (hr2.lt k hk))
     generalize V2.alloc (.cells #[.int .i64 ok,.int .i64 on,.int .i64 ov,.slice ro ors.length rc,.slice fo ofs.length fc] 69)=V3 at E3 c3 r3
     refine lon 19 (fun K hK=>?_)
     refine Q4 V3 rfl (.tmp 32) (.tmp 35) 66 rfl 69 i0 _ 5 72 underlying66 hi0 hz00 hz01 hz02 rfl (by decide) (.slice ao2 os.length cap2) os.length xs rfl r3 ⟨V2.heap.size,0,none⟩ 1 [.int .i64 ok,.int .i64 on,.int .i64 ov,.slice ro ors.length rc,.slice fo ofs.length fc] rfl rfl (q1g c3) (one5 ok on ov ro fo ors.length rc ofs.length fc) (by unfold maxLen;omega) (by omega) ?_
    rotate_left
    focus
     go_simp
     refine hK _ _ (fun _=>HSX.out _ (E1.alloc _)) ?_
     clear hK K
     have E2:Ext Z (V1.alloc (.cells #[.int .i64 ok,.int .i64 on,.int .i64 ov,.slice ro ors.length rc,.slice fo ofs.length fc] 69)):=E1.alloc _
     have c2:(V1.alloc (.cells #[.int .i64 ok,.int .i64 on,.int .i64 ov,.slice ro ors.length rc,.slice fo ofs.length fc] 69)).heap[V1.heap.size]? =some (.cells #[.int .i64 ok,.int .i64 on,.int .i64 ov,.slice ro ors.length rc,.slice fo ofs.length fc] 69):=Q7 rfl
     have b2:(V1.alloc (.cells #[.int .i64 ok,.int .i64 on,.int .i64 ov,.slice ro ors.length rc,.slice fo ofs.length fc] 69)).heap[Z.heap.size]? =some (.cells #[] 69):=(bal _ _ _ (by have:=s1.out;omega)).trans b1
     have s2:Hid ((V1.alloc (.cells #[.int .i64 ok,.int .i64 on,.int .i64 ov,.slice ro ors.length rc,.slice fo ofs.length fc] 69)).heap.size=V1.heap.size+1):=by show _=_;simp
     generalize V1.alloc (.cells #[.int .i64 ok,.int .i64 on,.int .i64 ov,.slice ro ors.length rc,.slice fo ofs.length fc] 69)=V2 at E2 c2 b2 s2
     refine lon 15 (fun K hK=>?_)
     refine q0r (v:=v) (n:=os.length) (xs:=xs) V2 rfl (.tmp 23) (.tmp 31) 66 rfl 69 i0 _ 5 72 underlying66 hi0 hz00 hz01 hz02 rfl (by decide) b2 rfl rfl (HRZ.out _ E2) HXO.out (by unfold maxLen;omega) (by omega) ?_
     intro ao2 cap2 V3 hr3 hg3 ho3
     have E3:Ext Z V3:=Below.grown E2 hg3 E2.size (fun k hk=>by cases hk;have:=s1.out;omega)
     refine hK _ _ (fun _=>HSX.out _ E3) ?_
     clear hK K
     have hown:∀k,(Value.slice ao2 os.length cap2).ownBlock=some k->Z.heap.size<=k:=ho3
     have c3:V3.heap[V1.heap.size]? =some (.cells #[.int .i64 ok,.int .i64 on,.int .i64 ov,.slice ro ors.length rc,.slice fo ofs.length fc] 69):=(hg3.block _ (by have:=s1.out;have:=s2.out;omega) (by have:=s1.out;have:=s2.out;simp;omega)).trans c2
     refine lon 19 (fun K hK=>?_)
     refine Q4 V3 rfl (.tmp 32) (.tmp 35) 66 rfl 69 i0 _ 5 72 underlying66 hi0 hz00 hz01 hz02 rfl (by decide) (.slice ao2 os.length cap2) os.length xs rfl hr3 ⟨V1.heap.size,0,none⟩ 1 [.int .i64 ok,.int .i64 on,.int .i64 ov,.slice ro ors.length rc,.slice fo ofs.length fc] rfl rfl (q1g c3) (one5 ok on ov ro fo ors.length rc ofs.length fc) (by unfold maxLen;omega) (by omega) ?_
    rotate_left
    all_goals(
     intro g off cap w5 hr5 hg5 hat5
     have E5:Ext Z w5:=Below.grown E3 hg5 E3.size (fun k hk=>hown k hk)
     have hgw:Z.heap.size<=g:=by
      rcases hat5 with e | e
      ·exact hown g e
      ·rw[e];exact E3.size
     have HN:=Qa (HFN.out w5 g off cap E5 hgw hr5)
     obtain⟨_,_,_,_,_,_,_,_,co5⟩:=HSX.out w5 E5
     obtain⟨fo5,lo5⟩:=HFZ.out w5 E5
     refine hK _ _ (fun _=>HSX.out _ E5) ?_
     clear hK K Qe HFN hown hat5 hg5 hr5 HRZ HXO
     have hS5:=HSX.out w5 E5
     refine ltk 20 hS5 ?_
     clear hS5
     refine lon 21 (fun K hK=>?_)
     go_simp
     refine hK _ _ (fun h=>absurd rfl h) ?_
     clear hK K co5 fo5
     refine ldn ?_
     go_wp2
     exact⟨⟨k+1,by omega,by go_num,HN.out⟩,by simp[intOf];omega⟩)
   ·go_simp
    refine hK _ _ (fun _=>HSX.out _ ((Ext.refl Z).alloc _).drew) ?_
    clear hK K
    have E1:Ext Z (Z.alloc (.cells #[.int .i64 ok,.int .i64 on,.int .i64 ov,.slice ro ors.length rc,.slice fo ofs.length fc] 69)).drew:=((Ext.refl Z).alloc _).drew
    have c1:(Z.alloc (.cells #[.int .i64 ok,.int .i64 on,.int .i64 ov,.slice ro ors.length rc,.slice fo ofs.length fc] 69)).drew.heap[Z.heap.size]? =some (.cells #[.int .i64 ok,.int .i64 on,.int .i64 ov,.slice ro ors.length rc,.slice fo ofs.length fc] 69):=Q7 rfl
    have s1:Hid ((Z.alloc (.cells #[.int .i64 ok,.int .i64 on,.int .i64 ov,.slice ro ors.length rc,.slice fo ofs.length fc] 69)).drew.heap.size=Z.heap.size+1):=by show _=_;simp
    generalize (Z.alloc (.cells #[.int .i64 ok,.int .i64 on,.int .i64 ov,.slice ro ors.length rc,.slice fo ofs.length fc] 69)).drew=V1 at E1 c1 s1
    refine lon 6 (fun K hK=>?_)
    go_simp
    refine hK _ _ (fun _=>HSX.out _ (E1.alloc _)) ?_
    clear hK K
    have E2:Ext Z (V1.alloc (.cells #[] 69)):=E1.alloc _
    have b2:(V1.alloc (.cells #[] 69)).heap[V1.heap.size]? =some (.cells #[] 69):=Q7 rfl
    have c2:(V1.alloc (.cells #[] 69)).heap[Z.heap.size]? =some (.cells #[.int .i64 ok,.int .i64 on,.int .i64 ov,.slice ro ors.length rc,.slice fo ofs.length fc] 69):=(bal _ _ _ (by have:=s1.out;omega)).trans c1
    have s2:Hid ((V1.alloc (.cells #[] 69)).heap.size=V1.heap.size+1):=by show _=_;simp
    generalize V1.alloc (.cells #[] 69)=V2 at E2 b2 c2 s2
    refine lon 15 (fun K hK=>?_)
    refine q0r (v:=v) (n:=os.length) (xs:=xs) V2 rfl (.tmp 23) (.tmp 31) 66 rfl 69 i0 _ 5 72 underlying66 hi0 hz00 hz01 hz02 rfl (by decide) b2 rfl rfl (HRZ.out _ E2) HXO.out (by unfold maxLen;omega) (by omega) ?_
    intro ao2 cap2 V3 hr3 hg3 ho3
    have E3:Ext Z V3:=Below.grown E2 hg3 E2.size (fun k hk=>by cases hk;have:=s1.out;omega)
    refine hK _ _ (fun _=>HSX.out _ E3) ?_
    clear hK K
    have hown:∀k,(Value.slice ao2 os.length cap2).ownBlock=some k->Z.heap.size<=k:=fun k hk=>ltr (by have:=s1.out;omega) (ho3 k hk)
    have c3:V3.heap[Z.heap.size]? =some (.cells #[.int .i64 ok,.int .i64 on,.int .i64 ov,.slice ro ors.length rc,.slice fo ofs.length fc] 69):=(hg3.block _ (by have:=s1.out;have:=s2.out;omega) (by have:=s1.out;have:=s2.out;simp;omega)).trans c2
    refine lon 19 (fun K hK=>?_)
    refine Q4 V3 rfl (.tmp 32) (.tmp 35) 66 rfl 69 i0 _ 5 72 underlying66 hi0 hz00 hz01 hz02 rfl (by decide) (.slice ao2 os.length cap2) os.length xs rfl hr3 ⟨Z.heap.size,0,none⟩ 1 [.int .i64 ok,.int .i64 on,.int .i64 ov,.slice ro ors.length rc,.slice fo ofs.length fc] rfl rfl (q1g c3) (one5 ok on ov ro fo ors.length rc ofs.length fc) (by unfold maxLen;omega) (by omega) ?_
    intro g off cap w5 hr5 hg5 hat5
    have E5:Ext Z w5:=Below.grown E3 hg5 E3.size (fun k hk=>hown k hk)
    have hgw:Z.heap.size<=g:=by
     rcases hat5 with e | e
     ·exact hown g e
     ·rw[e];exact E3.size
    have HN:=Qa (HFN.out w5 g off cap E5 hgw hr5)
    obtain⟨_,_,_,_,_,_,_,_,co5⟩:=HSX.out w5 E5
    obtain⟨fo5,lo5⟩:=HFZ.out w5 E5
    refine hK _ _ (fun _=>HSX.out _ E5) ?_
    clear hK K Qe HFN hown hat5 hg5 hr5 HRZ HXO
    have hS5:=HSX.out w5 E5
    refine ltk 20 hS5 ?_
    clear hS5
    refine lon 21 (fun K hK=>?_)
    go_simp
    refine hK _ _ (fun h=>absurd rfl h) ?_
    clear hK K co5 fo5
    refine ldn ?_
    go_wp2
    exact⟨⟨k+1,by omega,by go_num,HN.out⟩,by simp[intOf];omega⟩
  ·go_wp2
   go_end0
   have e:out.take k=out:=List.take_of_length_le (by omega)
   rw[e] at HI
   exact⟨rfl,HI.out⟩
end Rm
namespace Ct
open Go.RowKit Go.Deep Stw Stp Tb Rul
theorem own_keep{w w':World}{base:Nat}{e:TypeId}{size n:Nat}{v:Value}{xs:List Value}(h:w.ownsRow base e size v n xs)(hb:∀b,base<=b->b<w.heap.size->w'.heap[b]? =w.heap[b]?):w'.ownsRow base e size v n xs:=by
 refine⟨h.1,?_⟩
 rcases h.2 with h2 | ⟨g,cap,cur,h1,h2,h3,h4⟩
 ·exact Or.inl h2
 ·exact Or.inr ⟨g,cap,cur,h1,h2,(hb g h2 (asi.1 h3).1).trans h3,h4⟩
end Ct
end Go.Proofs.YthkpbefnkmmaiaaGreat
