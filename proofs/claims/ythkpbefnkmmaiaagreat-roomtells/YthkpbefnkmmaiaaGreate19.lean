import Derived.Test.YthkpbefnkmmaiaaGreate18
set_option maxHeartbeats 400000
namespace Go.Proofs.YthkpbefnkmmaiaaGreat
open Go.Proofs.Tryz
namespace Rm
open Go.RowKit Go.Deep Stw Stp Tb Rul Ct
theorem q7q{α:Type}{l:List α}{x z:α}{i:Nat}:(l++[x]).getD i z=if i<l.length then l.getD i z else if i=l.length then x else z:=by
 rw[Zt,Zt]
 by_cases h:i<l.length
 ·rw[if_pos h,List.getElem?_append_left h]
 ·rw[if_neg h,List.getElem?_append_right (by omega)]
  by_cases e:i=l.length
  ·rw[if_pos e,e,Nat.sub_self];rfl
  ·rw[if_neg e]
   obtain⟨d,hd⟩:∃d,i - l.length=d+1:=⟨i - l.length - 1,by omega⟩
   rw[hd];rfl
variable {tg:Nat->Nat} {t g off cap:Nat} {w2:World} {ns:List Int} {x:Int}
theorem Za.snoc(hr:Rw w2 3 1 (.slice (some ⟨g,off,none⟩) (ns.length+1) cap) (ns.length+1) (ns.map (Value.int .i64)++[.int .i64 x])):
 Za (fun b=>if b=g then t else tg b) t w2 (ns++[x]) (.slice (some ⟨g,off,none⟩) (ns.length+1) cap):=by
 unfold Za
 rw[lap,List.map_append]
 exact⟨hr,fun k hk=>by simp[Value.ownBlock] at hk;simp[hk]⟩
theorem Za.tail{tg:Nat->Nat}{t:Nat}{w:World}{x:Int}{ns:List Int}{g off cap:Nat}(h:Za tg t w (x::ns) (.slice (some ⟨g,off,none⟩) (ns.length+1) cap)):
 (1<cap->Za tg t w ns (.slice (some ⟨g,off+1,none⟩) ns.length (cap - 1)))/\(cap<=1->ns=[]/\cap=1/\Za tg t w ns (.slice (some ⟨g,off,none⟩) 0 0)):=by
 have ht:=h.tg g rfl
 obtain⟨h1,h2⟩:=Rw.tail (n:=ns.length) h.rw
 refine⟨fun hc=>⟨h1 hc,fun k hk=>by cases hk;exact ht⟩,fun hc=>?_⟩
 obtain⟨e,e2,h3⟩:=h2 hc
 have e':ns=[]:=List.eq_nil_of_length_eq_zero e
 subst e'
 exact⟨rfl,e2,⟨h3,fun k hk=>by cases hk;exact ht⟩⟩
variable {w:World}
theorem Za.tail1(h:Za tg t w (x::ns) (.slice (some ⟨g,off,none⟩) (ns.length+1) cap))(h0:ns.length=0):Za tg t w ns (.slice (if cap=1 then some ⟨g,off,none⟩ else some ⟨g,off+1,none⟩) 0 (cap - 1)):=by
 obtain⟨h1,h2⟩:=h.tail
 by_cases hc:1<cap
 ·have:=h1 hc
  rw[h0] at this
  rw[if_neg (by omega)];exact this
 ·obtain⟨_,e,h3⟩:=h2 (by omega)
  rw[if_pos e,e];exact h3
theorem Za.list{v:Value}(h:Za tg t w ns v):∃ao cap,v=.slice ao ns.length cap/\Qj w ao ns:=by
 obtain⟨ao,cap,hv⟩:=h.rw.form
 refine⟨ao,cap,hv,?_⟩
 by_cases h0:ns=[]
 ·exact Or.inl h0
 ·have hn:0<ns.length:=List.length_pos_iff.2 h0
  obtain⟨g,off,cap',hv',hg,_,_,hc⟩:=h.rw.cells hn
  rw[hv] at hv'
  cases hv'
  refine Or.inr ⟨g,off,rfl,hg,fun k hk=>?_⟩
  rw[hc k (by omega),List.getElem?_map,Zt,List.getElem?_eq_getElem hk]
  rfl
theorem Za.last{v:Value}(h:Za tg t w ns v)(h0:ns≠[]):∃g off cap,v=.slice (some ⟨g,off,none⟩) ns.length cap/\g<w.heap.size/\ns.length<=cap/\∀k,k<ns.length->w.cell? ⟨g,off+k,none⟩=some (.int .i64 (ns.getD k 0)):=by
 have hn:0<ns.length:=List.length_pos_iff.2 h0
 obtain⟨g,off,cap,hv,hg,hc1,_,hc⟩:=h.rw.cells hn
 refine⟨g,off,cap,hv,hg,hc1,fun k hk=>?_⟩
 rw[hc k (by omega),List.getElem?_map,Zt,List.getElem?_eq_getElem hk]
 rfl
variable {o:Wir.Od}
theorem OdAt.congr{Y:Nat->Prop}{c c':Nat->Option Value}(h:OdAt Y w o c)(e:∀j,j<5->c' j=c j):OdAt Y w o c':=by
 obtain⟨ro,rc,fo,fc,a0,a1,a2,a3,a4,a5⟩:=h
 exact⟨ro,rc,fo,fc,(e 0 (by omega)).trans a0,(e 1 (by omega)).trans a1,(e 2 (by omega)).trans a2,(e 3 (by omega)).trans a3,(e 4 (by omega)).trans a4,a5⟩
theorem OdAt.Qh{S:Nat->Prop}{tg tg':Nat->Nat}{w w':World}{o:Wir.Od}{c:Nat->Option Value}(h:OdAt (fun b=>tg b=0) w o c)(k:Qf S tg tg' w w')(h0:S 0):OdAt (fun b=>tg' b=0) w' o c:=by
 obtain⟨ro,rc,fo,fc,a0,a1,a2,a3,a4,a5⟩:=h
 exact⟨ro,rc,fo,fc,a0,a1,a2,a3,a4,a5.Qh k h0⟩
variable {ro fo:Option Addr} {xs:List Value} {fc:Nat}
theorem q1a.snoc{w1:World}{os:List Wir.Od}{rc:Nat}(hxl:xs.length=os.length*5)(hod:∀i,i<os.length->OdAt (fun b=>tg b=0) w1 (os.getD i Wir.od0) (fun j=>xs[i*5+j]?))(hst:Stb (fun b=>tg b=0) w1 (fun U=>Zl U ro o.rs/\Qj U fo o.fs))(hr:Rw w2 69 5 (.slice (some ⟨g,off,none⟩) (os.length+1) cap) (os.length+1) (xs++[.int .i64 o.k,.int .i64 o.n,.int .i64 o.v,.slice ro o.rs.length rc,.slice fo o.fs.length fc]))(k:Qf (fun x=>x≠t) tg (fun b=>if b=g then t else tg b) w1 w2)(ht:t≠0):
  q1a (fun b=>if b=g then t else tg b) t w2 (os++[o]) (.slice (some ⟨g,off,none⟩) (os.length+1) cap):=by
  refine⟨_,⟨by rw[lap];exact hr,fun k hk=>by simp[Value.ownBlock] at hk;simp[hk]⟩,fun i hi=>?_⟩
  rw[lap,List.length_singleton] at hi
  rw[q7q]
  by_cases hlt:i<os.length
  ·rw[if_pos hlt]
   exact((hod i hlt).Qh k (fun e=>ht e.symm)).congr (fun j hj=>by rw[List.getElem?_append_left (by omega)])
  ·have e:i=os.length:=by omega
   rw[if_neg hlt,if_pos e]
   refine⟨ro,rc,fo,fc,?_,?_,?_,?_,?_,hst.Qh k (fun e=>ht e.symm)⟩ <;> (subst e;dsimp only;rw[List.getElem?_append_right (by omega)];first | (rw[show os.length*5+0 - xs.length=0 by omega];rfl) | (rw[show os.length*5+1 - xs.length=1 by omega];rfl) | (rw[show os.length*5+2 - xs.length=2 by omega];rfl) | (rw[show os.length*5+3 - xs.length=3 by omega];rfl) | (rw[show os.length*5+4 - xs.length=4 by omega];rfl))
theorem q1a.tail{tg:Nat->Nat}{t:Nat}{w:World}{o:Wir.Od}{os:List Wir.Od}{g off cap:Nat}(h:q1a tg t w (o::os) (.slice (some ⟨g,off,none⟩) (os.length+1) cap)):
 (1<cap->q1a tg t w os (.slice (some ⟨g,off+5,none⟩) os.length (cap - 1)))/\(cap<=1->os=[]/\cap=1/\q1a tg t w os (.slice (some ⟨g,off,none⟩) 0 0)):=by
 obtain⟨xs,hr,hod⟩:=h
 have ht:=hr.tg g rfl
 obtain⟨h1,h2⟩:=Rw.tail (n:=os.length) hr.rw
 refine⟨fun hc=>⟨_,⟨h1 hc,fun k hk=>by cases hk;exact ht⟩,fun i hi=>?_⟩,fun hc=>?_⟩
 ·have:=hod (i+1) (by simp;omega)
  rw[List.getD_cons_succ] at this
  exact this.congr (fun j _=>by rw[List.getElem?_drop];congr 1;omega)
 ·obtain⟨e,e2,h3⟩:=h2 hc
  have e':os=[]:=List.eq_nil_of_length_eq_zero e
  subst e'
  exact⟨rfl,e2,_,⟨h3,fun k hk=>by cases hk;exact ht⟩,fun i hi=>by simp at hi⟩
theorem q1a.tail1{os:List Wir.Od}(h:q1a tg t w (o::os) (.slice (some ⟨g,off,none⟩) (os.length+1) cap))(h0:os.length=0):q1a tg t w os (.slice (if cap=1 then some ⟨g,off,none⟩ else some ⟨g,off+5,none⟩) 0 (cap - 1)):=by
 obtain⟨h1,h2⟩:=h.tail
 by_cases hc:1<cap
 ·have:=h1 hc
  rw[h0] at this
  rw[if_neg (by omega)];exact this
 ·obtain⟨_,e,h3⟩:=h2 (by omega)
  rw[if_pos e,e];exact h3
theorem q1a.first{os:List Wir.Od}{v:Value}(h:q1a tg t w (o::os) v):∃g off cap ro rc fo fc,v=.slice (some ⟨g,off,none⟩) (os.length+1) cap/\g<w.heap.size/\os.length+1<=cap/\w.cell? ⟨g,off,none⟩=some (.int .i64 o.k)/\w.cell? ⟨g,off+1,none⟩=some (.int .i64 o.n)/\w.cell? ⟨g,off+2,none⟩=some (.int .i64 o.v)/\w.cell? ⟨g,off+3,none⟩=some (.slice ro o.rs.length rc)/\w.cell? ⟨g,off+4,none⟩=some (.slice fo o.fs.length fc)/\Stb (fun b=>tg b=0) w (fun U=>Zl U ro o.rs/\Qj U fo o.fs):=by
 obtain⟨xs,hr,hod⟩:=h
 obtain⟨g,off,cap,hv,hg,hcap,_,hc⟩:=hr.rw.cells (by simp)
 obtain⟨ro,rc,fo,fc,a0,a1,a2,a3,a4,a5⟩:=hod 0 (by simp)
 have hl:(o::os).length*5=os.length*5+5:=by rw[List.length_cons];omega
 refine⟨g,off,cap,ro,rc,fo,fc,hv,hg,hcap,?_,?_,?_,?_,?_,a5⟩
 ·have:=hc 0 (by omega);rw[Nat.add_zero] at this;rw[this];exact a0
 ·rw[hc 1 (by omega)];exact a1
 ·rw[hc 2 (by omega)];exact a2
 ·rw[hc 3 (by omega)];exact a3
 ·rw[hc 4 (by omega)];exact a4
variable {s ob:Nat} {od:List (List Wir.Od)}
theorem q9i.get{n:Nat}(h:q9i tg w ob n od)(hs:s<n):∃v,w.cell? ⟨ob,s,none⟩=some v/\w.frozen? ⟨ob,s,none⟩=false/\ob<w.heap.size/\q1a tg (10+3*s) w (od.getD s []) v:=by
 obtain⟨_,f,hf,hr⟩:=h
 exact⟨f s,hf.cell hs,hf.frozen s,hf.lt,hr s hs⟩
variable {w':World} {tg':Nat->Nat} {v':Value} {os':List Wir.Od}
theorem q9i.put{n:Nat}(h:q9i tg w ob n od)(hs:s<n)(hl:od.length=n)(k:Qf (fun x=>x≠10+3*s) tg tg' w w')(hv:q1a tg' (10+3*s) w' os' v'):q9i tg' (w'.setCell ⟨ob,s,none⟩ v') ob n (od.set s os'):=by
 obtain⟨e,f,hf,hr⟩:=h
 obtain⟨e1,e2⟩:=Zf hf k (by rw[e];omega)
 have ht:=e1.trans e
 have k2:Qf (fun x=>x≠3) tg' tg' w' (w'.setCell ⟨ob,s,none⟩ v'):=Qf.set ht v'
 refine⟨ht,_,e2.set s v',fun j hj=>?_⟩
 rw[q0p (by omega)]
 by_cases ej:j=s
 ·subst ej
  rw[if_pos rfl]
  show q1a tg' _ _ _ (if j=j then v' else f j)
  rw[if_pos rfl]
  exact hv.Qh k2 (by decide) (by omega)
 ·rw[if_neg ej]
  show q1a tg' _ _ _ (if j=s then v' else f j)
  rw[if_neg ej]
  exact((hr j hj).Qh k (by omega) (by omega)).Qh k2 (by decide) (by omega)
variable {bb:Nat} {bk:List (List Int)}
theorem q9j.get{n:Nat}(h:q9j tg w bb n bk)(hs:s<n):∃v,w.cell? ⟨bb,s,none⟩=some v/\w.frozen? ⟨bb,s,none⟩=false/\bb<w.heap.size/\Za tg (11+3*s) w (bk.getD s []) v:=by
 obtain⟨_,f,hf,hr⟩:=h
 exact⟨f s,hf.cell hs,hf.frozen s,hf.lt,hr s hs⟩
variable {ns':List Int}
theorem q9j.put{n:Nat}(h:q9j tg w bb n bk)(hs:s<n)(hl:bk.length=n)(k:Qf (fun x=>x≠11+3*s) tg tg' w w')(hv:Za tg' (11+3*s) w' ns' v'):q9j tg' (w'.setCell ⟨bb,s,none⟩ v') bb n (bk.set s ns'):=by
 obtain⟨e,f,hf,hr⟩:=h
 obtain⟨e1,e2⟩:=Zf hf k (by rw[e];omega)
 have ht:=e1.trans e
 have k2:Qf (fun x=>x≠4) tg' tg' w' (w'.setCell ⟨bb,s,none⟩ v'):=Qf.set ht v'
 refine⟨ht,_,e2.set s v',fun j hj=>?_⟩
 rw[q0p (by omega)]
 by_cases ej:j=s
 ·subst ej
  rw[if_pos rfl]
  show Za tg' _ _ _ (if j=j then v' else f j)
  rw[if_pos rfl]
  exact hv.Qh k2 (by omega)
 ·rw[if_neg ej]
  show Za tg' _ _ _ (if j=s then v' else f j)
  rw[if_neg ej]
  exact((hr j hj).Qh k (by omega)).Qh k2 (by omega)
variable {sb:Nat} {sw:List Agt.Sw}
theorem z2u.get{n:Nat}(h:z2u tg w sb n sw)(hs:s<n):∃ro rc so sc,w.cell? ⟨sb,s*2,none⟩=some (.slice ro (sw.getD s Agt.Zq).rs.length rc)/\w.cell? ⟨sb,s*2+1,none⟩=some (.slice so (sw.getD s Agt.Zq).st.length sc)/\(∀i,w.frozen? ⟨sb,i,none⟩=false)/\sb<w.heap.size/\Stb (fun b=>tg b=0) w (fun U=>Ag.Zn U (sw.getD s Agt.Zq) ro so rc):=by
 obtain⟨_,f,hf,hr⟩:=h
 obtain⟨ro,rc,so,sc,a1,a2,a3⟩:=hr s hs
 exact⟨ro,rc,so,sc,by rw[<-a1];exact hf.cell (by omega),by rw[<-a2];exact hf.cell (by omega),hf.frozen,hf.lt,a3⟩
variable {so:Option Addr}
theorem z2u.put{n:Nat}{x:Agt.Sw}{rc sc:Nat}(h:z2u tg w sb n sw)(hs:s<n)(hl:sw.length=n)(hx:Stb (fun b=>tg b=0) w (fun U=>Ag.Zn U x ro so rc)):
 z2u tg ((w.setCell ⟨sb,s*2,none⟩ (.slice ro x.rs.length rc)).setCell ⟨sb,s*2+1,none⟩ (.slice so x.st.length sc)) sb n (sw.set s x):=by
 obtain⟨e,f,hf,hr⟩:=h
 have k2:Qf (fun x=>x≠2) tg tg w ((w.setCell ⟨sb,s*2,none⟩ (.slice ro x.rs.length rc)).setCell ⟨sb,s*2+1,none⟩ (.slice so x.st.length sc)):=(Qf.set e _).trans (Qf.set e _)
 refine⟨e,_,(hf.set (s*2) _).set (s*2+1) _,fun j hj=>?_⟩
 rw[q0p (by omega)]
 by_cases ej:j=s
 ·subst ej
  have e':(if j=j then x else sw.getD j Agt.Zq)=x:=if_pos rfl
  rw[e']
  exact⟨ro,rc,so,sc,by rw[if_neg (by omega),if_pos rfl],by rw[if_pos rfl],hx.Qh k2 (by decide)⟩
 ·rw[if_neg ej]
  obtain⟨r',rc',s',sc',a1,a2,a3⟩:=hr j hj
  exact⟨r',rc',s',sc',by rw[if_neg (by omega),if_neg (by omega)];exact a1,by rw[if_neg (by omega),if_neg (by omega)];exact a2,a3.Qh k2 (by decide)⟩
variable {w0:World}
theorem q1f{b o:Nat}(h:Ext w0 w)(hb:∀b,tg b≠0->w0.heap.size<=b)(ht:tg b≠0)(u:Value):Ext w0 (w.setCell ⟨b,o,none⟩ u):=h.setCell (by simpa using hb b ht) u
theorem q3q{row:Option Nat}(h:Ext w0 w)(hb:∀b,tg b≠0->w0.heap.size<=b)(hg:w.grownBy w' row)(ht:∀k,row=some k->tg k≠0):Ext w0 w':=Below.grown h hg h.size (fun k hk=>hb k (ht k hk))
variable {tl:List Value} {P:Nat} {W:Wd} {a:CA} {kv lv:Value}
theorem Q0.setOrs{T:TypeId}{n:Nat}{od':List (List Wir.Od)}(h:Q0 T tl w0 P n tg w W a sb ob bb kv lv)(k:Qf (fun x=>x≠3/\x≠10+3*s) tg tg' w w')(ho:q9i tg' w' ob n od')(hn:∀b,w'.heap.size<=b->tg' b=0)(hb:∀b,tg' b≠0->w0.heap.size<=b)(hE:Ext w0 w'):
 Q0 T tl w0 P n tg' w' ⟨W.co,W.sw,od',W.bk,W.pk,W.pn⟩ a sb ob bb kv lv/\Zv tg tg' w w':=by
 obtain⟨e1,e2⟩:=Zf h.row k (by rw[h.tP];omega)
 exact⟨⟨e2,h.co.Qh k (by omega),h.sws.Qh k (by omega) (by omega),ho,h.bks.Qh k (by omega) (fun j=>by omega),h.pks.Qh k (by omega) (fun j=>by omega),h.pls.Qh k (by omega) (by omega),e1.trans h.tP,hn,hb,hE⟩,k.mono (fun x hx=>by omega)⟩
theorem Q0.setBks{T:TypeId}{n:Nat}{bk':List (List Int)}(h:Q0 T tl w0 P n tg w W a sb ob bb kv lv)(k:Qf (fun x=>x≠4/\x≠11+3*s) tg tg' w w')(ho:q9j tg' w' bb n bk')(hn:∀b,w'.heap.size<=b->tg' b=0)(hb:∀b,tg' b≠0->w0.heap.size<=b)(hE:Ext w0 w'):
 Q0 T tl w0 P n tg' w' ⟨W.co,W.sw,W.od,bk',W.pk,W.pn⟩ a sb ob bb kv lv/\Zv tg tg' w w':=by
 obtain⟨e1,e2⟩:=Zf h.row k (by rw[h.tP];omega)
 exact⟨⟨e2,h.co.Qh k (by omega),h.sws.Qh k (by omega) (by omega),h.ors.Qh k (by omega) (by omega) (fun j=>by omega),ho,h.pks.Qh k (by omega) (fun j=>by omega),h.pls.Qh k (by omega) (by omega),e1.trans h.tP,hn,hb,hE⟩,k.mono (fun x hx=>by omega)⟩
theorem Q0.setSws{T:TypeId}{n:Nat}{x:Agt.Sw}{rc sc:Nat}(h:Q0 T tl w0 P n tg w W a sb ob bb kv lv)(hs:s<n)(hl:W.sw.length=n)(hx:Stb (fun b=>tg b=0) w (fun U=>Ag.Zn U x ro so rc)):
 Q0 T tl w0 P n tg ((w.setCell ⟨sb,s*2,none⟩ (.slice ro x.rs.length rc)).setCell ⟨sb,s*2+1,none⟩ (.slice so x.st.length sc)) ⟨W.co,W.sw.set s x,W.od,W.bk,W.pk,W.pn⟩ a sb ob bb kv lv/\Zv tg tg w ((w.setCell ⟨sb,s*2,none⟩ (.slice ro x.rs.length rc)).setCell ⟨sb,s*2+1,none⟩ (.slice so x.st.length sc)):=by
 have e:=h.sws.1
 have k:Qf (fun x=>x≠2) tg tg w ((w.setCell ⟨sb,s*2,none⟩ (.slice ro x.rs.length rc)).setCell ⟨sb,s*2+1,none⟩ (.slice so x.st.length sc)):=(Qf.set e _).trans (Qf.set e _)
 obtain⟨e1,e2⟩:=Zf h.row k (by rw[h.tP];omega)
 exact⟨⟨e2,h.co.Qh k (by omega),h.sws.put hs hl hx,h.ors.Qh k (by omega) (by omega) (fun j=>by omega),h.bks.Qh k (by omega) (fun j=>by omega),h.pks.Qh k (by omega) (fun j=>by omega),h.pls.Qh k (by omega) (by omega),h.tP,fun b hb=>h.nw b (by simpa using hb),h.base,q1f (q1f h.ext h.base (by rw[e];decide) _) h.base (by rw[e];decide) _⟩,k.mono (fun x hx=>by omega)⟩
theorem Q0.pushO{T:TypeId}{n:Nat}{v:Value}{rc:Nat}(h:Q0 T tl w0 P n tg w W a sb ob bb kv lv)(hs:s<n)(hl:W.od.length=n)(hv:RwT tg (10+3*s) w 69 5 v (W.od.getD s []).length xs)(hod:∀i,i<(W.od.getD s []).length->OdAt (fun b=>tg b=0) w ((W.od.getD s []).getD i Wir.od0) (fun j=>xs[i*5+j]?))(hst:Stb (fun b=>tg b=0) w (fun U=>Zl U ro o.rs/\Qj U fo o.fs))(hr:Rw w2 69 5 (.slice (some ⟨g,off,none⟩) ((W.od.getD s []).length+1) cap) ((W.od.getD s []).length+1) (xs++[.int .i64 o.k,.int .i64 o.n,.int .i64 o.v,.slice ro o.rs.length rc,.slice fo o.fs.length fc]))(hg:w.grownBy w2 v.ownBlock)(Q2:v.ownBlock=some g\/g=w.heap.size):
  Q0 T tl w0 P n (fun b=>if b=g then 10+3*s else tg b) (w2.setCell ⟨ob,s,none⟩ (.slice (some ⟨g,off,none⟩) ((W.od.getD s []).length+1) cap)) ⟨W.co,W.sw,W.od.set s (W.od.getD s []++[o]),W.bk,W.pk,W.pn⟩ a sb ob bb kv lv/\Zv tg (fun b=>if b=g then 10+3*s else tg b) w (w2.setCell ⟨ob,s,none⟩ (.slice (some ⟨g,off,none⟩) ((W.od.getD s []).length+1) cap)):=by
  have k:=Qf.push (tg:=tg) (t:=10+3*s) hv.tg hg Q2
  have hrow:=q1a.snoc hv.rw.len hod hst hr k (by omega)
  have hors:=h.ors.put hs hl k hrow
  have e3:=hors.1
  have k2:Qf (fun x=>x≠3) (fun b=>if b=g then 10+3*s else tg b) (fun b=>if b=g then 10+3*s else tg b) w2 (w2.setCell ⟨ob,s,none⟩ (.slice (some ⟨g,off,none⟩) ((W.od.getD s []).length+1) cap)):=Qf.set (tg:=fun b=>if b=g then _ else tg b) e3 _
  have hgl:g<w2.heap.size:=hr.lt g rfl
  have hb:∀b,(if b=g then 10+3*s else tg b)≠0->w0.heap.size<=b:=fun b hb=>by
   by_cases e:b=g
   ·subst e
    rcases Q2 with h1 | h1
    ·exact h.base b (by rw[hv.tg b h1];omega)
    ·rw[h1];exact h.ext.size
   ·rw[if_neg e] at hb;exact h.base b hb
  refine h.setOrs (s:=s) ((k.mono (fun x hx=>hx.2)).trans (k2.mono (fun x hx=>hx.1))) hors (fun b hb'=>?_) hb ?_
  ·have hb'':w2.heap.size<=b:=by simpa using hb'
   show(if b=g then _ else tg b)=0
   rw[if_neg (by omega)]
   exact h.nw b (ltr hg.size hb'')
  ·exact q1f (q3q h.ext h.base hg (fun j hj=>by rw[hv.tg j hj];omega)) hb (tg:=fun b=>if b=g then 10+3*s else tg b) (by show(if ob=g then _ else tg ob)≠0;have e4:(if ob=g then 10+3*s else tg ob)=3:=e3;rw[e4];decide) _
theorem Q0.cutO{T:TypeId}{n:Nat}(h:Q0 T tl w0 P n tg w W a sb ob bb kv lv)(hs:s<n)(hl:W.od.length=n)(hv:q1a tg (10+3*s) w os' v'):
 Q0 T tl w0 P n tg (w.setCell ⟨ob,s,none⟩ v') ⟨W.co,W.sw,W.od.set s os',W.bk,W.pk,W.pn⟩ a sb ob bb kv lv/\Zv tg tg w (w.setCell ⟨ob,s,none⟩ v'):=by
 have e3:=h.ors.1
 exact h.setOrs (s:=s) ((Qf.set e3 v').mono (fun x hx=>hx.1)) (h.ors.put hs hl (Qf.refl _ _ _) hv) (fun b hb=>h.nw b (by simpa using hb)) h.base (q1f h.ext h.base (by rw[e3];decide) _)
theorem Q0.cutB{T:TypeId}{n:Nat}(h:Q0 T tl w0 P n tg w W a sb ob bb kv lv)(hs:s<n)(hl:W.bk.length=n)(hv:Za tg (11+3*s) w ns' v'):
 Q0 T tl w0 P n tg (w.setCell ⟨bb,s,none⟩ v') ⟨W.co,W.sw,W.od,W.bk.set s ns',W.pk,W.pn⟩ a sb ob bb kv lv/\Zv tg tg w (w.setCell ⟨bb,s,none⟩ v'):=by
 have e3:=h.bks.1
 exact h.setBks (s:=s) ((Qf.set e3 v').mono (fun x hx=>hx.1)) (h.bks.put hs hl (Qf.refl _ _ _) hv) (fun b hb=>h.nw b (by simpa using hb)) h.base (q1f h.ext h.base (by rw[e3];decide) _)
theorem Q0.pushB{T:TypeId}{n:Nat}{v:Value}(h:Q0 T tl w0 P n tg w W a sb ob bb kv lv)(hs:s<n)(hl:W.bk.length=n)(hv:Za tg (11+3*s) w (W.bk.getD s []) v)(hr:Rw w2 3 1 (.slice (some ⟨g,off,none⟩) ((W.bk.getD s []).length+1) cap) ((W.bk.getD s []).length+1) ((W.bk.getD s []).map (Value.int .i64)++[.int .i64 x]))(hg:w.grownBy w2 v.ownBlock)(Q2:v.ownBlock=some g\/g=w.heap.size):
  Q0 T tl w0 P n (fun b=>if b=g then 11+3*s else tg b) (w2.setCell ⟨bb,s,none⟩ (.slice (some ⟨g,off,none⟩) ((W.bk.getD s []).length+1) cap)) ⟨W.co,W.sw,W.od,W.bk.set s (W.bk.getD s []++[x]),W.pk,W.pn⟩ a sb ob bb kv lv/\Zv tg (fun b=>if b=g then 11+3*s else tg b) w (w2.setCell ⟨bb,s,none⟩ (.slice (some ⟨g,off,none⟩) ((W.bk.getD s []).length+1) cap)):=by
  have k:=Qf.push (tg:=tg) (t:=11+3*s) hv.tg hg Q2
  have hrow:=Za.snoc (tg:=tg) (t:=11+3*s) hr
  have hors:=h.bks.put hs hl k hrow
  have e3:=hors.1
  have k2:Qf (fun x=>x≠4) (fun b=>if b=g then 11+3*s else tg b) (fun b=>if b=g then 11+3*s else tg b) w2 (w2.setCell ⟨bb,s,none⟩ (.slice (some ⟨g,off,none⟩) ((W.bk.getD s []).length+1) cap)):=Qf.set (tg:=fun b=>if b=g then _ else tg b) e3 _
  have hgl:g<w2.heap.size:=hr.lt g rfl
  have hb:∀b,(if b=g then 11+3*s else tg b)≠0->w0.heap.size<=b:=fun b hb=>by
   by_cases e:b=g
   ·subst e
    rcases Q2 with h1 | h1
    ·exact h.base b (by rw[hv.tg b h1];omega)
    ·rw[h1];exact h.ext.size
   ·rw[if_neg e] at hb;exact h.base b hb
  refine h.setBks (s:=s) ((k.mono (fun x hx=>hx.2)).trans (k2.mono (fun x hx=>hx.1))) hors (fun b hb'=>?_) hb ?_
  ·have hb'':w2.heap.size<=b:=by simpa using hb'
   show(if b=g then _ else tg b)=0
   rw[if_neg (by omega)]
   exact h.nw b (ltr hg.size hb'')
  ·exact q1f (q3q h.ext h.base hg (fun j hj=>by rw[hv.tg j hj];omega)) hb (tg:=fun b=>if b=g then 11+3*s else tg b) (by show(if bb=g then _ else tg bb)≠0;have e4:(if bb=g then 11+3*s else tg bb)=4:=e3;rw[e4];decide) _
theorem isAnyO_out(ob n:Nat)(s:Int)(w:World)(h:¬(0<=s/\s<(n:Int))):
 Calls prog 43 #[.slice (some ⟨ob,0,none⟩) n n,.int .i64 s] w fun e w'=>e=.returned (.bool false)/\w'=w:=by
 by_cases h0:0<=s
 ·have h1:¬s<(n:Int):=fun e=>h ⟨h0,e⟩
  have b0:decide (0<=s)=true:=by simpa using h0
  have b1:decide (s<(n:Int))=false:=by simpa using h1
  clear h
  go_enter func43,ntmps43
  go_wp2
  go_ret
  exact⟨rfl,rfl⟩
 ·have b0:decide (0<=s)=false:=by simpa using h0
  clear h
  go_enter func43,ntmps43
  go_wp2
  go_ret
  exact⟨rfl,rfl⟩
theorem z4r(ob n k len cap:Nat)(ao:Option Addr)(w:World)(hk:k<n)(hc:w.cell? ⟨ob,k,none⟩=some (.slice ao len cap)):
 Calls prog 43 #[.slice (some ⟨ob,0,none⟩) n n,.int .i64 k] w fun e w'=>e=.returned (.bool (decide (0<len)))/\w'=w:=by
 have h0:(0:Int)<=(k:Int):=by omega
 have h1:(k:Int)<(n:Int):=by omega
 have b0:decide ((0:Int)<=(k:Int))=true:=dtt h0
 have b1:decide ((k:Int)<(n:Int))=true:=by simpa using h1
 go_enter func43,ntmps43
 go_wp2
 go_ret
 exact⟨rfl,rfl⟩
theorem isAnyB_out(ob n:Nat)(s:Int)(w:World)(h:¬(0<=s/\s<(n:Int))):
 Calls prog 45 #[.slice (some ⟨ob,0,none⟩) n n,.int .i64 s] w fun e w'=>e=.returned (.bool false)/\w'=w:=by
 by_cases h0:0<=s
 ·have h1:¬s<(n:Int):=fun e=>h ⟨h0,e⟩
  have b0:decide (0<=s)=true:=by simpa using h0
  have b1:decide (s<(n:Int))=false:=by simpa using h1
  clear h
  go_enter func45,ntmps45
  go_wp2
  go_ret
  exact⟨rfl,rfl⟩
 ·have b0:decide (0<=s)=false:=by simpa using h0
  clear h
  go_enter func45,ntmps45
  go_wp2
  go_ret
  exact⟨rfl,rfl⟩
theorem z4s(ob n k len cap:Nat)(ao:Option Addr)(w:World)(hk:k<n)(hc:w.cell? ⟨ob,k,none⟩=some (.slice ao len cap)):
 Calls prog 45 #[.slice (some ⟨ob,0,none⟩) n n,.int .i64 k] w fun e w'=>e=.returned (.bool (decide (0<len)))/\w'=w:=by
 have h0:(0:Int)<=(k:Int):=by omega
 have h1:(k:Int)<(n:Int):=by omega
 have b0:decide ((0:Int)<=(k:Int))=true:=dtt h0
 have b1:decide ((k:Int)<(n:Int))=true:=by simpa using h1
 go_enter func45,ntmps45
 go_wp2
 go_ret
 exact⟨rfl,rfl⟩
end Rm
end Go.Proofs.YthkpbefnkmmaiaaGreat
namespace Go.Last
section
variable {P:Program} {ops:Array Oper} {Q:Exit->Act->World->Prop} {md:Region.Mode} {S:World->Prop} {m:Nat}
def LH (P:Program) (md:Region.Mode) (ops:Array Oper) (Q:Exit->Act->World->Prop) (S:World->Prop) (m:Nat):Nat->Array Bool->Act->World->Prop
 | 0,l,a,w=>Region.ready md ops l=[]/\Q .normal a w
 | n+1,l,a,w=>(Region.ready md ops l=[]->Q .normal a w)/\∀i∈Region.ready md ops l,
  wpOp P ops Q i (fun a' w'=>(i≠m->S w')/\LH P md ops Q S m n (l.setIfInBounds i true) a' w') a w
theorem LH.any:∀(n:Nat) (l:Array Bool) (a:Act) (w:World),LH P md ops Q S m n l a w->wpAny P md ops Q n l a w
 | 0,_,_,_,h=>h
 | n+1,_,_,_,h=>⟨h.1,fun i hi=>wpOp_mono (fun a' w' h'=>LH.any n _ a' w' h'.2) (h.2 i hi)⟩
def waits (md:Region.Mode) (ops:Array Oper) (m i:Nat):Bool:=match ops[m]? with
 | some o=>o.after.any (fun e=>Region.binds md e && e.on == i)
 | none=>false
theorem waits_spec{i:Nat}(h:waits md ops m i=true):∃o,ops[m]? =some o/\∃e∈o.after,Region.binds md e=true/\e.on=i:=by
 unfold waits at h
 split at h
 ·rename_i o ho
  rw[Array.any_eq_true'] at h
  obtain⟨e,he,hb⟩:=h
  simp only[Bool.and_eq_true,beq_iff_eq] at hb
  exact⟨o,ho,e,he,hb.1,hb.2⟩
 ·cases h
theorem unlisted{i:Nat}{l:Array Bool}(hr:i∈Region.ready md ops l)(h1:l.getD i false=true):False:=by
 have h0:=(mem_ready.1 hr).1
 by_cases hil:i<l.size
 ·rw[Array.getD_eq_getD_getElem?,Array.getElem?_eq_getElem hil] at h0 h1
  simp only[Option.getD_some] at h0 h1
  rw[h0] at h1;cases h1
 ·rw[Array.getD_eq_getD_getElem?,Array.getElem?_eq_none (by omega)] at h1
  cases h1
theorem LH.first{i:Nat}{oi:Oper}{v:Value}(hi:ops[i]? =some oi)(hsel:∀(j:Nat) (o:Oper) cs b,ops[j]? =some o->o.op≠.select cs b)(hm:waits md ops m i=true)(hQ:∀c a w,Q (.panic c) (a.put oi.dst v) w->Q (.panic c) a w):∀(n:Nat) (l:Array Bool) (a:Act) (w:World),
 (∀j oj,ops[j]? =some oj->j≠i->l.getD j true=false->(∀e∈oj.after,Region.binds md e=true->e.on≠i)->oi.apart ops oj=true)->
 i∈Region.ready md ops l->YieldsIf P ops S oi v a->S w->LH P md ops Q S m n (l.setIfInBounds i true) (a.put oi.dst v) w->LH P md ops Q S m (n+1) l a w:=by
 intro n
 induction n with
 | zero=>
  intro l a w _ hr hy hS H
  refine⟨fun h=>absurd hr (by rw[h];exact List.not_mem_nil),fun j hj=>?_⟩
  by_cases he:j=i
  ·subst he
   exact hy.wpOp hi hS ⟨fun _=>hS,H⟩
  ·exact absurd (ready_mono hj he) (by rw[H.1];exact List.not_mem_nil)
 | succ n ih=>
  intro l a w hfree hr hy hS H
  refine⟨fun h=>absurd hr (by rw[h];exact List.not_mem_nil),fun j hj=>?_⟩
  by_cases he:j=i
  ·subst he
   exact hy.wpOp hi hS ⟨fun _=>hS,H⟩
  ·obtain⟨hjl,oj,hoj,hall⟩:=mem_ready.1 hj
   have hno:∀e∈oj.after,Region.binds md e=true->e.on≠i:=fun e he hb heq=>unlisted hr (by rw[<-heq];exact hall e he hb)
   have hjm:j≠m:=fun hjm=>by
    obtain⟨o,ho,e,he,hb,heq⟩:=waits_spec hm
    rw[<-hjm,hoj] at ho
    cases ho
    exact hno e he hb heq
   have h2:=wpOp_putIf hoj (hfree j oj hoj he hjl hno) (fun cs b=>hsel i oi cs b hi) (fun cs b=>hsel j oj cs b hoj) hQ hy (H.2 j (ready_mono hj he))
   refine wpOp_mono (fun a' w' h3=>?_) h2
   obtain⟨hy',hS',hL⟩:=h3
   have hc:(l.setIfInBounds i true).setIfInBounds j true=(l.setIfInBounds j true).setIfInBounds i true:=Array.setIfInBounds_comm _ _ (Ne.symm he)
   rw[hc] at hL
   refine⟨fun _=>hS' hjm,ih _ a' w' (fun k ok hk hki hun hn=>hfree k ok hk hki ?_ hn) (ready_mono hr (Ne.symm he)) hy' (hS' hjm) hL⟩
   by_cases hjk:j=k
   ·subst hjk;exact hjl
   ·rw[getD_set_ne true hjk] at hun;exact hun
theorem LH.take{i:Nat}{oi:Oper}{v:Value}{n:Nat}{l:Array Bool}{a:Act}{w:World}(hi:ops[i]? =some oi)(hs:Region.noSelect ops=true)(hf:Region.free md ops l i=true)(hr:(Region.ready md ops l).contains i=true)(hm:waits md ops m i=true)(hQ:∀c a w,Q (.panic c) (a.put oi.dst v) w->Q (.panic c) a w)(hw:Region.wanted oi (yielded ops a.tmps)=true)(hy:∀w,S w->(execOp a.eval oi).run P w=.ok (.value v) w)(hS:S w)(h:LH P md ops Q S m n (l.setIfInBounds i true) (a.put oi.dst v) w):LH P md ops Q S m (n+1) l a w:=
 LH.first hi (Region.noSelect_spec hs) hm hQ n l a w (Region.free_spec hi hf) (by simpa using hr) (Or.inl ⟨hw,hy⟩) hS h
theorem LH.one{i:Nat}{oi:Oper}{n:Nat}{l:Array Bool}{a:Act}{w:World}(hr:Region.ready md ops l=[i])(hi:ops[i]? =some oi)(h:∀K':Act->World->Prop,(∀a' w',(i≠m->S w')->LH P md ops Q S m n (l.setIfInBounds i true) a' w'->K' a' w')->if Region.wanted oi (yielded ops a.tmps)=true then Oper.wp P oi a w K' Q else K' (a.put oi.dst undef) w):LH P md ops Q S m (n+1) l a w:=by
 refine⟨fun h0=>absurd (hr.symm.trans h0) (by simp),fun j hj=>?_⟩
 rw[hr,List.mem_singleton] at hj
 subst hj
 have:=h (fun a' w'=>(j≠m->S w')/\LH P md ops Q S m n (l.setIfInBounds j true) a' w') (fun a' w' h1 h2=>⟨h1,h2⟩)
 unfold wpOp
 simp only[hi]
 split
 ·rename_i hw;rw[if_pos hw] at this;exact Or.inl this
 ·rename_i hw;rw[if_neg hw] at this;exact this
theorem LH.done{n:Nat}{l:Array Bool}{a:Act}{w:World}(hr:Region.ready md ops l=[])(h:Q .normal a w):LH P md ops Q S m n l a w:=by
 cases n with
 | zero=>exact⟨hr,h⟩
 | succ n=>exact⟨fun _=>h,fun j hj=>absurd hj (by rw[hr];exact List.not_mem_nil)⟩
theorem LH.start{id:Nat}{a:Act}{w:World}(hp:P.follows .mixedOrders=true)(h:LH P .any ops Q S m ops.size (Array.replicate ops.size false) a w.drew):(Code.region id ops true).wp P Q a w:=
 wp_region_any hp (LH.any _ _ _ _ h)
end
end Go.Last
section
open Go Go.Last
variable {P:Program} {ops:Array Oper} {Q:Exit->Act->World->Prop} {md:Region.Mode} {S:World->Prop} {m:Nat}
theorem ltk(i:Nat){oi:Oper}{v:Value}{n:Nat}{l:Array Bool}{a:Act}{w:World}(hS:S w)(h:LH P md ops Q S m n (l.setIfInBounds i true) (a.put oi.dst v) w)(hi:ops[i]? =some oi:=by rfl)(hs:Region.noSelect ops=true:=by kernel_rfl)(hf:Region.free md ops l i=true:=by kernel_rfl)(hr:(Region.ready md ops l).contains i=true:=by kernel_rfl)(hm:waits md ops m i=true:=by kernel_rfl)(hQ:∀c a w,Q (.panic c) (a.put oi.dst v) w->Q (.panic c) a w:=by exact fun _ _ _ h=>h)(hw:Region.wanted oi (yielded ops a.tmps)=true:=by rfl)(hy:∀w,S w->(execOp a.eval oi).run P w=.ok (.value v) w:=by intro W hSW;(try dsimp only at hSW);go_simp;with_reducible rfl):LH P md ops Q S m (n+1) l a w:=
 LH.take hi hs hf hr hm hQ hw hy hS h
theorem lon(i:Nat){oi:Oper}{n:Nat}{l:Array Bool}{a:Act}{w:World}(h:∀K':Act->World->Prop,(∀a' w',(i≠m->S w')->LH P md ops Q S m n (l.setIfInBounds i true) a' w'->K' a' w')->if Region.wanted oi (yielded ops a.tmps)=true then Oper.wp P oi a w K' Q else K' (a.put oi.dst undef) w)(hr:Region.ready md ops l=[i]:=by kernel_rfl)(hi:ops[i]? =some oi:=by rfl):LH P md ops Q S m (n+1) l a w:=LH.one hr hi h
theorem ldn{n:Nat}{l:Array Bool}{a:Act}{w:World}(h:Q .normal a w)(hr:Region.ready md ops l=[]:=by kernel_rfl):LH P md ops Q S m n l a w:=LH.done hr h
end
