import Derived.Test.YthkpbefnkmmaiaaGreate32
set_option maxRecDepth 100000
set_option maxHeartbeats 4000000
namespace Go.Proofs.YthkpbefnkmmaiaaGreat
open Go.Proofs.Tryz
namespace Ct
open Go.RowKit Go.Deep Stw Stp Tb Rul
abbrev Oi (w:World) (base:Nat) (v:Value) (xs:List Int):Prop:=w.ownsRow base 3 1 v xs.length (xs.map (Value.int .i64))
structure SlI (w:World) (ao:Option Addr) (len cap:Nat) (xs:List Int):Prop where
 hlen:xs.length=len
 Q2:Qj w ao xs
 hnil:ao=none->len=0/\cap=0
theorem SlI.ext{w w':World}{ao:Option Addr}{len cap:Nat}{xs:List Int}(h:SlI w ao len cap xs)(E:Ext w w'):SlI w' ao len cap xs:=⟨h.hlen,h.Q2.ext E,h.hnil⟩
variable {w:World} {xs:List Int}
theorem SlI.news{ad:Addr}{len cap:Nat}(h:SlI w (some ad) len cap xs):∀j u,(xs.map (Value.int .i64))[j]? =some u->w.cell? (ad.add j)=some u:=fun j u hu=>by
 rcases h.Q2 with h0 | ⟨b,off,h1,h2,h3⟩
 ·rw[h0] at hu;simp at hu
 ·cases h1
  rw[List.getElem?_map] at hu
  cases hx:xs[j]? with
  | none=>rw[hx] at hu;cases hu
  | some x=>
   rw[hx] at hu
   have hj:j<xs.length:=(List.getElem?_eq_some_iff.1 hx).1
   have:=h3 j hj
   rw[Zt,hx] at this
   simp at hu
   subst hu
   have e:(⟨b,off,none⟩:Addr).add j=⟨b,off+j,none⟩:=by unfold Addr.add;split <;> simp_all
   rw[e]
   simpa using this
theorem q4a(xs:List Int):∀u∈xs.map (Value.int .i64),u.oneCell'=true:=fun u hu=>by
 obtain⟨x,_,rfl⟩:=List.mem_map.1 hu
 rfl
variable {base lb cb:Nat} {W:World} {ys:List Int} {bo:Option Addr}
theorem z8g{v:Value}(ho:Oi W base v xs)(hb:SlI W bo lb cb ys)(hbase:base<=W.heap.size)(hn:(xs.length+lb)*8<=140737488355328):
 ∃v' W',(∀ty,(Builtin.append_ #[30,30] ty #[v,.slice bo lb cb]).run prog W=.ok v' W')/\Oi W' base v' (xs++ys)/\W.grownBy W' v.ownBlock:=by
 obtain⟨i0,hi0,hz0,hz1,hz2⟩:=info_parts q8k
 cases bo with
 | none=>
  obtain⟨n1,n2⟩:=hb.hnil rfl
  have hrb:ys=[]:=List.eq_nil_of_length_eq_zero (hb.hlen.trans n1)
  rw[n1,n2]
  exact⟨v,W,fun ty=>run_append_owned_none (P:=prog) (w:=W) base 30 ty 3 i0 1 underlying30 hi0 v _ _ ho,by rw[hrb,List.append_nil];exact ho,World.grownBy.refl _ _⟩
 | some ad=>
  have hlen:=hb.hlen
  obtain⟨v',W',hr,h2,h3,_⟩:=run_append_own (P:=prog) W base 30 30 3 i0 (.int .i64 0) 1 8 underlying30 hi0 hz0 hz1 hz2 rfl (by decide) v xs.length (xs.map (Value.int .i64)) ho ad lb cb (ys.map (Value.int .i64)) (by rw[List.length_map,hlen];omega) hb.news (q4a ys) (by unfold maxLen;omega) hn hbase
  refine⟨v',W',fun ty=>hr,?_,h3⟩
  unfold Oi
  rw[List.map_append,lap,hlen]
  exact h2
theorem q0a{ops:Array Oper}{o:Oper}{a:Act}{K:Act->World->Prop}{Q:Exit->Act->World->Prop}{E:Prop}(hgd:o.guard=none)(s x:Operand)(ho:o.op=.call {callee:=.builtin .append,args:=#[s,x],argTypes:=#[30,30]}){v:Value}(hs:a.eval s=v)(hx:a.eval x=.slice bo lb cb)(hro:Oi W base v xs)(hb:SlI W bo lb cb ys)(hbase:base<=W.heap.size)(hn:(xs.length+lb)*8<=140737488355328)(h:∀v' W',Oi W' base v' (xs++ys)->W.grownBy W' v.ownBlock->K (a.put o.dst v') W'):
  if Region.wanted o (yielded ops a.tmps)=true then Oper.wp prog o a W K Q else E:=by
  have hw:Region.wanted o (yielded ops a.tmps)=true:=by simp[Region.wanted,hgd]
  rw[if_pos hw]
  obtain⟨v',W',hrun,h2,h3⟩:=z8g hro hb hbase hn
  unfold Oper.wp execOp
  simp only[ho,resolve,invoke,builtin,Sem.run_bind,Sem.run_pure,Result.andThen_ok,List.map_toArray,List.map_cons,List.map_nil,hs,hx,hrun]
  exact h v' W' h2 h3
theorem Oi.form{v:Value}(h:Oi w base v xs):∃ao c,v=.slice ao xs.length c/\Qj w ao xs/\(ao=none->c=0):=by
 rcases h.2 with⟨h1,h2⟩ | ⟨g,c,cur,hv,_⟩
 ·exact⟨none,0,by rw[h1,h2],Or.inl (List.eq_nil_of_length_eq_zero h2),fun _=>rfl⟩
 ·subst hv
  refine⟨some ⟨g,0,none⟩,c,rfl,Or.inr ⟨g,0,rfl,(h.lt g rfl).2,fun i hi=>?_⟩,fun e=>by cases e⟩
  rw[Nat.zero_add,h.cellAt i (by omega)]
  simp[hi]
variable {c:Nat}
theorem Oi.stb{ao:Option Addr}{n:Nat}(h:Oi w base (.slice ao n c) xs):Stb (fun b=>base<=b) w (fun U=>Qj U ao xs):=fun U _ hb=>by
 have hu:Oi U base (.slice ao n c) xs:=own_keep h hb
 obtain⟨ao',c',e,hl,_⟩:=Oi.form hu
 injection e with e
 rw[e];exact hl
theorem q6k{b:Nat}(hb:base<=b)(h:w.heap[b]? =some (.cells #[] 3)):Oi w base (.slice (some ⟨b,0,none⟩) 0 0) []:=
 ⟨rfl,Or.inr ⟨b,0,#[],rfl,hb,h,Ql _,Zu _,rfl,rfl⟩⟩
def Qr (P O:Nat) (tv:Value) (b:Nat):Prop:=b≠P/\b≠O/\tv.ownBlock≠some b
def Qx (Z:Nat->Prop) (P O:Nat) (tv:Value) (b:Nat):Prop:=Qr P O tv b/\Z b
structure RSt (Z:Nat->Prop) (P O:Nat) (w0 w:World) (g:Cg) (a:CA) (tv:Value) (TV:List Value):Prop where
 box:BX w P (coL g.c a)
 obx:w.rowIs O 86 1 (fun _=>tv)
 ownT:w.ownsRow w0.heap.size 88 6 tv g.out.length TV
 tP:tv.ownBlock≠some P
 tO:tv.ownBlock≠some O
 lt:LTs w (Qx Z P O tv) g.out TV
 at_:Stb (Qx Z P O tv) w (fun U=>Zr U g.c a)
 wn:a.wo=none->a.wc=0
 bel:Ext w0 w
 hP:w0.heap.size<=P
 hO:w0.heap.size<=O
 ne:P≠O
 new:∀b,w.heap.size<=b->Z b
structure RKp (P O:Nat) (w:World) (tv:Value) (w':World) (tv':Value):Prop where
 size:w.heap.size<=w'.heap.size
 block:∀b,Qr P O tv b->b<w.heap.size->Qr P O tv' b/\w'.heap[b]? =w.heap[b]?
variable {P O:Nat} {tv tv':Value} {Z:Nat->Prop} {w':World}
theorem RKp.hx(k:RKp P O w tv w' tv'):∀b,Qx Z P O tv b->b<w.heap.size->Qx Z P O tv' b/\b<w'.heap.size/\w'.heap[b]? =w.heap[b]?:=fun b hb hlt=>⟨⟨(k.block b hb.1 hlt).1,hb.2⟩,Q5 hlt k.size,(k.block b hb.1 hlt).2⟩
theorem RKp.ext(E:Ext w w'):RKp P O w tv w' tv:=⟨E.size,fun b hb hlt=>⟨hb,Below.block E b hlt⟩⟩
theorem RKp.trans{P O:Nat}{w w1 w2:World}{tv tv1 tv2:Value}(h:RKp P O w tv w1 tv1)(k:RKp P O w1 tv1 w2 tv2):RKp P O w tv w2 tv2:=
 ⟨ltr h.size k.size,fun b hb hlt=>by
  obtain⟨q1,e1⟩:=h.block b hb hlt
  obtain⟨q2,e2⟩:=k.block b q1 (Q5 hlt h.size)
  exact⟨q2,e2.trans e1⟩⟩
theorem Stb.keepQ{D:World->Prop}(h:Stb (Qx Z P O tv) w D)(k:RKp P O w tv w' tv'):Stb (Qx Z P O tv') w' D:=
 fun U hU kU=>h U (ltr k.size hU) (fun b hb hlt=>(kU b ⟨(k.block b hb.1 hlt).1,hb.2⟩ (Q5 hlt k.size)).trans (k.block b hb.1 hlt).2)
theorem RSt.ext{Z:Nat->Prop}{P O:Nat}{w0 w w':World}{g:Cg}{a:CA}{tv:Value}{TV:List Value}(h:RSt Z P O w0 w g a tv TV)(E:Ext w w'):RSt Z P O w0 w' g a tv TV:=
 ⟨World.rowIs.of_block h.box (Below.block E _ (World.rowIs.lt h.box)),h.obx.of_block (Below.block E _ h.obx.lt),q0h h.ownT E,h.tP,h.tO,h.lt.mono (RKp.ext E).hx,h.at_.ext E,h.wn,h.bel.trans E,h.hP,h.hO,h.ne,fun b hb=>h.new b (ltr E.size hb)⟩
variable {w0:World} {a:CA} {TV:List Value} {g:Cg}
theorem RSt.redo{g':Cg}{a':CA}(h:RSt Z P O w0 w g a tv TV)(hbox:BX w' P (coL g'.c a'))(hK:∀b,b≠P->b<w.heap.size->w'.heap[b]? =w.heap[b]?)(hs:w.heap.size<=w'.heap.size)(hE:Ext w0 w')(ho:g'.out=g.out)(Q2:Stb (Qx Z P O tv) w' (fun U=>Zr U g'.c a'))(hwn:a'.wo=none->a'.wc=0):RSt Z P O w0 w' g' a' tv TV/\RKp P O w tv w' tv:=by
 have hk:RKp P O w tv w' tv:=⟨hs,fun b hb hlt=>⟨hb,hK b hb.1 hlt⟩⟩
 refine⟨⟨hbox,h.obx.of_block (hK O (Ne.symm h.ne) h.obx.lt),?_,h.tP,h.tO,by rw[ho];exact h.lt.mono hk.hx,Q2,hwn,hE,h.hP,h.hO,h.ne,fun b hb=>h.new b (ltr hs hb)⟩,hk⟩
 rw[ho]
 refine⟨h.ownT.1,?_⟩
 rcases h.ownT.2 with h2 | ⟨b,cap,cur,h1,h2,h3,h4⟩
 ·exact Or.inl h2
 ·exact Or.inr ⟨b,cap,cur,h1,h2,(hK b (fun e=>h.tP (by rw[h1,e];rfl)) (asi.1 h3).1).trans h3,h4⟩
theorem RSt.pushT{g1:Nat}{rv fv:Value}{x:Nat×Wir.Od}{o:Obj}(h:RSt Z P O w0 w g a tv TV)(kr:RQ w (Qx Z P O tv) x.2.rs rv)(kf:LQ w (Qx Z P O tv) x.2.fs fv)(hown:w'.ownsRow w0.heap.size 88 6 (.slice (some ⟨g1,0,none⟩) (g.out.length+1) c) (g.out.length+1) (TV++[.int .i64 (x.1:Int),.int .i64 x.2.k,.int .i64 x.2.n,.int .i64 x.2.v,rv,fv]))(hg:(w.alloc o).grownBy w' tv.ownBlock)(Q2:tv.ownBlock=some g1\/g1=w.heap.size+1):
  w'.cell? ⟨O,0,none⟩=some tv/\w'.frozen? ⟨O,0,none⟩=false/\RSt Z P O w0 (w'.setCell ⟨O,0,none⟩ (.slice (some ⟨g1,0,none⟩) (g.out.length+1) c)) ⟨g.c,g.out++[x]⟩ a (.slice (some ⟨g1,0,none⟩) (g.out.length+1) c) (TV++[.int .i64 (x.1:Int),.int .i64 x.2.k,.int .i64 x.2.n,.int .i64 x.2.v,rv,fv])/\
  RKp P O w tv (w'.setCell ⟨O,0,none⟩ (.slice (some ⟨g1,0,none⟩) (g.out.length+1) c)) (.slice (some ⟨g1,0,none⟩) (g.out.length+1) c):=by
  have hOl:=h.obx.lt
  have hPl:=World.rowIs.lt h.box
  have hs:=hg.size
  rw[World.size_alloc] at hs
  have hneO:some O≠tv.ownBlock:=fun e=>h.tO e.symm
  have hneP:some P≠tv.ownBlock:=fun e=>h.tP e.symm
  have hbO:w'.heap[O]? =w.heap[O]?:=(hg.block O (by simp;omega) hneO).trans (bal _ _ _ hOl)
  have hr:=h.obx.of_block hbO
  have gO:g1≠O:=fun e=>by
   rcases Q2 with k | k
   ·exact h.tO (by rw[k,e])
   ·omega
  have gP:g1≠P:=fun e=>by
   rcases Q2 with k | k
   ·exact h.tP (by rw[k,e])
   ·omega
  have hK:∀b,b<w.heap.size->b≠O->tv.ownBlock≠some b->(w'.setCell ⟨O,0,none⟩ (.slice (some ⟨g1,0,none⟩) (g.out.length+1) c)).heap[b]? =w.heap[b]?:=fun b hlt hb hne=>
   (Zm _ _ _ _ (by simpa using hb)).trans ((hg.block b (by simp;omega) (fun e=>hne e.symm)).trans (bal _ _ _ hlt))
  have hk:RKp P O w tv (w'.setCell ⟨O,0,none⟩ (.slice (some ⟨g1,0,none⟩) (g.out.length+1) c)) (.slice (some ⟨g1,0,none⟩) (g.out.length+1) c):=⟨by simp;omega,fun b hb hlt=>⟨⟨hb.1,hb.2.1,fun e=>by
   have e':g1=b:=by simpa[Value.ownBlock] using e
   rcases Q2 with k | k
   ·exact hb.2.2 (by rw[k,e'])
   ·omega⟩,hK b hlt hb.2.1 hb.2.2⟩⟩
  refine⟨hr.cell (i:=0) (by omega),hr.frozen 0,⟨World.rowIs.of_block h.box (hK P hPl h.ne h.tP),(hr.set 0 _).congr (fun j hj=>by simp;intro h;omega),?_,fun e=>gP (by simpa[Value.ownBlock] using e),fun e=>gO (by simpa[Value.ownBlock] using e),LTs.snoc (kr.mono hk.hx) (kf.mono hk.hx) (h.lt.mono hk.hx),h.at_.keepQ hk,h.wn,?_,h.hP,h.hO,h.ne,fun b hb=>h.new b (by simp at hb;omega)⟩,hk⟩
  ·simp only[lap,List.length_cons,List.length_nil]
   refine⟨hown.1,?_⟩
   rcases hown.2 with⟨h1,h2⟩ | ⟨b,cap,cur,e1,e2,e3,e4⟩
   ·cases h1
   ·cases e1
    exact Or.inr ⟨g1,c,cur,rfl,e2,(Zm _ _ _ _ (by simpa using gO)).trans e3,e4⟩
  ·exact(Below.grown (h.bel.alloc o) hg (by have:=h.bel.size;simp;omega) (fun j hj=>(h.ownT.lt j hj).1)).setCell (by simpa using h.hO) _
theorem infoRT:(prog.info? 88).map (fun i=>(i.zero,i.size,i.bytes))=some (some (.agg #[.int .i64 0,.int .i64 0,.int .i64 0,.int .i64 0,.slice none 0 0,.slice none 0 0]),6,80):=by kernel_rfl
def TlOut (Z:Nat->Prop) (P O:Nat) (w0 w:World) (G:Cg) (tv:Value) (e:Ending) (w':World):Prop:=e=.returned (.tuple #[])/\∃a' tv' TV',RSt Z P O w0 w' G a' tv' TV'/\RKp P O w tv w' tv'
theorem RSt.num{Z:Nat->Prop}{P O:Nat}{w0 w:World}{st num m:Int}{now Qd:Pl}{Qg:List Int}{out:List (Nat×Wir.Od)}{a:CA}{tv:Value}{TV:List Value}(h:RSt Z P O w0 w ⟨⟨st,now,Qd,num,Qg⟩,out⟩ a tv TV)(o:Obj):
 RSt Z P O w0 ((w.setCell ⟨P,7,none⟩ (.int .i64 m)).alloc o) ⟨⟨st,now,Qd,m,Qg⟩,out⟩ a tv TV/\RKp P O w tv ((w.setCell ⟨P,7,none⟩ (.int .i64 m)).alloc o) tv:=by
 have hPl:=World.rowIs.lt h.box
 have hK:∀b,b≠P->(w.setCell ⟨P,7,none⟩ (.int .i64 m)).heap[b]? =w.heap[b]?:=fun b hb=>Zm _ _ _ _ (by simpa using hb)
 have hbx:BX (w.setCell ⟨P,7,none⟩ (.int .i64 m)) P (coL ⟨st,now,Qd,m,Qg⟩ a):=by
  have e:(coL ⟨st,now,Qd,num,Qg⟩ a).set 7 (.int .i64 m)=coL ⟨st,now,Qd,m,Qg⟩ a:=rfl
  rw[<-e]
  exact BX.set h.box (i:=7) (by simp[coL]) _
 obtain⟨h1,h2⟩:=h.redo (g':=⟨⟨st,now,Qd,m,Qg⟩,out⟩) (a':=a) (w':=w.setCell ⟨P,7,none⟩ (.int .i64 m)) hbx (fun b hb _=>hK b hb) (by simp) (h.bel.setCell (by simpa using h.hP) _) rfl ((h.at_.step (by simp) (fun b hb _=>hK b hb.1.1)).imp (fun U k=>⟨k.hn,k.hx,k.hw⟩)) h.wn
 exact⟨h1.ext ((Ext.refl _).alloc o),h2.trans (RKp.ext ((Ext.refl _).alloc o))⟩
variable {now:Pl} {Qg:List Int} {out:List (Nat×Wir.Od)}
theorem RSt.pushW{c5:Nat}{X w4:World}{st num:Int}{Qd:Pl}{L:List Int}{ao5:Option Addr}(h:RSt Z P O w0 X ⟨⟨st,now,Qd,num,Qg⟩,out⟩ a tv TV)(mk4:Ext X w4)(h4:Oi w4 X.heap.size (.slice ao5 L.length c5) L)(hn5:ao5=none->c5=0):
 RSt Z P O w0 (w4.setCell ⟨P,8,none⟩ (.slice ao5 L.length c5)) ⟨⟨st,now,Qd,num,L⟩,out⟩ ⟨a.n,a.x,ao5,c5⟩ tv TV/\RKp P O X tv (w4.setCell ⟨P,8,none⟩ (.slice ao5 L.length c5)) tv:=by
 have h':=h.ext mk4
 have hPl:=World.rowIs.lt h.box
 have hOl:=h.obx.lt
 have hs4:=mk4.size
 have hK:∀b,b≠P->(w4.setCell ⟨P,8,none⟩ (.slice ao5 L.length c5)).heap[b]? =w4.heap[b]?:=fun b hb=>Zm _ _ _ _ (by simpa using hb)
 have hbx:BX (w4.setCell ⟨P,8,none⟩ (.slice ao5 L.length c5)) P (coL ⟨st,now,Qd,num,L⟩ ⟨a.n,a.x,ao5,c5⟩):=by
  have e:(coL ⟨st,now,Qd,num,Qg⟩ a).set 8 (.slice ao5 L.length c5)=coL ⟨st,now,Qd,num,L⟩ ⟨a.n,a.x,ao5,c5⟩:=rfl
  rw[<-e]
  exact BX.set h'.box (i:=8) (by simp[coL]) _
 have hl:Stb (Qx Z P O tv) (w4.setCell ⟨P,8,none⟩ (.slice ao5 L.length c5)) (fun U=>Qj U ao5 L):=
  ((Oi.stb h4).more (Y':=Qx Z P O tv) (fun b h1 h2=>⟨⟨by omega,by omega,fun e=>by have:=(h.ownT.lt b e).2;omega⟩,h.new b h1⟩)).step (by simp) (fun b hb _=>hK b hb.1.1)
 have hc:=h'.at_.step (w':=w4.setCell ⟨P,8,none⟩ (.slice ao5 L.length c5)) (by simp) (fun b hb _=>hK b hb.1.1)
 obtain⟨h1,h2⟩:=h'.redo (g':=⟨⟨st,now,Qd,num,L⟩,out⟩) (a':=⟨a.n,a.x,ao5,c5⟩) (w':=w4.setCell ⟨P,8,none⟩ (.slice ao5 L.length c5)) hbx (fun b hb _=>hK b hb) (by simp) (h'.bel.setCell (by simpa using h.hP) _) rfl ((hc.and hl).imp (fun U k=>⟨k.1.hn,k.1.hx,k.2⟩)) hn5
 exact⟨h1,(RKp.ext mk4).trans h2⟩
theorem q4v(Z:Nat->Prop)(P O s:Nat)(ok on ov:Int)(rs:List Ru)(fs:List Int)(ro fo:Option Addr)(rl rc fl fc:Nat)(w0 w:World)(g:Cg)(a:CA)(tv:Value)(TV:List Value)(h:RSt Z P O w0 w g a tv TV)(kr:RQ w (Qx Z P O tv) rs (.slice ro rl rc))(kf:LQ w (Qx Z P O tv) fs (.slice fo fl fc))(hwl:g.c.Qg.length<=16777216)(hol:g.out.length<=100):
 Calls prog 53 #[.pointer (some ⟨P,0,none⟩),.pointer (some ⟨O,0,none⟩),.int .i64 s,.agg #[.int .i64 ok,.int .i64 on,.int .i64 ov,.slice ro rl rc,.slice fo fl fc]] w fun e w'=>TlOut Z P O w0 w ⟨⟨g.c.st,g.c.now,g.c.Qd,nx g.c.num,g.c.Qg++[nx g.c.num]⟩,g.out++[(s,⟨ok,nx g.c.num,ov,rs,fs⟩)]⟩ tv e w':=by
 obtain⟨⟨st,now,Qd,num,Qg⟩,out⟩:=g
 simp only at hwl hol ⊢
 obtain⟨m,hm⟩:∃m,nx num=m:=⟨_,rfl⟩
 rw[hm]
 have hm':IntKind.i64.wrap (num+1)=m:=hm
 have c7:w.cell? ⟨P,7,none⟩=some (.int .i64 num):=Zj h.box (i:=7) (by omega)
 have z7:=World.rowIs.frozen h.box 7
 have hPl:=World.rowIs.lt h.box
 have HR:=Qa h
 have HKR:=Qa (And.intro kr kf)
 clear h kr kf hm
 go_enter func53,ntmps53
 go_upto_region 3 with fail
 obtain⟨X,hX⟩:=Qy ((w.setCell ⟨P,7,none⟩ (.int .i64 m)).alloc (.cells #[.int .i64 ok,.int .i64 m,.int .i64 ov,.slice ro rl rc,.slice fo fl fc] 69))
 have HRX:Hid (RSt Z P O w0 X ⟨⟨st,now,Qd,m,Qg⟩,out⟩ a tv TV/\RKp P O w tv X tv):=by rw[hX];exact HR.out.num _
 have HBX:Hid (X.heap[w.heap.size]? =some (.cells #[.int .i64 ok,.int .i64 m,.int .i64 ov,.slice ro rl rc,.slice fo fl fc] 69)/\w.heap.size<X.heap.size/\Qr P O tv w.heap.size):=by
  refine⟨?_,by rw[hX];simp,by omega,by have:=HR.out.obx.lt;omega,fun e=>by have:=(HR.out.ownT.lt _ e).2;omega⟩
  rw[hX]
  have:=blk_alloc_new (w.setCell ⟨P,7,none⟩ (.int .i64 m)) (.cells #[.int .i64 ok,.int .i64 m,.int .i64 ov,.slice ro rl rc,.slice fo fl fc] 69)
  rwa [show(w.setCell ⟨P,7,none⟩ (.int .i64 m)).heap.size=w.heap.size by simp] at this
 rw[<-hX]
 clear hX c7 z7
 have HSX:Hid (∀V,Ext X V->cl V P 7 (.int .i64 m)/\cl V P 8 (.slice a.wo Qg.length a.wc)/\V.frozen? ⟨P,8,none⟩=false):=fun V hV=>by
  have q:=(HRX.out.1.ext hV).box
  exact⟨Zj q (i:=7) (by omega),Zj q (i:=8) (by omega),World.rowIs.frozen q 8⟩
 have HSL:Hid (SlI X a.wo Qg.length a.wc Qg):=by
  have hw:=HRX.out.1.at_.at.hw
  refine⟨rfl,hw,fun e=>⟨?_,HRX.out.1.wn e⟩⟩
  rcases hw with h0 | ⟨b,off,h1,_⟩
  ·simp only at h0;rw[h0];rfl
  ·rw[e] at h1;cases h1
 have hPX:P<X.heap.size:=World.rowIs.lt HRX.out.1.box
 have h0:Ext X X.drew:=(Ext.refl X).drew
 have hA:Ext X (X.alloc (.cells #[] 3)).drew:=((Ext.refl X).alloc _).drew
 have hB:Ext X (X.alloc (.cells #[.int .i64 m] 3)).drew:=((Ext.refl X).alloc _).drew
 have hAB:Ext X ((X.alloc (.cells #[] 3)).alloc (.cells #[.int .i64 m] 3)).drew:=(((Ext.refl X).alloc _).alloc _).drew
 have hBA:Ext X ((X.alloc (.cells #[.int .i64 m] 3)).alloc (.cells #[] 3)).drew:=(((Ext.refl X).alloc _).alloc _).drew
 have HFIN:Hid (∀(w4:World) (ao5:Option Addr) (c5:Nat),Ext X w4->Oi w4 X.heap.size (.slice ao5 ([]++Qg++[m]).length c5) ([]++Qg++[m])->(ao5=none->c5=0)->(∃a',RSt Z P O w0 (w4.setCell ⟨P,8,none⟩ (.slice ao5 (Qg.length+1) c5)) ⟨⟨st,now,Qd,m,Qg++[m]⟩,out⟩ a' tv TV/\RKp P O X tv (w4.setCell ⟨P,8,none⟩ (.slice ao5 (Qg.length+1) c5)) tv)/\(w4.setCell ⟨P,8,none⟩ (.slice ao5 (Qg.length+1) c5)).cell? ⟨P,7,none⟩=some (.int .i64 m)/\w4.cell? ⟨P,8,none⟩=some (.slice a.wo Qg.length a.wc)/\w4.frozen? ⟨P,8,none⟩=false):=fun w4 ao5 c5 mk4 h4 hn5=>by
  have h1:=HRX.out.1.pushW (L:=Qg++[m]) mk4 h4 hn5
  rw[show(Qg++[m]).length=Qg.length+1 by simp] at h1
  exact⟨⟨_,h1⟩,Zj h1.1.box (i:=7) (by omega),(HSX.out w4 mk4).2⟩
 obtain⟨c7,c8,z8⟩:=HSX.out X (Ext.refl X)
 go_cut [] (fun wx=>Hid (∃a',RSt Z P O w0 wx ⟨⟨st,now,Qd,m,Qg++[m]⟩,out⟩ a' tv TV/\RKp P O X tv wx tv))
 case first=>
  have roA:Hid (Oi (X.alloc (.cells #[] 3)).drew X.heap.size (.slice (some ⟨X.heap.size,0,none⟩) 0 0) []):=q6k (Ql _) (by rw[q0m];exact blk_alloc_new X _)
  have roB:Hid (Oi ((X.alloc (.cells #[] 3)).alloc (.cells #[.int .i64 m] 3)).drew X.heap.size (.slice (some ⟨X.heap.size,0,none⟩) 0 0) []):=q6k (Ql _) (by rw[q0m];exact(bal _ _ _ (by simp)).trans (blk_alloc_new X _))
  have roC:Hid (Oi ((X.alloc (.cells #[.int .i64 m] 3)).alloc (.cells #[] 3)).drew X.heap.size (.slice (some ⟨X.heap.size+1,0,none⟩) 0 0) []):=q6k (by omega) (by
   rw[q0m]
   have:=blk_alloc_new (X.alloc (.cells #[.int .i64 m] 3)) (.cells #[] 3)
   rwa [World.size_alloc] at this)
  have okOf:∀(Y:World) (b:Nat),Y.heap[b]? =some (.cells #[.int .i64 m] 3)->SlI Y (some ⟨b,0,none⟩) 1 1 [m]:=fun Y b hY=>
   ⟨rfl,Or.inr ⟨b,0,rfl,(asi.1 hY).1,fun k hk=>by
    have hk0:k=0:=by simpa using hk
    subst hk0
    simp[World.cell?,hY]⟩,fun h=>by cases h⟩
  have okNew:Hid (∀W:World,SlI (W.alloc (.cells #[.int .i64 m] 3)) (some ⟨W.heap.size,0,none⟩) 1 1 [m]):=fun W=>okOf _ _ (blk_alloc_new W _)
  have okrB:Hid (∀Y:World,((X.alloc (.cells #[] 3)).alloc (.cells #[.int .i64 m] 3)).drew.grownBy Y (some X.heap.size)->SlI Y (some ⟨X.heap.size+1,0,none⟩) 1 1 [m]):=fun Y hY=>okOf Y _ (by
   rw[hY.block (X.heap.size+1) (by simp) (by simp),q0m]
   have:=blk_alloc_new (X.alloc (.cells #[] 3)) (.cells #[.int .i64 m] 3)
   rwa [World.size_alloc] at this)
  have okrC:Hid (∀Y:World,((X.alloc (.cells #[.int .i64 m] 3)).alloc (.cells #[] 3)).drew.grownBy Y (some (X.heap.size+1))->SlI Y (some ⟨X.heap.size,0,none⟩) 1 1 [m]):=fun Y hY=>okOf Y _ (by
   rw[hY.block X.heap.size (by simp;omega) (by simp),q0m]
   exact(bal _ _ _ (by simp)).trans (blk_alloc_new X _))
  clear okOf
  go_region_law
   (first
   | (have _t:=mkB
      refine q0a (base:=X.heap.size) (xs:=[]++Qg) (ys:=[m]) rfl (.tmp 27) (.tmp 32) rfl rfl rfl ?_ ?_ ?_ ?_ ?_
      ·exact hO3
      ·exact okR3
      ·exact mk3.size
      ·first | (simp;done) | (simp;omega)
      intro v4 w4 hO4 hg4
      have mk4:Ext X w4:=Below.grown mk3 hg4 mk3.size (fun j hj=>(hO3.lt j hj).1)
      obtain⟨ao5,c5,rfl,_,hn5⟩:=Oi.form hO4
      have hq:=HFIN.out w4 ao5 c5 mk4 hO4 hn5
      have HG:=Qa (And.intro hq.1 hq.2.1)
      have y8:=hq.2.2.1
      have y9:=hq.2.2.2
      clear hO3 hg4 hO4 hq)
   | (have _t:=mkA
      refine q0a (base:=X.heap.size) (xs:=[]++Qg) (ys:=[m]) rfl (.tmp 27) (.tmp 32) rfl rfl rfl ?_ ?_ ?_ ?_ ?_
      ·exact q0h hO3 ((Ext.refl w3).alloc _)
      ·exact okNew.out w3
      ·have:=mk3.size;simp;omega
      ·first | (simp;done) | (simp;omega)
      intro v4 w4 hO4 hg4
      have mk4:Ext X w4:=Below.grown (mk3.alloc _) hg4 (by have:=mk3.size;simp;omega) (fun j hj=>(hO3.lt j hj).1)
      obtain⟨ao5,c5,rfl,_,hn5⟩:=Oi.form hO4
      have hq:=HFIN.out w4 ao5 c5 mk4 hO4 hn5
      have HG:=Qa (And.intro hq.1 hq.2.1)
      have y8:=hq.2.2.1
      have y9:=hq.2.2.2
      clear hO3 hg4 hO4 hq)
   | (refine q0a (W:=(X.alloc (.cells #[] 3)).drew) (base:=X.heap.size) (xs:=[]) (ys:=Qg) rfl (.tmp 22) (.tmp 26) rfl rfl rfl ?_ ?_ ?_ ?_ ?_
      ·exact roA.out
      ·exact HSL.out.ext hA
      ·first | (simp;done) | (simp;omega)
      ·first | (simp;done) | (simp;omega)
      intro v3 w3 hO3 hg3
      have mk3:Ext X w3:=Below.grown hA hg3 (by first | (simp;done) | (simp;omega)) (fun j hj=>(roA.out.lt j hj).1)
      obtain⟨x7,x8,x9⟩:=HSX.out w3 mk3
      have mkA:True:=trivial
      clear hg3)
   | (refine q0a (W:=((X.alloc (.cells #[] 3)).alloc (.cells #[.int .i64 m] 3)).drew) (base:=X.heap.size) (xs:=[]) (ys:=Qg) rfl (.tmp 22) (.tmp 26) rfl rfl rfl ?_ ?_ ?_ ?_ ?_
      ·exact roB.out
      ·exact HSL.out.ext hAB
      ·first | (simp;done) | (simp;omega)
      ·first | (simp;done) | (simp;omega)
      intro v3 w3 hO3 hg3
      have mk3:Ext X w3:=Below.grown hAB hg3 (by first | (simp;done) | (simp;omega)) (fun j hj=>(roB.out.lt j hj).1)
      obtain⟨x7,x8,x9⟩:=HSX.out w3 mk3
      have okR3:SlI w3 (some ⟨X.heap.size+1,0,none⟩) 1 1 [m]:=okrB.out w3 hg3
      have mkB:True:=trivial
      clear hg3)
   | (refine q0a (W:=((X.alloc (.cells #[.int .i64 m] 3)).alloc (.cells #[] 3)).drew) (base:=X.heap.size) (xs:=[]) (ys:=Qg) rfl (.tmp 22) (.tmp 26) rfl rfl rfl ?_ ?_ ?_ ?_ ?_
      ·exact roC.out
      ·exact HSL.out.ext hBA
      ·first | (simp;done) | (simp;omega)
      ·first | (simp;done) | (simp;omega)
      intro v3 w3 hO3 hg3
      have mk3:Ext X w3:=Below.grown hBA hg3 (by first | (simp;done) | (simp;omega)) (fun j hj=>(roC.out.lt j hj).1)
      obtain⟨x7,x8,x9⟩:=HSX.out w3 mk3
      have okR3:SlI w3 (some ⟨X.heap.size,0,none⟩) 1 1 [m]:=okrC.out w3 hg3
      have mkB:True:=trivial
      clear hg3))
  all_goals
   go_wp2_with fail
   go_meet
   exact HG.out.1
 case rest=>
  obtain⟨a',hR',hK'⟩:=hcut.out
  obtain⟨w8,hw8⟩:=Qy (wc)
  subst hw8
  have HR8:=Qa hR'
  have HK8:=Qa (HRX.out.2.trans hK')
  have hb:=(hK'.block w.heap.size HBX.out.2.2 HBX.out.2.1).2.trans HBX.out.1
  have hb8:w.heap.size<w8.heap.size:=Q5 HBX.out.2.1 hK'.size
  have q0:w8.cell? ⟨O,0,none⟩=some tv:=hR'.obx.cell (i:=0) (by omega)
  have hOl:=hR'.obx.lt
  have o0:w8.cell? ⟨w.heap.size,0,none⟩=some (.int .i64 ok):=Qb hb 0
  have o1:w8.cell? ⟨w.heap.size,1,none⟩=some (.int .i64 m):=Qb hb 1
  have o2:w8.cell? ⟨w.heap.size,2,none⟩=some (.int .i64 ov):=Qb hb 2
  have o3:w8.cell? ⟨w.heap.size,3,none⟩=some (.slice ro rl rc):=Qb hb 3
  have o4:w8.cell? ⟨w.heap.size,4,none⟩=some (.slice fo fl fc):=Qb hb 4
  clear hcut hR' hK' hb HR HRX HBX HSX HSL HFIN hA hB hAB hBA h0 c7 c8 z8 hPX
  obtain⟨j0,hj0,hy0,hy1,hy2⟩:=info_parts infoRT
  have HFIN:Hid (∀(g6 gc6:Nat) (w6:World),w6.ownsRow w0.heap.size 88 6 (.slice (some ⟨g6,0,none⟩) (out.length+1) gc6) (out.length+1) (TV++[.int .i64 s,.int .i64 ok,.int .i64 m,.int .i64 ov,.slice ro rl rc,.slice fo fl fc])->(w8.alloc (.cells #[.int .i64 s,.int .i64 ok,.int .i64 m,.int .i64 ov,.slice ro rl rc,.slice fo fl fc] 88)).grownBy w6 tv.ownBlock->(tv.ownBlock=some g6\/g6=w8.heap.size+1)->
   w6.cell? ⟨O,0,none⟩=some tv/\w6.frozen? ⟨O,0,none⟩=false/\Hid (RSt Z P O w0 (w6.setCell ⟨O,0,none⟩ (.slice (some ⟨g6,0,none⟩) (out.length+1) gc6)) ⟨⟨st,now,Qd,m,Qg++[m]⟩,out++[(s,⟨ok,m,ov,rs,fs⟩)]⟩ a' (.slice (some ⟨g6,0,none⟩) (out.length+1) gc6) (TV++[.int .i64 s,.int .i64 ok,.int .i64 m,.int .i64 ov,.slice ro rl rc,.slice fo fl fc])/\RKp P O w tv (w6.setCell ⟨O,0,none⟩ (.slice (some ⟨g6,0,none⟩) (out.length+1) gc6)) (.slice (some ⟨g6,0,none⟩) (out.length+1) gc6))):=fun g6 gc6 w6 hown6 hgr6 hat6=>by
   obtain⟨r1,r2,r3,r4⟩:=HR8.out.pushT (x:=(s,⟨ok,m,ov,rs,fs⟩)) (HKR.out.1.mono HK8.out.hx) (HKR.out.2.mono HK8.out.hx) hown6 hgr6 hat6
   exact⟨r1,r2,r3,HK8.out.trans r4⟩
  go_upto_region 4 with fail
  go_region_law
   (refine step_append_lies _ ?_ (.tmp 39) (.tmp 43) 86 ?_ w0.heap.size 88 j0 (.agg #[.int .i64 0,.int .i64 0,.int .i64 0,.int .i64 0,.slice none 0 0,.slice none 0 0]) 6 80 underlying86 hj0 hy0 hy1 hy2 rfl (by decide) tv out.length TV ?_ ?_ ⟨w8.heap.size,0,none⟩ 1 1 [.int .i64 s,.int .i64 ok,.int .i64 m,.int .i64 ov,.slice ro rl rc,.slice fo fl fc] ?_ ?_ ?_ (one6s _ _ _ _ _ _ _ _ _ _) ?_ ?_ ?_ ?_ _ rfl ?_
    ·rfl
    ·rfl
    ·rfl
    ·exact q0h HR8.out.ownT ((Ext.refl w8).alloc _).drew
    ·rfl
    ·rfl
    ·exact World.news_of_block (cs:=#[.int .i64 s,.int .i64 ok,.int .i64 m,.int .i64 ov,.slice ro rl rc,.slice fo fl fc]) (blk_alloc_new w8 _)
    ·omega
    ·unfold maxLen;omega
    ·omega
    ·have:=HR8.out.bel.size;simp;omega
    intro g6 gc6 w6 hown6 hgr6 hat6 hlt6
    have hfin:=HFIN.out g6 gc6 w6 hown6 ⟨hgr6.os,hgr6.tape,hgr6.output,hgr6.size,hgr6.block⟩ (hat6.imp id (fun h=>by simpa using h))
    have q1:=hfin.1
    have q2:=hfin.2.1
    have HG6:=Qa hfin.2.2.out
    clear hown6 hgr6 hat6 hlt6 hfin)
  all_goals
   clear q0 o0 o1 o2 o3 o4 HFIN
   go_wp2
   go_end0
   exact⟨rfl,_,_,_,HG6.out.1,HG6.out.2⟩
theorem Oi.lq{v:Value}{Q:Nat->Prop}(h:Oi w base v xs)(hQ:∀b,base<=b->b<w.heap.size->Q b):LQ w Q xs v:=by
 rcases h.2 with⟨h1,h2⟩ | ⟨g,c,cur,hv,hb,hh,hle,_⟩
 ·exact⟨none,0,by rw[h1,h2],Or.inl (List.eq_nil_of_length_eq_zero h2),by omega⟩
 ·subst hv
  have hl:=(h.lt g rfl).2
  refine⟨some ⟨g,0,none⟩,c,rfl,Or.inr ⟨g,0,rfl,hQ g hb hl,hl,fun i hi=>?_⟩,hle⟩
  rw[Nat.zero_add,h.cellAt i (by omega)]
  simp[hi]
theorem RSt.fresh(h:RSt Z P O w0 w g a tv TV):∀b,w.heap.size<=b->Qx Z P O tv b:=fun b hb=>by
 have hP:=World.rowIs.lt h.box
 have hO:=h.obx.lt
 exact⟨⟨by omega,by omega,fun e=>by have:=(h.ownT.lt b e).2;omega⟩,h.new b hb⟩
theorem goS_told{n:Nat}(h:g.c.st=1)(hw:g.c.Qg=[]):goS n g=goS n (told n (Zz g.c.now g.c.Qd) (Zd g 2)):=by
 have e1:goS n g=q6v (told n (Zz g.c.now g.c.Qd) (Zd g 2)):=by
  rcases q1h n g with⟨k,_⟩ | ⟨_,_,e⟩ | ⟨_,k,_⟩ | ⟨_,k,_⟩ | ⟨_,k,_⟩
  ·exact absurd hw k
  ·exact e
  ·omega
  ·omega
  ·exact absurd h k
 rw[e1]
 have hs:(told n (Zz g.c.now g.c.Qd) (Zd g 2)).c.st=2:=rfl
 generalize told n (Zz g.c.now g.c.Qd) (Zd g 2)=G at hs ⊢
 unfold q6v
 rcases q1h n G with⟨k,e⟩ | ⟨_,k,_⟩ | ⟨k,_,e⟩ | ⟨_,k,_⟩ | ⟨_,_,k,_⟩
 ·rw[e,if_pos k]
 ·omega
 ·rw[e,if_neg (by simpa using k)]
 ·omega
 ·exact absurd hs k
theorem RSt.stage{st k num:Int}{Qd:Pl}(h:RSt Z P O w0 w ⟨⟨st,now,Qd,num,Qg⟩,out⟩ a tv TV):
 RSt Z P O w0 (w.setCell ⟨P,0,none⟩ (.int .i64 k)) ⟨⟨k,now,Qd,num,Qg⟩,out⟩ a tv TV/\RKp P O w tv (w.setCell ⟨P,0,none⟩ (.int .i64 k)) tv:=by
 have hK:∀b,b≠P->(w.setCell ⟨P,0,none⟩ (.int .i64 k)).heap[b]? =w.heap[b]?:=fun b hb=>Zm _ _ _ _ (by simpa using hb)
 have hbx:BX (w.setCell ⟨P,0,none⟩ (.int .i64 k)) P (coL ⟨k,now,Qd,num,Qg⟩ a):=by
  have e:(coL ⟨st,now,Qd,num,Qg⟩ a).set 0 (.int .i64 k)=coL ⟨k,now,Qd,num,Qg⟩ a:=rfl
  rw[<-e]
  exact BX.set h.box (i:=0) (by simp[coL]) _
 exact h.redo (g':=⟨⟨k,now,Qd,num,Qg⟩,out⟩) (a':=a) hbx (fun b hb _=>hK b hb) (by simp) (h.bel.setCell (by simpa using h.hP) _) rfl ((h.at_.step (by simp) (fun b hb _=>hK b hb.1.1)).imp (fun U k=>⟨k.hn,k.hx,k.hw⟩)) h.wn
theorem RSt.turn{st num:Int}{Qd:Pl}(h:RSt Z P O w0 w ⟨⟨st,now,Qd,num,Qg⟩,out⟩ a tv TV):
 RSt Z P O w0 (((((((w.setCell ⟨P,0,none⟩ (.int .i64 0)).setCell ⟨P,1,none⟩ (.int .i64 Qd.v)).setCell ⟨P,2,none⟩ (.slice a.x.fo Qd.fs.length a.x.fc)).setCell ⟨P,3,none⟩ (.slice a.x.qo Qd.ps.length a.x.qc)).setCell ⟨P,4,none⟩ (.int .i64 0)).setCell ⟨P,5,none⟩ (.slice none 0 0)).setCell ⟨P,6,none⟩ (.slice none 0 0)) ⟨⟨0,Qd,pl0,num,Qg⟩,out⟩ ⟨a.x,pa0,a.wo,a.wc⟩ tv TV/\RKp P O w tv (((((((w.setCell ⟨P,0,none⟩ (.int .i64 0)).setCell ⟨P,1,none⟩ (.int .i64 Qd.v)).setCell ⟨P,2,none⟩ (.slice a.x.fo Qd.fs.length a.x.fc)).setCell ⟨P,3,none⟩ (.slice a.x.qo Qd.ps.length a.x.qc)).setCell ⟨P,4,none⟩ (.int .i64 0)).setCell ⟨P,5,none⟩ (.slice none 0 0)).setCell ⟨P,6,none⟩ (.slice none 0 0)) tv:=by
 obtain⟨w',hw'⟩:=Qy ((((((((w.setCell ⟨P,0,none⟩ (.int .i64 0)).setCell ⟨P,1,none⟩ (.int .i64 Qd.v)).setCell ⟨P,2,none⟩ (.slice a.x.fo Qd.fs.length a.x.fc)).setCell ⟨P,3,none⟩ (.slice a.x.qo Qd.ps.length a.x.qc)).setCell ⟨P,4,none⟩ (.int .i64 0)).setCell ⟨P,5,none⟩ (.slice none 0 0)).setCell ⟨P,6,none⟩ (.slice none 0 0)))
 have hp:=h.hP
 have hK:∀b,b≠P->w'.heap[b]? =w.heap[b]?:=fun b hb=>by
  rw[hw']
  simp only[Zm _ _ _ _ (show b≠(⟨P,0,none⟩:Addr).block from hb),Zm _ _ _ _ (show b≠(⟨P,1,none⟩:Addr).block from hb),Zm _ _ _ _ (show b≠(⟨P,2,none⟩:Addr).block from hb),Zm _ _ _ _ (show b≠(⟨P,3,none⟩:Addr).block from hb),Zm _ _ _ _ (show b≠(⟨P,4,none⟩:Addr).block from hb),Zm _ _ _ _ (show b≠(⟨P,5,none⟩:Addr).block from hb),Zm _ _ _ _ (show b≠(⟨P,6,none⟩:Addr).block from hb)]
 have hbx:BX w' P (coL ⟨0,Qd,pl0,num,Qg⟩ ⟨a.x,pa0,a.wo,a.wc⟩):=by
  have e:(((((((coL ⟨st,now,Qd,num,Qg⟩ a).set 0 (.int .i64 0)).set 1 (.int .i64 Qd.v)).set 2 (.slice a.x.fo Qd.fs.length a.x.fc)).set 3 (.slice a.x.qo Qd.ps.length a.x.qc)).set 4 (.int .i64 0)).set 5 (.slice none 0 0)).set 6 (.slice none 0 0)=coL ⟨0,Qd,pl0,num,Qg⟩ ⟨a.x,pa0,a.wo,a.wc⟩:=rfl
  rw[<-e,hw']
  exact BX.set (BX.set (BX.set (BX.set (BX.set (BX.set (BX.set h.box (i:=0) (by simp[coL]) _) (i:=1) (by simp[coL]) _) (i:=2) (by simp[coL]) _) (i:=3) (by simp[coL]) _) (i:=4) (by simp[coL]) _) (i:=5) (by simp[coL]) _) (i:=6) (by simp[coL]) _
 have hE:Ext w0 w':=by
  rw[hw']
  exact((((((h.bel.setCell (by simpa using hp) _).setCell (by simpa using hp) _).setCell (by simpa using hp) _).setCell (by simpa using hp) _).setCell (by simpa using hp) _).setCell (by simpa using hp) _).setCell (by simpa using hp) _
 have hs:w'.heap.size=w.heap.size:=by rw[hw'];simp
 rw[<-hw']
 exact h.redo (g':=⟨⟨0,Qd,pl0,num,Qg⟩,out⟩) (a':=⟨a.x,pa0,a.wo,a.wc⟩) hbx (fun b hb _=>hK b hb) (by omega) hE rfl ((h.at_.step (by omega) (fun b hb _=>hK b hb.1.1)).imp (fun U k=>⟨k.hx,PlAt.zero U,k.hw⟩)) h.wn
end Ct
end Go.Proofs.YthkpbefnkmmaiaaGreat
