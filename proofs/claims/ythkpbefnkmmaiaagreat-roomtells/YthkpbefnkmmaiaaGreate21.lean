import Derived.Test.YthkpbefnkmmaiaaGreate20
set_option maxRecDepth 100000
set_option maxHeartbeats 2000000
namespace Go.Proofs.YthkpbefnkmmaiaaGreat
open Go.Proofs.Tryz
namespace Rm
open Go.RowKit Go.Deep Stw Stp Tb Rul Ct
theorem infoSw:(prog.info? 64).map (fun i=>(i.zero,i.size,i.bytes))=some (some (.agg #[.slice none 0 0,.slice none 0 0]),2,48):=by kernel_rfl
theorem infoOr:(prog.info? 66).map (fun i=>(i.zero,i.size,i.bytes))=some (some (.slice none 0 0),1,24):=by kernel_rfl
theorem infoLi:(prog.info? 30).map (fun i=>(i.zero,i.size,i.bytes))=some (some (.slice none 0 0),1,24):=by kernel_rfl
theorem q0l{α:Type}{n s:Nat}{z:α}:(List.replicate n z).getD s z=z:=by
 rw[Zt,List.getElem?_replicate];split <;> rfl
def mkS (n:Nat):Array Value:=madeCells #[.slice none 0 0,.slice none 0 0] (n*2)
def mkL (n:Nat):Array Value:=madeCells #[.slice none 0 0] n
theorem mkS_run(n:Nat)(hn:n<=8)(V:World):(Instr.makeSlice 33 (.int .i64 n) (.int .i64 n)).run prog V=.ok (.slice (some ⟨V.heap.size,0,none⟩) n n) (V.alloc (.cells (mkS n) 64)):=by
 obtain⟨i,hi,h1,h2,h3⟩:=info_parts infoSw
 have hr:=run_make (P:=prog) V 33 64 i _ underlying33 hi h1 .i64 .i64 n (n:Int) (by omega) (Int.le_refl _) (by rw[h3];omega) (by omega)
 rw[h2,Int.toNat_natCast] at hr
 exact hr
theorem mkO_run(n:Nat)(hn:n<=8)(V:World):(Instr.makeSlice 34 (.int .i64 n) (.int .i64 n)).run prog V=.ok (.slice (some ⟨V.heap.size,0,none⟩) n n) (V.alloc (.cells (mkL n) 66)):=by
 obtain⟨i,hi,h1,h2,h3⟩:=info_parts infoOr
 exact run_make_row (P:=prog) 34 66 i _ underlying34 hi h1 h2 rfl .i64 .i64 n (by rw[h3];omega) (by omega) V
theorem mkB_run(n:Nat)(hn:n<=8)(V:World):(Instr.makeSlice 35 (.int .i64 n) (.int .i64 n)).run prog V=.ok (.slice (some ⟨V.heap.size,0,none⟩) n n) (V.alloc (.cells (mkL n) 30)):=by
 obtain⟨i,hi,h1,h2,h3⟩:=info_parts infoLi
 exact run_make_row (P:=prog) 35 30 i _ underlying35 hi h1 h2 rfl .i64 .i64 n (by rw[h3];omega) (by omega) V
variable {b:Nat} {W:World}
theorem mkS_row{n:Nat}(h:W.heap[b]? =some (.cells (mkS n) 64)):W.rowIs b 64 (n*2) (fun _=>.slice none 0 0):=
 ⟨_,h,size_madeCells _ _,fun i hi=>by
  have h2:i % 2=0\/i % 2=1:=by omega
  rcases h2 with h2 | h2 <;> simp[mkS,madeCells,hi,h2]⟩
theorem z1y{n:Nat}{T:TypeId}(h:W.heap[b]? =some (.cells (mkL n) T)):W.rowIs b T n (fun _=>.slice none 0 0):=
 ⟨_,h,size_madeCells _ _,fun i hi=>by simp[mkL,madeCells,hi,Nat.mod_one]⟩
theorem Q7{V:World}{o:Obj}(h:V.heap.size=b):(V.alloc o).heap[b]? =some o:=by rw[<-h];exact blk_alloc_new V o
theorem q7u{T:TypeId}{l:List Value}(h:W.heap[b]? =some (.cells l.toArray T)):W.rowIs b T l.length (fun j=>l.getD j vd):=
 ⟨_,h,by simp,fun i hi=>by simp[hi]⟩
def tg0 (P sb ob bb X Y:Nat) (b:Nat):Nat:=if b=P then 1 else if b=sb then 2 else if b=ob then 3 else if b=bb then 4 else if b=X\/b=Y then 8 else 0
variable {w w0:World} {P sb ob bb X Y:Nat} {tl:List Value}
theorem Q0.start{T:TypeId}{n:Nat}(hX:w0.heap.size<=X)(hXP:X<P)(hY:w0.heap.size<=Y)(hYP:Y<P)(hPs:P<sb)(hso:sb<ob)(hob:ob<bb)(hr:w.rowIs P T (14+tl.length) (fun j=>(wdL co0 ca0 n sb ob bb (.slice none 0 0) (.slice none 0 0) tl).getD j vd))(h1:w.heap[sb]? =some (.cells (mkS n) 64))(h2:w.heap[ob]? =some (.cells (mkL n) 66))(h3:w.heap[bb]? =some (.cells (mkL n) 30))(E:Ext w0 w):
  Q0 T tl w0 P n (tg0 P sb ob bb X Y) w (wdN n) ca0 sb ob bb (.slice none 0 0) (.slice none 0 0):=by
  have hbl:bb<w.heap.size:=(asi.1 h3).1
  refine⟨hr,fun U _ _=>Zr.zero U,⟨?_,_,mkS_row h1,fun s hs=>⟨none,0,none,0,?_,?_,fun U _ _=>?_⟩⟩,⟨?_,_,z1y h2,fun s hs=>?_⟩,⟨?_,_,z1y h3,fun s hs=>?_⟩,⟨[],RwT.nil _ _ _ _ _,fun i hi=>by simp[wdN] at hi⟩,⟨[],RwT.nil _ _ _ _ _,fun i hi=>by simp[wdN] at hi⟩,by unfold tg0;rw[if_pos rfl],fun b hb=>?_,fun b hb=>?_,E⟩
  ·unfold tg0
   rw[if_neg (by omega),if_pos rfl]
  ·show _=Value.slice none ((List.replicate n Agt.Zq).getD s Agt.Zq).rs.length 0
   rw[q0l];rfl
  ·show _=Value.slice none ((List.replicate n Agt.Zq).getD s Agt.Zq).st.length 0
   rw[q0l];rfl
  ·show Ag.Zn U ((List.replicate n Agt.Zq).getD s Agt.Zq) none none 0
   rw[q0l]
   exact⟨⟨rfl,Or.inl rfl,fun _=>⟨rfl,rfl⟩⟩,Or.inl rfl,by decide,by decide,by decide⟩
  ·unfold tg0
   rw[if_neg (by omega),if_neg (by omega),if_pos rfl]
  ·show q1a _ _ _ ((List.replicate n []).getD s []) _
   rw[q0l]
   exact q1a.nil _ _ _
  ·unfold tg0
   rw[if_neg (by omega),if_neg (by omega),if_neg (by omega),if_pos rfl]
  ·show Za _ _ _ ((List.replicate n []).getD s []) _
   rw[q0l]
   exact Za.nil _ _ _
  ·unfold tg0
   rw[if_neg (by omega),if_neg (by omega),if_neg (by omega),if_neg (by omega),if_neg (by omega)]
  ·unfold tg0 at hb
   by_cases e1:b=P
   ·omega
   ·rw[if_neg e1] at hb
    by_cases e2:b=sb
    ·omega
    ·rw[if_neg e2] at hb
     by_cases e3:b=ob
     ·omega
     ·rw[if_neg e3] at hb
      by_cases e4:b=bb
      ·omega
      ·rw[if_neg e4] at hb
       by_cases e5:b=X\/b=Y
       ·omega
       ·rw[if_neg e5] at hb;exact absurd rfl hb
theorem tg0_xy(hXP:X<P)(hYP:Y<P)(hPs:P<sb)(hso:sb<ob)(hob:ob<bb):tg0 P sb ob bb X Y X=8/\tg0 P sb ob bb X Y Y=8:=by
 unfold tg0
 refine⟨?_,?_⟩
 ·rw[if_neg (by omega),if_neg (by omega),if_neg (by omega),if_neg (by omega),if_pos (Or.inl rfl)]
 ·rw[if_neg (by omega),if_neg (by omega),if_neg (by omega),if_neg (by omega),if_pos (Or.inr rfl)]
theorem z4h(n:Nat)(ao:Option Addr)(len cap:Nat)(w:World)(hn:n<=8):
 Calls prog 10 #[.agg #[.int .i64 n,.slice ao len cap]] w fun e w'=>∃P sb ob bb:Nat,e=.returned (.pointer (some ⟨P,0,none⟩))/\w.heap.size<=P/\P<sb/\sb<ob/\ob<bb/\w'.rowIs P 56 16 (fun j=>(wdL co0 ca0 n sb ob bb (.slice none 0 0) (.slice none 0 0) [.int .i64 n,.slice ao len cap]).getD j vd)/\w'.heap[sb]? =some (.cells (mkS n) 64)/\w'.heap[ob]? =some (.cells (mkL n) 66)/\w'.heap[bb]? =some (.cells (mkL n) 30)/\Ext w w':=by
 have m1:=mkS_run n hn
 have m2:=mkO_run n hn
 have m3:=mkB_run n hn
 go_enter func10,ntmps10
 go_wp2
 go_ret
 have hsz:∀(V:World) (o:Obj),(V.alloc o).heap.size=V.heap.size+1:=fun V o=>by simp
 refine⟨w.heap.size+1,w.heap.size+1+1,w.heap.size+1+1+1,w.heap.size+1+1+1+1,rfl,by omega,by omega,by omega,by omega,?_,?_,?_,?_,(((((Ext.refl w).alloc _).alloc _).alloc _).alloc _ |>.alloc _)⟩
 ·refine q7u (l:=wdL co0 ca0 n (w.heap.size+1+1) (w.heap.size+1+1+1) (w.heap.size+1+1+1+1) (.slice none 0 0) (.slice none 0 0) [.int .i64 n,.slice ao len cap]) ?_
  rw[bal _ _ _ (by simp only[hsz];omega),bal _ _ _ (by simp only[hsz];omega),bal _ _ _ (by simp only[hsz];omega)]
  exact Q7 (by simp)
 ·rw[bal _ _ _ (by simp only[hsz];omega),bal _ _ _ (by simp only[hsz];omega)]
  exact Q7 (by simp)
 ·rw[bal _ _ _ (by simp only[hsz];omega)]
  exact Q7 (by simp)
 ·exact Q7 (by simp)
def z2z (w:World) (ao:Option Addr) (ds:List Dd):Prop:=
 ds=[]\/∃b off,ao=some ⟨b,off,none⟩/\b<w.heap.size/\∀k,k<ds.length->∃fo fc,w.cell? ⟨b,off+k*3,none⟩=some (.int .i64 (ds.getD k dd0).k)/\w.cell? ⟨b,off+k*3+1,none⟩=some (.int .i64 (ds.getD k dd0).n)/\w.cell? ⟨b,off+k*3+2,none⟩=some (.slice fo (ds.getD k dd0).fs.length fc)/\Fw.Qk w fo (ds.getD k dd0).fs
theorem z2z.ext{w w':World}{ao:Option Addr}{ds:List Dd}(h:z2z w ao ds)(E:Ext w w'):z2z w' ao ds:=by
 rcases h with h | ⟨b,off,h1,h2,h3⟩
 ·exact Or.inl h
 ·refine Or.inr ⟨b,off,h1,Q5 h2 E.size,fun k hk=>?_⟩
  obtain⟨fo,fc,c0,c1,c2,hf⟩:=h3 k hk
  exact⟨fo,fc,(E.cells.1 _ _ h2).trans c0,(E.cells.1 _ _ h2).trans c1,(E.cells.1 _ _ h2).trans c2,hf.ext E⟩
theorem z2z.get{ao:Option Addr}{ds:List Dd}(h:z2z w ao ds){k:Nat}(hk:k<ds.length):∃b off fo fc,ao=some ⟨b,off,none⟩/\b<w.heap.size/\w.cell? ⟨b,off+k*3,none⟩=some (.int .i64 (ds.getD k dd0).k)/\w.cell? ⟨b,off+k*3+1,none⟩=some (.int .i64 (ds.getD k dd0).n)/\w.cell? ⟨b,off+k*3+2,none⟩=some (.slice fo (ds.getD k dd0).fs.length fc)/\Fw.Qk w fo (ds.getD k dd0).fs:=by
 rcases h with h | ⟨b,off,h1,h2,h3⟩
 ·rw[h] at hk;simp at hk
 ·obtain⟨fo,fc,c0,c1,c2,hf⟩:=h3 k hk
  exact⟨b,off,fo,fc,h1,h2,c0,c1,c2,hf⟩
def DsSm (ds:List Dd):Prop:=∀d∈ds,Fw.Sm d.fs/\d.fs.length<=9223372036854775807
structure WA where
 ca:CA
 so:Option Addr
 sc:Nat
 oo:Option Addr
 oc:Nat
 bo:Option Addr
 bc:Nat
 ko:Option Addr
 kc:Nat
 lo:Option Addr
 lc:Nat
def wa0:WA:=⟨ca0,none,0,none,0,none,0,none,0,none,0⟩
def wvl (W:Wd) (A:WA):Value:=.agg #[.int .i64 W.co.st,.int .i64 W.co.now.v,.slice A.ca.n.fo W.co.now.fs.length A.ca.n.fc,.slice A.ca.n.qo W.co.now.ps.length A.ca.n.qc,.int .i64 W.co.Qd.v,.slice A.ca.x.fo W.co.Qd.fs.length A.ca.x.fc,.slice A.ca.x.qo W.co.Qd.ps.length A.ca.x.qc,.int .i64 W.co.num,.slice A.ca.wo W.co.Qg.length A.ca.wc,.slice A.so W.sw.length A.sc,.slice A.oo W.od.length A.oc,.slice A.bo W.bk.length A.bc,.slice A.ko W.pk.length A.kc,.slice A.lo W.pn.length A.lc]
def OsAt (w:World) (os:List Wir.Od) (v:Value):Prop:=∃ao c,v=.slice ao os.length c/\(os=[]\/∃g off,ao=some ⟨g,off,none⟩/\g<w.heap.size/\∀i,i<os.length->∃ro rc fo fc,w.cell? ⟨g,off+i*5,none⟩=some (.int .i64 (os.getD i Wir.od0).k)/\w.cell? ⟨g,off+i*5+1,none⟩=some (.int .i64 (os.getD i Wir.od0).n)/\w.cell? ⟨g,off+i*5+2,none⟩=some (.int .i64 (os.getD i Wir.od0).v)/\w.cell? ⟨g,off+i*5+3,none⟩=some (.slice ro (os.getD i Wir.od0).rs.length rc)/\w.cell? ⟨g,off+i*5+4,none⟩=some (.slice fo (os.getD i Wir.od0).fs.length fc)/\Zl w ro (os.getD i Wir.od0).rs/\Qj w fo (os.getD i Wir.od0).fs)
theorem OsAt.ext{w w':World}{os:List Wir.Od}{v:Value}(h:OsAt w os v)(E:Ext w w'):OsAt w' os v:=by
 obtain⟨ao,c,h1,h2⟩:=h
 refine⟨ao,c,h1,h2.imp id ?_⟩
 rintro⟨g,off,k1,k2,k3⟩
 refine⟨g,off,k1,Q5 k2 E.size,fun i hi=>?_⟩
 obtain⟨ro,rc,fo,fc,c0,c1,c2,c3,c4,hr,hf⟩:=k3 i hi
 exact⟨ro,rc,fo,fc,(E.cells.1 _ _ k2).trans c0,(E.cells.1 _ _ k2).trans c1,(E.cells.1 _ _ k2).trans c2,(E.cells.1 _ _ k2).trans c3,(E.cells.1 _ _ k2).trans c4,hr.ext E,hf.ext E⟩
structure WoAt (w:World) (W:Wd) (A:WA):Prop where
 co:Zr w W.co A.ca
 sw:W.sw=[]\/∃g off,A.so=some ⟨g,off,none⟩/\g<w.heap.size/\∀s,s<W.sw.length->∃ro rc so sc,w.cell? ⟨g,off+s*2,none⟩=some (.slice ro (W.sw.getD s Agt.Zq).rs.length rc)/\w.cell? ⟨g,off+s*2+1,none⟩=some (.slice so (W.sw.getD s Agt.Zq).st.length sc)/\Ag.Zn w (W.sw.getD s Agt.Zq) ro so rc
 od:W.od=[]\/∃g off,A.oo=some ⟨g,off,none⟩/\g<w.heap.size/\∀s,s<W.od.length->∃v,w.cell? ⟨g,off+s,none⟩=some v/\OsAt w (W.od.getD s []) v
 bk:W.bk=[]\/∃g off,A.bo=some ⟨g,off,none⟩/\g<w.heap.size/\∀s,s<W.bk.length->∃ao c,w.cell? ⟨g,off+s,none⟩=some (.slice ao (W.bk.getD s []).length c)/\Qj w ao (W.bk.getD s [])
 pk:W.pk=[]\/∃g off,A.ko=some ⟨g,off,none⟩/\g<w.heap.size/\∀i,i<W.pk.length->∃tO c,w.cell? ⟨g,off+i*4,none⟩=some (.int .i64 (W.pk.getD i Q8).fl)/\w.cell? ⟨g,off+i*4+1,none⟩=some (.int .i64 (W.pk.getD i Q8).v)/\w.cell? ⟨g,off+i*4+2,none⟩=some (.slice tO (W.pk.getD i Q8).tr.length c)/\w.cell? ⟨g,off+i*4+3,none⟩=some (.bool (W.pk.getD i Q8).dn)/\Qj w tO (W.pk.getD i Q8).tr/\(W.pk.getD i Q8).tr.length<=c
 pn:W.pn=[]\/∃g off,A.lo=some ⟨g,off,none⟩/\g<w.heap.size/\∀i,i<W.pn.length->∃a:PA,w.cell? ⟨g,off+i*3,none⟩=some (.int .i64 (W.pn.getD i pl0).v)/\w.cell? ⟨g,off+i*3+1,none⟩=some (.slice a.fo (W.pn.getD i pl0).fs.length a.fc)/\w.cell? ⟨g,off+i*3+2,none⟩=some (.slice a.qo (W.pn.getD i pl0).ps.length a.qc)/\PlAt w (W.pn.getD i pl0) a
theorem WoAt.ext{w w':World}{W:Wd}{A:WA}(h:WoAt w W A)(E:Ext w w'):WoAt w' W A:=by
 refine⟨h.co.ext E,?_,?_,?_,?_,?_⟩
 ·refine h.sw.imp id ?_
  rintro⟨g,off,k1,k2,k3⟩
  refine⟨g,off,k1,Q5 k2 E.size,fun s hs=>?_⟩
  obtain⟨ro,rc,so,sc,c0,c1,hx⟩:=k3 s hs
  exact⟨ro,rc,so,sc,(E.cells.1 _ _ k2).trans c0,(E.cells.1 _ _ k2).trans c1,hx.ext E⟩
 ·refine h.od.imp id ?_
  rintro⟨g,off,k1,k2,k3⟩
  refine⟨g,off,k1,Q5 k2 E.size,fun s hs=>?_⟩
  obtain⟨v,c0,hx⟩:=k3 s hs
  exact⟨v,(E.cells.1 _ _ k2).trans c0,hx.ext E⟩
 ·refine h.bk.imp id ?_
  rintro⟨g,off,k1,k2,k3⟩
  refine⟨g,off,k1,Q5 k2 E.size,fun s hs=>?_⟩
  obtain⟨ao,c,c0,hx⟩:=k3 s hs
  exact⟨ao,c,(E.cells.1 _ _ k2).trans c0,hx.ext E⟩
 ·refine h.pk.imp id ?_
  rintro⟨g,off,k1,k2,k3⟩
  refine⟨g,off,k1,Q5 k2 E.size,fun s hs=>?_⟩
  obtain⟨ao,c,c0,c1,c2,c3,hx,hc⟩:=k3 s hs
  exact⟨ao,c,(E.cells.1 _ _ k2).trans c0,(E.cells.1 _ _ k2).trans c1,(E.cells.1 _ _ k2).trans c2,(E.cells.1 _ _ k2).trans c3,hx.ext E,hc⟩
 ·refine h.pn.imp id ?_
  rintro⟨g,off,k1,k2,k3⟩
  refine⟨g,off,k1,Q5 k2 E.size,fun s hs=>?_⟩
  obtain⟨a,c0,c1,c2,hx⟩:=k3 s hs
  exact⟨a,(E.cells.1 _ _ k2).trans c0,(E.cells.1 _ _ k2).trans c1,(E.cells.1 _ _ k2).trans c2,hx.ext E⟩
theorem WoAt.zero(w:World):WoAt w wd0 wa0:=⟨Zr.zero w,Or.inl rfl,Or.inl rfl,Or.inl rfl,Or.inl rfl,Or.inl rfl⟩
theorem q1a.os{tg:Nat->Nat}{t:Nat}{w:World}{os:List Wir.Od}{v:Value}(h:q1a tg t w os v):OsAt w os v:=by
 obtain⟨xs,hr,hod⟩:=h
 obtain⟨ao,c,hv⟩:=hr.rw.form
 refine⟨ao,c,hv,?_⟩
 by_cases h0:os=[]
 ·exact Or.inl h0
 ·have hn:0<os.length:=List.length_pos_iff.2 h0
  obtain⟨g,off,cap,hv',hg,_,_,hc⟩:=hr.rw.cells hn
  rw[hv] at hv'
  cases hv'
  refine Or.inr ⟨g,off,rfl,hg,fun i hi=>?_⟩
  obtain⟨ro,rc,fo,fc,a0,a1,a2,a3,a4,a5⟩:=hod i hi
  have hl:i*5+5<=os.length*5:=by omega
  refine⟨ro,rc,fo,fc,?_,?_,?_,?_,?_,a5.at.1,a5.at.2⟩
  ·rw[hc _ (by omega)];exact a0
  ·rw[Nat.add_assoc,hc _ (by omega)];exact a1
  ·rw[Nat.add_assoc,hc _ (by omega)];exact a2
  ·rw[Nat.add_assoc,hc _ (by omega)];exact a3
  ·rw[Nat.add_assoc,hc _ (by omega)];exact a4
variable {tg:Nat->Nat} {a:CA} {kv lv:Value}
theorem Q0.look{T:TypeId}{n:Nat}{W:Wd}(h:Q0 T tl w0 P n tg w W a sb ob bb kv lv)(hs:W.sw.length=n)(ho:W.od.length=n)(hb:W.bk.length=n):∃ko kc lo lc,kv=.slice ko W.pk.length kc/\lv=.slice lo W.pn.length lc/\WoAt w W ⟨a,some ⟨sb,0,none⟩,n,some ⟨ob,0,none⟩,n,some ⟨bb,0,none⟩,n,ko,kc,lo,lc⟩:=by
 obtain⟨xk,hk,hpk⟩:=h.pks
 obtain⟨xl,hl,hpl⟩:=h.pls
 obtain⟨ko,kc,ek⟩:=hk.rw.form
 obtain⟨lo,lc,el⟩:=hl.rw.form
 refine⟨ko,kc,lo,lc,ek,el,h.co.at,Or.inr ?_,Or.inr ?_,Or.inr ?_,?_,?_⟩
 ·obtain⟨_,f,hf,_⟩:=h.sws
  refine⟨sb,0,rfl,hf.lt,fun s hlt=>?_⟩
  obtain⟨ro,rc,so,sc,c0,c1,_,_,hx⟩:=h.sws.get (s:=s) (by omega)
  exact⟨ro,rc,so,sc,by rw[Nat.zero_add];exact c0,by rw[Nat.zero_add];exact c1,hx.at⟩
 ·obtain⟨_,f,hf,_⟩:=h.ors
  refine⟨ob,0,rfl,hf.lt,fun s hlt=>?_⟩
  obtain⟨v,c0,_,_,hx⟩:=h.ors.get (s:=s) (by omega)
  exact⟨v,by rw[Nat.zero_add];exact c0,hx.os⟩
 ·obtain⟨_,f,hf,_⟩:=h.bks
  refine⟨bb,0,rfl,hf.lt,fun s hlt=>?_⟩
  obtain⟨v,c0,_,_,hx⟩:=h.bks.get (s:=s) (by omega)
  obtain⟨ao,c,rfl,hx2⟩:=hx.list
  exact⟨ao,c,by rw[Nat.zero_add];exact c0,hx2⟩
 ·by_cases h0:W.pk=[]
  ·exact Or.inl h0
  ·have hn:0<W.pk.length:=List.length_pos_iff.2 h0
   obtain⟨g,off,cap,_,hv,hg,_⟩:=h.pks.get hn
   rw[ek] at hv
   cases hv
   refine Or.inr ⟨g,off,rfl,hg,fun i hi=>?_⟩
   obtain⟨g',off',cap',tv,hv',_,_,_,c0,c1,c2,c3,hx⟩:=h.pks.get hi
   rw[ek] at hv'
   cases hv'
   obtain⟨tO,c,rfl,hx2⟩:=hx.list
   have hle:(W.pk.getD i Q8).tr.length<=c:=by
    rcases hx.rw.alt with⟨e,e2⟩ | ⟨_,_,_,_,e,_,e2,_⟩
    ·omega
    ·cases e;exact e2
   exact⟨tO,c,c0,c1,c2,c3,hx2,hle⟩
 ·by_cases h0:W.pn=[]
  ·exact Or.inl h0
  ·have hn:0<W.pn.length:=List.length_pos_iff.2 h0
   obtain⟨g,off,cap,hv,hg,_,_,hc⟩:=hl.rw.cells hn
   rw[el] at hv
   cases hv
   refine Or.inr ⟨g,off,rfl,hg,fun i hi=>?_⟩
   obtain⟨ap,a0,a1,a2,a3⟩:=hpl i hi
   have hl3:i*3+3<=W.pn.length*3:=by omega
   refine⟨ap,?_,?_,?_,a3.at⟩
   ·rw[hc _ (by omega)];exact a0
   ·rw[Nat.add_assoc,hc _ (by omega)];exact a1
   ·rw[Nat.add_assoc,hc _ (by omega)];exact a2
def q6s (w:World) (W:Wd) (came:List Int) (f:Int×Int) (e:Ending) (w':World):Prop:=
 ∃A co cc,e=.returned (.tuple #[wvl W A,.slice co came.length cc,.agg #[.int .i64 f.1,.int .i64 f.2]])/\Ext w w'/\Hid (WoAt w' W A/\Qj w' co came)
theorem Q0.keepW{T:TypeId}{w':World}{n:Nat}{tg':Nat->Nat}{W:Wd}(h:Q0 T tl w0 P n tg w W a sb ob bb kv lv)(k:Qf (fun x=>x≠7/\x≠8) tg tg' w w')(hn:∀b,w'.heap.size<=b->tg' b=0)(hb:∀b,tg' b≠0->w0.heap.size<=b)(hE:Ext w0 w'):Q0 T tl w0 P n tg' w' W a sb ob bb kv lv:=by
 obtain⟨e1,e2⟩:=Zf h.row k (by rw[h.tP];decide)
 exact⟨e2,h.co.Qh k (by decide),h.sws.Qh k (by decide) (by decide),h.ors.Qh k (by decide) (by decide) (fun j=>by omega),h.bks.Qh k (by decide) (fun j=>by omega),h.pks.Qh k (by decide) (fun j=>by omega),h.pls.Qh k (by decide) (by decide),e1.trans h.tP,hn,hb,hE⟩
def q4f (tg:Nat->Nat) (w:World) (came:List Int) (v:Value):Prop:=RwT tg 7 w 41 1 v came.length (came.map (Value.int .i64))
variable {came:List Int}
theorem Q0.pushE{T:TypeId}{w2:World}{n:Nat}{W:Wd}{v:Value}{x:Int}{g off cap:Nat}(h:Q0 T tl w0 P n tg w W a sb ob bb kv lv)(hv:q4f tg w came v)(hr:Rw w2 41 1 (.slice (some ⟨g,off,none⟩) (came.length+1) cap) (came.length+1) (came.map (Value.int .i64)++[.int .i64 x]))(hg:w.grownBy w2 v.ownBlock)(Q2:v.ownBlock=some g\/g=w.heap.size):
  ∃tg',Q0 T tl w0 P n tg' w2 W a sb ob bb kv lv/\q4f tg' w2 (came++[x]) (.slice (some ⟨g,off,none⟩) (came.length+1) cap)/\Qf (fun x=>x≠7) tg tg' w w2:=by
  have k:=Qf.push (tg:=tg) (t:=7) hv.tg hg Q2
  have hgl:g<w2.heap.size:=hr.lt g rfl
  refine⟨_,h.keepW (k.mono (fun x hx=>hx.1)) (fun b hb=>?_) (fun b hb=>?_) (q3q h.ext h.base hg (fun j hj=>by rw[hv.tg j hj];decide)),⟨by rw[lap,List.map_append];exact hr,fun j hj=>by simp[Value.ownBlock] at hj;simp[hj]⟩,k⟩
  ·have:=hg.size
   show(if b=g then 7 else tg b)=0
   rw[if_neg (by omega)]
   exact h.nw b (by omega)
  ·by_cases e:b=g
   ·subst e
    rcases Q2 with h1 | h1
    ·exact h.base b (by rw[hv.tg b h1];decide)
    ·rw[h1];exact h.ext.size
   ·have hb':(if b=g then 7 else tg b)≠0:=hb
    rw[if_neg e] at hb';exact h.base b hb'
theorem q4f.list{v:Value}(h:q4f tg w came v):∃ao cap,v=.slice ao came.length cap/\Qj w ao came:=by
 obtain⟨ao,cap,hv⟩:=h.rw.form
 refine⟨ao,cap,hv,?_⟩
 by_cases h0:came=[]
 ·exact Or.inl h0
 ·have hn:0<came.length:=List.length_pos_iff.2 h0
  obtain⟨g,off,cap',hv',hg,_,_,hc⟩:=h.rw.cells hn
  rw[hv] at hv'
  cases hv'
  refine Or.inr ⟨g,off,rfl,hg,fun k hk=>?_⟩
  rw[hc k (by omega),List.getElem?_map,Zt,List.getElem?_eq_getElem hk]
  rfl
theorem q4f.Qh{S:Nat->Prop}{tg tg':Nat->Nat}{w w':World}{came:List Int}{v:Value}(h:q4f tg w came v)(k:Qf S tg tg' w w')(h7:S 7):q4f tg' w' came v:=RwT.Qh h k h7
theorem q4f.row{v:Value}(h:q4f tg w came v):Rw w 41 1 v came.length (came.map (Value.int .i64)):=RwT.rw h
end Rm
section
open Go.ChangeShapes Go.WideShapes Go.ChangeAt Go.RowKit Go.Deep Go.Joins Stw
theorem Tryz.cellsDo:prog.cellsOf 50=3:=by kernel_rfl
theorem Tryz.cellsFs:prog.cellsOf 26=1:=by kernel_rfl
section
variable {H:Type} {enc:TypeId×Value->H} {W:World}
theorem cells3q{w:World}{a:Addr}{cs:List Value}{x y z:Value}(h:w.cells? 0 a 3=some cs)(e:cs=[x,y,z]):w.cell? a=some x/\w.cell? (a.add 1)=some y/\w.cell? (a.add 2)=some z:=by
 obtain⟨_,_,hc⟩:=World.cells?_some h
 subst e
 exact⟨by simpa[Addr.add] using hc 0 (by omega),hc 1 (by omega),hc 2 (by omega)⟩
theorem three_of{cs:List Value}(h:cs.length=3):∃c0 c1 c2,cs=[c0,c1,c2]:=by
 match cs,h with
 | [c0,c1,c2],_=>exact⟨c0,c1,c2,rfl⟩
theorem open_do3{fuel:Nat}{cs:List Value}{x:DataW H×List MemPlace}(h:DataW.trod enc prog W 0 (fun _=>true) true fuel 50 cs=some x)(hw:∀m∈x.1.weights prog 50,m<=reachBytes):
 ∃(d:Rm.Dd) (fo:Option Addr) (fc:Nat),cs=[.int .i64 d.k,.int .i64 d.n,.slice fo d.fs.length fc]/\Fw.Qk W fo d.fs/\Fw.Sm d.fs/\d.fs.length<=9223372036854775807:=by
 obtain⟨y0,y1,y2,n',rfl,hlen,t0,t1,t2⟩:=trod_struct3 underlying50 h
 rw[Tryz.cellsDo] at hlen
 obtain⟨c0,c1,c2,rfl⟩:∃c0 c1 c2,cs=[c0,c1,c2]:=three_of hlen
 obtain⟨a0,e0,_,w0⟩:=DataW.trod_int underlying3 t0
 obtain⟨a1,e1,_,w1⟩:=DataW.trod_int underlying3 t1
 obtain⟨fo,fl,fc,fs,e2,hl,hfa,hfx,hsm⟩:=open_flows t2 (fun m hm=>hw m (by simp[DataW.weights,DataW.weightsEach,underlying50];exact Or.inr (Or.inr hm)))
 simp[Tryz.cells3,Tryz.cellsFs] at e0 e1 e2
 subst e0 e1 e2 hl
 exact⟨⟨a0,a1,fs⟩,fo,fc,rfl,hfa,hsm,hfx⟩
theorem open_dos{fuel:Nat}{cs:List Value}{x:DataW H×List MemPlace}(h:DataW.trod enc prog W 0 (fun _=>true) true fuel 25 cs=some x)(hw:∀m∈x.1.weights prog 25,m<=reachBytes):
 ∃(ao:Option Addr) (len cap:Nat) (ds:List Rm.Dd),cs=[.slice ao len cap]/\ds.length=len/\Rm.z2z W ao ds/\len<=9223372036854775807/\Rm.DsSm ds/\len<=cap/\cap<=9223372036854775807:=by
 rcases open_slice underlying25 h with⟨hcs,_⟩ | ⟨a,len,cap,m,n,D,Pl,hcs,_,hl,hm,hmm,hx,hel⟩
 ·exact⟨none,0,0,[],hcs,rfl,Or.inl rfl,by omega,(fun d hd=>by cases hd),by omega,by omega⟩
 ·have hmc:m=cap:=by simpa using hmm
  have hwD:∀i,i<len->∀m∈(D i).weights prog 50,m<=reachBytes:=fun i hi m hm=>hw m (by
   rw[hx]
   simp only[DataW.weights,underlying25]
   refine List.mem_cons_of_mem _ (List.mem_append_left _ (q4r (List.mem_map.2 ⟨i,by simpa using hi,rfl⟩) m hm)))
  have hfam:∀i,i<len->∃q:Rm.Dd×Option Addr×Nat,(W.cell? (a.add (i*3))=some (.int .i64 q.1.k)/\W.cell? ((a.add (i*3)).add 1)=some (.int .i64 q.1.n)/\W.cell? ((a.add (i*3)).add 2)=some (.slice q.2.1 q.1.fs.length q.2.2))/\Fw.Qk W q.2.1 q.1.fs/\Fw.Sm q.1.fs/\q.1.fs.length<=9223372036854775807:=by
   intro i hi
   obtain⟨cs',hcell,htr⟩:=hel i (by omega)
   rw[Tryz.cellsDo] at hcell
   obtain⟨d,fo,fc,hc,h1,h2,h3⟩:=open_do3 htr (hwD i hi)
   exact⟨(d,fo,fc),cells3q hcell hc,h1,h2,h3⟩
  have:Inhabited (Rm.Dd×Option Addr×Nat):=⟨(Rm.dd0,none,0)⟩
  obtain⟨F,hF⟩:=choose_lt hfam
  have hget:∀k,k<len->((List.range len).map (fun i=>(F i).1)).getD k Rm.dd0=(F k).1:=fun k h=>by simp[h]
  refine⟨some a,len,cap,(List.range len).map (fun i=>(F i).1),hcs,by simp,?_,by unfold maxLen at hm;omega,fun d hd=>?_,hl,by unfold maxLen at hm;omega⟩
  ·by_cases h0:len=0
   ·exact Or.inl (by simp[h0])
   ·obtain⟨b,off,spot⟩:=a
    have hc:=(hF 0 (by omega)).1.1
    have hspot:spot=none:=by simpa[Addr.add] using World.cell?_spot hc
    subst hspot
    refine Or.inr ⟨b,off,rfl,by have:=z2p hc;simpa[Addr.add] using this,fun k hk=>?_⟩
    have hk':k<len:=by simpa using hk
    obtain⟨⟨g0,g1,g2⟩,hv,_⟩:=hF k hk'
    have e0:(⟨b,off,none⟩:Addr).add (k*3)=⟨b,off+k*3,none⟩:=by
     unfold Addr.add
     split
     ·simp_all
     ·rfl
    rw[e0] at g0 g1 g2
    rw[hget k hk']
    exact⟨_,_,g0,by simpa[Addr.add] using g1,by simpa[Addr.add] using g2,hv⟩
  ·obtain⟨i,hi,rfl⟩:=List.mem_map.1 hd
   exact(hF i (by simpa using hi)).2.2
end
end
end Go.Proofs.YthkpbefnkmmaiaaGreat
