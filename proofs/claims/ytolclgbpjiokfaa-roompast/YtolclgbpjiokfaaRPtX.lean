/- RoomPast: of what happened first the same came, whatever happens behind it, and packets that are done stay where they are; for every input. -/
import Derived.Test.YtolclgbpjiokfaaU35
import Derived.Test.YtolclgbpjiokfaaU36
import Derived.Test.YtolclgbpjiokfaaU24
namespace Go.Proofs.Ytolclgbpjiokfaa.Rm
open Go.RowKit Go.Deep Stw Stp Tb Rul Ct
def tg1 (P sb ob bb X Y:Nat) (b:Nat):Nat:=if b=P then 1 else if b=sb then 2 else if b=ob then 3 else if b=bb then 4 else if X≤b∧b≤Y then 8 else 0
theorem WSt.start1 {T:TypeId} {tl:List Value} {w0 w:World} {P n sb ob bb X Y:Nat} (hX:w0.heap.size≤X) (hXY:X≤Y) (hYP:Y<P) (hPs:P<sb) (hso:sb<ob) (hob:ob<bb) (hr:w.rowIs P T (14+tl.length) (fun j=>(wdL co0 ca0 n sb ob bb (.slice none 0 0) (.slice none 0 0) tl).getD j vd))
 (h1:w.heap[sb]? =some (.cells (mkS n) 60 (0,0))) (h2:w.heap[ob]? =some (.cells (mkL n) 100 (0,0))) (h3:w.heap[bb]? =some (.cells (mkL n) 31 (0,0))) (E:Ext w0 w):
 WSt T tl w0 P n (tg1 P sb ob bb X Y) w (wdN n) ca0 sb ob bb (.slice none 0 0) (.slice none 0 0):=by
 have hbl:bb<w.heap.size:=(Array.getElem?_eq_some_iff.1 h3).1
 refine⟨hr,fun U _ _=>CoAt.zero U,⟨?_,_,mkS_row h1,fun s hs=>⟨none,0,none,0,?_,?_,fun U _ _=>?_⟩⟩,⟨?_,_,mkL_row h2,fun s hs=>?_⟩,⟨?_,_,mkL_row h3,fun s hs=>?_⟩,⟨[],RwT.nil _ _ _ _ _,fun i hi=>by simp[wdN] at hi⟩,⟨[],RwT.nil _ _ _ _ _,fun i hi=>by simp[wdN] at hi⟩,by unfold tg1;rw[if_pos rfl],fun b hb=>?_,fun b hb=>?_,E⟩
 ·unfold tg1
  rw[if_neg (by omega),if_pos rfl]
 ·show _=Value.slice none ((List.replicate n Agt.sw0).getD s Agt.sw0).rs.length 0
  rw[getD_rep1];rfl
 ·show _=Value.slice none ((List.replicate n Agt.sw0).getD s Agt.sw0).st.length 0
  rw[getD_rep1];rfl
 ·show Ag.SwAt U ((List.replicate n Agt.sw0).getD s Agt.sw0) none none 0
  rw[getD_rep1]
  exact⟨⟨rfl,Or.inl rfl,fun _=>⟨rfl,rfl⟩⟩,Or.inl rfl,by decide,by decide,by decide⟩
 ·unfold tg1
  rw[if_neg (by omega),if_neg (by omega),if_pos rfl]
 ·show OrwAt _ _ _ ((List.replicate n []).getD s []) _
  rw[getD_rep1]
  exact OrwAt.nil _ _ _
 ·unfold tg1
  rw[if_neg (by omega),if_neg (by omega),if_neg (by omega),if_pos rfl]
 ·show BrwAt _ _ _ ((List.replicate n []).getD s []) _
  rw[getD_rep1]
  exact BrwAt.nil _ _ _
 ·unfold tg1
  rw[if_neg (by omega),if_neg (by omega),if_neg (by omega),if_neg (by omega),if_neg (by omega)]
 ·unfold tg1 at hb
  by_cases e1:b=P
  ·omega
  ·rw[if_neg e1] at hb
   by_cases e2:b=sb
   ·omega
   ·rw[if_neg e2] at hb
    by_cases e3:b=ob
    ·omega
    ·rw[if_neg e3] at hb
     by_cases e4:b=bb
     ·omega
     ·rw[if_neg e4] at hb
      by_cases e5:X≤b∧b≤Y
      ·omega
      ·rw[if_neg e5] at hb;exact absurd rfl hb
theorem tg1_in {P sb ob bb X Y b:Nat} (h1:X≤b) (h2:b≤Y) (hYP:Y<P) (hPs:P<sb) (hso:sb<ob) (hob:ob<bb):tg1 P sb ob bb X Y b=8:=by
 unfold tg1
 rw[if_neg (by omega),if_neg (by omega),if_neg (by omega),if_neg (by omega),if_pos ⟨h1,h2⟩]
def PlyAll (z w:World) (W:Wd) (came:List Int) (f:Int×Int) (e:Ending) (w':World):Prop:=
 ∃A co cc,e=.returned (.tuple #[wvl W A,.slice co came.length cc,.agg #[.int .i64 f.1,.int .i64 f.2]])∧Ext w w'∧Hid (∀U,w'.heap.size≤U.heap.size→Ext z U→(∀b,b<w'.heap.size→¬(z.heap.size≤b∧b<w.heap.size)→U.heap[b]? =w'.heap[b]?)→WoAt U W A∧ListAt U co came)
def PlyJ (z w w3:World) (n len cap:Nat) (ao:Option Addr) (P sb ob bb:Nat) (q:Wd×List Int) (cv:Value) (wd:World):Prop:=
 ∃(tg:Nat→Nat) (a:CA) (kv lv:Value),WSt 95 [.int .i64 (n:Int),.slice ao len cap] z P n tg wd q.1 a sb ob bb kv lv∧CamAt tg wd q.2 cv∧∀b,z.heap.size≤b→b≤w.heap.size+1+1→tg b=8∧wd.heap[b]? =w3.heap[b]?
theorem ext_fill {z w w3 U:World} (hz:Ext z U) (h3:Ext w w3) (hs:w.heap.size≤U.heap.size) (hb:∀b,z.heap.size≤b→b<w.heap.size→U.heap[b]? =w3.heap[b]?) (hzw3:Ext z w3):Ext w U:=
 ⟨hz.os.trans (hzw3.os.symm.trans h3.os),hz.tape.trans (hzw3.tape.symm.trans h3.tape),hz.output.trans (hzw3.output.symm.trans h3.output),hs,fun k hk=>by
  by_cases h:k<z.heap.size
  ·rw[hz.block k h, ←hzw3.block k h,h3.block k hk]
  ·rw[hb k (by omega) hk,h3.block k hk]⟩
theorem PlyAll.of {T:TypeId} {tl:List Value} {z w w3 wr:World} {P n:Nat} {tg:Nat→Nat} {W:Wd} {a:CA} {sb ob bb:Nat} {ko lo:Option Addr} {kc lc:Nat} {v:Value} {came:List Int} {X Y:Nat} {x0 x1 x2 x3 x4 x5 x6 x7 x8 x9 x10 x11 x12 x13 y0 y1:Value} (h:WSt T tl z P n tg wr W a sb ob bb (.slice ko W.pk.length kc) (.slice lo W.pn.length lc)) (hc:CamAt tg wr came v) (hX:tg X=8) (hY:tg Y=8) (hXw:w.heap.size≤X) (hYw:w.heap.size≤Y) (hzw:Ext z w) (h3:Ext w w3) (hR:∀b,z.heap.size≤b→b<w.heap.size→tg b=8∧wr.heap[b]? =w3.heap[b]?) (hlw:w.heap.size≤wr.heap.size) (hs:W.sw.length=n) (ho:W.od.length=n) (hb:W.bk.length=n):
 PlyAll z w W came (0,0) (.returned (.tuple #[.agg #[.int .i64 W.co.st,.int .i64 W.co.now.v,.slice a.n.fo W.co.now.fs.length a.n.fc,.slice a.n.qo W.co.now.ps.length a.n.qc,.int .i64 W.co.nxt.v,.slice a.x.fo W.co.nxt.fs.length a.x.fc,.slice a.x.qo W.co.nxt.ps.length a.x.qc,.int .i64 W.co.num,.slice a.wo W.co.wts.length a.wc,.slice (some ⟨sb,0,none⟩) n n,.slice (some ⟨ob,0,none⟩) n n,.slice (some ⟨bb,0,none⟩) n n,.slice ko W.pk.length kc,.slice lo W.pn.length lc],v,.agg #[.int .i64 0,.int .i64 0]])) (W16 wr X Y x0 x1 x2 x3 x4 x5 x6 x7 x8 x9 x10 x11 x12 x13 y0 y1):=by
 obtain⟨ko',kc',lo',lc',e1,e2,_⟩:=h.look hs ho hb
 cases e1
 cases e2
 obtain⟨co,cc,rfl,_⟩:=hc.list
 obtain⟨h1,h2⟩:=h.fin (x0:=x0) (x1:=x1) (x2:=x2) (x3:=x3) (x4:=x4) (x5:=x5) (x6:=x6) (x7:=x7) (x8:=x8) (x9:=x9) (x10:=x10) (x11:=x11) (x12:=x12) (x13:=x13) (y0:=y0) (y1:=y1) hc hX hY
 refine⟨⟨a,some ⟨sb,0,none⟩,n,some ⟨ob,0,none⟩,n,some ⟨bb,0,none⟩,n,ko,kc,lo,lc⟩,co,cc,?_,?_,fun U hU hEU hbU=>?_⟩
 ·unfold wvl
  rw[hs,ho,hb]
 ·refine ext_fill h1.ext h3 (by rw[W16_size];exact hlw) (fun b hb1 hb2=>?_) (hzw.trans h3)
  rw[W16_block b (by omega) (by omega)]
  exact(hR b hb1 hb2).2
 ·have k:KeepP (fun x=>x≠8) tg (fun b=>if b<wr.heap.size then tg b else 0) (W16 wr X Y x0 x1 x2 x3 x4 x5 x6 x7 x8 x9 x10 x11 x12 x13 y0 y1) U:=⟨hU,fun b hb1 hb2=>⟨by rw[W16_size] at hb1;exact if_pos hb1,hbU b hb1 (fun hr=>hb2 (hR b hr.1 hr.2).1)⟩⟩
  have hW:=h1.keepW (k.mono (fun x hx=>hx.2)) (fun b hb1=>by
   rw[W16_size] at hU
   exact if_neg (by omega)) (fun b hb1=>by
   by_cases hlt:b<wr.heap.size
   ·have hb2:(if b<wr.heap.size then tg b else 0)≠0:=hb1
    rw[if_pos hlt] at hb2;exact h.base b hb2
   ·have hb2:(if b<wr.heap.size then tg b else 0)≠0:=hb1
    rw[if_neg hlt] at hb2;exact absurd rfl hb2) hEU
  obtain⟨ko2,kc2,lo2,lc2,e1,e2,hwo⟩:=hW.look hs ho hb
  cases e1
  cases e2
  obtain⟨co2,cc2,e3,hl⟩:=(h2.keep k (by decide)).list
  cases e3
  exact⟨hwo,hl⟩
def DosIn (z w:World) (ao:Option Addr) (ds:List Dd):Prop:=
 ds=[]∨∃b off,ao=some ⟨b,off,none⟩∧b<w.heap.size∧∀k,k<ds.length→∃fo fc,w.cell? ⟨b,off+k*3,none⟩=some (.int .i64 (ds.getD k dd0).k)∧w.cell? ⟨b,off+k*3+1,none⟩=some (.int .i64 (ds.getD k dd0).n)∧w.cell? ⟨b,off+k*3+2,none⟩=some (.slice fo (ds.getD k dd0).fs.length fc)∧Fw.FlowsAt z fo (ds.getD k dd0).fs
theorem DosAt.isIn {z:World} {ao:Option Addr} {ds:List Dd} (h:DosAt z ao ds):DosIn z z ao ds:=h
theorem DosIn.ext {z w w':World} {ao:Option Addr} {ds:List Dd} (h:DosIn z w ao ds) (E:Ext w w'):DosIn z w' ao ds:=by
 rcases h with h | ⟨b,off,h1,h2,h3⟩
 ·exact Or.inl h
 ·refine Or.inr ⟨b,off,h1,Nat.lt_of_lt_of_le h2 E.size,fun k hk=>?_⟩
  obtain⟨fo,fc,c0,c1,c2,hf⟩:=h3 k hk
  exact⟨fo,fc,(E.cells.1 _ _ h2).trans c0,(E.cells.1 _ _ h2).trans c1,(E.cells.1 _ _ h2).trans c2,hf⟩
theorem DosIn.get {z w:World} {ao:Option Addr} {ds:List Dd} (h:DosIn z w ao ds) {k:Nat} (hk:k<ds.length):∃b off fo fc,ao=some ⟨b,off,none⟩∧b<w.heap.size∧w.cell? ⟨b,off+k*3,none⟩=some (.int .i64 (ds.getD k dd0).k)∧w.cell? ⟨b,off+k*3+1,none⟩=some (.int .i64 (ds.getD k dd0).n)∧w.cell? ⟨b,off+k*3+2,none⟩=some (.slice fo (ds.getD k dd0).fs.length fc)∧Fw.FlowsAt z fo (ds.getD k dd0).fs:=by
 rcases h with h | ⟨b,off,h1,h2,h3⟩
 ·rw[h] at hk;simp at hk
 ·obtain⟨fo,fc,c0,c1,c2,hf⟩:=h3 k hk
  exact⟨b,off,fo,fc,h1,h2,c0,c1,c2,hf⟩
set_option maxRecDepth 100000 in
set_option maxHeartbeats 4000000 in
theorem Play_in (N:Int) (ao:Option Addr) (len cap:Nat) (ls:List Lk) (lo:Option Addr) (lc:Nat) (ds:List Dd) (z w:World) (hz:Ext z w) (hlen:ls.length=len) (hl:NetAt z ao ls) (hx:len≤9223372036854775807) (hd:DosIn z w lo ds) (hS:DsSm ds) (hdl:ds.length≤9223372036854775807):
 Calls Try.prog 18 #[.agg #[.int .i64 N,.slice ao len cap],.slice lo ds.length lc] w fun e w'=>PlyAll z w (plyW N ls ds).1 (plyW N ls ds).2 (plyF N ls ds) e w':=by
 obtain⟨i0,hi0,hz00,hz01,hz02⟩:=info_parts infoEr
 have HA:=hidp (Pw_box w N (.slice ao len cap))
 have hE0:=Pw_ext w N (.slice ao len cap)
 go_enter Try.func18,Try.ntmps18
 go_wp2_with fail
 unfold Pw at HA hE0
 obtain⟨W1,hW1⟩:∃W1,W1=((w.alloc (.cells #[.int .i64 N,.slice ao len cap] 24)).alloc (.cells #[.int .i64 0,.int .i64 0,.slice none 0 0,.slice none 0 0,.int .i64 0,.slice none 0 0,.slice none 0 0,.int .i64 0,.slice none 0 0,.slice none 0 0,.slice none 0 0,.slice none 0 0,.slice none 0 0,.slice none 0 0] 40)).alloc (.cells #[.int .i64 0,.int .i64 0] 44):=⟨_,rfl⟩
 rw[←hW1] at HA hE0 ⊢
 clear hW1
 refine(Wrong_any N ao len cap ls W1 hlen (hl.ext (hz.trans hE0)) hx).mono ?_
 rintro e w2 ⟨rfl,E2⟩
 have HA2:=hidp (HA.out.ext E2)
 have hl2:=HA2.out.lt
 have hE2:=hE0.trans E2
 have hl20:w.heap.size<w2.heap.size:=by omega
 have hl21:w.heap.size+1<w2.heap.size:=by omega
 have zw:=box_cell HA2.out.w
 have zf:=box_cell HA2.out.f
 have fw:=box_frozen HA2.out.w
 have ff:=box_frozen HA2.out.f
 have r0:=zw 0
 have r1:=zw 1
 have r2:=zw 2
 have r3:=zw 3
 have r4:=zw 4
 have r5:=zw 5
 have r6:=zw 6
 have r7:=zw 7
 have r8:=zw 8
 have r9:=zw 9
 have r10:=zw 10
 have r11:=zw 11
 have r12:=zw 12
 have r13:=zw 13
 have q0:=zf 0
 have q1:=zf 1
 simp only[List.getElem?_toArray,List.getElem?_cons_zero,List.getElem?_cons_succ] at r0 r1 r2 r3 r4 r5 r6 r7 r8 r9 r10 r11 r12 r13 q0 q1
 clear zw zf
 by_cases hr:(wrong N ls).1=0
 ·have hright:=right_of hr
  have hbd:=hright.bounds
  obtain⟨n,rfl⟩:=Int.eq_ofNat_of_zero_le (show 0≤N by omega)
  have hn8:n≤8:=by omega
  have HWR:=hidp hr
  rw[hright.wrong]
  clear hr hright hbd
  by_cases hm:200<ds.length
  ·have HF:Hid (plyF n ls ds=(5,0)):=by show _=_;unfold plyF;rw[if_neg (by simpa using HWR.out),if_pos hm]
   have HW:Hid (plyW n ls ds=(wd0,[])):=by show _=_;unfold plyW;rw[HF.out,if_pos (by decide)]
   have b0:(200:Int)<(ds.length:Int):=by omega
   clear hm
   go_wp2
   refine bodyPost_ret (v:=.tuple #[.agg #[.int .i64 0,.int .i64 0,.slice none 0 0,.slice none 0 0,.int .i64 0,.slice none 0 0,.slice none 0 0,.int .i64 0,.slice none 0 0,.slice none 0 0,.slice none 0 0,.slice none 0 0,.slice none 0 0,.slice none 0 0],.slice none 0 0,.agg #[.int .i64 5,.int .i64 0]]) (by simp[results,Try.results18,go_sem,r0,r1,r2,r3,r4,r5,r6,r7,r8,r9,r10,r11,r12,r13,q0,q1,hl2,hl21]) rfl ?_
   rw[HW.out,HF.out]
   refine⟨wa0,none,0,rfl,?_,fun U _ _ _=>⟨WoAt.zero U,Or.inl rfl⟩⟩
   refine Ext.alloc ?_ _
   iterate 16 refine Ext.setCell ?_ (by simp only;omega) _
   exact hE2
  ·have HF:=hidp (plyF_of (n:=(n:Int)) (ds:=ds) HWR.out (by omega))
   have b0:¬(200:Int)<(ds.length:Int):=by omega
   have n0:=HA2.out.n0
   have n1:=HA2.out.n1
   go_wp2_with fail
   refine(playedIn_any n ao len cap _ hn8).mono ?_
   rintro e w3 ⟨P,sb,ob,bb,rfl,hP1,hP2,hP3,hP4,hrow,hb1,hb2,hb3,E3⟩
   have hA3:=HA2.out.ext (((Ext.refl w2).alloc _).trans E3)
   have hE3:Ext w w3:=hE2.trans (((Ext.refl w2).alloc _).trans E3)
   have hPw:w.heap.size+1+1<P:=by simp at hP1;omega
   have HST:Hid (PlyJ z w w3 n len cap ao P sb ob bb (run n ls (ds.take 0)) (.slice none 0 0) w3):=⟨_,ca0,_,_,WSt.start1 (X:=z.heap.size) (Y:=w.heap.size+1+1) (Nat.le_refl _) (by have:=hz.size;omega) (by omega) hP2 hP3 hP4 hrow hb1 hb2 hb3 (hz.trans hE3),RwT.nil _ _ _ _ _,fun b h1 h2=>⟨tg1_in h1 h2 (by omega) hP2 hP3 hP4,rfl⟩⟩
   have HBW:=hidp hA3
   have HE3:=hidp hE3
   have hzs:=hz.size
   have hs3:=hE3.size
   have hl3:=hA3.lt
   have HDS:=hidp hd
   have HSM:=hidp hS
   have HNT:=hidp hl
   clear hA3 hE3 hrow hb1 hb2 hb3 E3 hP1 hd hS hl HA2 HA fw ff r0 r1 r2 r3 r4 r5 r6 r7 r8 r9 r10 r11 r12 r13 q0 q1 n0 n1 E2 hE2 hE0
   go_wp2
   go_loopw [9,28] (fun cv iv wd=>∃(k:Nat) (v:Value),k≤ds.length∧iv=.int .i64 k∧cv=v∧Hid (PlyJ z w w3 n len cap ao P sb ob bb (run n ls (ds.take k)) v wd)) (fun _ iv _=>ds.length - (intOf iv).toNat)
   case atStart=>exact⟨0,_,Nat.zero_le _,rfl,rfl,HST.out⟩
   case round=>
    obtain⟨k,v,hk,rfl,hcv,HI⟩:=hrel
    obtain rfl:=hcv.symm
    by_cases hlt:k<ds.length
    ·have i1:(k:Int)<(ds.length:Int):=by omega
     obtain⟨tg,a,kv,lv,hW,hC,hT⟩:=HI.out
     obtain⟨db,doff,fo,fc,rfl,hdb,c0,c1,c2,hfl⟩:=(HDS.out).get hlt
     have hwr:Ext w wr:=ext_fill hW.ext HE3.out (by have:=(Array.getElem?_eq_some_iff.1 ((hT (w.heap.size+1+1) (by omega) (by omega)).2.trans HBW.out.f)).1;omega) (fun b h1 h2=>(hT b h1 (by omega)).2) (hz.trans HE3.out)
     have hdb':db<wr.heap.size:=Nat.lt_of_lt_of_le hdb hwr.size
     have d0:=(hwr.cells.1 _ _ hdb).trans c0
     have d1:=(hwr.cells.1 _ _ hdb).trans c1
     have d2:=(hwr.cells.1 _ _ hdb).trans c2
     clear hwr
     have hmem:ds.getD k dd0∈ds:=by rw[List.getD_eq_getElem?_getD,List.getElem?_eq_getElem hlt];exact List.getElem_mem _
     have hsm:=HSM.out _ hmem
     have HRT:Hid (run n ls (ds.take (k+1))=stepR n ls (run n ls (ds.take k)) (ds.getD k dd0)):=runR_take (n:=n) (ls:=ls) (q:=(wdN n,[])) hlt
     generalize ds.getD k dd0=d at d0 d1 d2 hfl hsm HRT
     obtain⟨dk,dn,dfs⟩:=d
     simp only at d0 d1 d2 hfl hsm
     have hinv:=run_inv (n:=n) (ls:=ls) (ds:=ds.take k) HWR.out (by rw[List.length_take];omega)
     have hcl:(run n ls (ds.take k)).2.length=k:=by rw[run_len,List.length_take];omega
     have HCL:=hidp hcl
     have HHP:Hid (∀V,Ext wr V→Calls Try.prog 39 #[.pointer (some ⟨P,0,none⟩),.agg #[.int .i64 dk,.int .i64 dn,.slice fo dfs.length fc]] V fun e w'=>MOut [.int .i64 (n:Int),.slice ao len cap] z P n tg V sb ob bb (hap n ls (run n ls (ds.take k)).1 ⟨dk,dn,dfs⟩) e w'):=fun V hV=>happen_any n len cap ls ao _ z P tg V _ a sb ob bb kv lv ⟨dk,dn,dfs⟩ fo fc (hW.toExt hV) hinv (by rw[List.length_take];omega) hlen HNT.out hx hfl hsm.1 hsm.2
     have HC:=hidp hC
     have HW0:=hidp hW
     have H8:=hidp hT
     clear hW hC hT hinv hsm hfl c0 c1 c2 hmem HI hcl
     generalize run n ls (ds.take k)=q at HC HW0 HHP HRT HCL
     obtain⟨QW,came⟩:=q
     go_wp2_with fail
     refine Calls.mono (HHP.out _ ((Ext.refl wr).alloc _)) ?_
     rintro e w5 ⟨rfl,tg5,a5,kv5,lv5,hW5,hK5⟩
     obtain⟨er,her⟩:∃er,er=(hap n ls (QW,came).1 ⟨dk,dn,dfs⟩).2:=⟨_,rfl⟩
     rw[←her]
     have HER:=hidp her
     have HW5:=hidp hW5
     have HKK:Hid (Kpt tg tg5 wr w5):=(Kpt.ext ((Ext.refl wr).alloc _)).trans hK5
     have HC5:=hidp (HC.out.keep HKK.out (Or.inr (Or.inl rfl)))
     have hcl:came.length=k:=HCL.out
     have EP:Ext w5 (w5.alloc (.cells #[.int .i64 er] 42)):=(Ext.refl w5).alloc _
     clear her hW5 hK5
     go_wp2_with (first | (at_builtin;refine wpList_append_rw _ rfl _ _ 41 rfl 42 i0 _ 1 8 Try.underlying41 hi0 hz00 hz01 hz02 rfl (by decide) _ came.length (came.map (Value.int .i64)) rfl (HC5.out.keep (KeepP.ext (S:=fun _=>True) EP) trivial).row ⟨w5.heap.size,0,none⟩ 1 [.int .i64 er] rfl rfl (news1 rfl (Ext.refl _)) (one1i _) (by unfold maxLen;omega) (by omega) ?_) | fail)
     intro g7 off7 cap7 w7 hr7 hg7 hat7
     obtain⟨tg7,hW7,hC7,hK7⟩:=WSt.pushE (HW5.out.toExt EP) (HC5.out.keep (KeepP.ext (S:=fun _=>True) EP) trivial) (by rw[hcl];exact hr7) hg7 (by simpa using hat7)
     have K8:KeepP (fun x=>x=8) tg tg7 wr w7:=(HKK.out.mono (fun x hx=>Or.inr (Or.inr hx))).trans ((KeepP.ext EP).trans (hK7.mono (fun x hx=>by omega)))
     have z8:∀b,z.heap.size≤b→b≤w.heap.size+1+1→tg7 b=8∧w7.heap[b]? =w3.heap[b]?:=fun b h1 h2=>by
      obtain⟨o,ho⟩:∃o,w3.heap[b]? =some o:=⟨_,Array.getElem?_eq_getElem (by omega)⟩
      exact keep8 ho (H8.out b h1 h2).1 (H8.out b h1 h2).2 K8
     have HST7:Hid (PlyJ z w w3 n len cap ao P sb ob bb (run n ls (ds.take (k+1))) (.slice (some ⟨g7,off7,none⟩) (k+1) cap7) w7):=by
      show PlyJ z w w3 n len cap ao P sb ob bb _ _ w7
      rw[HRT.out]
      refine⟨tg7,a5,kv5,lv5,hW7,?_,z8⟩
      show CamAt tg7 w7 (came++[(hap n ls (QW,came).1 ⟨dk,dn,dfs⟩).2]) _
      rw[←HER.out]
      rw[hcl] at hC7
      exact hC7
     clear hW7 hC7 hK7 K8 z8 hr7 hg7 hat7
     go_wp2
     refine⟨⟨k+1,_,by omega,by simp[go_sem],rfl,HST7.out⟩,?_⟩
     simp[intOf]
     omega
    ·have hke:k=ds.length:=by omega
     have i1:¬(k:Int)<(ds.length:Int):=by omega
     obtain⟨tg,a,kv,lv,hW,hC,hT⟩:=HI.out
     have hinv:=run_inv (n:=n) (ls:=ls) (ds:=ds.take k) HWR.out (by rw[List.length_take];omega)
     have HRE:Hid (plyW (n:Int) ls ds=run n ls (ds.take k)):=by
      show _=_
      rw[HF.out.2,hke,List.take_length]
      rfl
     obtain⟨ko,kc,lo2,lc2,hkv,hlv,hwo⟩:=hW.look hinv.lsw hinv.lod hinv.lbk
     have hlsw:=hinv.lsw
     have hlod:=hinv.lod
     have hlbk:=hinv.lbk
     clear hinv hwo
     generalize run n ls (ds.take k)=q at hW hC HRE hkv hlv hlsw hlod hlbk
     obtain⟨W,came⟩:=q
     simp only at hW hC hkv hlv hlsw hlod hlbk
     subst hkv hlv
     have p0:wr.cell? ⟨P,0,none⟩=some (.int .i64 W.co.st):=hW.row.cell (i:=0) (by simp)
     have p1:wr.cell? ⟨P,1,none⟩=some (.int .i64 W.co.now.v):=hW.row.cell (i:=1) (by simp)
     have p2:wr.cell? ⟨P,2,none⟩=some (.slice a.n.fo W.co.now.fs.length a.n.fc):=hW.row.cell (i:=2) (by simp)
     have p3:wr.cell? ⟨P,3,none⟩=some (.slice a.n.qo W.co.now.ps.length a.n.qc):=hW.row.cell (i:=3) (by simp)
     have p4:wr.cell? ⟨P,4,none⟩=some (.int .i64 W.co.nxt.v):=hW.row.cell (i:=4) (by simp)
     have p5:wr.cell? ⟨P,5,none⟩=some (.slice a.x.fo W.co.nxt.fs.length a.x.fc):=hW.row.cell (i:=5) (by simp)
     have p6:wr.cell? ⟨P,6,none⟩=some (.slice a.x.qo W.co.nxt.ps.length a.x.qc):=hW.row.cell (i:=6) (by simp)
     have p7:wr.cell? ⟨P,7,none⟩=some (.int .i64 W.co.num):=hW.row.cell (i:=7) (by simp)
     have p8:wr.cell? ⟨P,8,none⟩=some (.slice a.wo W.co.wts.length a.wc):=hW.row.cell (i:=8) (by simp)
     have p9:wr.cell? ⟨P,9,none⟩=some (.slice (some ⟨sb,0,none⟩) n n):=hW.row.cell (i:=9) (by simp)
     have p10:wr.cell? ⟨P,10,none⟩=some (.slice (some ⟨ob,0,none⟩) n n):=hW.row.cell (i:=10) (by simp)
     have p11:wr.cell? ⟨P,11,none⟩=some (.slice (some ⟨bb,0,none⟩) n n):=hW.row.cell (i:=11) (by simp)
     have p12:wr.cell? ⟨P,12,none⟩=some (.slice ko W.pk.length kc):=hW.row.cell (i:=12) (by simp)
     have p13:wr.cell? ⟨P,13,none⟩=some (.slice lo2 W.pn.length lc2):=hW.row.cell (i:=13) (by simp)
     have zw:=box_cell ((hT (w.heap.size+1) (by omega) (by omega)).2.trans HBW.out.w)
     have zf:=box_cell ((hT (w.heap.size+1+1) (by omega) (by omega)).2.trans HBW.out.f)
     have fw:=box_frozen ((hT (w.heap.size+1) (by omega) (by omega)).2.trans HBW.out.w)
     have ff:=box_frozen ((hT (w.heap.size+1+1) (by omega) (by omega)).2.trans HBW.out.f)
     have r0:=zw 0
     have r1:=zw 1
     have r2:=zw 2
     have r3:=zw 3
     have r4:=zw 4
     have r5:=zw 5
     have r6:=zw 6
     have r7:=zw 7
     have r8:=zw 8
     have r9:=zw 9
     have r10:=zw 10
     have r11:=zw 11
     have r12:=zw 12
     have r13:=zw 13
     have q0:=zf 0
     have q1:=zf 1
     simp only[List.getElem?_toArray,List.getElem?_cons_zero,List.getElem?_cons_succ] at r0 r1 r2 r3 r4 r5 r6 r7 r8 r9 r10 r11 r12 r13 q0 q1
     have HW:=hidp hW
     have HC:=hidp hC
     have HT:=hidp hT
     have hlw:w.heap.size+1+1<wr.heap.size:=(Array.getElem?_eq_some_iff.1 ((hT (w.heap.size+1+1) (by omega) (by omega)).2.trans HBW.out.f)).1
     have HX:=hidp (And.intro hlsw (And.intro hlod hlbk))
     clear zw zf hW hC hT hlsw hlod hlbk HI HST HDS HSM HNT
     go_wp2
     refine bodyPost_ret (v:=.tuple #[.agg #[.int .i64 W.co.st,.int .i64 W.co.now.v,.slice a.n.fo W.co.now.fs.length a.n.fc,.slice a.n.qo W.co.now.ps.length a.n.qc,.int .i64 W.co.nxt.v,.slice a.x.fo W.co.nxt.fs.length a.x.fc,.slice a.x.qo W.co.nxt.ps.length a.x.qc,.int .i64 W.co.num,.slice a.wo W.co.wts.length a.wc,.slice (some ⟨sb,0,none⟩) n n,.slice (some ⟨ob,0,none⟩) n n,.slice (some ⟨bb,0,none⟩) n n,.slice ko W.pk.length kc,.slice lo2 W.pn.length lc2],v,.agg #[.int .i64 0,.int .i64 0]]) (by simp[results,Try.results18,go_sem,r0,r1,r2,r3,r4,r5,r6,r7,r8,r9,r10,r11,r12,r13,q0,q1]) rfl ?_
     rw[HRE.out,HF.out.1]
     exact PlyAll.of (w3:=w3) HW.out HC.out (HT.out _ (by omega) (by omega)).1 (HT.out _ (by omega) (Nat.le_refl _)).1 (by omega) (by omega) hz HE3.out (fun b h1 h2=>HT.out b h1 (by omega)) (by omega) HX.out.1 HX.out.2.1 HX.out.2.2
 ·have HF:Hid (plyF N ls ds=wrong N ls):=by show _=_;unfold plyF;rw[if_pos hr]
  have HW:Hid (plyW N ls ds=(wd0,[])):=by show _=_;unfold plyW;rw[HF.out,if_pos hr]
  have b0:((wrong N ls).1 != 0)=true:=by simpa using hr
  clear hr
  go_wp2
  go_region
  go_wp2
  refine bodyPost_ret (v:=.tuple #[.agg #[.int .i64 0,.int .i64 0,.slice none 0 0,.slice none 0 0,.int .i64 0,.slice none 0 0,.slice none 0 0,.int .i64 0,.slice none 0 0,.slice none 0 0,.slice none 0 0,.slice none 0 0,.slice none 0 0,.slice none 0 0],.slice none 0 0,.agg #[.int .i64 (wrong N ls).1,.int .i64 (wrong N ls).2]]) (by simp[results,Try.results18,go_sem,r0,r1,r2,r3,r4,r5,r6,r7,r8,r9,r10,r11,r12,r13,q0,q1,hl2,hl21]) rfl ?_
  rw[HW.out,HF.out]
  refine⟨wa0,none,0,rfl,?_,fun U _ _ _=>⟨WoAt.zero U,Or.inl rfl⟩⟩
  refine Ext.drew (Ext.alloc ?_ _)
  iterate 16 refine Ext.setCell ?_ (by simp only;omega) _
  exact hE2
theorem Play_all (N:Int) (ao:Option Addr) (len cap:Nat) (ls:List Lk) (lo:Option Addr) (lc:Nat) (ds:List Dd) (z w:World) (hz:Ext z w) (hlen:ls.length=len) (hl:NetAt z ao ls) (hx:len≤9223372036854775807) (hd:DosAt z lo ds) (hS:DsSm ds) (hdl:ds.length≤9223372036854775807):
 Calls Try.prog 18 #[.agg #[.int .i64 N,.slice ao len cap],.slice lo ds.length lc] w fun e w'=>PlyAll z w (plyW N ls ds).1 (plyW N ls ds).2 (plyF N ls ds) e w':=
 Play_in N ao len cap ls lo lc ds z w hz hlen hl hx (hd.isIn.ext hz) hS hdl
end Go.Proofs.Ytolclgbpjiokfaa.Rm
namespace Go.Proofs.Ytolclgbpjiokfaa.Rm
open Go.RowKit Go.Deep Stw Stp Tb Rul Ct
theorem DosAt_take {w:World} {ao:Option Addr} {ds:List Dd} {k:Nat} (h:DosAt w ao ds):DosAt w ao (ds.take k):=by
 rcases h with h | ⟨b,off,h1,h2,h3⟩
 ·left;rw[h];simp
 ·refine Or.inr ⟨b,off,h1,h2,fun j hj=>?_⟩
  rw[List.length_take] at hj
  have e:(ds.take k).getD j dd0=ds.getD j dd0:=by rw[List.getD_eq_getElem?_getD,List.getD_eq_getElem?_getD,List.getElem?_take,if_pos (by omega)]
  rw[e]
  exact h3 j (by omega)
theorem zb14 {V w6:World} {b:Nat} (E:Ext V w6) (hb:V.heap[b]? =some (.cells #[.int .i64 0,.int .i64 0,.slice none 0 0,.slice none 0 0,.int .i64 0,.slice none 0 0,.slice none 0 0,.int .i64 0,.slice none 0 0,.slice none 0 0,.slice none 0 0,.slice none 0 0,.slice none 0 0,.slice none 0 0] 40 (0,0))):(w6.cell? ⟨b,0,none⟩=some (.int .i64 0)∧w6.cell? ⟨b,1,none⟩=some (.int .i64 0)∧w6.cell? ⟨b,2,none⟩=some (.slice none 0 0)∧w6.cell? ⟨b,3,none⟩=some (.slice none 0 0)∧w6.cell? ⟨b,4,none⟩=some (.int .i64 0)∧w6.cell? ⟨b,5,none⟩=some (.slice none 0 0)∧w6.cell? ⟨b,6,none⟩=some (.slice none 0 0)∧w6.cell? ⟨b,7,none⟩=some (.int .i64 0)∧w6.cell? ⟨b,8,none⟩=some (.slice none 0 0)∧w6.cell? ⟨b,9,none⟩=some (.slice none 0 0)∧w6.cell? ⟨b,10,none⟩=some (.slice none 0 0)∧w6.cell? ⟨b,11,none⟩=some (.slice none 0 0)∧w6.cell? ⟨b,12,none⟩=some (.slice none 0 0)∧w6.cell? ⟨b,13,none⟩=some (.slice none 0 0))∧(∀i,w6.frozen? ⟨b,i,none⟩=false)∧b<w6.heap.size:=by
 have hl:b<V.heap.size:=(Array.getElem?_eq_some_iff.1 hb).1
 have h:=(Below.block E b hl).trans hb
 exact⟨⟨box_cell h 0,box_cell h 1,box_cell h 2,box_cell h 3,box_cell h 4,box_cell h 5,box_cell h 6,box_cell h 7,box_cell h 8,box_cell h 9,box_cell h 10,box_cell h 11,box_cell h 12,box_cell h 13⟩,fun i=>box_frozen h i,(Array.getElem?_eq_some_iff.1 h).1⟩
theorem zb2 {V w6:World} {b:Nat} (E:Ext V w6) (hb:V.heap[b]? =some (.cells #[.int .i64 0,.int .i64 0] 44 (0,0))):(w6.cell? ⟨b,0,none⟩=some (.int .i64 0)∧w6.cell? ⟨b,1,none⟩=some (.int .i64 0))∧(∀i,w6.frozen? ⟨b,i,none⟩=false)∧b<w6.heap.size:=by
 have hl:b<V.heap.size:=(Array.getElem?_eq_some_iff.1 hb).1
 have h:=(Below.block E b hl).trans hb
 exact⟨⟨box_cell h 0,box_cell h 1⟩,fun i=>box_frozen h i,(Array.getElem?_eq_some_iff.1 h).1⟩
theorem ext14 {w w6:World} {b:Nat} {x0 x1 x2 x3 x4 x5 x6 x7 x8 x9 x10 x11 x12 x13:Value} (h:Ext w w6) (hb:w.heap.size≤b):Ext w ((((((((((((((w6.setCell ⟨b,0,none⟩ x0).setCell ⟨b,1,none⟩ x1).setCell ⟨b,2,none⟩ x2).setCell ⟨b,3,none⟩ x3).setCell ⟨b,4,none⟩ x4).setCell ⟨b,5,none⟩ x5).setCell ⟨b,6,none⟩ x6).setCell ⟨b,7,none⟩ x7).setCell ⟨b,8,none⟩ x8).setCell ⟨b,9,none⟩ x9).setCell ⟨b,10,none⟩ x10).setCell ⟨b,11,none⟩ x11).setCell ⟨b,12,none⟩ x12).setCell ⟨b,13,none⟩ x13):=by
 iterate 14 refine Ext.setCell ?_ hb _
 exact h
theorem ext2 {w w6:World} {b:Nat} {x0 x1:Value} (h:Ext w w6) (hb:w.heap.size≤b):Ext w ((w6.setCell ⟨b,0,none⟩ x0).setCell ⟨b,1,none⟩ x1):=by
 iterate 2 refine Ext.setCell ?_ hb _
 exact h
theorem blk14 {w6:World} {b j:Nat} {x0 x1 x2 x3 x4 x5 x6 x7 x8 x9 x10 x11 x12 x13:Value} (h:j≠b):(((((((((((((((w6.setCell ⟨b,0,none⟩ x0).setCell ⟨b,1,none⟩ x1).setCell ⟨b,2,none⟩ x2).setCell ⟨b,3,none⟩ x3).setCell ⟨b,4,none⟩ x4).setCell ⟨b,5,none⟩ x5).setCell ⟨b,6,none⟩ x6).setCell ⟨b,7,none⟩ x7).setCell ⟨b,8,none⟩ x8).setCell ⟨b,9,none⟩ x9).setCell ⟨b,10,none⟩ x10).setCell ⟨b,11,none⟩ x11).setCell ⟨b,12,none⟩ x12).setCell ⟨b,13,none⟩ x13)).heap[j]? =w6.heap[j]?:=by
 iterate 14 rw[blk_setCell_other _ _ _ _ h]
theorem blk2 {w6:World} {b j:Nat} {x0 x1:Value} (h:j≠b):((w6.setCell ⟨b,0,none⟩ x0).setCell ⟨b,1,none⟩ x1).heap[j]? =w6.heap[j]?:=by
 iterate 2 rw[blk_setCell_other _ _ _ _ h]
def PstOut (w5:World) (W:Wd) (came:List Int) (f:Int×Int) (xv dv gv:Value) (wx:World):Prop:=
 ∃A co cc bx bf,xv=.pointer (some ⟨bx,0,none⟩)∧dv=.slice co came.length cc∧gv=.pointer (some ⟨bf,0,none⟩)∧Ext w5 wx∧Hid (WoAt wx W A∧ListAt wx co came∧wx.cell? ⟨bx,12,none⟩=some (.slice A.ko W.pk.length A.kc)∧wx.cell? ⟨bx,13,none⟩=some (.slice A.lo W.pn.length A.lc)∧wx.cell? ⟨bf,0,none⟩=some (.int .i64 f.1)∧wx.cell? ⟨bf,1,none⟩=some (.int .i64 f.2)∧bx<wx.heap.size∧bf<wx.heap.size)
theorem pst_of {w5 w6 wx:World} {m:Nat} {X:Wd} {dame:List Int} {g:Int×Int} {B:WA} {bo:Option Addr} {bc bx bf:Nat} (HB:∀U,w6.heap.size≤U.heap.size→Ext w5 U→(∀b,b<w6.heap.size→¬(w5.heap.size≤b∧b<m)→U.heap[b]? =w6.heap[b]?)→WoAt U X B∧ListAt U bo dame) (hE:Ext w5 wx) (hs:w6.heap.size≤wx.heap.size) (hb:∀b,b<w6.heap.size→¬(w5.heap.size≤b∧b<m)→wx.heap[b]? =w6.heap[b]?)
 (c:(wx.cell? ⟨bx,12,none⟩=some (.slice B.ko X.pk.length B.kc)∧wx.cell? ⟨bx,13,none⟩=some (.slice B.lo X.pn.length B.lc))∧(wx.cell? ⟨bf,0,none⟩=some (.int .i64 g.1)∧wx.cell? ⟨bf,1,none⟩=some (.int .i64 g.2))∧bx<wx.heap.size∧bf<wx.heap.size):PstOut w5 X dame g (.pointer (some ⟨bx,0,none⟩)) (.slice bo dame.length bc) (.pointer (some ⟨bf,0,none⟩)) wx:=
 ⟨B,bo,bc,bx,bf,rfl,rfl,rfl,hE,(HB wx hs hE hb).1,(HB wx hs hE hb).2,c.1.1,c.1.2,c.2.1.1,c.2.1.2,c.2.2.1,c.2.2.2⟩
theorem take_op {P:Program} {md:Region.Mode} {ops:Array Oper} {Q:Exit→Act→World→Prop} {S:World→Prop} {i:Nat} {oi:Oper} {d:Option Tmp} {v:Value} {fuel:Nat} {listed:Array Bool} {a:Act} {w:World} (hi:ops[i]? =some oi) (hd:oi.dst=d) (hs:Region.noSelect ops=true) (hf:Region.free md ops listed i=true) (hr:(Region.ready md ops listed).contains i=true) (hQ:∀c a w,Q (.panic c) (a.put d v) w→Q (.panic c) a w) (hy:YieldsIf P ops S oi v a) (hS:S w) (h:wpAnyH P md ops Q S fuel (listed.setIfInBounds i true) (a.put d v) w):wpAnyH P md ops Q S (fuel+1) listed a w:=by
 subst hd
 exact wpAnyH_take hi hs hf hr hQ hy hS h
set_option maxRecDepth 100000 in
set_option maxHeartbeats 2000000 in
theorem roomPast_any (N:Int) (ao:Option Addr) (len cap:Nat) (ls:List Lk) (lo:Option Addr) (lc:Nat) (ds:List Dd) (av:Int) (w:World) (hlen:ls.length=len) (hl:NetAt w ao ls) (hx:len≤9223372036854775807) (hd:DosAt w lo ds) (hS:DsSm ds) (hdl:ds.length≤9223372036854775807) (hcp:ds.length≤lc) (hcm:lc≤9223372036854775807):
 Calls Try.prog 10 #[.agg #[.int .i64 N,.slice ao len cap],.slice lo ds.length lc,.int .i64 av] w fun e w'=>e=.returned (.bool true)∧Ext w w':=by
 have hE0:=(Ext.refl w).alloc (.cells #[.int .i64 N,.slice ao len cap] 24)
 go_enter Try.func10,Try.ntmps10
 go_wp2_with fail
 refine(alive_any _).mono ?_
 rintro e w1 ⟨rfl,E1⟩
 have n0:w1.cell? ⟨w.heap.size,0,none⟩=some (.int .i64 N):=(E1.cells.1 _ _ (by simp)).trans (by simp)
 have n1:w1.cell? ⟨w.heap.size,1,none⟩=some (.slice ao len cap):=(E1.cells.1 _ _ (by simp)).trans (by simp)
 have hs1:w.heap.size<w1.heap.size:=by have:=E1.size;simp at this;omega
 have E01:=hE0.trans E1
 clear hE0 E1
 by_cases ha:av<0
 ·go_wp2
  go_ret
  exact⟨rfl,E01⟩
 ·obtain⟨k,rfl⟩:=Int.eq_ofNat_of_zero_le (show 0≤av by omega)
  have a0:¬(k:Int)<0:=by omega
  by_cases hb:(ds.length:Int)<(k:Int)
  ·go_wp2
   go_ret
   exact⟨rfl,E01⟩
  ·have hkl:k≤ds.length:=by omega
   clear ha
   go_wp2_with fail
   refine(Play_any N ao len cap ls lo lc ds w1 hlen (hl.ext E01) hx (hd.ext E01) hS hdl).mono ?_
   intro e w4 hP
   have HPT:Hid (∀z V,Ext w1 z→Ext z V→Calls Try.prog 18 #[.agg #[.int .i64 N,.slice ao len cap],.slice lo k lc] V fun e w'=>PlyAll z V (plyW N ls (ds.take k)).1 (plyW N ls (ds.take k)).2 (plyF N ls (ds.take k)) e w'):=fun z V hz hV=>by
    have hlt:(ds.take k).length=k:=by rw[List.length_take];omega
    have h1:=Play_all N ao len cap ls lo lc (ds.take k) z V hV hlen (hl.ext (E01.trans hz)) hx (DosAt_take (hd.ext (E01.trans hz))) (fun d hdm=>hS d (List.mem_of_mem_take hdm)) (by omega)
    rw[hlt] at h1
    exact h1
   generalize hf:plyF N ls ds=f at hP
   generalize hq:plyW N ls ds=q at hP
   generalize hg:plyF N ls (ds.take k)=g at HPT
   generalize hp:plyW N ls (ds.take k)=p at HPT
   obtain⟨W,came⟩:=q
   obtain⟨f0,f1⟩:=f
   obtain⟨X,dame⟩:=p
   have HQ:=hidp (And.intro hf (And.intro hq (And.intro hg hp)))
   clear hf hq hg hp
   obtain⟨A,co,cc,rfl,E4,HP⟩:=hP
   unfold wvl
   simp only at HP HPT ⊢
   have E04:=E01.trans E4
   have E14:=E4
   clear hl hd hS
   have k6:(k:Int)≤(lc:Int):=by omega
   have m0:=(E4.cells.1 _ _ hs1).trans n0
   have m1:=(E4.cells.1 _ _ hs1).trans n1
   have hs4:w.heap.size<w4.heap.size:=by have:=E4.size;omega
   clear n0 n1
   go_upto_region 6 with fail
   obtain⟨w5,hw5⟩:∃w5,w5=(w4.alloc (.cells #[.int .i64 W.co.st,.int .i64 W.co.now.v,.slice A.ca.n.fo W.co.now.fs.length A.ca.n.fc,.slice A.ca.n.qo W.co.now.ps.length A.ca.n.qc,.int .i64 W.co.nxt.v,.slice A.ca.x.fo W.co.nxt.fs.length A.ca.x.fc,.slice A.ca.x.qo W.co.nxt.ps.length A.ca.x.qc,.int .i64 W.co.num,.slice A.ca.wo W.co.wts.length A.ca.wc,.slice A.so W.sw.length A.sc,.slice A.oo W.od.length A.oc,.slice A.bo W.bk.length A.bc,.slice A.ko W.pk.length A.kc,.slice A.lo W.pn.length A.lc] 40)).alloc (.cells #[.int .i64 f0,.int .i64 f1] 44):=⟨_,rfl⟩
   have E45:Ext w4 w5:=by rw[hw5];exact((Ext.refl w4).alloc _).alloc _
   rw[←hw5]
   have HS:Hid (∀V,Ext w5 V→V.cell? ⟨w.heap.size,0,none⟩=some (.int .i64 N)∧V.cell? ⟨w.heap.size,1,none⟩=some (.slice ao len cap)):=fun V hV=>⟨((E45.trans hV).cells.1 _ _ hs4).trans m0,((E45.trans hV).cells.1 _ _ hs4).trans m1⟩
   have HC:Hid (∀V,Ext w5 V→Calls Try.prog 18 #[.agg #[.int .i64 N,.slice ao len cap],.slice lo k lc] V fun e w'=>PlyAll w5 V X dame g e w'):=fun V hV=>HPT.out w5 V (E14.trans E45) hV
   have HE5:=hidp (E04.trans E45)
   have HP5:Hid (WoAt w5 W A∧ListAt w5 co came):=⟨HP.out.1.ext E45,HP.out.2.ext E45⟩
   have hz5:w5.heap.size=w4.heap.size+1+1:=by rw[hw5];simp
   have HBX:Hid (∀V,Ext w5 V→(V.cell? ⟨w4.heap.size,12,none⟩=some (.slice A.ko W.pk.length A.kc)∧V.cell? ⟨w4.heap.size,13,none⟩=some (.slice A.lo W.pn.length A.lc))∧(V.cell? ⟨w4.heap.size+1,0,none⟩=some (.int .i64 f0)∧V.cell? ⟨w4.heap.size+1,1,none⟩=some (.int .i64 f1))∧w4.heap.size<V.heap.size∧w4.heap.size+1<V.heap.size):=fun V hV=>
    ⟨⟨(hV.cells.1 _ _ (by omega)).trans (by rw[hw5];simp),(hV.cells.1 _ _ (by omega)).trans (by rw[hw5];simp)⟩,⟨(hV.cells.1 _ _ (by omega)).trans (by rw[hw5];simp),(hV.cells.1 _ _ (by omega)).trans (by rw[hw5];simp)⟩,by have:=hV.size;omega,by have:=hV.size;omega⟩
   clear m0 m1 E14 E45 hw5 HP E04 E4 E01 hz5
   go_cut [10,11,12] (fun xv dv gv wx=>PstOut w5 X dame g xv dv gv wx)
   case first=>
    have hr0:Ext w5 w5:=Ext.refl w5
    have hd0:Ext w5 w5.drew:=hr0.drew
    go_region_held3 (fun V=>V.cell? ⟨w.heap.size,0,none⟩=some (.int .i64 N)∧V.cell? ⟨w.heap.size,1,none⟩=some (.slice ao len cap))
     (first | (with_reducible exact HS.out _ hd0) | (with_reducible exact HS.out _ (hr0.alloc _).drew) | (with_reducible exact HS.out _ ((hr0.alloc _).alloc _).drew) | (with_reducible exact HS.out _ mk1) | (with_reducible exact HS.out _ (mk1.alloc _)) | (with_reducible exact HS.out _ ((mk1.alloc _).alloc _)) | (with_reducible exact HS.out _ (ext14 mk1 (Nat.le_refl _))) | (with_reducible exact HS.out _ ((ext14 mk1 (Nat.le_refl _)).alloc _)) | (with_reducible exact HS.out _ (ext14 mk1 (Nat.le_succ _))) | (with_reducible exact HS.out _ ((ext2 mk1 (Nat.le_refl _)).alloc _)) | (with_reducible exact HS.out _ (ext2 mk1 (Nat.le_refl _))) | (with_reducible exact HS.out _ (ext2 (ext14 mk1 (Nat.le_refl _)) (Nat.le_succ _))) | (with_reducible exact HS.out _ (ext2 (ext14 mk1 (Nat.le_succ _)) (Nat.le_refl _))) | fail)
     (first
     | (go_at_call 18
        first
        | (with_reducible refine(HC.out _ hd0).mono ?_
           rintro e w6 ⟨B,bo,bc,rfl,E6,HB⟩
           unfold wvl
           have mk1:=hd0.trans E6)
        | (with_reducible refine(HC.out _ (hr0.alloc (.cells #[.int .i64 0,.int .i64 0,.slice none 0 0,.slice none 0 0,.int .i64 0,.slice none 0 0,.slice none 0 0,.int .i64 0,.slice none 0 0,.slice none 0 0,.slice none 0 0,.slice none 0 0,.slice none 0 0,.slice none 0 0] 40)).drew).mono ?_
           rintro e w6 ⟨B,bo,bc,rfl,E6,HB⟩
           unfold wvl
           have mk1:=(hr0.alloc (.cells #[.int .i64 0,.int .i64 0,.slice none 0 0,.slice none 0 0,.int .i64 0,.slice none 0 0,.slice none 0 0,.int .i64 0,.slice none 0 0,.slice none 0 0,.slice none 0 0,.slice none 0 0,.slice none 0 0,.slice none 0 0] 40)).drew.trans E6
           have hm6:w5.heap.size≤w6.heap.size:=mk1.size
           obtain⟨⟨z0,z1,z2,z3,z4,z5,z6,z7,z8,z9,z10,z11,z12,z13⟩,zf,zl⟩:=zb14 (b:=w5.heap.size) E6 (new_at rfl)
           have HX6:=hidp E6)
        | (with_reducible refine(HC.out _ (hr0.alloc (.cells #[.int .i64 0,.int .i64 0] 44)).drew).mono ?_
           rintro e w6 ⟨B,bo,bc,rfl,E6,HB⟩
           unfold wvl
           have mk1:=(hr0.alloc (.cells #[.int .i64 0,.int .i64 0] 44)).drew.trans E6
           have hm6:w5.heap.size≤w6.heap.size:=mk1.size
           obtain⟨⟨y0,y1⟩,yf,yl⟩:=zb2 (b:=w5.heap.size) E6 (new_at rfl)
           have HX6:=hidp E6)
        | (with_reducible refine(HC.out _ ((hr0.alloc (.cells #[.int .i64 0,.int .i64 0,.slice none 0 0,.slice none 0 0,.int .i64 0,.slice none 0 0,.slice none 0 0,.int .i64 0,.slice none 0 0,.slice none 0 0,.slice none 0 0,.slice none 0 0,.slice none 0 0,.slice none 0 0] 40)).alloc (.cells #[.int .i64 0,.int .i64 0] 44)).drew).mono ?_
           rintro e w6 ⟨B,bo,bc,rfl,E6,HB⟩
           unfold wvl
           have mk1:=((hr0.alloc (.cells #[.int .i64 0,.int .i64 0,.slice none 0 0,.slice none 0 0,.int .i64 0,.slice none 0 0,.slice none 0 0,.int .i64 0,.slice none 0 0,.slice none 0 0,.slice none 0 0,.slice none 0 0,.slice none 0 0,.slice none 0 0] 40)).alloc (.cells #[.int .i64 0,.int .i64 0] 44)).drew.trans E6
           have hm6:w5.heap.size≤w6.heap.size:=mk1.size
           obtain⟨⟨z0,z1,z2,z3,z4,z5,z6,z7,z8,z9,z10,z11,z12,z13⟩,zf,zl⟩:=zb14 (b:=w5.heap.size) E6 ((blk_alloc_lt _ _ _ (by simp)).trans (new_at rfl))
           obtain⟨⟨y0,y1⟩,yf,yl⟩:=zb2 (b:=w5.heap.size+1) E6 (new_at (by simp))
           have HX6:=hidp E6)
        | (with_reducible refine(HC.out _ ((hr0.alloc (.cells #[.int .i64 0,.int .i64 0] 44)).alloc (.cells #[.int .i64 0,.int .i64 0,.slice none 0 0,.slice none 0 0,.int .i64 0,.slice none 0 0,.slice none 0 0,.int .i64 0,.slice none 0 0,.slice none 0 0,.slice none 0 0,.slice none 0 0,.slice none 0 0,.slice none 0 0] 40)).drew).mono ?_
           rintro e w6 ⟨B,bo,bc,rfl,E6,HB⟩
           unfold wvl
           have mk1:=((hr0.alloc (.cells #[.int .i64 0,.int .i64 0] 44)).alloc (.cells #[.int .i64 0,.int .i64 0,.slice none 0 0,.slice none 0 0,.int .i64 0,.slice none 0 0,.slice none 0 0,.int .i64 0,.slice none 0 0,.slice none 0 0,.slice none 0 0,.slice none 0 0,.slice none 0 0,.slice none 0 0] 40)).drew.trans E6
           have hm6:w5.heap.size≤w6.heap.size:=mk1.size
           obtain⟨⟨y0,y1⟩,yf,yl⟩:=zb2 (b:=w5.heap.size) E6 ((blk_alloc_lt _ _ _ (by simp)).trans (new_at rfl))
           obtain⟨⟨z0,z1,z2,z3,z4,z5,z6,z7,z8,z9,z10,z11,z12,z13⟩,zf,zl⟩:=zb14 (b:=w5.heap.size+1) E6 (new_at (by simp))
           have HX6:=hidp E6)))
    all_goals
     go_wp2_with fail
     go_meet
     refine pst_of HB.out ?_ ?_ ?_ ?_
     ·first | (with_reducible exact(mk1.alloc _).alloc _) | (with_reducible exact(ext14 mk1 (Nat.le_refl _)).alloc _) | (with_reducible exact(ext2 mk1 (Nat.le_refl _)).alloc _) | (with_reducible exact ext2 (ext14 mk1 (Nat.le_refl _)) (Nat.le_succ _)) | (with_reducible exact ext2 (ext14 mk1 (Nat.le_succ _)) (Nat.le_refl _))
     ·simp <;> omega
     ·intro b hb1 hb2
      simp at hb2
      first
      | (rw[blk_alloc_lt _ _ _ (by simp;omega),blk_alloc_lt _ _ _ (by omega)])
      | (rw[blk_alloc_lt _ _ _ (by simp;omega),blk14 (by omega)])
      | (rw[blk_alloc_lt _ _ _ (by simp;omega),blk2 (by omega)])
      | (rw[blk2 (by omega),blk14 (by omega)])
     ·simp[go_sem, *]
   case rest=>
    obtain⟨B,bo,bc,bx,bf,rfl,rfl,rfl,hEx,HB⟩:=hcut
    obtain⟨⟨p12,p13⟩,⟨q0,q1⟩,hl4,hl5⟩:=HBX.out wc hEx
    obtain⟨_,_,x12,x13,g0c,g1c,hbx,hbf⟩:=HB.out
    obtain⟨g0,g1⟩:=g
    simp only at g0c g1c
    obtain⟨hf,hq,hg,hp⟩:=HQ.out
    have hEw:=HE5.out.trans hEx
    by_cases hw:(wrong N ls).1=0
    ·by_cases hm:ds.length≤200
     ·rw[(plyF_of hw hm).1] at hf
      rw[(plyF_of hw (by rw[List.length_take];omega)).1] at hg
      rw[(plyF_of hw hm).2] at hq
      rw[(plyF_of hw (by rw[List.length_take];omega)).2] at hp
      cases hf
      cases hg
      have hb:=(right_of hw).bounds
      obtain⟨n,rfl⟩:=Int.eq_ofNat_of_zero_le (show 0≤N by omega)
      rw[Int.toNat_natCast] at hq hp
      have hX40:X.pk.length≤40:=by
       have:=(run_inv (n:=n) (ls:=ls) (ds:=ds.take k) hw (by rw[List.length_take];omega)).pkl
       rw[hp] at this;exact this
      have HTL:Hid (∀q∈X.pk,q.tr.length≤8):=fun q hqm=>by
       have hI:=run_inv (n:=n) (ls:=ls) (ds:=ds.take k) hw (by rw[List.length_take];omega)
       rw[hp] at hI
       rcases hI.pks q hqm with⟨_,_,x,e,_⟩ | ⟨m,i,jj,k1,_,_,_,_,_,e⟩
       ·rw[e];simp
       ·rw[e,List.length_take]
        have:=(hI.pls m k1).head.2.2 i
        simp only at this ⊢
        omega
      have hrp:=run_past (n:=n) (ls:=ls) hkl
      rw[hp,hq] at hrp
      obtain⟨⟨hpk,hpn,hle⟩,hdm⟩:=hrp
      simp only at hpk hpn hle hdm
      have hcl:came.length=ds.length:=by have:=run_len (n:=n) (ls:=ls) (ds:=ds);rw[hq] at this;exact this
      have hdl2:dame.length=k:=by rw[hdm,List.length_take];omega
      have HDE:Hid (∀j,j<k→dame.getD j 0=came.getD j 0):=fun j hj=>by rw[hdm,List.getD_eq_getElem?_getD,List.getD_eq_getElem?_getD,List.getElem?_take,if_pos hj]
      have HLE:=hidp hle
      have HCL:=hidp (And.intro hcl hdl2)
      have hv1:¬(W.pk.length:Int)<(X.pk.length:Int):=by omega
      have hv2:¬(W.pn.length:Int)<(X.pn.length:Int):=by omega
      rw[hcl,hdl2]
      have HEw:=hidp hEw
      have HEx:=hidp hEx
      clear hcl hdl2 hdm hle hq hp hb hw hEw hEx
      go_wp2
      go_loopw [90] (fun iv wd=>∃j:Nat,j≤k∧iv=.int .i64 j∧Ext wc wd) (fun iv _=>k - (intOf iv).toNat)
      case atStart=>exact⟨0,Nat.zero_le _,rfl,Ext.refl _⟩
      case round=>
       obtain⟨j,hj,rfl,hEj⟩:=hrel
       by_cases hjt:j<k
       ·have i1:(j:Int)<(k:Int):=by omega
        have i2:(j:Int)<(ds.length:Int):=by omega
        obtain⟨db,doff,hbo,hdb,hdc⟩:=(HB.out.2.1.ext hEj).get (k:=j) (by rw[HCL.out.2];exact hjt)
        obtain⟨cb,coff,hco,hcb,hcc⟩:=(HP5.out.2.ext (HEx.out.trans hEj)).get (k:=j) (by rw[HCL.out.1];omega)
        have d0:=hdc j (by rw[HCL.out.2];exact hjt)
        have c0:=hcc j (by rw[HCL.out.1];omega)
        rw[HDE.out j hjt] at d0
        generalize came.getD j 0=er at d0 c0
        rw[hbo,hco]
        clear hbo hco hdc hcc
        go_wp2
        go_region
        go_wp2
        refine⟨⟨j+1,by omega,by simp[go_sem],hEj.drew⟩,?_⟩
        simp[intOf]
        omega
       ·have i1:¬(j:Int)<(k:Int):=by omega
        have y12:=(hEj.cells.1 _ _ hbx).trans x12
        go_wp2
        go_loopw [106] (fun iv wd=>∃i:Nat,i≤X.pk.length∧iv=.int .i64 i∧Ext wc wd) (fun iv _=>X.pk.length - (intOf iv).toNat)
        case atStart=>exact⟨0,Nat.zero_le _,rfl,hEj⟩
        case round=>
         obtain⟨i,hi,rfl,hEi⟩:=hrel
         by_cases hit:i<X.pk.length
         ·have i3:(i:Int)<(X.pk.length:Int):=by omega
          have i4:(i:Int)<(W.pk.length:Int):=by omega
          obtain⟨g,off,tO,tc,hko,hg,c0,c1,c2,c3,hT,htc⟩:=(HB.out.1.ext hEi).pk_get hit
          obtain⟨g',off',uO,uc,hko',hg',e0,e1,e2,e3,hU,huc⟩:=(HP5.out.1.ext (HEx.out.trans hEi)).pk_get (i:=i) (by omega)
          have hle:=HLE.out i hit
          have h8:=HTL.out _ (getD_mem (z:=pk0) hit)
          have p12i:=(HBX.out wr (HEx.out.trans hEi)).1.1
          have hl4i:=(HBX.out wr (HEx.out.trans hEi)).2.2.1
          generalize X.pk.getD i pk0=p at c0 c1 c2 c3 hT htc hle h8
          generalize W.pk.getD i pk0=q at e0 e1 e2 e3 hU huc hle
          obtain⟨fl,ve,tr,dn⟩:=p
          obtain⟨fl',ve',tr',dn'⟩:=q
          obtain⟨h1,⟨r,h2⟩,h3⟩:=hle
          simp only at c0 c1 c2 c3 hT htc h8 e0 e1 e2 e3 hU huc h1 h2 h3
          subst h1
          have hL:tr.length≤tr'.length:=by rw[h2];simp
          have htk:tr=tr'.take tr.length:=by rw[h2];simp
          have hdn:dn=true→tr'.length=tr.length:=fun h=>by have:=h3 h;cases this;rfl
          rw[hko'] at p12i
          rw[hko]
          have HIN:Hid (∀V,Ext wr V→Calls Try.prog 20 #[.slice tO tr.length tc,.slice uO tr.length uc] V fun e w'=>e=.returned (.bool true)∧Ext V w'):=fun V hV=>by
           have h1:=Ints_any tO uO tr.length tr.length tc uc tr (tr'.take tr.length) V rfl (by rw[List.length_take];omega) (by omega) (hT.ext hV) ((ListAt_take hU).ext hV)
           rw[decide_eq_true htk] at h1
           exact h1
          have hm1:decide (tr'.length<tr.length)=false:=decide_eq_false (by omega)
          have hm2:¬tr'.length<tr.length:=by omega
          have hm3:decide ((tr'.length:Int)<(tr.length:Int))=false:=decide_eq_false (by omega)
          have hm4:(tr.length:Int)≤(uc:Int):=by omega
          have HDN:=hidp hdn
          clear h2 h3 htk hdn hko hko' hT hU
          go_upto_region 21 with fail
          obtain⟨w9,hw9⟩:∃w9,w9=(wr.alloc (.cells #[.int .i64 fl,.int .i64 ve',.slice tO tr.length tc,.bool dn] 48)).alloc (.cells #[.int .i64 fl',.int .i64 ve',.slice uO tr'.length uc,.bool dn'] 48):=⟨_,rfl⟩
          have E9:Ext wr w9:=by rw[hw9];exact((Ext.refl wr).alloc _).alloc _
          have hz9:w9.heap.size=wr.heap.size+1+1:=by rw[hw9];simp
          have HS9:Hid (∀V,Ext w9 V→V.cell? ⟨wr.heap.size,1,none⟩=some (.int .i64 ve')∧V.cell? ⟨wr.heap.size,2,none⟩=some (.slice tO tr.length tc)∧V.cell? ⟨wr.heap.size,3,none⟩=some (.bool dn)∧V.cell? ⟨wr.heap.size+1,1,none⟩=some (.int .i64 ve')∧V.cell? ⟨wr.heap.size+1,2,none⟩=some (.slice uO tr'.length uc)):=fun V hV=>
           ⟨(hV.cells.1 _ _ (by omega)).trans (by rw[hw9];simp),(hV.cells.1 _ _ (by omega)).trans (by rw[hw9];simp),(hV.cells.1 _ _ (by omega)).trans (by rw[hw9];simp),(hV.cells.1 _ _ (by omega)).trans (by rw[hw9];simp),(hV.cells.1 _ _ (by omega)).trans (by rw[hw9];simp)⟩
          have HEn:=hidp (hEi.trans E9)
          rw[←hw9]
          clear hw9 c0 c1 c2 c3 e0 e1 e2 e3 p12i
          have hd:Ext w9 w9.drew:=(Ext.refl w9).drew
          cases dn with
          | true=>
           have hlq:tr'.length=tr.length:=HDN.out rfl
           rw[hlq] at HS9
           clear hlq
           go_region_held3 (fun V=>V.cell? ⟨wr.heap.size,1,none⟩=some (.int .i64 ve')∧V.cell? ⟨wr.heap.size,2,none⟩=some (.slice tO tr.length tc)∧V.cell? ⟨wr.heap.size,3,none⟩=some (.bool true)∧V.cell? ⟨wr.heap.size+1,1,none⟩=some (.int .i64 ve')∧V.cell? ⟨wr.heap.size+1,2,none⟩=some (.slice uO tr.length uc))
            (first | (with_reducible exact HS9.out _ hd) | (with_reducible exact HS9.out _ mk1) | fail)
            (first
            | (go_at_call 20
               with_reducible refine(HIN.out _ (E9.trans hd)).mono ?_
               rintro e w3 ⟨rfl,E3⟩
               have mk1:=hd.trans E3))
           have HE3:=hidp (HEn.out.trans mk1)
           clear mk1 E3 hd
           go_wp2
           refine⟨⟨i+1,by omega,by simp[go_sem],HE3.out⟩,?_⟩
           simp[intOf]
           omega
          | false=>
           refine wp_region_held_drew (S:=fun V=>V.cell? ⟨wr.heap.size,1,none⟩=some (.int .i64 ve')∧V.cell? ⟨wr.heap.size,2,none⟩=some (.slice tO tr.length tc)∧V.cell? ⟨wr.heap.size,3,none⟩=some (.bool false)∧V.cell? ⟨wr.heap.size+1,1,none⟩=some (.int .i64 ve')∧V.cell? ⟨wr.heap.size+1,2,none⟩=some (.slice uO tr'.length uc)) (by kernel_rfl) (HS9.out _ hd) (fun hHeld=>?_)
           refine take_op (i:=0) (d:=some 116) (v:=?v0) rfl rfl (by kernel_rfl) (by kernel_rfl) (by kernel_rfl) (fun _ _ _ h=>h) (Or.inl ⟨by rfl,?hy0⟩) hHeld ?rest0
           case hy0=>intro W hSW;(try dsimp only at hSW);go_simp;try with_reducible rfl
           simp only[Act.put,List.setIfInBounds_toArray,List.set_cons_zero,List.set_cons_succ]
           refine take_op (i:=1) (d:=some 117) (v:=?v1) rfl rfl (by kernel_rfl) (by kernel_rfl) (by kernel_rfl) (fun _ _ _ h=>h) (Or.inl ⟨by rfl,?hy1⟩) hHeld ?rest1
           case hy1=>intro W hSW;(try dsimp only at hSW);go_simp;try with_reducible rfl
           simp only[Act.put,List.setIfInBounds_toArray,List.set_cons_zero,List.set_cons_succ]
           refine take_op (i:=2) (d:=some 118) (v:=?v2) rfl rfl (by kernel_rfl) (by kernel_rfl) (by kernel_rfl) (fun _ _ _ h=>h) (Or.inl ⟨by rfl,?hy2⟩) hHeld ?rest2
           case hy2=>intro W hSW;(try dsimp only at hSW);go_simp;try with_reducible rfl
           simp only[Act.put,List.setIfInBounds_toArray,List.set_cons_zero,List.set_cons_succ]
           refine take_op (i:=3) (d:=some 119) (v:=?v3) rfl rfl (by kernel_rfl) (by kernel_rfl) (by kernel_rfl) (fun _ _ _ h=>h) (Or.inl ⟨by rfl,?hy3⟩) hHeld ?rest3
           case hy3=>intro W hSW;(try dsimp only at hSW);go_simp;try with_reducible rfl
           simp only[Act.put,List.setIfInBounds_toArray,List.set_cons_zero,List.set_cons_succ]
           refine take_op (i:=4) (d:=some 120) (v:=?v4) rfl rfl (by kernel_rfl) (by kernel_rfl) (by kernel_rfl) (fun _ _ _ h=>h) (Or.inl ⟨by rfl,?hy4⟩) hHeld ?rest4
           case hy4=>intro W hSW;(try dsimp only at hSW);go_simp;try with_reducible rfl
           simp only[Act.put,List.setIfInBounds_toArray,List.set_cons_zero,List.set_cons_succ]
           refine take_op (i:=5) (d:=some 121) (v:=?v5) rfl rfl (by kernel_rfl) (by kernel_rfl) (by kernel_rfl) (fun _ _ _ h=>h) (Or.inl ⟨by rfl,?hy5⟩) hHeld ?rest5
           case hy5=>intro W hSW;(try dsimp only at hSW);go_simp;try with_reducible rfl
           simp only[Act.put,List.setIfInBounds_toArray,List.set_cons_zero,List.set_cons_succ]
           refine take_op (i:=6) (d:=some 122) (v:=?v6) rfl rfl (by kernel_rfl) (by kernel_rfl) (by kernel_rfl) (fun _ _ _ h=>h) (Or.inl ⟨by rfl,?hy6⟩) hHeld ?rest6
           case hy6=>intro W hSW;(try dsimp only at hSW);go_simp;try with_reducible rfl
           simp only[Act.put,List.setIfInBounds_toArray,List.set_cons_zero,List.set_cons_succ]
           refine take_op (i:=7) (d:=some 123) (v:=?v7) rfl rfl (by kernel_rfl) (by kernel_rfl) (by kernel_rfl) (fun _ _ _ h=>h) (Or.inl ⟨by rfl,?hy7⟩) hHeld ?rest7
           case hy7=>intro W hSW;(try dsimp only at hSW);go_simp;try with_reducible rfl
           simp only[Act.put,List.setIfInBounds_toArray,List.set_cons_zero,List.set_cons_succ]
           refine take_op (i:=8) (d:=some 124) (v:=?v8) rfl rfl (by kernel_rfl) (by kernel_rfl) (by kernel_rfl) (fun _ _ _ h=>h) (Or.inl ⟨by rfl,?hy8⟩) hHeld ?rest8
           case hy8=>intro W hSW;(try dsimp only at hSW);go_simp;try with_reducible rfl
           simp only[Act.put,List.setIfInBounds_toArray,List.set_cons_zero,List.set_cons_succ]
           refine take_op (i:=9) (d:=some 125) (v:=?v9) rfl rfl (by kernel_rfl) (by kernel_rfl) (by kernel_rfl) (fun _ _ _ h=>h) (Or.inl ⟨by rfl,?hy9⟩) hHeld ?rest9
           case hy9=>intro W hSW;(try dsimp only at hSW);go_simp;try with_reducible rfl
           simp only[Act.put,List.setIfInBounds_toArray,List.set_cons_zero,List.set_cons_succ]
           refine take_op (i:=10) (d:=some 126) (v:=?v10) rfl rfl (by kernel_rfl) (by kernel_rfl) (by kernel_rfl) (fun _ _ _ h=>h) (Or.inl ⟨by rfl,?hy10⟩) hHeld ?rest10
           case hy10=>intro W hSW;(try dsimp only at hSW);go_simp;try with_reducible rfl
           simp only[Act.put,List.setIfInBounds_toArray,List.set_cons_zero,List.set_cons_succ]
           refine take_op (i:=11) (d:=some 127) (v:=?v11) rfl rfl (by kernel_rfl) (by kernel_rfl) (by kernel_rfl) (fun _ _ _ h=>h) (Or.inl ⟨by rfl,?hy11⟩) hHeld ?rest11
           case hy11=>intro W hSW;(try dsimp only at hSW);go_simp;try with_reducible rfl
           simp only[Act.put,List.setIfInBounds_toArray,List.set_cons_zero,List.set_cons_succ]
           refine take_op (i:=12) (d:=some 128) (v:=?v12) rfl rfl (by kernel_rfl) (by kernel_rfl) (by kernel_rfl) (fun _ _ _ h=>h) (Or.inl ⟨by rfl,?hy12⟩) hHeld ?rest12
           case hy12=>intro W hSW;(try dsimp only at hSW);go_simp;try with_reducible rfl
           simp only[Act.put,List.setIfInBounds_toArray,List.set_cons_zero,List.set_cons_succ]
           refine take_op (i:=13) (d:=some 129) (v:=?v13) rfl rfl (by kernel_rfl) (by kernel_rfl) (by kernel_rfl) (fun _ _ _ h=>h) (Or.inl ⟨by rfl,?hy13⟩) hHeld ?rest13
           case hy13=>intro W hSW;(try dsimp only at hSW);go_simp;try with_reducible rfl
           simp only[Act.put,List.setIfInBounds_toArray,List.set_cons_zero,List.set_cons_succ]
           refine take_op (i:=14) (d:=some 130) (v:=?v14) rfl rfl (by kernel_rfl) (by kernel_rfl) (by kernel_rfl) (fun _ _ _ h=>h) (Or.inl ⟨by rfl,?hy14⟩) hHeld ?rest14
           case hy14=>intro W hSW;(try dsimp only at hSW);go_simp;try with_reducible rfl
           simp only[Act.put,List.setIfInBounds_toArray,List.set_cons_zero,List.set_cons_succ]
           refine take_op (i:=15) (d:=some 131) (v:=?v15) rfl rfl (by kernel_rfl) (by kernel_rfl) (by kernel_rfl) (fun _ _ _ h=>h) (Or.inl ⟨by rfl,?hy15⟩) hHeld ?rest15
           case hy15=>intro W hSW;(try dsimp only at hSW);go_simp;try with_reducible rfl
           simp only[Act.put,List.setIfInBounds_toArray,List.set_cons_zero,List.set_cons_succ]
           refine wpAnyH_ready (rs:=[16]) (by kernel_rfl) (by simp) ?_
           refine AllReadyH.cons rfl (fun K hK=>?_) AllReadyH.nil
           go_simp
           with_reducible refine(HIN.out _ (E9.trans hd)).mono ?_
           rintro e w3 ⟨rfl,E3⟩
           have mk1:=hd.trans E3
           go_wp2_with fail
           refine hK.out _ _ (HS9.out _ mk1) (fun hHeld2=>?_)
           clear hK K hHeld
           try simp only[Act.put,List.setIfInBounds_toArray,List.set_cons_zero,List.set_cons_succ]
           refine take_op (i:=17) (d:=some 133) (v:=?v17) rfl rfl (by kernel_rfl) (by kernel_rfl) (by kernel_rfl) (fun _ _ _ h=>h) (Or.inl ⟨by rfl,?hy17⟩) hHeld2 ?rest17
           case hy17=>intro W hSW;(try dsimp only at hSW);go_simp;try with_reducible rfl
           simp only[Act.put,List.setIfInBounds_toArray,List.set_cons_zero,List.set_cons_succ]
           refine take_op (i:=18) (d:=some 134) (v:=?v18) rfl rfl (by kernel_rfl) (by kernel_rfl) (by kernel_rfl) (fun _ _ _ h=>h) (Or.inl ⟨by rfl,?hy18⟩) hHeld2 ?rest18
           case hy18=>intro W hSW;(try dsimp only at hSW);go_simp;try with_reducible rfl
           simp only[Act.put,List.setIfInBounds_toArray,List.set_cons_zero,List.set_cons_succ]
           refine take_op (i:=19) (d:=some 135) (v:=?v19) rfl rfl (by kernel_rfl) (by kernel_rfl) (by kernel_rfl) (fun _ _ _ h=>h) (Or.inl ⟨by rfl,?hy19⟩) hHeld2 ?rest19
           case hy19=>intro W hSW;(try dsimp only at hSW);go_simp;try with_reducible rfl
           simp only[Act.put,List.setIfInBounds_toArray,List.set_cons_zero,List.set_cons_succ]
           refine take_op (i:=20) (d:=some 136) (v:=?v20) rfl rfl (by kernel_rfl) (by kernel_rfl) (by kernel_rfl) (fun _ _ _ h=>h) (Or.inl ⟨by rfl,?hy20⟩) hHeld2 ?rest20
           case hy20=>intro W hSW;(try dsimp only at hSW);go_simp;try with_reducible rfl
           simp only[Act.put,List.setIfInBounds_toArray,List.set_cons_zero,List.set_cons_succ]
           refine take_op (i:=21) (d:=some 137) (v:=?v21) rfl rfl (by kernel_rfl) (by kernel_rfl) (by kernel_rfl) (fun _ _ _ h=>h) (Or.inl ⟨by rfl,?hy21⟩) hHeld2 ?rest21
           case hy21=>intro W hSW;(try dsimp only at hSW);go_simp;try with_reducible rfl
           simp only[Act.put,List.setIfInBounds_toArray,List.set_cons_zero,List.set_cons_succ]
           refine take_op (i:=22) (d:=some 138) (v:=?v22) rfl rfl (by kernel_rfl) (by kernel_rfl) (by kernel_rfl) (fun _ _ _ h=>h) (Or.inl ⟨by rfl,?hy22⟩) hHeld2 ?rest22
           case hy22=>intro W hSW;(try dsimp only at hSW);go_simp;try with_reducible rfl
           simp only[Act.put,List.setIfInBounds_toArray,List.set_cons_zero,List.set_cons_succ]
           refine take_op (i:=23) (d:=some 139) (v:=undef) rfl rfl (by kernel_rfl) (by kernel_rfl) (by kernel_rfl) (fun _ _ _ h=>h) (Or.inr ⟨by rfl,rfl⟩) hHeld2 ?_
           simp only[Act.put,List.setIfInBounds_toArray,List.set_cons_zero,List.set_cons_succ]
           refine take_op (i:=24) (d:=some 140) (v:=undef) rfl rfl (by kernel_rfl) (by kernel_rfl) (by kernel_rfl) (fun _ _ _ h=>h) (Or.inr ⟨by rfl,rfl⟩) hHeld2 ?_
           simp only[Act.put,List.setIfInBounds_toArray,List.set_cons_zero,List.set_cons_succ]
           refine take_op (i:=25) (d:=some 141) (v:=undef) rfl rfl (by kernel_rfl) (by kernel_rfl) (by kernel_rfl) (fun _ _ _ h=>h) (Or.inr ⟨by rfl,rfl⟩) hHeld2 ?_
           simp only[Act.put,List.setIfInBounds_toArray,List.set_cons_zero,List.set_cons_succ]
           refine take_op (i:=26) (d:=some 142) (v:=undef) rfl rfl (by kernel_rfl) (by kernel_rfl) (by kernel_rfl) (fun _ _ _ h=>h) (Or.inr ⟨by rfl,rfl⟩) hHeld2 ?_
           simp only[Act.put,List.setIfInBounds_toArray,List.set_cons_zero,List.set_cons_succ]
           refine take_op (i:=27) (d:=some 143) (v:=undef) rfl rfl (by kernel_rfl) (by kernel_rfl) (by kernel_rfl) (fun _ _ _ h=>h) (Or.inr ⟨by rfl,rfl⟩) hHeld2 ?_
           simp only[Act.put,List.setIfInBounds_toArray,List.set_cons_zero,List.set_cons_succ]
           refine take_op (i:=28) (d:=some 144) (v:=undef) rfl rfl (by kernel_rfl) (by kernel_rfl) (by kernel_rfl) (fun _ _ _ h=>h) (Or.inr ⟨by rfl,rfl⟩) hHeld2 ?_
           simp only[Act.put,List.setIfInBounds_toArray,List.set_cons_zero,List.set_cons_succ]
           refine take_op (i:=29) (d:=some 145) (v:=undef) rfl rfl (by kernel_rfl) (by kernel_rfl) (by kernel_rfl) (fun _ _ _ h=>h) (Or.inr ⟨by rfl,rfl⟩) hHeld2 ?_
           simp only[Act.put,List.setIfInBounds_toArray,List.set_cons_zero,List.set_cons_succ]
           refine take_op (i:=30) (d:=some 146) (v:=?v30) rfl rfl (by kernel_rfl) (by kernel_rfl) (by kernel_rfl) (fun _ _ _ h=>h) (Or.inl ⟨by rfl,?hy30⟩) hHeld2 ?rest30
           case hy30=>intro W hSW;(try dsimp only at hSW);go_simp;try with_reducible rfl
           simp only[Act.put,List.setIfInBounds_toArray,List.set_cons_zero,List.set_cons_succ]
           refine take_op (i:=31) (d:=some 147) (v:=?v31) rfl rfl (by kernel_rfl) (by kernel_rfl) (by kernel_rfl) (fun _ _ _ h=>h) (Or.inl ⟨by rfl,?hy31⟩) hHeld2 ?rest31
           case hy31=>intro W hSW;(try dsimp only at hSW);go_simp;try with_reducible rfl
           simp only[Act.put,List.setIfInBounds_toArray,List.set_cons_zero,List.set_cons_succ]
           refine take_op (i:=32) (d:=some 148) (v:=?v32) rfl rfl (by kernel_rfl) (by kernel_rfl) (by kernel_rfl) (fun _ _ _ h=>h) (Or.inl ⟨by rfl,?hy32⟩) hHeld2 ?rest32
           case hy32=>intro W hSW;(try dsimp only at hSW);go_simp;try with_reducible rfl
           simp only[Act.put,List.setIfInBounds_toArray,List.set_cons_zero,List.set_cons_succ]
           refine take_op (i:=33) (d:=some 149) (v:=?v33) rfl rfl (by kernel_rfl) (by kernel_rfl) (by kernel_rfl) (fun _ _ _ h=>h) (Or.inl ⟨by rfl,?hy33⟩) hHeld2 ?rest33
           case hy33=>intro W hSW;(try dsimp only at hSW);go_simp;try with_reducible rfl
           simp only[Act.put,List.setIfInBounds_toArray,List.set_cons_zero,List.set_cons_succ]
           refine take_op (i:=34) (d:=some 150) (v:=?v34) rfl rfl (by kernel_rfl) (by kernel_rfl) (by kernel_rfl) (fun _ _ _ h=>h) (Or.inl ⟨by rfl,?hy34⟩) hHeld2 ?rest34
           case hy34=>intro W hSW;(try dsimp only at hSW);go_simp;try with_reducible rfl
           simp only[Act.put,List.setIfInBounds_toArray,List.set_cons_zero,List.set_cons_succ]
           refine take_op (i:=35) (d:=some 151) (v:=?v35) rfl rfl (by kernel_rfl) (by kernel_rfl) (by kernel_rfl) (fun _ _ _ h=>h) (Or.inl ⟨by rfl,?hy35⟩) hHeld2 ?rest35
           case hy35=>intro W hSW;(try dsimp only at hSW);go_simp;try with_reducible rfl
           simp only[Act.put,List.setIfInBounds_toArray,List.set_cons_zero,List.set_cons_succ]
           refine take_op (i:=36) (d:=some 152) (v:=?v36) rfl rfl (by kernel_rfl) (by kernel_rfl) (by kernel_rfl) (fun _ _ _ h=>h) (Or.inl ⟨by rfl,?hy36⟩) hHeld2 ?rest36
           case hy36=>intro W hSW;(try dsimp only at hSW);go_simp;try with_reducible rfl
           simp only[Act.put,List.setIfInBounds_toArray,List.set_cons_zero,List.set_cons_succ]
           refine take_op (i:=37) (d:=some 153) (v:=?v37) rfl rfl (by kernel_rfl) (by kernel_rfl) (by kernel_rfl) (fun _ _ _ h=>h) (Or.inl ⟨by rfl,?hy37⟩) hHeld2 ?rest37
           case hy37=>intro W hSW;(try dsimp only at hSW);go_simp;try with_reducible rfl
           simp only[Act.put,List.setIfInBounds_toArray,List.set_cons_zero,List.set_cons_succ]
           refine take_op (i:=38) (d:=some 154) (v:=?v38) rfl rfl (by kernel_rfl) (by kernel_rfl) (by kernel_rfl) (fun _ _ _ h=>h) (Or.inl ⟨by rfl,?hy38⟩) hHeld2 ?rest38
           case hy38=>intro W hSW;(try dsimp only at hSW);go_simp;try with_reducible rfl
           simp only[Act.put,List.setIfInBounds_toArray,List.set_cons_zero,List.set_cons_succ]
           refine wpAnyH_done (by kernel_rfl) ?_ _
           have HE3:=hidp (HEn.out.trans mk1)
           clear mk1 E3 hd
           go_wp2
           refine⟨⟨i+1,by omega,by simp[go_sem],HE3.out⟩,?_⟩
           simp[intOf]
           omega
         ·have i3:¬(i:Int)<(X.pk.length:Int):=by omega
          go_wp2
          go_ret
          exact⟨rfl,HEw.out.trans hEi⟩
     ·have e:plyF N ls ds=(5,0):=by unfold plyF;rw[if_neg (by simpa using hw),if_pos (by omega)]
      rw[e] at hf
      cases hf
      by_cases hm2:(ds.take k).length≤200
      ·rw[(plyF_of hw hm2).1] at hg
       cases hg
       go_wp2
       go_ret
       exact⟨rfl,hEw⟩
      ·have e2:plyF N ls (ds.take k)=(5,0):=by unfold plyF;rw[if_neg (by simpa using hw),if_pos (by omega)]
       rw[e2] at hg
       cases hg
       go_wp2
       go_ret
       exact⟨rfl,hEw⟩
    ·have e:∀l,plyF N ls l=wrong N ls:=fun l=>by unfold plyF;rw[if_pos hw]
     rw[e] at hf hg
     rw[hf] at hg hw
     cases hg
     have b0:(f0 != 0)=true:=by simpa using hw
     clear e hf hw
     go_wp2
     go_ret
     exact⟨rfl,hEw⟩
end Go.Proofs.Ytolclgbpjiokfaa.Rm
namespace Go.Proofs.Ytolclgbpjiokfaa
open Go.ChangeShapes Go.WideShapes Go.ChangeAt Go.RowKit Go.Deep Go.Joins Stw
set_option maxRecDepth 100000 in
theorem roomPast_lifted (os:Os) (started:os.Started) (H:Type) (enc:TypeId×Value→H):
 ReturnsInHanded {} Try.checked os 10 .any (Rows.roomPastSpec.pre6 enc Try.prog Try.f10 Rows.roomPastRow.domain false) (Rows.roomPastSpec.post enc Try.prog Try.f10 false true false false):=by
 refine returnsInHanded_of_change_sized (C:=Try.checked) Try.own started (by kernel_rfl) Try.func10
  (ChangeSpec.witness6 (enc:=enc) (C:=Try.checked) false ⟨#[],#[.agg #[.int .i64 0,.slice none 0 0],.slice none 0 0,.int .i64 0],[]⟩ 8 (by kernel_rfl) (by kernel_rfl) (by kernel_rfl) (by kernel_rfl)) ?_
 intro W base args ds gs before hval0 hW hcnd hsz0 _
 have hval:∀(j:Nat) t v,Try.f10.params[j]? =some t→args[j]? =some v→Value.okWide Try.prog W .any base t v:=hval0
 have hsz:(DataW.weightsEach Try.prog (Try.f10.params.toList++Rows.roomPastSpec.plain.varTypes Try.prog) (ds++gs)).all (· ≤reachBytes)=true:=hsz0
 have hW':=hW
 obtain⟨p,q,hA0,hV,rfl,hfz,hnd⟩:=hW
 have hA:DataW.TrodAll enc Try.prog W 0 (fun _=>true) true Try.f10.params.toList args.toList ds p:=hA0
 rw[Try.params10] at hA hval hsz
 obtain⟨v0,vs0,d0,dt0,p0,q0,hargs,rfl,rfl,h0,r0⟩:=trodAll_cons hA
 obtain⟨v1,vs1,d1,dt1,p1,q1,rfl,rfl,rfl,h1,r1⟩:=trodAll_cons r0
 obtain⟨v2,vs2,d2,dt2,p2,q2,rfl,rfl,rfl,h2,r2⟩:=trodAll_cons r1
 obtain⟨rfl,rfl,rfl⟩:=trodAll_nil r2
 obtain rfl:args=#[v0,v1,v2]:=by cases args;simp_all
 obtain⟨rfl,rfl⟩:=trodVars_none hV
 have k0:=h0
 have lt0:∀x∈p0,x.block<W.heap.size:=by obtain⟨m,hm⟩:=k0;exact DataW.trod_lt m _ _ _ hm
 have k1:=h1
 have lt1:∀x∈p1,x.block<W.heap.size:=by obtain⟨m,hm⟩:=k1;exact DataW.trod_lt m _ _ _ hm
 obtain⟨n0,ao0,len0,cap0,ls0,rfl,hn0,hlen0,hnet0,hlw0,hreach0,hcap0,hcm0⟩:=open_topo (hval 0 24 v0 rfl rfl) h0 (weights_arg hsz (j:=0) rfl rfl)
 obtain⟨po1,pl1,pc1,rfl⟩:=okWide_slice Try.underlying25 (hval 1 25 v1 rfl rfl)
 obtain⟨fuel1,hf1⟩:=h1
 obtain⟨po1',pl1',pc1',ds1,ecs1,hdl1,hda1,hdx1,hds1,hdc1,hdm1⟩:=open_dos hf1 (weights_arg hsz (j:=1) rfl rfl)
 simp[Value.cells] at ecs1
 obtain⟨rfl,rfl,rfl⟩:=ecs1
 subst hdl1
 obtain⟨a2,rfl,rfl,rfl,w2⟩:=open_int Try.underlying3 (hval 2 3 v2 rfl rfl) h2
 clear hA0 hval0 hsz0
 refine(Rm.roomPast_any n0 ao0 len0 cap0 ls0 po1 pc1 ds1 a2 W hlen0 hnet0 (by omega) hda1 hds1 hdx1 hdc1 hdm1).mono fun e W' ⟨he,bel0⟩=>?_
 subst he
 have bel:Below W.heap.size W W':=bel0
 exact⟨_,rfl,_,_,_,[],_,[],hW',trodAll_mk1 (shut_bool Try.underlying4 _),(trodAll_cons_mk (Below.trod Try.laidOut (by kernel_rfl) (of_decide_eq_true (by kernel_rfl)) k0 bel lt0) (trodAll_cons_mk (Below.trod Try.laidOut (by kernel_rfl) (of_decide_eq_true (by kernel_rfl)) k1 bel lt1) (trodAll_cons_mk (shut_int Try.underlying3 w2) trodAll_mk0))),rfl,bel.frame _,fun h=>by cases h⟩
theorem roomPast_holds:Rows.RoomPastSaid:=
 OpenClaim.holds_of_wide 10 Try.f10 rfl rfl rfl rfl rfl rfl rfl ⟨rfl,rfl,rfl,rfl,rfl⟩ rfl rfl rfl rfl rfl (by kernel_rfl) Try.func10 (by kernel_rfl)
  (of_decide_eq_true (by kernel_rfl)) (by unfold Func.isWrapper;first | (rw[if_pos (by decide+kernel)];kernel_rfl) | (rw[if_neg (by decide+kernel)];exact⟨rfl,rfl⟩))
  (fun os started H enc _=>roomPast_lifted os started H enc)
#print axioms roomPast_holds
end Go.Proofs.Ytolclgbpjiokfaa
