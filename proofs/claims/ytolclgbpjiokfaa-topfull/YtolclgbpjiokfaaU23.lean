/- What a play answers, in memory: worlds that are looked at; things that happen. -/
import Derived.Test.YtolclgbpjiokfaaU22
import Derived.Deep.OwnRows
namespace Go.Proofs.Ytolclgbpjiokfaa.Rm
open Go.RowKit Go.Deep Stw Stp Tb Rul Ct
theorem wdL_put {c:Co} {a:CA} {n sb ob bb:Nat} {kv lv:Value} {tl:List Value} {w:World} {P:Nat} {T:TypeId} (h:w.rowIs P T (14+tl.length) (fun j=>(wdL c a n sb ob bb kv lv tl).getD j vd)):
 (∀v,(w.setCell ⟨P,12,none⟩ v).rowIs P T (14+tl.length) (fun j=>(wdL c a n sb ob bb v lv tl).getD j vd))∧(∀v,(w.setCell ⟨P,13,none⟩ v).rowIs P T (14+tl.length) (fun j=>(wdL c a n sb ob bb kv v tl).getD j vd)):=by
 refine⟨fun v=>(h.set 12 v).congr (fun j _=>?_),fun v=>(h.set 13 v).congr (fun j _=>?_)⟩
 ·exact(getD_put (by rw[wdL_len];omega) j).trans rfl
 ·exact(getD_put (by rw[wdL_len];omega) j).trans rfl
theorem get_snoc {α:Type} {l us:List α} {n j:Nat} (h:l.length=n):(l++us)[n+j]? =us[j]?:=by
 rw[List.getElem?_append_right (by omega),show n+j - l.length=j by omega]
theorem WSt.pushL {T:TypeId} {tl:List Value} {w0 w w2:World} {P n:Nat} {tg:Nat→Nat} {W:Wd} {a:CA} {sb ob bb:Nat} {kv lv:Value} {p:Pl} {ap:PA} {xs:List Value} {g off cap:Nat} (h:WSt T tl w0 P n tg w W a sb ob bb kv lv)
 (hv:RwT tg 6 w 30 3 lv W.pn.length xs) (hpl:∀i,i<W.pn.length→∃a:PA,xs[i*3]? =some (.int .i64 (W.pn.getD i pl0).v)∧xs[i*3+1]? =some (.slice a.fo (W.pn.getD i pl0).fs.length a.fc)∧xs[i*3+2]? =some (.slice a.qo (W.pn.getD i pl0).ps.length a.qc)∧Stb (fun b=>tg b=0) w (fun U=>PlAt U (W.pn.getD i pl0) a)) (hst:Stb (fun b=>tg b=0) w (fun U=>PlAt U p ap))
 (hr:Rw w2 30 3 (.slice (some ⟨g,off,none⟩) (W.pn.length+1) cap) (W.pn.length+1) (xs++[.int .i64 p.v,.slice ap.fo p.fs.length ap.fc,.slice ap.qo p.ps.length ap.qc])) (hg:w.grownBy w2 lv.ownBlock) (hat:lv.ownBlock=some g∨g=w.heap.size):
 ∃tg',WSt T tl w0 P n tg' (w2.setCell ⟨P,13,none⟩ (.slice (some ⟨g,off,none⟩) (W.pn.length+1) cap)) ⟨W.co,W.sw,W.od,W.bk,W.pk,W.pn++[p]⟩ a sb ob bb kv (.slice (some ⟨g,off,none⟩) (W.pn.length+1) cap)∧Kpt tg tg' w (w2.setCell ⟨P,13,none⟩ (.slice (some ⟨g,off,none⟩) (W.pn.length+1) cap)):=by
 have k:=KeepP.push (tg:=tg) (t:=6) hv.tg hg hat
 obtain⟨e1,e2⟩:=rowIs_keep h.row k (by rw[h.tP];decide)
 have tP':=e1.trans h.tP
 have k2:KeepP (fun x=>x≠1) (fun b=>if b=g then 6 else tg b) (fun b=>if b=g then 6 else tg b) w2 (w2.setCell ⟨P,13,none⟩ (.slice (some ⟨g,off,none⟩) (W.pn.length+1) cap)):=KeepP.set (tg:=fun b=>if b=g then 6 else tg b) tP' _
 have kk:KeepP (fun x=>x≠1∧x≠6) tg (fun b=>if b=g then 6 else tg b) w (w2.setCell ⟨P,13,none⟩ (.slice (some ⟨g,off,none⟩) (W.pn.length+1) cap)):=(k.mono (fun x hx=>hx.2)).trans (k2.mono (fun x hx=>hx.1))
 have hgl:g<w2.heap.size:=hr.lt g rfl
 have hb:∀b,(if b=g then 6 else tg b)≠0→w0.heap.size≤b:=fun b hb=>by
  by_cases e:b=g
  ·subst e
   rcases hat with h1 | h1
   ·exact h.base b (by rw[hv.tg b h1];decide)
   ·rw[h1];exact h.ext.size
  ·rw[if_neg e] at hb;exact h.base b hb
 have hxl:xs.length=W.pn.length*3:=hv.rw.len
 have hPg:P≠g:=fun e=>by
  have tP'':(if P=g then 6 else tg P)=1:=tP'
  rw[if_pos e] at tP'';omega
 have hr3:=hr.keep (w':=w2.setCell ⟨P,13,none⟩ (.slice (some ⟨g,off,none⟩) (W.pn.length+1) cap)) (fun j hj=>blk_setCell_other _ _ _ _ (fun e=>hPg (by simp[Value.ownBlock] at hj;rw[hj];exact e.symm)))
 refine⟨_,⟨(wdL_put e2).2 _,h.co.keep kk (by decide),h.sws.keep kk (by decide) (by decide),h.ors.keep kk (by decide) (by decide) (fun j=>by omega),h.bks.keep kk (by decide) (fun j=>by omega),h.pks.keep kk (by decide) (fun j=>by omega),⟨_,⟨by rw[List.length_append];exact hr3,fun j hj=>by simp[Value.ownBlock] at hj;simp[hj]⟩,fun i hi=>?_⟩,tP',fun b hb'=>?_,hb,?_⟩,kk.mono (fun x hx=>by omega)⟩
 ·rw[List.length_append,List.length_singleton] at hi
  rw[snoc_getD]
  by_cases hlt:i<W.pn.length
  ·rw[if_pos hlt]
   obtain⟨a,a0,a1,a2,a3⟩:=hpl i hlt
   exact⟨a,by rw[List.getElem?_append_left (by omega)];exact a0,by rw[List.getElem?_append_left (by omega)];exact a1,by rw[List.getElem?_append_left (by omega)];exact a2,a3.keep kk (by decide)⟩
  ·have e:i=W.pn.length:=by omega
   rw[if_neg hlt,if_pos e,e]
   exact⟨ap,get_snoc (j:=0) hxl,get_snoc (j:=1) hxl,get_snoc (j:=2) hxl,hst.keep kk (by decide)⟩
 ·have hb'':w2.heap.size≤b:=by simpa using hb'
  show(if b=g then _ else tg b)=0
  rw[if_neg (by omega)]
  exact h.nw b (Nat.le_trans hg.size hb'')
 ·exact ext_set (ext_grown h.ext h.base hg (fun j hj=>by rw[hv.tg j hj];decide)) hb (tg:=fun b=>if b=g then 6 else tg b) (by show(if P=g then 6 else tg P)≠0;have e4:(if P=g then 6 else tg P)=1:=tP';rw[e4];decide) _
theorem WSt.pushK {T:TypeId} {tl:List Value} {w0 w w1 w2:World} {P n:Nat} {tg:Nat→Nat} {W:Wd} {a:CA} {sb ob bb:Nat} {kv lv:Value} {f v x:Int} {d:Bool} {xs:List Value} {g off cap:Nat} (h:WSt T tl w0 P n tg w W a sb ob bb kv lv) (E:Ext w w1)
 (hv:RwT tg 5 w 48 4 kv W.pk.length xs) (hpk:∀i,i<W.pk.length→∃tv,xs[i*4]? =some (.int .i64 (W.pk.getD i pk0).fl)∧xs[i*4+1]? =some (.int .i64 (W.pk.getD i pk0).v)∧xs[i*4+2]? =some tv∧xs[i*4+3]? =some (.bool (W.pk.getD i pk0).dn)∧BrwAt tg (12+3*i) w (W.pk.getD i pk0).tr tv)
 (ht:w1.heap[w.heap.size]? =some (.cells #[.int .i64 x] 3 (0,0)))
 (hr:Rw w2 48 4 (.slice (some ⟨g,off,none⟩) (W.pk.length+1) cap) (W.pk.length+1) (xs++[.int .i64 f,.int .i64 v,.slice (some ⟨w.heap.size,0,none⟩) 1 1,.bool d])) (hg:w1.grownBy w2 kv.ownBlock) (hat:kv.ownBlock=some g∨g=w1.heap.size):
 ∃tg',WSt T tl w0 P n tg' (w2.setCell ⟨P,12,none⟩ (.slice (some ⟨g,off,none⟩) (W.pk.length+1) cap)) ⟨W.co,W.sw,W.od,W.bk,W.pk++[⟨f,v,[x],d⟩],W.pn⟩ a sb ob bb (.slice (some ⟨g,off,none⟩) (W.pk.length+1) cap) lv∧Kpt tg tg' w (w2.setCell ⟨P,12,none⟩ (.slice (some ⟨g,off,none⟩) (W.pk.length+1) cap)):=by
 have hH:w.heap.size<w1.heap.size:=(Array.getElem?_eq_some_iff.1 ht).1
 have hgH:g≠w.heap.size:=fun e=>by
  rcases hat with h1 | h1
  ·have:=hv.rw.lt g h1;omega
  ·omega
 have k1:KeepP (fun _=>True) tg (fun b=>if b=w.heap.size then 12+3*W.pk.length else tg b) w w1:=⟨E.size,fun b hb _=>⟨if_neg (by omega),Below.block E b hb⟩⟩
 have hv1:RwT (fun b=>if b=w.heap.size then 12+3*W.pk.length else tg b) 5 w1 48 4 kv W.pk.length xs:=hv.keep k1 trivial
 have k:=KeepP.push (tg:=fun b=>if b=w.heap.size then 12+3*W.pk.length else tg b) (t:=5) hv1.tg hg hat
 have k12:KeepP (fun x=>x≠5) tg (fun b=>if b=g then 5 else if b=w.heap.size then 12+3*W.pk.length else tg b) w w2:=(k1.mono (fun _ _=>trivial)).trans k
 obtain⟨e1,e2⟩:=rowIs_keep h.row k12 (by rw[h.tP];decide)
 have tP':=e1.trans h.tP
 have k2:KeepP (fun x=>x≠1) (fun b=>if b=g then 5 else if b=w.heap.size then 12+3*W.pk.length else tg b) (fun b=>if b=g then 5 else if b=w.heap.size then 12+3*W.pk.length else tg b) w2 (w2.setCell ⟨P,12,none⟩ (.slice (some ⟨g,off,none⟩) (W.pk.length+1) cap)):=KeepP.set (tg:=fun b=>if b=g then 5 else if b=w.heap.size then 12+3*W.pk.length else tg b) tP' _
 have kk:KeepP (fun x=>x≠1∧x≠5) tg (fun b=>if b=g then 5 else if b=w.heap.size then 12+3*W.pk.length else tg b) w (w2.setCell ⟨P,12,none⟩ (.slice (some ⟨g,off,none⟩) (W.pk.length+1) cap)):=(k12.mono (fun x hx=>hx.2)).trans (k2.mono (fun x hx=>hx.1))
 have hgl:g<w2.heap.size:=hr.lt g rfl
 have hb:∀b,(if b=g then 5 else if b=w.heap.size then 12+3*W.pk.length else tg b)≠0→w0.heap.size≤b:=fun b hb=>by
  by_cases e:b=g
  ·subst e
   rcases hat with h1 | h1
   ·exact h.base b (by rw[hv.tg b h1];decide)
   ·rw[h1];have:=h.ext.size;omega
  ·rw[if_neg e] at hb
   by_cases e2:b=w.heap.size
   ·rw[e2];exact h.ext.size
   ·rw[if_neg e2] at hb;exact h.base b hb
 have hxl:xs.length=W.pk.length*4:=hv.rw.len
 have hPg:P≠g:=fun e=>by
  have tP'':(if P=g then 5 else if P=w.heap.size then 12+3*W.pk.length else tg P)=1:=tP'
  rw[if_pos e] at tP'';omega
 have hPl:=h.row.lt
 have hr3:=hr.keep (w':=w2.setCell ⟨P,12,none⟩ (.slice (some ⟨g,off,none⟩) (W.pk.length+1) cap)) (fun j hj=>blk_setCell_other _ _ _ _ (fun e=>hPg (by simp[Value.ownBlock] at hj;rw[hj];exact e.symm)))
 refine⟨_,⟨(wdL_put e2).1 _,h.co.keep kk (by decide),h.sws.keep kk (by decide) (by decide),h.ors.keep kk (by decide) (by decide) (fun j=>by omega),h.bks.keep kk (by decide) (fun j=>by omega),⟨_,⟨by rw[List.length_append];exact hr3,fun j hj=>by simp[Value.ownBlock] at hj;simp[hj]⟩,fun i hi=>?_⟩,h.pls.keep kk (by decide) (by decide),tP',fun b hb'=>?_,hb,?_⟩,kk.mono (fun x hx=>by omega)⟩
 ·rw[List.length_append,List.length_singleton] at hi
  rw[snoc_getD]
  by_cases hlt:i<W.pk.length
  ·rw[if_pos hlt]
   obtain⟨tv,a0,a1,a2,a3,a4⟩:=hpk i hlt
   exact⟨tv,by rw[List.getElem?_append_left (by omega)];exact a0,by rw[List.getElem?_append_left (by omega)];exact a1,by rw[List.getElem?_append_left (by omega)];exact a2,by rw[List.getElem?_append_left (by omega)];exact a3,a4.keep kk (by omega)⟩
  ·have e:i=W.pk.length:=by omega
   rw[if_neg hlt,if_pos e,e]
   refine⟨_,get_snoc (j:=0) hxl,get_snoc (j:=1) hxl,get_snoc (j:=2) hxl,get_snoc (j:=3) hxl,⟨rfl,Or.inr ⟨w.heap.size,0,1,#[.int .i64 x],rfl,?_,Nat.le_refl _,by unfold maxLen;decide,by simp,fun j hj=>?_⟩⟩,fun k hk=>?_⟩
   ·have hHg:some w.heap.size≠kv.ownBlock:=fun e=>by have:=hv.rw.lt _ e.symm;omega
    rw[blk_setCell_other _ _ _ _ (by simp;omega),hg.block _ hH hHg];exact ht
   ·simp at hj;subst hj;simp
   ·simp[Value.ownBlock] at hk
    subst hk
    show(if w.heap.size=g then _ else _)=_
    rw[if_neg (fun e=>hgH e.symm),if_pos rfl]
 ·have hb'':w2.heap.size≤b:=by simpa using hb'
  have:=hg.size
  show(if b=g then _ else if b=w.heap.size then _ else tg b)=0
  rw[if_neg (by omega),if_neg (by omega)]
  exact h.nw b (by omega)
 ·refine ext_set (Below.grown (h.ext.trans E) hg (h.ext.trans E).size (fun j hj=>h.base j (by rw[hv.tg j hj];decide))) hb (tg:=fun b=>if b=g then 5 else if b=w.heap.size then 12+3*W.pk.length else tg b) ?_ _
  show(if P=g then 5 else if P=w.heap.size then 12+3*W.pk.length else tg P)≠0
  have e4:(if P=g then 5 else if P=w.heap.size then 12+3*W.pk.length else tg P)=1:=tP'
  rw[e4];decide
theorem PksAt.get {tg:Nat→Nat} {w:World} {pk:List Pk} {v:Value} {i:Nat} (h:PksAt tg w pk v) (hi:i<pk.length):∃g off cap tv,v=.slice (some ⟨g,off,none⟩) pk.length cap∧g<w.heap.size∧tg g=5∧(∀j,w.frozen? ⟨g,j,none⟩=false)∧w.cell? ⟨g,off+i*4,none⟩=some (.int .i64 (pk.getD i pk0).fl)∧w.cell? ⟨g,off+i*4+1,none⟩=some (.int .i64 (pk.getD i pk0).v)∧w.cell? ⟨g,off+i*4+2,none⟩=some tv∧w.cell? ⟨g,off+i*4+3,none⟩=some (.bool (pk.getD i pk0).dn)∧BrwAt tg (12+3*i) w (pk.getD i pk0).tr tv:=by
 obtain⟨xs,hr,hp⟩:=h
 obtain⟨g,off,cap,hv,hg,_,hz,hc⟩:=hr.rw.cells (by omega)
 obtain⟨tv,a0,a1,a2,a3,a4⟩:=hp i hi
 have hl:i*4+4≤pk.length*4:=by omega
 refine⟨g,off,cap,tv,hv,hg,hr.tg g (by rw[hv];rfl),hz,?_,?_,?_,?_,a4⟩
 ·rw[hc _ (by omega)];exact a0
 ·rw[Nat.add_assoc,hc _ (by omega)];exact a1
 ·rw[Nat.add_assoc,hc _ (by omega)];exact a2
 ·rw[Nat.add_assoc,hc _ (by omega)];exact a3
theorem PksAt.same {tg:Nat→Nat} {w:World} {pk:List Pk} {g off cap:Nat} {i:Nat} {u:Value} {q:Pk} {j:Nat} (h:PksAt tg w pk (.slice (some ⟨g,off,none⟩) pk.length cap)) (hi:i<pk.length) (hj:j<4) (hu:∀xs:List Value,∀tv,xs.length=pk.length*4→xs[i*4]? =some (.int .i64 (pk.getD i pk0).fl)→xs[i*4+1]? =some (.int .i64 (pk.getD i pk0).v)→xs[i*4+2]? =some tv→xs[i*4+3]? =some (.bool (pk.getD i pk0).dn)→
 ∃tv',(xs.set (i*4+j) u)[i*4]? =some (.int .i64 q.fl)∧(xs.set (i*4+j) u)[i*4+1]? =some (.int .i64 q.v)∧(xs.set (i*4+j) u)[i*4+2]? =some tv'∧(xs.set (i*4+j) u)[i*4+3]? =some (.bool q.dn)∧(BrwAt tg (12+3*i) w (pk.getD i pk0).tr tv→BrwAt tg (12+3*i) w q.tr tv')):
 PksAt tg (w.setCell ⟨g,off+(i*4+j),none⟩ u) (pk.set i q) (.slice (some ⟨g,off,none⟩) pk.length cap):=by
 obtain⟨xs,hr,hp⟩:=h
 have ht:=hr.tg g rfl
 have k:KeepP (fun x=>x≠5) tg tg w (w.setCell ⟨g,off+(i*4+j),none⟩ u):=KeepP.set ht u
 have hxl:=hr.rw.len
 refine⟨xs.set (i*4+j) u,⟨by rw[List.length_set];exact hr.rw.set (i*4+j) (by omega) u,hr.tg⟩,fun m hm=>?_⟩
 rw[List.length_set] at hm
 rw[getD_set hi]
 by_cases e:m=i
 ·subst e
  rw[if_pos rfl]
  obtain⟨tv,a0,a1,a2,a3,a4⟩:=hp m hi
  obtain⟨tv',b0,b1,b2,b3,b4⟩:=hu xs tv hxl a0 a1 a2 a3
  exact⟨tv',b0,b1,b2,b3,(b4 a4).keep k (by omega)⟩
 ·rw[if_neg e]
  obtain⟨tv,a0,a1,a2,a3,a4⟩:=hp m hm
  exact⟨tv,by rw[List.getElem?_set_ne (by omega)];exact a0,by rw[List.getElem?_set_ne (by omega)];exact a1,by rw[List.getElem?_set_ne (by omega)];exact a2,by rw[List.getElem?_set_ne (by omega)];exact a3,a4.keep k (by omega)⟩
theorem WSt.doneK {T:TypeId} {tl:List Value} {w0 w:World} {P n:Nat} {tg:Nat→Nat} {W:Wd} {a:CA} {sb ob bb:Nat} {lv:Value} {g off cap i:Nat} (h:WSt T tl w0 P n tg w W a sb ob bb (.slice (some ⟨g,off,none⟩) W.pk.length cap) lv) (hi:i<W.pk.length) (tG:tg g=5):
 WSt T tl w0 P n tg (w.setCell ⟨g,off+(i*4+3),none⟩ (.bool true)) ⟨W.co,W.sw,W.od,W.bk,W.pk.set i ⟨(W.pk.getD i pk0).fl,(W.pk.getD i pk0).v,(W.pk.getD i pk0).tr,true⟩,W.pn⟩ a sb ob bb (.slice (some ⟨g,off,none⟩) W.pk.length cap) lv∧Kpt tg tg w (w.setCell ⟨g,off+(i*4+3),none⟩ (.bool true)):=by
 have k:KeepP (fun x=>x≠5) tg tg w (w.setCell ⟨g,off+(i*4+3),none⟩ (.bool true)):=KeepP.set tG _
 have hp:=h.pks.same (i:=i) (j:=3) (u:=.bool true) (q:=⟨(W.pk.getD i pk0).fl,(W.pk.getD i pk0).v,(W.pk.getD i pk0).tr,true⟩) hi (by omega) (fun xs tv hl a0 a1 a2 a3=>⟨tv,by rw[List.getElem?_set_ne (by omega)];exact a0,by rw[List.getElem?_set_ne (by omega)];exact a1,by rw[List.getElem?_set_ne (by omega)];exact a2,by rw[List.getElem?_set_self (by omega)],fun h=>h⟩)
 obtain⟨e1,e2⟩:=rowIs_keep h.row k (by rw[h.tP];decide)
 exact⟨⟨e2,h.co.keep k (by decide),h.sws.keep k (by decide) (by decide),h.ors.keep k (by decide) (by decide) (fun j=>by omega),h.bks.keep k (by decide) (fun j=>by omega),hp,h.pls.keep k (by decide) (by decide),h.tP,fun b hb=>h.nw b (by simpa using hb),h.base,ext_set h.ext h.base (by rw[tG];decide) _⟩,k.mono (fun x hx=>by omega)⟩
theorem WSt.moveK {T:TypeId} {tl:List Value} {w0 w w2:World} {P n:Nat} {tg:Nat→Nat} {W:Wd} {a:CA} {sb ob bb:Nat} {lv tv:Value} {g off cap i gt ot ct:Nat} {y:Int} (h:WSt T tl w0 P n tg w W a sb ob bb (.slice (some ⟨g,off,none⟩) W.pk.length cap) lv) (hi:i<W.pk.length)
 (hv:BrwAt tg (12+3*i) w (W.pk.getD i pk0).tr tv)
 (hr:Rw w2 3 1 (.slice (some ⟨gt,ot,none⟩) ((W.pk.getD i pk0).tr.length+1) ct) ((W.pk.getD i pk0).tr.length+1) ((W.pk.getD i pk0).tr.map (Value.int .i64)++[.int .i64 y])) (hg:w.grownBy w2 tv.ownBlock) (hat:tv.ownBlock=some gt∨gt=w.heap.size):
 ∃tg',WSt T tl w0 P n tg' (w2.setCell ⟨g,off+(i*4+2),none⟩ (.slice (some ⟨gt,ot,none⟩) ((W.pk.getD i pk0).tr.length+1) ct)) ⟨W.co,W.sw,W.od,W.bk,W.pk.set i ⟨(W.pk.getD i pk0).fl,(W.pk.getD i pk0).v,(W.pk.getD i pk0).tr++[y],(W.pk.getD i pk0).dn⟩,W.pn⟩ a sb ob bb (.slice (some ⟨g,off,none⟩) W.pk.length cap) lv∧Kpt tg tg' w (w2.setCell ⟨g,off+(i*4+2),none⟩ (.slice (some ⟨gt,ot,none⟩) ((W.pk.getD i pk0).tr.length+1) ct)):=by
 have k:=KeepP.push (tg:=tg) (t:=12+3*i) hv.tg hg hat
 have hrow:=BrwAt.snoc (tg:=tg) (t:=12+3*i) hr
 have hgl:gt<w2.heap.size:=hr.lt gt rfl
 -- the packets behind the trace's growth:all but its own trace
 have hpk2:PksAt (fun b=>if b=gt then 12+3*i else tg b) (w2.setCell ⟨g,off+(i*4+2),none⟩ (.slice (some ⟨gt,ot,none⟩) ((W.pk.getD i pk0).tr.length+1) ct)) (W.pk.set i ⟨(W.pk.getD i pk0).fl,(W.pk.getD i pk0).v,(W.pk.getD i pk0).tr++[y],(W.pk.getD i pk0).dn⟩) (.slice (some ⟨g,off,none⟩) W.pk.length cap):=by
  obtain⟨xs,hx,hp⟩:=h.pks
  have hx2:=hx.keep k (by omega)
  have tG2:=hx2.tg g rfl
  have k2:KeepP (fun x=>x≠5) (fun b=>if b=gt then 12+3*i else tg b) (fun b=>if b=gt then 12+3*i else tg b) w2 (w2.setCell ⟨g,off+(i*4+2),none⟩ (.slice (some ⟨gt,ot,none⟩) ((W.pk.getD i pk0).tr.length+1) ct)):=KeepP.set (tg:=fun b=>if b=gt then 12+3*i else tg b) tG2 _
  have hxl:=hx.rw.len
  refine⟨xs.set (i*4+2) (.slice (some ⟨gt,ot,none⟩) ((W.pk.getD i pk0).tr.length+1) ct),⟨by rw[List.length_set];exact hx2.rw.set (i*4+2) (by omega) _,hx2.tg⟩,fun m hm=>?_⟩
  rw[List.length_set] at hm
  rw[getD_set hi]
  by_cases e:m=i
  ·subst e
   rw[if_pos rfl]
   obtain⟨tv',a0,a1,a2,a3,a4⟩:=hp m hi
   exact⟨_,by rw[List.getElem?_set_ne (by omega)];exact a0,by rw[List.getElem?_set_ne (by omega)];exact a1,List.getElem?_set_self (by omega),by rw[List.getElem?_set_ne (by omega)];exact a3,hrow.keep k2 (by omega)⟩
  ·rw[if_neg e]
   obtain⟨tv',a0,a1,a2,a3,a4⟩:=hp m hm
   exact⟨tv',by rw[List.getElem?_set_ne (by omega)];exact a0,by rw[List.getElem?_set_ne (by omega)];exact a1,by rw[List.getElem?_set_ne (by omega)];exact a2,by rw[List.getElem?_set_ne (by omega)];exact a3,(a4.keep k (by omega)).keep k2 (by omega)⟩
 have tG2:(if g=gt then 12+3*i else tg g)=5:=by
  obtain⟨xs,hx,_⟩:=h.pks
  exact(hx.keep k (by omega)).tg g rfl
 have k2:KeepP (fun x=>x≠5) (fun b=>if b=gt then 12+3*i else tg b) (fun b=>if b=gt then 12+3*i else tg b) w2 (w2.setCell ⟨g,off+(i*4+2),none⟩ (.slice (some ⟨gt,ot,none⟩) ((W.pk.getD i pk0).tr.length+1) ct)):=KeepP.set (tg:=fun b=>if b=gt then 12+3*i else tg b) tG2 _
 have kk:KeepP (fun x=>x≠5∧x≠12+3*i) tg (fun b=>if b=gt then 12+3*i else tg b) w (w2.setCell ⟨g,off+(i*4+2),none⟩ (.slice (some ⟨gt,ot,none⟩) ((W.pk.getD i pk0).tr.length+1) ct)):=(k.mono (fun x hx=>hx.2)).trans (k2.mono (fun x hx=>hx.1))
 have hb:∀b,(if b=gt then 12+3*i else tg b)≠0→w0.heap.size≤b:=fun b hb=>by
  by_cases e:b=gt
  ·subst e
   rcases hat with h1 | h1
   ·exact h.base b (by rw[hv.tg b h1];omega)
   ·rw[h1];exact h.ext.size
  ·rw[if_neg e] at hb;exact h.base b hb
 obtain⟨e1,e2⟩:=rowIs_keep h.row kk (by rw[h.tP];omega)
 refine⟨_,⟨e2,h.co.keep kk (by omega),h.sws.keep kk (by omega) (by omega),h.ors.keep kk (by omega) (by omega) (fun j=>by omega),h.bks.keep kk (by omega) (fun j=>by omega),hpk2,h.pls.keep kk (by omega) (by omega),e1.trans h.tP,fun b hb'=>?_,hb,?_⟩,kk.mono (fun x hx=>by omega)⟩
 ·have hb'':w2.heap.size≤b:=by simpa using hb'
  show(if b=gt then _ else tg b)=0
  rw[if_neg (by omega)]
  exact h.nw b (Nat.le_trans hg.size hb'')
 ·exact ext_set (ext_grown h.ext h.base hg (fun j hj=>by rw[hv.tg j hj];omega)) hb (tg:=fun b=>if b=gt then 12+3*i else tg b) (by show(if g=gt then 12+3*i else tg g)≠0;rw[tG2];decide) _
end Go.Proofs.Ytolclgbpjiokfaa.Rm
namespace Go.Proofs.Ytolclgbpjiokfaa.Rm
open Go.RowKit Go.Deep Stw Stp Tb Rul Ct
theorem infoSw:(Try.prog.info? 60).map (fun i=>(i.zero,i.size,i.bytes))=some (some (.agg #[.slice none 0 0,.slice none 0 0]),2,48):=by kernel_rfl
theorem infoOr:(Try.prog.info? 100).map (fun i=>(i.zero,i.size,i.bytes))=some (some (.slice none 0 0),1,24):=by kernel_rfl
theorem infoLi:(Try.prog.info? 31).map (fun i=>(i.zero,i.size,i.bytes))=some (some (.slice none 0 0),1,24):=by kernel_rfl
theorem getD_rep1 {α:Type} {n s:Nat} {z:α}:(List.replicate n z).getD s z=z:=by
 rw[List.getD_eq_getElem?_getD,List.getElem?_replicate];split <;> rfl
def mkS (n:Nat):Array Value:=madeCells #[.slice none 0 0,.slice none 0 0] (n*2)
def mkL (n:Nat):Array Value:=madeCells #[.slice none 0 0] n
theorem mkS_run (n:Nat) (hn:n≤8) (V:World):(Instr.makeSlice 34 (.int .i64 (n:Int)) (.int .i64 (n:Int))).run Try.prog V=.ok (.slice (some ⟨V.heap.size,0,none⟩) n n) (V.alloc (.cells (mkS n) 60)):=by
 obtain⟨i,hi,h1,h2,h3⟩:=info_parts infoSw
 have hr:=run_make (P:=Try.prog) V 34 60 i _ Try.underlying34 hi h1 .i64 .i64 (n:Int) (n:Int) (by omega) (Int.le_refl _) (by rw[h3];omega) (by omega)
 rw[h2,Int.toNat_natCast] at hr
 exact hr
theorem mkO_run (n:Nat) (hn:n≤8) (V:World):(Instr.makeSlice 35 (.int .i64 (n:Int)) (.int .i64 (n:Int))).run Try.prog V=.ok (.slice (some ⟨V.heap.size,0,none⟩) n n) (V.alloc (.cells (mkL n) 100)):=by
 obtain⟨i,hi,h1,h2,h3⟩:=info_parts infoOr
 exact run_make_row (P:=Try.prog) 35 100 i _ Try.underlying35 hi h1 h2 rfl .i64 .i64 n (by rw[h3];omega) (by omega) V
theorem mkB_run (n:Nat) (hn:n≤8) (V:World):(Instr.makeSlice 36 (.int .i64 (n:Int)) (.int .i64 (n:Int))).run Try.prog V=.ok (.slice (some ⟨V.heap.size,0,none⟩) n n) (V.alloc (.cells (mkL n) 31)):=by
 obtain⟨i,hi,h1,h2,h3⟩:=info_parts infoLi
 exact run_make_row (P:=Try.prog) 36 31 i _ Try.underlying36 hi h1 h2 rfl .i64 .i64 n (by rw[h3];omega) (by omega) V
theorem mkS_row {W:World} {b n:Nat} (h:W.heap[b]? =some (.cells (mkS n) 60 (0,0))):W.rowIs b 60 (n*2) (fun _=>.slice none 0 0):=
 ⟨_,h,size_madeCells _ _,fun i hi=>by
  have h2:i % 2=0∨i % 2=1:=by omega
  rcases h2 with h2 | h2 <;> simp[mkS,madeCells,hi,h2]⟩
theorem mkL_row {W:World} {b n:Nat} {T:TypeId} (h:W.heap[b]? =some (.cells (mkL n) T (0,0))):W.rowIs b T n (fun _=>.slice none 0 0):=
 ⟨_,h,size_madeCells _ _,fun i hi=>by simp[mkL,madeCells,hi,Nat.mod_one]⟩
theorem new_at {V:World} {o:Obj} {b:Nat} (h:V.heap.size=b):(V.alloc o).heap[b]? =some o:=by rw[←h];exact blk_alloc_new V o
theorem row_of_list {W:World} {b:Nat} {T:TypeId} {l:List Value} (h:W.heap[b]? =some (.cells l.toArray T (0,0))):W.rowIs b T l.length (fun j=>l.getD j vd):=
 ⟨_,h,by simp,fun i hi=>by simp[List.getD_eq_getElem?_getD,hi]⟩
def tg0 (P sb ob bb X Y:Nat) (b:Nat):Nat:=if b=P then 1 else if b=sb then 2 else if b=ob then 3 else if b=bb then 4 else if b=X∨b=Y then 8 else 0
theorem WSt.start {T:TypeId} {tl:List Value} {w0 w:World} {P n sb ob bb X Y:Nat} (hX:w0.heap.size≤X) (hXP:X<P) (hY:w0.heap.size≤Y) (hYP:Y<P) (hPs:P<sb) (hso:sb<ob) (hob:ob<bb) (hr:w.rowIs P T (14+tl.length) (fun j=>(wdL co0 ca0 n sb ob bb (.slice none 0 0) (.slice none 0 0) tl).getD j vd))
 (h1:w.heap[sb]? =some (.cells (mkS n) 60 (0,0))) (h2:w.heap[ob]? =some (.cells (mkL n) 100 (0,0))) (h3:w.heap[bb]? =some (.cells (mkL n) 31 (0,0))) (E:Ext w0 w):
 WSt T tl w0 P n (tg0 P sb ob bb X Y) w (wdN n) ca0 sb ob bb (.slice none 0 0) (.slice none 0 0):=by
 have hbl:bb<w.heap.size:=(Array.getElem?_eq_some_iff.1 h3).1
 refine⟨hr,fun U _ _=>CoAt.zero U,⟨?_,_,mkS_row h1,fun s hs=>⟨none,0,none,0,?_,?_,fun U _ _=>?_⟩⟩,⟨?_,_,mkL_row h2,fun s hs=>?_⟩,⟨?_,_,mkL_row h3,fun s hs=>?_⟩,⟨[],RwT.nil _ _ _ _ _,fun i hi=>by simp[wdN] at hi⟩,⟨[],RwT.nil _ _ _ _ _,fun i hi=>by simp[wdN] at hi⟩,by unfold tg0;rw[if_pos rfl],fun b hb=>?_,fun b hb=>?_,E⟩
 ·unfold tg0
  rw[if_neg (by omega),if_pos rfl]
 ·show _=Value.slice none ((List.replicate n Agt.sw0).getD s Agt.sw0).rs.length 0
  rw[getD_rep1];rfl
 ·show _=Value.slice none ((List.replicate n Agt.sw0).getD s Agt.sw0).st.length 0
  rw[getD_rep1];rfl
 ·show Ag.SwAt U ((List.replicate n Agt.sw0).getD s Agt.sw0) none none 0
  rw[getD_rep1]
  exact⟨⟨rfl,Or.inl rfl,fun _=>⟨rfl,rfl⟩⟩,Or.inl rfl,by decide,by decide,by decide⟩
 ·unfold tg0
  rw[if_neg (by omega),if_neg (by omega),if_pos rfl]
 ·show OrwAt _ _ _ ((List.replicate n []).getD s []) _
  rw[getD_rep1]
  exact OrwAt.nil _ _ _
 ·unfold tg0
  rw[if_neg (by omega),if_neg (by omega),if_neg (by omega),if_pos rfl]
 ·show BrwAt _ _ _ ((List.replicate n []).getD s []) _
  rw[getD_rep1]
  exact BrwAt.nil _ _ _
 ·unfold tg0
  rw[if_neg (by omega),if_neg (by omega),if_neg (by omega),if_neg (by omega),if_neg (by omega)]
 ·unfold tg0 at hb
  by_cases e1:b=P
  ·omega
  ·rw[if_neg e1] at hb
   by_cases e2:b=sb
   ·omega
   ·rw[if_neg e2] at hb
    by_cases e3:b=ob
    ·omega
    ·rw[if_neg e3] at hb
     by_cases e4:b=bb
     ·omega
     ·rw[if_neg e4] at hb
      by_cases e5:b=X∨b=Y
      ·omega
      ·rw[if_neg e5] at hb;exact absurd rfl hb
theorem tg0_xy {P sb ob bb X Y:Nat} (hXP:X<P) (hYP:Y<P) (hPs:P<sb) (hso:sb<ob) (hob:ob<bb):tg0 P sb ob bb X Y X=8∧tg0 P sb ob bb X Y Y=8:=by
 unfold tg0
 refine⟨?_,?_⟩
 ·rw[if_neg (by omega),if_neg (by omega),if_neg (by omega),if_neg (by omega),if_pos (Or.inl rfl)]
 ·rw[if_neg (by omega),if_neg (by omega),if_neg (by omega),if_neg (by omega),if_pos (Or.inr rfl)]
set_option maxRecDepth 100000 in
set_option maxHeartbeats 2000000 in
theorem playedIn_any (n:Nat) (ao:Option Addr) (len cap:Nat) (w:World) (hn:n≤8):
 Calls Try.prog 38 #[.agg #[.int .i64 (n:Int),.slice ao len cap]] w fun e w'=>∃P sb ob bb:Nat,e=.returned (.pointer (some ⟨P,0,none⟩))∧w.heap.size≤P∧P<sb∧sb<ob∧ob<bb∧w'.rowIs P 95 16 (fun j=>(wdL co0 ca0 n sb ob bb (.slice none 0 0) (.slice none 0 0) [.int .i64 (n:Int),.slice ao len cap]).getD j vd)∧w'.heap[sb]? =some (.cells (mkS n) 60 (0,0))∧w'.heap[ob]? =some (.cells (mkL n) 100 (0,0))∧w'.heap[bb]? =some (.cells (mkL n) 31 (0,0))∧Ext w w':=by
 have m1:=mkS_run n hn
 have m2:=mkO_run n hn
 have m3:=mkB_run n hn
 go_enter Try.func38,Try.ntmps38
 go_wp2
 go_ret
 have hsz:∀(V:World) (o:Obj),(V.alloc o).heap.size=V.heap.size+1:=fun V o=>by simp
 refine⟨w.heap.size+1,w.heap.size+1+1,w.heap.size+1+1+1,w.heap.size+1+1+1+1,rfl,by omega,by omega,by omega,by omega,?_,?_,?_,?_,(((((Ext.refl w).alloc _).alloc _).alloc _).alloc _ |>.alloc _)⟩
 ·refine row_of_list (l:=wdL co0 ca0 n (w.heap.size+1+1) (w.heap.size+1+1+1) (w.heap.size+1+1+1+1) (.slice none 0 0) (.slice none 0 0) [.int .i64 (n:Int),.slice ao len cap]) ?_
  rw[blk_alloc_lt _ _ _ (by simp only[hsz];omega),blk_alloc_lt _ _ _ (by simp only[hsz];omega),blk_alloc_lt _ _ _ (by simp only[hsz];omega)]
  exact new_at (by simp)
 ·rw[blk_alloc_lt _ _ _ (by simp only[hsz];omega),blk_alloc_lt _ _ _ (by simp only[hsz];omega)]
  exact new_at (by simp)
 ·rw[blk_alloc_lt _ _ _ (by simp only[hsz];omega)]
  exact new_at (by simp)
 ·exact new_at (by simp)
end Go.Proofs.Ytolclgbpjiokfaa.Rm
namespace Go.Proofs.Ytolclgbpjiokfaa.Rm
open Go.RowKit Go.Deep Stw Stp Tb Rul Ct
def DosAt (w:World) (ao:Option Addr) (ds:List Dd):Prop:=
 ds=[]∨∃b off,ao=some ⟨b,off,none⟩∧b<w.heap.size∧∀k,k<ds.length→∃fo fc,w.cell? ⟨b,off+k*3,none⟩=some (.int .i64 (ds.getD k dd0).k)∧w.cell? ⟨b,off+k*3+1,none⟩=some (.int .i64 (ds.getD k dd0).n)∧w.cell? ⟨b,off+k*3+2,none⟩=some (.slice fo (ds.getD k dd0).fs.length fc)∧Fw.FlowsAt w fo (ds.getD k dd0).fs
theorem DosAt.ext {w w':World} {ao:Option Addr} {ds:List Dd} (h:DosAt w ao ds) (E:Ext w w'):DosAt w' ao ds:=by
 rcases h with h | ⟨b,off,h1,h2,h3⟩
 ·exact Or.inl h
 ·refine Or.inr ⟨b,off,h1,Nat.lt_of_lt_of_le h2 E.size,fun k hk=>?_⟩
  obtain⟨fo,fc,c0,c1,c2,hf⟩:=h3 k hk
  exact⟨fo,fc,(E.cells.1 _ _ h2).trans c0,(E.cells.1 _ _ h2).trans c1,(E.cells.1 _ _ h2).trans c2,hf.ext E⟩
theorem DosAt.get {w:World} {ao:Option Addr} {ds:List Dd} (h:DosAt w ao ds) {k:Nat} (hk:k<ds.length):∃b off fo fc,ao=some ⟨b,off,none⟩∧b<w.heap.size∧w.cell? ⟨b,off+k*3,none⟩=some (.int .i64 (ds.getD k dd0).k)∧w.cell? ⟨b,off+k*3+1,none⟩=some (.int .i64 (ds.getD k dd0).n)∧w.cell? ⟨b,off+k*3+2,none⟩=some (.slice fo (ds.getD k dd0).fs.length fc)∧Fw.FlowsAt w fo (ds.getD k dd0).fs:=by
 rcases h with h | ⟨b,off,h1,h2,h3⟩
 ·rw[h] at hk;simp at hk
 ·obtain⟨fo,fc,c0,c1,c2,hf⟩:=h3 k hk
  exact⟨b,off,fo,fc,h1,h2,c0,c1,c2,hf⟩
def DsSm (ds:List Dd):Prop:=∀d∈ds,Fw.Sm d.fs∧d.fs.length≤9223372036854775807
structure WA where
 ca:CA
 so:Option Addr
 sc:Nat
 oo:Option Addr
 oc:Nat
 bo:Option Addr
 bc:Nat
 ko:Option Addr
 kc:Nat
 lo:Option Addr
 lc:Nat
def wa0:WA:=⟨ca0,none,0,none,0,none,0,none,0,none,0⟩
def wvl (W:Wd) (A:WA):Value:=.agg #[.int .i64 W.co.st,.int .i64 W.co.now.v,.slice A.ca.n.fo W.co.now.fs.length A.ca.n.fc,.slice A.ca.n.qo W.co.now.ps.length A.ca.n.qc,.int .i64 W.co.nxt.v,.slice A.ca.x.fo W.co.nxt.fs.length A.ca.x.fc,.slice A.ca.x.qo W.co.nxt.ps.length A.ca.x.qc,.int .i64 W.co.num,.slice A.ca.wo W.co.wts.length A.ca.wc,.slice A.so W.sw.length A.sc,.slice A.oo W.od.length A.oc,.slice A.bo W.bk.length A.bc,.slice A.ko W.pk.length A.kc,.slice A.lo W.pn.length A.lc]
def OsAt (w:World) (os:List Wir.Od) (v:Value):Prop:=∃ao c,v=.slice ao os.length c∧(os=[]∨∃g off,ao=some ⟨g,off,none⟩∧g<w.heap.size∧∀i,i<os.length→∃ro rc fo fc,w.cell? ⟨g,off+i*5,none⟩=some (.int .i64 (os.getD i Wir.od0).k)∧w.cell? ⟨g,off+i*5+1,none⟩=some (.int .i64 (os.getD i Wir.od0).n)∧w.cell? ⟨g,off+i*5+2,none⟩=some (.int .i64 (os.getD i Wir.od0).v)∧w.cell? ⟨g,off+i*5+3,none⟩=some (.slice ro (os.getD i Wir.od0).rs.length rc)∧w.cell? ⟨g,off+i*5+4,none⟩=some (.slice fo (os.getD i Wir.od0).fs.length fc)∧RsAt w ro (os.getD i Wir.od0).rs∧ListAt w fo (os.getD i Wir.od0).fs)
theorem OsAt.ext {w w':World} {os:List Wir.Od} {v:Value} (h:OsAt w os v) (E:Ext w w'):OsAt w' os v:=by
 obtain⟨ao,c,h1,h2⟩:=h
 refine⟨ao,c,h1,h2.imp id ?_⟩
 rintro⟨g,off,k1,k2,k3⟩
 refine⟨g,off,k1,Nat.lt_of_lt_of_le k2 E.size,fun i hi=>?_⟩
 obtain⟨ro,rc,fo,fc,c0,c1,c2,c3,c4,hr,hf⟩:=k3 i hi
 exact⟨ro,rc,fo,fc,(E.cells.1 _ _ k2).trans c0,(E.cells.1 _ _ k2).trans c1,(E.cells.1 _ _ k2).trans c2,(E.cells.1 _ _ k2).trans c3,(E.cells.1 _ _ k2).trans c4,hr.ext E,hf.ext E⟩
structure WoAt (w:World) (W:Wd) (A:WA):Prop where
 co:CoAt w W.co A.ca
 sw:W.sw=[]∨∃g off,A.so=some ⟨g,off,none⟩∧g<w.heap.size∧∀s,s<W.sw.length→∃ro rc so sc,w.cell? ⟨g,off+s*2,none⟩=some (.slice ro (W.sw.getD s Agt.sw0).rs.length rc)∧w.cell? ⟨g,off+s*2+1,none⟩=some (.slice so (W.sw.getD s Agt.sw0).st.length sc)∧Ag.SwAt w (W.sw.getD s Agt.sw0) ro so rc
 od:W.od=[]∨∃g off,A.oo=some ⟨g,off,none⟩∧g<w.heap.size∧∀s,s<W.od.length→∃v,w.cell? ⟨g,off+s,none⟩=some v∧OsAt w (W.od.getD s []) v
 bk:W.bk=[]∨∃g off,A.bo=some ⟨g,off,none⟩∧g<w.heap.size∧∀s,s<W.bk.length→∃ao c,w.cell? ⟨g,off+s,none⟩=some (.slice ao (W.bk.getD s []).length c)∧ListAt w ao (W.bk.getD s [])
 pk:W.pk=[]∨∃g off,A.ko=some ⟨g,off,none⟩∧g<w.heap.size∧∀i,i<W.pk.length→∃tO c,w.cell? ⟨g,off+i*4,none⟩=some (.int .i64 (W.pk.getD i pk0).fl)∧w.cell? ⟨g,off+i*4+1,none⟩=some (.int .i64 (W.pk.getD i pk0).v)∧w.cell? ⟨g,off+i*4+2,none⟩=some (.slice tO (W.pk.getD i pk0).tr.length c)∧w.cell? ⟨g,off+i*4+3,none⟩=some (.bool (W.pk.getD i pk0).dn)∧ListAt w tO (W.pk.getD i pk0).tr∧(W.pk.getD i pk0).tr.length≤c
 pn:W.pn=[]∨∃g off,A.lo=some ⟨g,off,none⟩∧g<w.heap.size∧∀i,i<W.pn.length→∃a:PA,w.cell? ⟨g,off+i*3,none⟩=some (.int .i64 (W.pn.getD i pl0).v)∧w.cell? ⟨g,off+i*3+1,none⟩=some (.slice a.fo (W.pn.getD i pl0).fs.length a.fc)∧w.cell? ⟨g,off+i*3+2,none⟩=some (.slice a.qo (W.pn.getD i pl0).ps.length a.qc)∧PlAt w (W.pn.getD i pl0) a
theorem WoAt.ext {w w':World} {W:Wd} {A:WA} (h:WoAt w W A) (E:Ext w w'):WoAt w' W A:=by
 refine⟨h.co.ext E,?_,?_,?_,?_,?_⟩
 ·refine h.sw.imp id ?_
  rintro⟨g,off,k1,k2,k3⟩
  refine⟨g,off,k1,Nat.lt_of_lt_of_le k2 E.size,fun s hs=>?_⟩
  obtain⟨ro,rc,so,sc,c0,c1,hx⟩:=k3 s hs
  exact⟨ro,rc,so,sc,(E.cells.1 _ _ k2).trans c0,(E.cells.1 _ _ k2).trans c1,hx.ext E⟩
 ·refine h.od.imp id ?_
  rintro⟨g,off,k1,k2,k3⟩
  refine⟨g,off,k1,Nat.lt_of_lt_of_le k2 E.size,fun s hs=>?_⟩
  obtain⟨v,c0,hx⟩:=k3 s hs
  exact⟨v,(E.cells.1 _ _ k2).trans c0,hx.ext E⟩
 ·refine h.bk.imp id ?_
  rintro⟨g,off,k1,k2,k3⟩
  refine⟨g,off,k1,Nat.lt_of_lt_of_le k2 E.size,fun s hs=>?_⟩
  obtain⟨ao,c,c0,hx⟩:=k3 s hs
  exact⟨ao,c,(E.cells.1 _ _ k2).trans c0,hx.ext E⟩
 ·refine h.pk.imp id ?_
  rintro⟨g,off,k1,k2,k3⟩
  refine⟨g,off,k1,Nat.lt_of_lt_of_le k2 E.size,fun s hs=>?_⟩
  obtain⟨ao,c,c0,c1,c2,c3,hx,hc⟩:=k3 s hs
  exact⟨ao,c,(E.cells.1 _ _ k2).trans c0,(E.cells.1 _ _ k2).trans c1,(E.cells.1 _ _ k2).trans c2,(E.cells.1 _ _ k2).trans c3,hx.ext E,hc⟩
 ·refine h.pn.imp id ?_
  rintro⟨g,off,k1,k2,k3⟩
  refine⟨g,off,k1,Nat.lt_of_lt_of_le k2 E.size,fun s hs=>?_⟩
  obtain⟨a,c0,c1,c2,hx⟩:=k3 s hs
  exact⟨a,(E.cells.1 _ _ k2).trans c0,(E.cells.1 _ _ k2).trans c1,(E.cells.1 _ _ k2).trans c2,hx.ext E⟩
theorem WoAt.zero (w:World):WoAt w wd0 wa0:=⟨CoAt.zero w,Or.inl rfl,Or.inl rfl,Or.inl rfl,Or.inl rfl,Or.inl rfl⟩
theorem OrwAt.os {tg:Nat→Nat} {t:Nat} {w:World} {os:List Wir.Od} {v:Value} (h:OrwAt tg t w os v):OsAt w os v:=by
 obtain⟨xs,hr,hod⟩:=h
 obtain⟨ao,c,hv⟩:=hr.rw.form
 refine⟨ao,c,hv,?_⟩
 by_cases h0:os=[]
 ·exact Or.inl h0
 ·have hn:0<os.length:=List.length_pos_iff.2 h0
  obtain⟨g,off,cap,hv',hg,_,_,hc⟩:=hr.rw.cells hn
  rw[hv] at hv'
  cases hv'
  refine Or.inr ⟨g,off,rfl,hg,fun i hi=>?_⟩
  obtain⟨ro,rc,fo,fc,a0,a1,a2,a3,a4,a5⟩:=hod i hi
  have hl:i*5+5≤os.length*5:=by omega
  refine⟨ro,rc,fo,fc,?_,?_,?_,?_,?_,a5.at.1,a5.at.2⟩
  ·rw[hc _ (by omega)];exact a0
  ·rw[Nat.add_assoc,hc _ (by omega)];exact a1
  ·rw[Nat.add_assoc,hc _ (by omega)];exact a2
  ·rw[Nat.add_assoc,hc _ (by omega)];exact a3
  ·rw[Nat.add_assoc,hc _ (by omega)];exact a4
theorem WSt.look {T:TypeId} {tl:List Value} {w0 w:World} {P n:Nat} {tg:Nat→Nat} {W:Wd} {a:CA} {sb ob bb:Nat} {kv lv:Value} (h:WSt T tl w0 P n tg w W a sb ob bb kv lv) (hs:W.sw.length=n) (ho:W.od.length=n) (hb:W.bk.length=n):∃ko kc lo lc,kv=.slice ko W.pk.length kc∧lv=.slice lo W.pn.length lc∧WoAt w W ⟨a,some ⟨sb,0,none⟩,n,some ⟨ob,0,none⟩,n,some ⟨bb,0,none⟩,n,ko,kc,lo,lc⟩:=by
 obtain⟨xk,hk,hpk⟩:=h.pks
 obtain⟨xl,hl,hpl⟩:=h.pls
 obtain⟨ko,kc,ek⟩:=hk.rw.form
 obtain⟨lo,lc,el⟩:=hl.rw.form
 refine⟨ko,kc,lo,lc,ek,el,h.co.at,Or.inr ?_,Or.inr ?_,Or.inr ?_,?_,?_⟩
 ·obtain⟨_,f,hf,_⟩:=h.sws
  refine⟨sb,0,rfl,hf.lt,fun s hlt=>?_⟩
  obtain⟨ro,rc,so,sc,c0,c1,_,_,hx⟩:=h.sws.get (s:=s) (by omega)
  exact⟨ro,rc,so,sc,by rw[Nat.zero_add];exact c0,by rw[Nat.zero_add];exact c1,hx.at⟩
 ·obtain⟨_,f,hf,_⟩:=h.ors
  refine⟨ob,0,rfl,hf.lt,fun s hlt=>?_⟩
  obtain⟨v,c0,_,_,hx⟩:=h.ors.get (s:=s) (by omega)
  exact⟨v,by rw[Nat.zero_add];exact c0,hx.os⟩
 ·obtain⟨_,f,hf,_⟩:=h.bks
  refine⟨bb,0,rfl,hf.lt,fun s hlt=>?_⟩
  obtain⟨v,c0,_,_,hx⟩:=h.bks.get (s:=s) (by omega)
  obtain⟨ao,c,rfl,hx2⟩:=hx.list
  exact⟨ao,c,by rw[Nat.zero_add];exact c0,hx2⟩
 ·by_cases h0:W.pk=[]
  ·exact Or.inl h0
  ·have hn:0<W.pk.length:=List.length_pos_iff.2 h0
   obtain⟨g,off,cap,_,hv,hg,_⟩:=h.pks.get hn
   rw[ek] at hv
   cases hv
   refine Or.inr ⟨g,off,rfl,hg,fun i hi=>?_⟩
   obtain⟨g',off',cap',tv,hv',_,_,_,c0,c1,c2,c3,hx⟩:=h.pks.get hi
   rw[ek] at hv'
   cases hv'
   obtain⟨tO,c,rfl,hx2⟩:=hx.list
   have hle:(W.pk.getD i pk0).tr.length≤c:=by
    rcases hx.rw.alt with⟨e,e2⟩ | ⟨_,_,_,_,e,_,e2,_⟩
    ·omega
    ·cases e;exact e2
   exact⟨tO,c,c0,c1,c2,c3,hx2,hle⟩
 ·by_cases h0:W.pn=[]
  ·exact Or.inl h0
  ·have hn:0<W.pn.length:=List.length_pos_iff.2 h0
   obtain⟨g,off,cap,hv,hg,_,_,hc⟩:=hl.rw.cells hn
   rw[el] at hv
   cases hv
   refine Or.inr ⟨g,off,rfl,hg,fun i hi=>?_⟩
   obtain⟨ap,a0,a1,a2,a3⟩:=hpl i hi
   have hl3:i*3+3≤W.pn.length*3:=by omega
   refine⟨ap,?_,?_,?_,a3.at⟩
   ·rw[hc _ (by omega)];exact a0
   ·rw[Nat.add_assoc,hc _ (by omega)];exact a1
   ·rw[Nat.add_assoc,hc _ (by omega)];exact a2
def PlyOut (w:World) (W:Wd) (came:List Int) (f:Int×Int) (e:Ending) (w':World):Prop:=
 ∃A co cc,e=.returned (.tuple #[wvl W A,.slice co came.length cc,.agg #[.int .i64 f.1,.int .i64 f.2]])∧Ext w w'∧Hid (WoAt w' W A∧ListAt w' co came)
theorem WSt.keepW {T:TypeId} {tl:List Value} {w0 w w':World} {P n:Nat} {tg tg':Nat→Nat} {W:Wd} {a:CA} {sb ob bb:Nat} {kv lv:Value} (h:WSt T tl w0 P n tg w W a sb ob bb kv lv) (k:KeepP (fun x=>x≠7∧x≠8) tg tg' w w') (hn:∀b,w'.heap.size≤b→tg' b=0) (hb:∀b,tg' b≠0→w0.heap.size≤b) (hE:Ext w0 w'):WSt T tl w0 P n tg' w' W a sb ob bb kv lv:=by
 obtain⟨e1,e2⟩:=rowIs_keep h.row k (by rw[h.tP];decide)
 exact⟨e2,h.co.keep k (by decide),h.sws.keep k (by decide) (by decide),h.ors.keep k (by decide) (by decide) (fun j=>by omega),h.bks.keep k (by decide) (fun j=>by omega),h.pks.keep k (by decide) (fun j=>by omega),h.pls.keep k (by decide) (by decide),e1.trans h.tP,hn,hb,hE⟩
def CamAt (tg:Nat→Nat) (w:World) (came:List Int) (v:Value):Prop:=RwT tg 7 w 42 1 v came.length (came.map (Value.int .i64))
theorem WSt.pushE {T:TypeId} {tl:List Value} {w0 w w2:World} {P n:Nat} {tg:Nat→Nat} {W:Wd} {a:CA} {sb ob bb:Nat} {kv lv v:Value} {came:List Int} {x:Int} {g off cap:Nat} (h:WSt T tl w0 P n tg w W a sb ob bb kv lv) (hv:CamAt tg w came v)
 (hr:Rw w2 42 1 (.slice (some ⟨g,off,none⟩) (came.length+1) cap) (came.length+1) (came.map (Value.int .i64)++[.int .i64 x])) (hg:w.grownBy w2 v.ownBlock) (hat:v.ownBlock=some g∨g=w.heap.size):
 ∃tg',WSt T tl w0 P n tg' w2 W a sb ob bb kv lv∧CamAt tg' w2 (came++[x]) (.slice (some ⟨g,off,none⟩) (came.length+1) cap)∧KeepP (fun x=>x≠7) tg tg' w w2:=by
 have k:=KeepP.push (tg:=tg) (t:=7) hv.tg hg hat
 have hgl:g<w2.heap.size:=hr.lt g rfl
 refine⟨_,h.keepW (k.mono (fun x hx=>hx.1)) (fun b hb=>?_) (fun b hb=>?_) (ext_grown h.ext h.base hg (fun j hj=>by rw[hv.tg j hj];decide)),⟨by rw[List.length_append,List.map_append];exact hr,fun j hj=>by simp[Value.ownBlock] at hj;simp[hj]⟩,k⟩
 ·have:=hg.size
  show(if b=g then 7 else tg b)=0
  rw[if_neg (by omega)]
  exact h.nw b (by omega)
 ·by_cases e:b=g
  ·subst e
   rcases hat with h1 | h1
   ·exact h.base b (by rw[hv.tg b h1];decide)
   ·rw[h1];exact h.ext.size
  ·have hb':(if b=g then 7 else tg b)≠0:=hb
   rw[if_neg e] at hb';exact h.base b hb'
theorem CamAt.list {tg:Nat→Nat} {w:World} {came:List Int} {v:Value} (h:CamAt tg w came v):∃ao cap,v=.slice ao came.length cap∧ListAt w ao came:=by
 obtain⟨ao,cap,hv⟩:=h.rw.form
 refine⟨ao,cap,hv,?_⟩
 by_cases h0:came=[]
 ·exact Or.inl h0
 ·have hn:0<came.length:=List.length_pos_iff.2 h0
  obtain⟨g,off,cap',hv',hg,_,_,hc⟩:=h.rw.cells hn
  rw[hv] at hv'
  cases hv'
  refine Or.inr ⟨g,off,rfl,hg,fun k hk=>?_⟩
  rw[hc k (by omega),List.getElem?_map,List.getD_eq_getElem?_getD,List.getElem?_eq_getElem hk]
  rfl
theorem CamAt.keep {S:Nat→Prop} {tg tg':Nat→Nat} {w w':World} {came:List Int} {v:Value} (h:CamAt tg w came v) (k:KeepP S tg tg' w w') (h7:S 7):CamAt tg' w' came v:=RwT.keep h k h7
theorem CamAt.row {tg:Nat→Nat} {w:World} {came:List Int} {v:Value} (h:CamAt tg w came v):Rw w 42 1 v came.length (came.map (Value.int .i64)):=RwT.rw h
end Go.Proofs.Ytolclgbpjiokfaa.Rm
