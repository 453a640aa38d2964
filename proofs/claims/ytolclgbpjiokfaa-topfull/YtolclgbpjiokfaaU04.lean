/- Paths in plain words: the ways that a search goes are just the paths that there are, in order; the first of the cheapest is less than all others that cost the same. -/
import Derived.Test.YtolclgbpjiokfaaU01
import Derived.Deep.AppendSrc
import Derived.Test.YtolclgbpjiokfaaU02
namespace Go.Proofs.Ytolclgbpjiokfaa.Rm
open Go.RowKit Go.Deep
structure Rw (w:World) (e:TypeId) (size:Nat) (v:Value) (n:Nat) (xs:List Value):Prop where
 len:xs.length=n*size
 alt:(v=.slice none 0 0∧n=0)∨∃g off cap cur,v=.slice (some ⟨g,off,none⟩) n cap∧w.heap[g]? =some (.cells cur e (0,0))∧n≤cap∧cap≤maxLen∧off+cap*size≤cur.size∧∀j,j<n*size→cur[off+j]? =xs[j]?
theorem Rw.nil (w:World) (e:TypeId) (size:Nat):Rw w e size (.slice none 0 0) 0 []:=⟨by simp,Or.inl ⟨rfl,rfl⟩⟩
theorem Rw.form {w:World} {e:TypeId} {size:Nat} {v:Value} {n:Nat} {xs:List Value} (h:Rw w e size v n xs):∃ao cap,v=.slice ao n cap:=by
 rcases h.alt with⟨rfl,rfl⟩ | ⟨g,off,cap,_,rfl,_⟩
 ·exact⟨_,_,rfl⟩
 ·exact⟨_,_,rfl⟩
theorem Rw.lt {w:World} {e:TypeId} {size:Nat} {v:Value} {n:Nat} {xs:List Value} (h:Rw w e size v n xs):∀k,v.ownBlock=some k→k<w.heap.size:=fun k hk=>by
 rcases h.alt with⟨rfl,_⟩ | ⟨g,off,cap,cur,rfl,hg,_⟩
 ·simp[Value.ownBlock] at hk
 ·simp[Value.ownBlock] at hk
  subst hk
  exact(Array.getElem?_eq_some_iff.1 hg).1
theorem Rw.keep {w w':World} {e:TypeId} {size:Nat} {v:Value} {n:Nat} {xs:List Value} (h:Rw w e size v n xs) (hb:∀k,v.ownBlock=some k→w'.heap[k]? =w.heap[k]?):Rw w' e size v n xs:=by
 refine⟨h.len,h.alt.imp id ?_⟩
 rintro⟨g,off,cap,cur,rfl,hg,h1⟩
 exact⟨g,off,cap,cur,rfl,(hb g rfl).trans hg,h1⟩
theorem Rw.cells {w:World} {e:TypeId} {size:Nat} {v:Value} {n:Nat} {xs:List Value} (h:Rw w e size v n xs) (hn:0<n):∃g off cap,v=.slice (some ⟨g,off,none⟩) n cap∧g<w.heap.size∧n≤cap∧(∀i,w.frozen? ⟨g,i,none⟩=false)∧∀j,j<n*size→w.cell? ⟨g,off+j,none⟩=xs[j]?:=by
 rcases h.alt with⟨_,h0⟩ | ⟨g,off,cap,cur,rfl,hg,h1,h2,h3,h4⟩
 ·omega
 ·refine⟨g,off,cap,rfl,(Array.getElem?_eq_some_iff.1 hg).1,h1,fun i=>by simp[World.frozen?,hg],fun j hj=>?_⟩
  rw[cell_of_row w g (off+j) cur e (0,0) hg];exact h4 j hj
theorem Rw.set {w:World} {e:TypeId} {size:Nat} {g off n cap:Nat} {xs:List Value} (h:Rw w e size (.slice (some ⟨g,off,none⟩) n cap) n xs) (i:Nat) (hi:i<n*size) (u:Value):Rw (w.setCell ⟨g,off+i,none⟩ u) e size (.slice (some ⟨g,off,none⟩) n cap) n (xs.set i u):=by
 refine⟨by rw[List.length_set];exact h.len,Or.inr ?_⟩
 rcases h.alt with⟨h0,_⟩ | ⟨g',off',cap',cur,h0,hg,h1,h2,h3,h4⟩
 ·cases h0
 ·cases h0
  refine⟨g,off,cap,cur.setIfInBounds (off+i) u,rfl,?_,h1,h2,by simpa using h3,fun j hj=>?_⟩
  ·simp[World.setCell,Array.getElem?_modify,hg]
  ·rw[Array.getElem?_setIfInBounds,List.getElem?_set]
   have hc:n*size≤cap*size:=Nat.mul_le_mul_right _ h1
   have hl:=h.len
   by_cases e:i=j
   ·subst e;rw[if_pos rfl,if_pos rfl,if_pos (by omega),if_pos (by omega)]
   ·rw[if_neg (by omega),if_neg e];exact h4 j hj
theorem setCells_other {b k:Nat} (hk:k≠b):∀{vs:List Value} {o:Nat} {w:World},(w.setCells b o vs).heap[k]? =w.heap[k]?
 | [],_,_=>rfl
 | v::r,o,w=>by rw[World.setCells,setCells_other hk];exact blk_setCell_other _ _ _ _ (by simpa using hk)
theorem setCells_frame {b:Nat}:∀{vs:List Value} {o:Nat} {w:World},(w.setCells b o vs).os=w.os∧(w.setCells b o vs).tape=w.tape∧(w.setCells b o vs).output=w.output∧(w.setCells b o vs).heap.size=w.heap.size
 | [],_,_=>⟨rfl,rfl,rfl,rfl⟩
 | v::r,o,w=>by
  obtain⟨h1,h2,h3,h4⟩:=setCells_frame (b:=b) (vs:=r) (o:=o+1) (w:=w.setCell ⟨b,o,none⟩ v)
  rw[World.setCells]
  exact⟨h1,h2,h3,by rw[h4];simp⟩
theorem setCells_block {b:Nat} {e:TypeId}:∀{vs:List Value} {o:Nat} {w:World} {cur:Array Value},w.heap[b]? =some (.cells cur e (0,0))→∃cur',(w.setCells b o vs).heap[b]? =some (.cells cur' e (0,0))∧cur'.size=cur.size∧(∀i,i<o∨o+vs.length≤i→cur'[i]? =cur[i]?)∧(∀j,j<vs.length→o+j<cur.size→cur'[o+j]? =vs[j]?)
 | [],o,w,cur,h=>⟨cur,h,rfl,fun _ _=>rfl,fun j hj=>by simp at hj⟩
 | v::r,o,w,cur,h=>by
  have h':(w.setCell ⟨b,o,none⟩ v).heap[b]? =some (.cells (cur.setIfInBounds o v) e (0,0)):=by simp[World.setCell,Array.getElem?_modify,h]
  obtain⟨cur',h1,h2,h3,h4⟩:=setCells_block (vs:=r) (o:=o+1) h'
  refine⟨cur',by rw[World.setCells];exact h1,by rw[h2];simp,fun i hi=>?_,fun j hj hs=>?_⟩
  ·simp only[List.length_cons] at hi
   rw[h3 i (by omega),Array.getElem?_setIfInBounds,if_neg (by omega)]
  ·cases j with
   | zero=>rw[h3 (o+0) (by omega),Array.getElem?_setIfInBounds,if_pos (by omega),if_pos (by omega)];rfl
   | succ j=>
    have:=h4 j (by simpa using hj) (by simp;omega)
    rw[show o+(j+1)=o+1+j by omega,this];rfl
section
variable {P:Program}
theorem run_append_rw (w:World) (t ty e:TypeId) (i:TypeInfo) (z:Value) (size bytes:Nat) (ht:P.underlying t=some (.slice e)) (hi:P.info? e=some i) (hz:i.zero=some z)
 (hsize:i.size=size) (hby:i.bytes=bytes) (hzs:z.cells.size=size) (hsz:0<size)
 (v:Value) (n:Nat) (xs:List Value) (h:Rw w e size v n xs)
 (a:Addr) (m c:Nat) (news:List Value) (hl:news.length=m*size) (hnews:∀j u,news[j]? =some u→w.cell? (a.add j)=some u) (h1:∀u∈news,u.oneCell'=true)
 (hm:0<m) (h63:n+m≤maxLen) (hbytes:(n+m)*bytes≤140737488355328):
 ∃g off cap w',(Builtin.append_ #[t,t] ty #[v,.slice (some a) m c]).run P w=.ok (.slice (some ⟨g,off,none⟩) (n+m) cap) w'∧Rw w' e size (.slice (some ⟨g,off,none⟩) (n+m) cap) (n+m) (xs++news)∧w.grownBy w' v.ownBlock∧(v.ownBlock=some g∨g=w.heap.size):=by
 subst hsize
 subst hby
 have hlen:(xs++news).length=(n+m)*i.size:=by rw[List.length_append,h.len,hl,Nat.add_mul]
 have grown:∀(old:Nat),old<n+m→∀(row:Option Nat) (C:Array Value),C.toList=xs++news→
  Rw (w.drew.alloc (.cells (C++Builtin.zeroCells z.cells (grownCap w (n+m) old e - (n+m))) e)) e i.size (.slice (some ⟨w.heap.size,0,none⟩) (n+m) (grownCap w (n+m) old e)) (n+m) (xs++news)∧
  w.grownBy (w.drew.alloc (.cells (C++Builtin.zeroCells z.cells (grownCap w (n+m) old e - (n+m))) e)) row:=by
  intro old ho row C hC
  have hge:=grownCap_ge w (n+m) old e
  have hcm:grownCap w (n+m) old e≤maxLen:=grownCap_le_maxLen w (n+m) old e h63
  have hCs:C.size=(n+m)*i.size:=by rw[←Array.length_toList,hC,hlen]
  refine⟨⟨hlen,Or.inr ⟨w.heap.size,0,_,_,rfl,blk_alloc_new w.drew _,hge,hcm,?_,fun j hj=>?_⟩⟩,⟨rfl,rfl,rfl,by simp,fun k hk _=>blk_alloc_lt w.drew _ k hk⟩⟩
  ·simp only[Array.size_append,size_zeroCells,hzs,hCs, ←Nat.add_mul]
   rw[show n+m+(grownCap w (n+m) old e - (n+m))=grownCap w (n+m) old e by omega]
   omega
  ·rw[Nat.zero_add,Array.getElem?_append_left (by omega), ←hC]
   simp
 rcases h.alt with⟨rfl,rfl⟩ | ⟨g,off,cap,cur,rfl,hg,hnc,hcm,hcs,hcur⟩
 ·have hx:xs=[]:=List.eq_nil_of_length_eq_zero (by simpa using h.len)
  subst hx
  have hr:=run_append_nil (P:=P) w t ty e i z ht hi hz a m c news hl hnews hm (by unfold maxLen at h63;omega) (by have hb:=hbytes;simp only[Nat.zero_add] at hb;omega)
  have hgr:=grown 0 (by omega) (Value.ownBlock (.slice none 0 0)) news.toArray (by simp)
  simp only[Nat.zero_add] at hgr ⊢
  exact⟨w.heap.size,0,_,_,hr,hgr.1,hgr.2,Or.inr rfl⟩
 ·by_cases hroom:n+m≤cap
  ·have hfit:(n+m)*i.size≤cap*i.size:=Nat.mul_le_mul_right _ hroom
   rw[Nat.add_mul] at hfit
   have hfz:∀k,w.frozen? ⟨g,k,none⟩=false:=fun k=>by simp[World.frozen?,hg]
   have hr:=run_append_room_cells (P:=P) w t ty e i ht hi g off n cap a m c news hl hnews h1 hroom (fun j hj=>by
    rw[cell_of_row w g _ cur e (0,0) hg,Array.getElem?_eq_getElem (by omega)];rfl) (fun j _=>hfz _)
   obtain⟨cur',c1,c2,c3,c4⟩:=setCells_block (vs:=news) (o:=off+n*i.size) hg
   obtain⟨f1,f2,f3,f4⟩:=setCells_frame (b:=g) (vs:=news) (o:=off+n*i.size) (w:=w)
   refine⟨g,off,cap,_,hr,⟨hlen,Or.inr ⟨g,off,cap,cur',rfl,c1,hroom,hcm,by omega,fun j hj=>?_⟩⟩,⟨f1,f2,f3,Nat.le_of_eq f4.symm,fun k _ hk=>setCells_other (fun e=>hk (by simp[Value.ownBlock,e]))⟩,Or.inl rfl⟩
   have hxl:=h.len
   rw[Nat.add_mul] at hj
   by_cases hjo:j<n*i.size
   ·rw[List.getElem?_append_left (by omega),c3 _ (by omega),hcur j hjo]
   ·rw[List.getElem?_append_right (by omega),hxl]
    have:=c4 (j - n*i.size) (by omega) (by omega)
    rw[show off+n*i.size+(j - n*i.size)=off+j by omega] at this
    exact this
  ·have holds:∀j u,xs[j]? =some u→w.cell? ((⟨g,off,none⟩:Addr).add j)=some u:=fun j u hu=>by
    have hj:j<xs.length:=(List.getElem?_eq_some_iff.1 hu).1
    have hadd:(⟨g,off,none⟩:Addr).add j=⟨g,off+j,none⟩:=by unfold Addr.add;split <;> simp_all
    rw[hadd,cell_of_row w g _ cur e (0,0) hg,hcur j (by rw[←h.len];exact hj)]
    exact hu
   have hr:=run_append_grow (P:=P) w t ty e i z ht hi hz ⟨g,off,none⟩ n cap xs h.len holds a m c news hl hnews (by omega) (by unfold maxLen at h63;omega) (growslice_fits (by omega) hbytes)
   have hgr:=grown cap (by omega) (Value.ownBlock (.slice (some ⟨g,off,none⟩) n cap)) (xs.toArray++news.toArray) (by simp)
   exact⟨w.heap.size,0,_,_,hr,hgr.1,hgr.2,Or.inr rfl⟩
theorem wp_append_rw (w:World) {o:Oper} {a:Act} {K:Act→World→Prop} {Q:Exit→Act→World→Prop} (s x:Operand) (t:TypeId)
 (ho:o.op=.call {callee:=.builtin .append,args:=#[s,x],argTypes:=#[t,t]}) (e:TypeId) (i:TypeInfo) (z:Value) (size bytes:Nat) (ht:P.underlying t=some (.slice e)) (hi:P.info? e=some i) (hz:i.zero=some z)
 (hsize:i.size=size) (hby:i.bytes=bytes) (hzs:z.cells.size=size) (hsz:0<size) (v:Value) (n:Nat) (xs:List Value) (hs:a.eval s=v) (h:Rw w e size v n xs)
 (ad:Addr) (c:Nat) (news:List Value) (hx:a.eval x=.slice (some ad) 1 c) (hl:news.length=size) (hnews:∀j u,news[j]? =some u→w.cell? (ad.add j)=some u) (h1:∀u∈news,u.oneCell'=true)
 (h63:n+1≤maxLen) (hbytes:(n+1)*bytes≤140737488355328)
 (hK:∀g off cap w',Rw w' e size (.slice (some ⟨g,off,none⟩) (n+1) cap) (n+1) (xs++news)→w.grownBy w' v.ownBlock→(v.ownBlock=some g∨g=w.heap.size)→K (a.put o.dst (.slice (some ⟨g,off,none⟩) (n+1) cap)) w'):o.wp P a w K Q:=by
 obtain⟨g,off,cap,w',hr,h2,h3,h4⟩:=run_append_rw (P:=P) w t o.type e i z size bytes ht hi hz hsize hby hzs hsz v n xs h ad 1 c news (by rw[Nat.one_mul];exact hl) hnews h1 (by omega) h63 hbytes
 unfold Oper.wp execOp
 simp only[ho,resolve,invoke,builtin,Sem.run_bind,Sem.run_pure,Result.andThen_ok,List.map_toArray,List.map_cons,List.map_nil,hs,hx,hr]
 exact hK g off cap w' h2 h3 h4
theorem wpList_append_rw (w:World) {ops:Array Oper} {rest:List Oper} {o:Oper} {a:Act} {Q:Exit→Act→World→Prop} (hgd:o.guard=none) (s x:Operand) (t:TypeId)
 (ho:o.op=.call {callee:=.builtin .append,args:=#[s,x],argTypes:=#[t,t]}) (e:TypeId) (i:TypeInfo) (z:Value) (size bytes:Nat) (ht:P.underlying t=some (.slice e)) (hi:P.info? e=some i) (hz:i.zero=some z)
 (hsize:i.size=size) (hby:i.bytes=bytes) (hzs:z.cells.size=size) (hsz:0<size) (v:Value) (n:Nat) (xs:List Value) (hs:a.eval s=v) (h:Rw w e size v n xs)
 (ad:Addr) (c:Nat) (news:List Value) (hx:a.eval x=.slice (some ad) 1 c) (hl:news.length=size) (hnews:∀j u,news[j]? =some u→w.cell? (ad.add j)=some u) (h1:∀u∈news,u.oneCell'=true)
 (h63:n+1≤maxLen) (hbytes:(n+1)*bytes≤140737488355328)
 (hK:∀g off cap w',Rw w' e size (.slice (some ⟨g,off,none⟩) (n+1) cap) (n+1) (xs++news)→w.grownBy w' v.ownBlock→(v.ownBlock=some g∨g=w.heap.size)→wpList P ops Q rest (a.put o.dst (.slice (some ⟨g,off,none⟩) (n+1) cap)) w'):wpList P ops Q (o::rest) a w:=
 wpList_plain hgd fun _ hK'=>wp_append_rw w s x t ho e i z size bytes ht hi hz hsize hby hzs hsz v n xs hs h ad c news hx hl hnews h1 h63 hbytes fun g off cap w' h2 h3 h4=>hK' _ _ (hK g off cap w' h2 h3 h4)
theorem step_append_rw (w:World) {ops:Array Oper} {o:Oper} {a:Act} {K:Act→World→Prop} {Q:Exit→Act→World→Prop} {E:Prop} (hgd:o.guard=none) (s x:Operand) (t:TypeId)
 (ho:o.op=.call {callee:=.builtin .append,args:=#[s,x],argTypes:=#[t,t]}) (e:TypeId) (i:TypeInfo) (z:Value) (size bytes:Nat) (ht:P.underlying t=some (.slice e)) (hi:P.info? e=some i) (hz:i.zero=some z)
 (hsize:i.size=size) (hby:i.bytes=bytes) (hzs:z.cells.size=size) (hsz:0<size) (v:Value) (n:Nat) (xs:List Value) (hs:a.eval s=v) (h:Rw w e size v n xs)
 (ad:Addr) (c:Nat) (news:List Value) (hx:a.eval x=.slice (some ad) 1 c) (hl:news.length=size) (hnews:∀j u,news[j]? =some u→w.cell? (ad.add j)=some u) (h1:∀u∈news,u.oneCell'=true)
 (h63:n+1≤maxLen) (hbytes:(n+1)*bytes≤140737488355328)
 (hK:∀g off cap w',Rw w' e size (.slice (some ⟨g,off,none⟩) (n+1) cap) (n+1) (xs++news)→w.grownBy w' v.ownBlock→(v.ownBlock=some g∨g=w.heap.size)→K (a.put o.dst (.slice (some ⟨g,off,none⟩) (n+1) cap)) w'):
 if Region.wanted o (yielded ops a.tmps)=true then Oper.wp P o a w K Q else E:=by
 have hw:Region.wanted o (yielded ops a.tmps)=true:=by simp[Region.wanted,hgd]
 rw[if_pos hw]
 exact wp_append_rw w s x t ho e i z size bytes ht hi hz hsize hby hzs hsz v n xs hs h ad c news hx hl hnews h1 h63 hbytes hK
end
theorem Rw.tail {w:World} {e:TypeId} {size:Nat} {g off n cap:Nat} {xs:List Value} (h:Rw w e size (.slice (some ⟨g,off,none⟩) (n+1) cap) (n+1) xs):
 (1<cap→Rw w e size (.slice (some ⟨g,off+size,none⟩) n (cap - 1)) n (xs.drop size))∧(cap≤1→n=0∧cap=1∧Rw w e size (.slice (some ⟨g,off,none⟩) 0 0) 0 (xs.drop size)):=by
 have hl:=h.len
 rw[Nat.add_mul,Nat.one_mul] at hl
 rcases h.alt with⟨h0,_⟩ | ⟨g',off',cap',cur,h0,hg,h1,h2,h3,h4⟩
 ·cases h0
 ·cases h0
  refine⟨fun hc=>⟨by rw[List.length_drop];omega,Or.inr ⟨g,off+size,cap - 1,cur,rfl,hg,by omega,by omega,?_,fun j hj=>?_⟩⟩,fun hc=>⟨by omega,by omega,⟨?_,Or.inr ⟨g,off,0,cur,rfl,hg,Nat.le_refl _,Nat.zero_le _,by omega,fun j hj=>by omega⟩⟩⟩⟩
  ·obtain⟨k,rfl⟩:∃k,cap=k+1:=⟨cap - 1,by omega⟩
   rw[Nat.add_mul,Nat.one_mul] at h3
   rw[Nat.add_sub_cancel];omega
  ·have:=h4 (size+j) (by rw[Nat.add_mul,Nat.one_mul];omega)
   rw[List.getElem?_drop,show off+size+j=off+(size+j) by omega];exact this
  ·have:n=0:=by omega
   subst this
   rw[List.length_drop];omega
end Go.Proofs.Ytolclgbpjiokfaa.Rm
namespace Stp
def pc (C:Int→Int→Int):List Int→Int
 | []=>0
 | [_]=>0
 | a::b::r=>C a b+pc C (b::r)
def chain (C:Int→Int→Int):List Int→Prop
 | []=>True
 | [_]=>True
 | a::b::r=>0<C a b∧chain C (b::r)
def mtv (via:List Int) (m:Nat) (s:Int):Nat:=if via[m]? =some s then m+1 else m
def metOf (via:List Int) (m:Nat) (q:List Int):Nat:=q.foldl (mtv via) m
def llt:List Int→List Int→Prop
 | a::p,b::q=>a<b∨(a=b∧llt p q)
 | _,_=>False
def ext (C:Int→Int→Int) (to:Int):Nat→List Int→Int→List (List Int)
 | 0,_,_=>[]
 | k+1,cl,at'=>if at'=to then [[at']] else
  (List.range 8).flatMap fun(s:Nat)=>if 0<C at' (s:Int)∧¬(s:Int)∈at'::cl then(ext C to k (at'::cl) (s:Int)).map (at'::·) else []
def pick (b:Option (List Int×Int)) (x:List Int×Int):Option (List Int×Int):=if b.any (fun y=>decide (y.2≤x.2)) then b else some x
def ent (C:Int→Int→Int) (to:Int) (via:List Int):Nat→List Int→List Int→Int→Int→Nat→Option (List Int×Int)→Option (List Int×Int)
 | 0,_,_,_,_,_,b=>b
 | k+1,cl,way,at',c,m,b=>if b.any (fun y=>decide (y.2≤c)) then b else
  if at'=to then(if mtv via m at'=via.length then some (way++[at'],c) else b) else
  (List.range 8).foldl (fun b (s:Nat)=>if 0<C at' (s:Int)∧¬(s:Int)∈at'::cl then ent C to via k (at'::cl) (way++[at']) (s:Int) (c+C at' (s:Int)) (mtv via m at') b else b) b
def cand (C:Int→Int→Int) (via way:List Int) (c:Int) (m:Nat) (q:List Int):List (List Int×Int):=if metOf via m q=via.length then [(way++q,c+pc C q)] else []
theorem pc_nonneg {C:Int→Int→Int} (hC:∀a b,0≤C a b):∀q,0≤pc C q
 | []=>by simp[pc]
 | [_]=>by simp[pc]
 | a::b::r=>by
  have h1:=hC a b
  have h2:=pc_nonneg hC (b::r)
  simp only[pc];omega
theorem ext_head {C:Int→Int→Int} {to:Int}:∀{k:Nat} {cl:List Int} {a:Int} {q:List Int},q∈ext C to k cl a→∃r,q=a::r
 | 0,_,_,_,h=>by cases h
 | k+1,cl,a,q,h=>by
  unfold ext at h
  split at h
  ·simp at h;exact⟨[],h⟩
  ·simp only[List.mem_flatMap,List.mem_range] at h
   obtain⟨s,_,h⟩:=h
   split at h
   ·simp only[List.mem_map] at h
    obtain⟨r,_,rfl⟩:=h
    exact⟨r,rfl⟩
   ·cases h
theorem pick_any {b:Option (List Int×Int)} {c:Int} (h:b.any (fun y=>decide (y.2≤c))=true):∀{L:List (List Int×Int)},(∀x∈L,c≤x.2)→L.foldl pick b=b
 | [],_=>rfl
 | x::L,hL=>by
  have h1:pick b x=b:=by
   unfold pick
   cases b with
   | none=>simp at h
   | some y=>
    simp only[Option.any_some,decide_eq_true_eq] at h
    have:=hL x (by simp)
    rw[if_pos]
    simp only[Option.any_some,decide_eq_true_eq]
    omega
  simp only[List.foldl_cons,h1]
  exact pick_any h (fun y hy=>hL y (by simp[hy]))
theorem foldl_flat {α β γ:Type} (f:β→γ→β) (g:α→List γ):∀(l:List α) (b:β),(l.flatMap g).foldl f b=l.foldl (fun b a=>(g a).foldl f b) b
 | [],_=>rfl
 | a::l,b=>by simp only[List.flatMap_cons,List.foldl_append,List.foldl_cons];exact foldl_flat f g l _
theorem foldl_congr {α β:Type} {f g:β→α→β}:∀(l:List α) (b:β),(∀b a,a∈l→f b a=g b a)→l.foldl f b=l.foldl g b
 | [],_,_=>rfl
 | a::l,b,h=>by
  simp only[List.foldl_cons,h b a (by simp)]
  exact foldl_congr l _ (fun b x hx=>h b x (by simp[hx]))
theorem flat_congr {α β:Type} {f g:α→List β}:∀(l:List α),(∀a,a∈l→f a=g a)→l.flatMap f=l.flatMap g
 | [],_=>rfl
 | a::l,h=>by
  simp only[List.flatMap_cons,h a (by simp)]
  rw[flat_congr l (fun x hx=>h x (by simp[hx]))]
theorem cand_step {C:Int→Int→Int} {via way:List Int} {c:Int} {m:Nat} {a s:Int} {r:List Int}:cand C via way c m (a::s::r)=cand C via (way++[a]) (c+C a s) (mtv via m a) (s::r):=by
 unfold cand
 have e1:metOf via m (a::s::r)=metOf via (mtv via m a) (s::r):=rfl
 have e2:pc C (a::s::r)=C a s+pc C (s::r):=rfl
 rw[e1,e2,Int.add_assoc,List.append_assoc]
 rfl
theorem ent_eq {C:Int→Int→Int} (hC:∀a b,0≤C a b) (to:Int) (via:List Int):∀(k:Nat) (cl way:List Int) (a c:Int) (m:Nat) (b:Option (List Int×Int)),
 ent C to via k cl way a c m b=((ext C to k cl a).flatMap (cand C via way c m)).foldl pick b
 | 0,_,_,_,_,_,_=>rfl
 | k+1,cl,way,a,c,m,b=>by
  unfold ent
  by_cases hp:b.any (fun y=>decide (y.2≤c))=true
  ·rw[if_pos hp]
   refine(pick_any hp (fun x hx=>?_)).symm
   simp only[List.mem_flatMap] at hx
   obtain⟨q,_,hx⟩:=hx
   unfold cand at hx
   split at hx
   ·simp at hx
    subst hx
    have:=pc_nonneg hC q
    simp;omega
   ·cases hx
  ·rw[if_neg hp]
   by_cases ht:a=to
   ·rw[if_pos ht,ext,if_pos ht]
    have e0:cand C via way c m [a]=if mtv via m a=via.length then [(way++[a],c+0)] else []:=rfl
    simp only[List.flatMap_cons,List.flatMap_nil,List.append_nil,e0]
    by_cases hm:mtv via m a=via.length
    ·rw[if_pos hm,if_pos hm]
     simp only[List.foldl_cons,List.foldl_nil,pick,Int.add_zero]
     rw[if_neg hp]
    ·rw[if_neg hm,if_neg hm];rfl
   ·rw[if_neg ht,ext,if_neg ht,List.flatMap_assoc,foldl_flat]
    refine foldl_congr _ _ (fun b s _=>?_)
    split
    ·rw[ent_eq hC to via k]
     congr 1
     rw[List.flatMap_map]
     refine flat_congr _ (fun q hq=>?_)
     obtain⟨r,rfl⟩:=ext_head hq
     exact cand_step.symm
    ·rfl
end Stp
namespace Stp
def lst:List Int→Int
 | []=>0
 | [a]=>a
 | _::b::r=>lst (b::r)
theorem ext_sound {C:Int→Int→Int} {to:Int}:∀{k:Nat} {cl:List Int} {a:Int} {q:List Int},q∈ext C to k cl a→¬a∈cl→chain C q∧q.Nodup∧lst q=to∧(∀x∈q,¬x∈cl)∧(∀x∈q,x=a∨(0≤x∧x<8))
 | 0,_,_,_,h,_=>by cases h
 | k+1,cl,a,q,h,ha=>by
  unfold ext at h
  split at h
  ·rename_i ht
   simp at h
   subst h
   exact⟨trivial,by simp,ht,fun x hx=>by simp at hx;subst hx;exact ha,fun x hx=>by simp at hx;exact Or.inl hx⟩
  ·simp only[List.mem_flatMap,List.mem_range] at h
   obtain⟨s,hs,h⟩:=h
   split at h
   ·rename_i hc
    simp only[List.mem_map] at h
    obtain⟨r,hr,rfl⟩:=h
    obtain⟨h1,h2,h3,h4,h5⟩:=ext_sound hr hc.2
    obtain⟨r',rfl⟩:=ext_head hr
    refine⟨⟨hc.1,h1⟩,List.nodup_cons.2 ⟨fun hm=>h4 a hm (by simp),h2⟩,h3,fun x hx=>?_,fun x hx=>?_⟩
    ·rcases List.mem_cons.1 hx with rfl | hx
     ·exact ha
     ·exact fun hm=>h4 x hx (by simp[hm])
    ·rcases List.mem_cons.1 hx with rfl | hx
     ·exact Or.inl rfl
     ·rcases h5 x hx with rfl | h6
      ·exact Or.inr ⟨by omega,by omega⟩
      ·exact Or.inr h6
   ·cases h
theorem lst_mem:∀{q:List Int},q≠[]→lst q∈q
 | [],h=>absurd rfl h
 | [a],_=>by simp[lst]
 | a::b::r,_=>by
  have:=lst_mem (q:=b::r) (by simp)
  simp only[lst]
  exact List.mem_cons_of_mem _ this
theorem ext_complete {C:Int→Int→Int} {to:Int}:∀{k:Nat} {cl:List Int} {a:Int} {r:List Int},(a::r).length≤k→chain C (a::r)→(a::r).Nodup→lst (a::r)=to→(∀x∈a::r,¬x∈cl)→(∀x∈a::r,0≤x∧x<8)→a::r∈ext C to k cl a
 | 0,_,_,_,h,_,_,_,_,_=>by simp at h
 | k+1,cl,a,[],_,_,_,hl,_,_=>by
  have:a=to:=hl
  simp[ext,this]
 | k+1,cl,a,b::r,hk,hc,hn,hl,hcl,hr=>by
  have hat:¬a=to:=by
   intro e
   have h1:=lst_mem (q:=b::r) (by simp)
   have h2:lst (b::r)=to:=hl
   rw[h2, ←e] at h1
   exact(List.nodup_cons.1 hn).1 h1
  have hb:=hr b (by simp)
  obtain⟨s,rfl⟩:=Int.eq_ofNat_of_zero_le hb.1
  rw[ext,if_neg hat,List.mem_flatMap]
  refine⟨s,by simp;omega,?_⟩
  have hnb:¬(s:Int)∈a::cl:=by
   intro hm
   rcases List.mem_cons.1 hm with e | hm
   ·exact(List.nodup_cons.1 hn).1 (by rw[←e];simp)
   ·exact hcl _ (by simp) hm
  rw[if_pos ⟨hc.1,hnb⟩,List.mem_map]
  refine⟨(s:Int)::r,ext_complete (by simpa using hk) hc.2 (List.nodup_cons.1 hn).2 hl (fun x hx hm=>?_) (fun x hx=>hr x (List.mem_cons_of_mem _ hx)),rfl⟩
  rcases List.mem_cons.1 hm with e | hm
  ·subst e;exact(List.nodup_cons.1 hn).1 hx
  ·exact hcl x (List.mem_cons_of_mem _ hx) hm
theorem ext_sorted {C:Int→Int→Int} {to:Int}:∀{k:Nat} {cl:List Int} {a:Int},(ext C to k cl a).Pairwise llt
 | 0,_,_=>List.Pairwise.nil
 | k+1,cl,a=>by
  unfold ext
  split
  ·simp
  ·rw[List.pairwise_flatMap]
   refine⟨fun s _=>?_,?_⟩
   ·split
    ·rw[List.pairwise_map]
     exact ext_sorted.imp (fun {x y} h=>Or.inr ⟨rfl,h⟩)
    ·exact List.Pairwise.nil
   ·refine List.pairwise_lt_range.imp (fun {s t} hst=>?_)
    intro x hx y hy
    split at hx
    ·split at hy
     ·simp only[List.mem_map] at hx hy
      obtain⟨x',hx',rfl⟩:=hx
      obtain⟨y',hy',rfl⟩:=hy
      obtain⟨u,rfl⟩:=ext_head hx'
      obtain⟨v,rfl⟩:=ext_head hy'
      exact Or.inr ⟨rfl,Or.inl (by omega)⟩
     ·cases hy
    ·cases hx
theorem llt_irrefl:∀p,¬llt p p
 | []=>fun h=>h
 | a::p=>fun h=>by
  rcases h with h | ⟨_,h⟩
  ·omega
  ·exact llt_irrefl p h
theorem llt_asymm:∀{p q},llt p q→¬llt q p
 | [],_,h=>by cases h
 | _::_,[],h=>by cases h
 | a::p,b::q,h=>fun k=>by
  rcases h with h | ⟨e,h⟩ <;> rcases k with k | ⟨_,k⟩
  ·omega
  ·omega
  ·omega
  ·exact llt_asymm h k
theorem llt_app:∀{w p q:List Int},llt p q→llt (w++p) (w++q)
 | [],_,_,h=>h
 | _::_,_,_,h=>Or.inr ⟨rfl,llt_app h⟩
theorem fold_some {R:List Int→List Int→Prop}:∀{L:List (List Int×Int)} {b:Option (List Int×Int)} {p:List Int} {c:Int},L.Pairwise (fun x y=>R x.1 y.1)→(∀y,b=some y→∀x∈L,R y.1 x.1)→L.foldl pick b=some (p,c)→
 (b=some (p,c)∨(p,c)∈L)∧(∀x∈L,c<x.2∨c=x.2∧((p,c)=x∨R p x.1))∧(∀y,b=some y→c<y.2∨b=some (p,c))
 | [],b,p,c,_,_,h=>by
  have h':b=some (p,c):=h
  exact⟨Or.inl h',fun x hx=>(by cases hx),fun y _=>Or.inr h'⟩
 | x::L,b,p,c,hP,hb,h=>by
  obtain⟨hP1,hP2⟩:=List.pairwise_cons.1 hP
  simp only[List.foldl_cons] at h
  by_cases hp:b.any (fun y=>decide (y.2≤x.2))=true
  ·have e:pick b x=b:=by simp[pick,hp]
   rw[e] at h
   obtain⟨h1,h2,h3⟩:=fold_some hP2 (fun y hy z hz=>hb y hy z (by simp[hz])) h
   refine⟨h1.imp id (fun h=>by simp[h]),fun z hz=>?_,h3⟩
   rcases List.mem_cons.1 hz with rfl | hz
   ·cases b with
    | none=>simp at hp
    | some y=>
     simp only[Option.any_some,decide_eq_true_eq] at hp
     rcases h3 y rfl with h4 | h4
     ·exact Or.inl (by omega)
     ·simp only[Option.some.injEq] at h4
      subst h4
      have hp':c≤z.2:=hp
      by_cases e:c=z.2
      ·exact Or.inr ⟨e,Or.inr (hb _ rfl z (by simp))⟩
      ·exact Or.inl (by omega)
   ·exact h2 z hz
  ·have e:pick b x=some x:=by simp[pick,hp]
   rw[e] at h
   obtain⟨h1,h2,h3⟩:=fold_some hP2 (fun y hy z hz=>by cases hy;exact hP1 z hz) h
   have h3':=h3 x rfl
   refine⟨Or.inr ?_,fun z hz=>?_,fun y hy=>?_⟩
   ·rcases h1 with h1 | h1
    ·cases h1;simp
    ·simp[h1]
   ·rcases List.mem_cons.1 hz with rfl | hz
    ·rcases h3' with h4 | h4
     ·exact Or.inl h4
     ·simp only[Option.some.injEq] at h4
      subst h4
      exact Or.inr ⟨rfl,Or.inl rfl⟩
    ·exact h2 z hz
   ·subst hy
    simp only[Option.any_some,decide_eq_true_eq] at hp
    left
    rcases h3' with h4 | h4
    ·omega
    ·simp only[Option.some.injEq] at h4
     subst h4
     have:¬y.2≤c:=hp
     omega
theorem fold_none:∀{L:List (List Int×Int)} {b:Option (List Int×Int)},L.foldl pick b=none→b=none∧L=[]
 | [],b,h=>⟨h,rfl⟩
 | x::L,b,h=>by
  simp only[List.foldl_cons] at h
  have:=(fold_none h).1
  unfold pick at this
  split at this
  ·rename_i hp
   subst this
   simp at hp
  ·cases this
structure Pth (C:Int→Int→Int) (fr to:Int) (p:List Int):Prop where
 head:∃r,p=fr::r
 last:lst p=to
 nd:p.Nodup
 ch:chain C p
 rng:∀x∈p,0≤x∧x<8
structure Srv (C:Int→Int→Int) (fr to:Int) (via nt:List Int) (p:List Int):Prop extends Pth C fr to p where
 not:∀x∈p,¬x∈nt
 met:metOf via 0 p=via.length
def find (C:Int→Int→Int) (fr to:Int) (via nt:List Int):Option (List Int×Int):=ent C to via 8 nt [] fr 0 0 none
def IsBest (C:Int→Int→Int) (fr to:Int) (via nt p:List Int) (c:Int):Prop:=Srv C fr to via nt p∧c=pc C p∧∀q,Srv C fr to via nt q→c<pc C q∨c=pc C q∧(p=q∨llt p q)
theorem pth_len {C:Int→Int→Int} {fr to:Int} {p:List Int} (h:Pth C fr to p):p.length≤8:=by
 have:∀(n:Nat) (l:List Int),l.Nodup→(∀x∈l,0≤x∧x<(n:Int))→l.length≤n:=by
  intro n
  induction n with
  | zero=>intro l _ h;cases l with
   | nil=>simp
   | cons a r=>have:=h a (by simp);omega
  | succ n ih=>
   intro l hd h
   have h1:=ih (l.erase (n:Int)) (hd.erase _) (fun x hx=>by
    have:=(hd.mem_erase_iff).1 hx
    have:=h x this.2
    omega)
   have h2:l.length≤(l.erase (n:Int)).length+1:=by
    rw[List.length_erase]
    split <;> omega
   omega
 exact this 8 p h.nd h.rng
theorem cands_mem {C:Int→Int→Int} {fr to:Int} {via nt:List Int} (hf:0≤fr∧fr<8) (hn:¬fr∈nt) {x:List Int×Int}:x∈(ext C to 8 nt fr).flatMap (cand C via [] 0 0)↔Srv C fr to via nt x.1∧x.2=pc C x.1:=by
 simp only[List.mem_flatMap]
 constructor
 ·rintro⟨q,hq,hx⟩
  obtain⟨h1,h2,h3,h4,h5⟩:=ext_sound hq hn
  unfold cand at hx
  split at hx
  ·rename_i hm
   simp at hx
   subst hx
   exact⟨⟨⟨ext_head hq,h3,h2,h1,fun x hx=>by rcases h5 x hx with rfl | h;exact hf;exact h⟩,h4,hm⟩,rfl⟩
  ·cases hx
 ·rintro⟨h,hc⟩
  obtain⟨p,c⟩:=x
  simp only at h hc
  obtain⟨r,rfl⟩:=h.head
  refine⟨fr::r,ext_complete (pth_len h.toPth) h.ch h.nd h.last h.not h.rng,?_⟩
  unfold cand
  rw[if_pos h.met]
  simp[hc]
theorem find_some {C:Int→Int→Int} (hC:∀a b,0≤C a b) {fr to:Int} {via nt p:List Int} {c:Int} (hf:0≤fr∧fr<8) (hn:¬fr∈nt) (h:find C fr to via nt=some (p,c)):IsBest C fr to via nt p c:=by
 rw[find,ent_eq hC] at h
 have hP:((ext C to 8 nt fr).flatMap (cand C via [] 0 0)).Pairwise (fun x y=>llt x.1 y.1):=by
  rw[List.pairwise_flatMap]
  refine⟨fun q _=>?_,ext_sorted.imp (fun {q r} hqr x hx y hy=>?_)⟩
  ·unfold cand;split <;> simp
  ·unfold cand at hx hy
   split at hx
   ·split at hy
    ·simp at hx hy;subst hx hy;exact hqr
    ·cases hy
   ·cases hx
 obtain⟨h1,h2,_⟩:=fold_some hP (fun y hy=>by cases hy) h
 rcases h1 with h1 | h1
 ·cases h1
 ·obtain⟨h3,h4⟩:=(cands_mem hf hn).1 h1
  refine⟨h3,h4,fun q hq=>?_⟩
  rcases h2 (q,pc C q) ((cands_mem hf hn).2 ⟨hq,rfl⟩) with h5 | ⟨h5,h6⟩
  ·exact Or.inl h5
  ·refine Or.inr ⟨h5,h6.imp (fun e=>by cases e;rfl) id⟩
theorem find_none {C:Int→Int→Int} (hC:∀a b,0≤C a b) {fr to:Int} {via nt:List Int} (hf:0≤fr∧fr<8) (hn:¬fr∈nt) (h:find C fr to via nt=none):∀q,¬Srv C fr to via nt q:=by
 rw[find,ent_eq hC] at h
 intro q hq
 have:=(fold_none h).2
 have h2:=(cands_mem (C:=C) (to:=to) (via:=via) (x:=(q,pc C q)) hf hn).2 ⟨hq,rfl⟩
 rw[this] at h2
 cases h2
theorem best_unique {C:Int→Int→Int} {fr to:Int} {via nt p q:List Int} {c d:Int} (h:IsBest C fr to via nt p c) (k:IsBest C fr to via nt q d):p=q:=by
 have h1:=h.2.2 q k.1
 have h2:=k.2.2 p h.1
 have h3:=h.2.1
 have h4:=k.2.1
 rcases h1 with h1 | ⟨e1,h1⟩
 ·rcases h2 with h2 | ⟨e2,h2⟩ <;> omega
 ·rcases h2 with h2 | ⟨e2,h2⟩
  ·omega
  ·rcases h1 with h1 | h1
   ·exact h1
   ·rcases h2 with h2 | h2
    ·exact h2.symm
    ·exact absurd h2 (llt_asymm h1)
end Stp
