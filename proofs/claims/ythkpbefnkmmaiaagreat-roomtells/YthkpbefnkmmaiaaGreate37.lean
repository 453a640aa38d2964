import Derived.Test.YthkpbefnkmmaiaaGreate36
set_option maxRecDepth 100000
set_option maxHeartbeats 4000000
namespace Stp
open Stw
def all (C:Int->Int->Int) (n:Nat) (tq:Int):Nat->List Int->List (List Int)
 | 0,_=>[]
 | k+1,p=>if lst p=tq then [p] else(List.range n).flatMap fun(s:Nat)=>if ¬(s:Int)∈p/\0<C (lst p) (s:Int) then all C n tq k (p++[(s:Int)]) else []
theorem z4c{α:Type}(g:Nat->List α)(n:Nat)(h:∀s,n<=s->g s=[]):∀m,n<=m->(List.range m).flatMap g=(List.range n).flatMap g
 | 0,hm=>by
  have:n=0:=by omega
  subst this;rfl
 | m+1,hm=>by
  by_cases e:n=m+1
  ·subst e;rfl
  ·rw[List.range_succ,List.flatMap_append,z4c g n h m (by omega)]
   simp[h m (by omega)]
theorem all_ext{C:Int->Int->Int}{n:Nat}{tq:Int}(hn:n<=8)(hz:∀a (s:Nat),n<=s->¬0<C a (s:Int)):∀(k:Nat) (u cl:List Int) (a:Int),(∀x,x∈cl↔x∈u)->all C n tq k (u++[a])=(ext C tq k cl a).map (u++·)
 | 0,_,_,_,_=>rfl
 | k+1,u,cl,a,hcl=>by
  unfold all ext
  rw[z2b]
  by_cases ht:a=tq
  ·rw[if_pos ht,if_pos ht];rfl
  ·rw[if_neg ht,if_neg ht,List.map_flatMap, <-z4c _ n _ 8 hn]
   ·refine q6n _ (fun s _=>?_)
    by_cases hc:0<C a (s:Int)/\¬(s:Int)∈a::cl
    ·have hc':¬(s:Int)∈u++[a]/\0<C a (s:Int):=by
      refine⟨fun hm=>hc.2 ?_,hc.1⟩
      rcases List.mem_append.1 hm with hm | hm
      ·exact List.mem_cons_of_mem _ ((hcl _).2 hm)
      ·simp at hm;rw[hm];simp
     rw[if_pos hc,if_pos hc',all_ext hn hz k (u++[a]) (a::cl) (s:Int) (fun x=>by simp[hcl x,or_comm])]
     rw[List.map_map]
     refine List.map_congr_left (fun q _=>?_)
     simp
    ·have hc':¬(¬(s:Int)∈u++[a]/\0<C a (s:Int)):=by
      rintro⟨h1,h2⟩
      refine hc ⟨h2,fun hm=>h1 ?_⟩
      rcases List.mem_cons.1 hm with hm | hm
      ·rw[hm];simp
      ·exact List.mem_append.2 (Or.inl ((hcl _).1 hm))
     rw[if_neg hc,if_neg hc']
     rfl
   ·intro s hs
    rw[if_neg (fun h=>hz a s hs h.2)]
theorem z2i{α β:Type}(g:α->List β)(M:Nat):∀l:List α,(∀a∈l,(g a).length<=M)->(l.flatMap g).length<=l.length*M
 | [],_=>by simp
 | a::l,h=>by
  have h1:=h a (by simp)
  have h2:=z2i g M l (fun x hx=>h x (by simp[hx]))
  simp only[List.flatMap_cons,lap,List.length_cons]
  rw[Nat.succ_mul]
  omega
theorem z8h{C:Int->Int->Int}{n:Nat}{tq:Int}(hn:n<=8):∀(k:Nat) (p:List Int),(all C n tq k p).length<=8 ^ k
 | 0,_=>by simp[all]
 | k+1,p=>by
  unfold all
  split
  ·have:0<8 ^ (k+1):=Nat.pow_pos (by omega)
   simp;omega
  ·have:=z2i (fun(s:Nat)=>if ¬(s:Int)∈p/\0<C (lst p) (s:Int) then all C n tq k (p++[(s:Int)]) else []) (8 ^ k) (List.range n) (fun s _=>by
    split
    ·exact z8h hn k _
    ·simp)
   have h2:(List.range n).length*8 ^ k<=8*8 ^ k:=Nat.mul_le_mul_right _ (by simpa using hn)
   rw[Nat.pow_succ,Nat.mul_comm]
   exact ltr this h2
def q4s (n:Int) (ls:List Lk) (fr tq:Int) (via nt:List Int) (b:Option (List Int)) (p:List Int):Option (List Int):=
 if svB n ls fr tq via nt p=true then(match b with
  | none=>some p
  | some q=>if pc (cost ls) p<pc (cost ls) q then some p else some q) else b
def rc (n:Int) (ls:List Lk) (fr tq:Int) (via nt:List Int) (p:List Int):List (List Int×Int):=if svB n ls fr tq via nt p=true then [(p,pc (cost ls) p)] else []
theorem rfold{n:Int}{ls:List Lk}{fr tq:Int}{via nt:List Int}:∀(L:List (List Int)) (b:Option (List Int)),(L.flatMap (rc n ls fr tq via nt)).foldl pick (b.map fun p=>(p,pc (cost ls) p))=(L.foldl (q4s n ls fr tq via nt) b).map fun p=>(p,pc (cost ls) p)
 | [],b=>rfl
 | p::L,b=>by
  simp only[List.flatMap_cons,List.foldl_append,List.foldl_cons]
  rw[<-rfold L (q4s n ls fr tq via nt b p)]
  congr 1
  unfold rc q4s
  by_cases hs:svB n ls fr tq via nt p=true
  ·rw[if_pos hs,if_pos hs]
   cases b with
   | none=>rfl
   | some q=>
    simp only[Option.map_some,List.foldl_cons,List.foldl_nil,pick,Option.any_some,decide_eq_true_eq]
    by_cases hc:pc (cost ls) p<pc (cost ls) q
    ·rw[if_neg (by omega),if_pos hc];rfl
    ·rw[if_pos (by omega),if_neg hc];rfl
  ·rw[if_neg hs,if_neg hs];rfl
theorem ref_find{nn:Nat}{ls:List Lk}{fr tq:Int}{via nt:List Int}(hr:q1z (nn:Int) ls)(hf:0<=fr/\fr<(nn:Int))(hnf:¬fr∈nt):(all (cost ls) nn tq 8 [fr]).foldl (q4s nn ls fr tq via nt) none=(find (cost ls) fr tq via nt).map Prod.fst:=by
 have hb:=hr.bounds
 have hC:∀x y,0<=cost ls x y:=fun x y=>(hr.cost x y).1
 have hz:∀a (s:Nat),nn<=s->¬0<cost ls a (s:Int):=fun a s hs h=>by
  have:=(hr.cost a (s:Int)).2.2 (by omega)
  omega
 have he:all (cost ls) nn tq 8 [fr]=ext (cost ls) tq 8 [] fr:=by
  have:=all_ext (C:=cost ls) (n:=nn) (tq:=tq) (by omega) hz 8 [] [] fr (fun x=>Iff.rfl)
  simpa using this
 rw[he]
 have hmem:∀x:List Int×Int,x∈(ext (cost ls) tq 8 [] fr).flatMap (rc nn ls fr tq via nt)↔Srv (cost ls) fr tq via nt x.1/\x.2=pc (cost ls) x.1:=by
  intro x
  simp only[List.mem_flatMap]
  constructor
  ·rintro⟨q,hq,hx⟩
   unfold rc at hx
   split at hx
   ·rename_i hs
    simp at hx
    subst hx
    exact⟨(svB_iff hr hf).1 hs,rfl⟩
   ·cases hx
  ·rintro⟨h,hc⟩
   obtain⟨p,c⟩:=x
   simp only at h hc
   obtain⟨r,rfl⟩:=h.head
   refine⟨fr::r,q3r (q8a h.toPth) h.ch h.nd h.last (fun x _ hx=>by cases hx) h.rng,?_⟩
   unfold rc
   rw[if_pos ((svB_iff hr hf).2 h)]
   simp[hc]
 have hP:((ext (cost ls) tq 8 [] fr).flatMap (rc nn ls fr tq via nt)).Pairwise (fun x y=>Q5 x.1 y.1):=by
  rw[List.pairwise_flatMap]
  refine⟨fun q _=>?_,q6o.imp (fun {q r} hqr x hx y hy=>?_)⟩
  ·unfold rc;split <;> simp
  ·unfold rc at hx hy
   split at hx
   ·split at hy
    ·simp at hx hy;subst hx hy;exact hqr
    ·cases hy
   ·cases hx
 have hrf:=rfold (n:=nn) (ls:=ls) (fr:=fr) (tq:=tq) (via:=via) (nt:=nt) (ext (cost ls) tq 8 [] fr) none
 cases hres:(ext (cost ls) tq 8 [] fr).foldl (q4s nn ls fr tq via nt) none with
 | none=>
  rw[hres] at hrf
  have h0:=(q8n (b:=none) hrf).2
  cases hfi:find (cost ls) fr tq via nt with
  | none=>rfl
  | some y=>
   obtain⟨p,c⟩:=y
   have hbst:=q8p hC (by omega) hnf hfi
   have:=(hmem (p,pc (cost ls) p)).2 ⟨hbst.1,rfl⟩
   rw[h0] at this
   cases this
 | some p=>
  rw[hres] at hrf
  obtain⟨h1,h2,_⟩:=q5p hP (fun y hy=>by cases hy) hrf
  have hbst:z6a (cost ls) fr tq via nt p (pc (cost ls) p):=by
   rcases h1 with h1 | h1
   ·cases h1
   ·refine⟨((hmem _).1 h1).1,rfl,fun q hq=>?_⟩
    rcases h2 (q,pc (cost ls) q) ((hmem _).2 ⟨hq,rfl⟩) with h5 | ⟨h5,h6⟩
    ·exact Or.inl h5
    ·refine Or.inr ⟨h5,h6.imp (fun e=>by cases e;rfl) id⟩
  cases hfi:find (cost ls) fr tq via nt with
  | none=>exact absurd hbst.1 (z5a hC (by omega) hnf hfi p)
  | some y=>
   obtain⟨q,c⟩:=y
   have hb2:=q8p hC (by omega) hnf hfi
   rw[z8d hbst hb2]
   rfl
end Stp
namespace Go.Proofs.YthkpbefnkmmaiaaGreat
open Go.Proofs.Tryz
section
open Go.RowKit Go.Maps Stw Go.Deep Stp
def PV (w:World) (Q:Nat->Prop) (p:List Int) (v:Value):Prop:=∃b off c,v=.slice (some ⟨b,off,none⟩) p.length c/\Q b/\b<w.heap.size/\Q9 w b off p/\p.length<=c
def PVs (w:World) (Q:Nat->Prop):List (List Int)->List Value->Prop
 | [],[]=>True
 | p::ps,v::vs=>PV w Q p v/\PVs w Q ps vs
 | _,_=>False
variable {w w':World} {p:List Int} {Q:Nat->Prop}
theorem PV.mono{Q':Nat->Prop}{v:Value}(h:PV w Q p v)(H:∀b,Q b->b<w.heap.size->Q' b/\b<w'.heap.size/\w'.heap[b]? =w.heap[b]?):PV w' Q' p v:=by
 obtain⟨b,off,c,h1,h2,h3,h4,h5⟩:=h
 obtain⟨k1,k2,k3⟩:=H b h2 h3
 exact⟨b,off,c,h1,k1,k2,fun i hi=>(cob (a:=⟨b,off+i,none⟩) k3).trans (h4 i hi),h5⟩
theorem PVs.mono{w w':World}{Q Q':Nat->Prop}(H:∀b,Q b->b<w.heap.size->Q' b/\b<w'.heap.size/\w'.heap[b]? =w.heap[b]?):∀{ps:List (List Int)} {vs:List Value},PVs w Q ps vs->PVs w' Q' ps vs
 | [],[],_=>trivial
 | [],_::_,h=>by cases h
 | _::_,[],h=>by cases h
 | _::_,_::_,h=>⟨h.1.mono H,PVs.mono H h.2⟩
variable {vs:List Value}
theorem PVs.ext{ps:List (List Int)}(h:PVs w Q ps vs)(k:Ext w w'):PVs w' Q ps vs:=h.mono (fun b hb hl=>⟨hb,Q5 hl k.size,Below.block k b hl⟩)
theorem PVs.len{w:World}{Q:Nat->Prop}:∀{ps:List (List Int)} {vs:List Value},PVs w Q ps vs->vs.length=ps.length
 | [],[],_=>rfl
 | [],_::_,h=>by cases h
 | _::_,[],h=>by cases h
 | _::_,_::_,h=>by simp[PVs.len h.2]
theorem PVs.app{w:World}{Q:Nat->Prop}:∀{ps qs:List (List Int)} {vs us:List Value},PVs w Q ps vs->PVs w Q qs us->PVs w Q (ps++qs) (vs++us)
 | [],_,[],_,_,k=>k
 | [],_,_::_,_,h,_=>by cases h
 | _::_,_,[],_,h,_=>by cases h
 | _::_,_,_::_,_,h,k=>⟨h.1,PVs.app h.2 k⟩
theorem PVs.get{w:World}{Q:Nat->Prop}:∀{ps:List (List Int)} {vs:List Value} {i:Nat},PVs w Q ps vs->i<ps.length->∃v,vs[i]? =some v/\PV w Q (ps.getD i []) v
 | [],_,_,_,hi=>by simp at hi
 | _::_,[],_,h,_=>by cases h
 | _::_,v::_,0,h,_=>⟨v,rfl,h.1⟩
 | _::_,_::_,i+1,h,hi=>by
  obtain⟨v,h1,h2⟩:=PVs.get h.2 (i:=i) (by simpa using hi)
  exact⟨v,by simpa using h1,by simpa using h2⟩
theorem PVs.one{w:World}{Q:Nat->Prop}:∀{ps:List (List Int)} {vs:List Value},PVs w Q ps vs->∀u∈vs,u.oneCell'=true
 | [],[],_,u,hu=>by cases hu
 | [],_::_,h,_,_=>by cases h
 | _::_,[],h,_,_=>by cases h
 | _::_,_::_,h,u,hu=>by
  rcases List.mem_cons.1 hu with rfl | hu
  ·obtain⟨b,off,c,rfl,_⟩:=h.1
   rfl
  ·exact PVs.one h.2 u hu
def RowAt (w:World) (ro:Option Addr) (vs:List Value):Prop:=(vs=[]/\ro=none)\/∃g off,ro=some ⟨g,off,none⟩/\g<w.heap.size/\∀(i:Nat) (v:Value),vs[i]? =some v->w.cell? ⟨g,off+i,none⟩=some v
variable {base:Nat} {e:TypeId}
theorem rowAt_own{v:Value}(h:w.ownsRow base e 1 v vs.length vs):∃ro c,v=.slice ro vs.length c/\RowAt w ro vs:=by
 rcases h.2 with⟨h1,h2⟩ | ⟨g,c,cur,hv,_⟩
 ·exact⟨none,0,by rw[h1,h2],Or.inl ⟨List.eq_nil_of_length_eq_zero h2,rfl⟩⟩
 ·subst hv
  refine⟨some ⟨g,0,none⟩,c,rfl,Or.inr ⟨g,0,rfl,(h.lt g rfl).2,fun i v hv=>?_⟩⟩
  have hi:=(List.getElem?_eq_some_iff.1 hv).1
  rw[Nat.zero_add,h.cellAt i (by omega)]
  exact hv
variable {xs:List Value} {P:Program}
theorem run_append_nil(w:World)(t ty e:TypeId)(i:TypeInfo)(ht:P.underlying t=some (.slice e))(hi:P.info? e=some i){size:Nat}{v:Value}{n:Nat}(hown:w.ownsRow base e size v n xs):
 (Builtin.append_ #[t,t] ty #[v,.slice none 0 0]).run P w=.ok v w:=by
 rcases hown.2 with⟨rfl,_⟩ | ⟨g,cap,cur,rfl,_,_,h1,h2,_⟩
 ·simp[Builtin.append_,run_underlying ht,sizeOf,typeInfo,hi,Builtin.lenOf,Builtin.firstCells]
 ·simp[Builtin.append_,run_underlying ht,sizeOf,typeInfo,hi,Builtin.lenOf,Builtin.firstCells,storeCells,loadCells,h1]
theorem q0u{ops:Array Oper}{o:Oper}{a:Act}{K:Act->World->Prop}{Q:Exit->Act->World->Prop}{E:Prop}(w:World)(hgd:o.guard=none)(s y:Operand)(t:TypeId)(ho:o.op=.call {callee:=.builtin .append,args:=#[s,y],argTypes:=#[t,t]})(base:Nat)(e:TypeId)(i:TypeInfo)(z:Value)(bytes:Nat)(ht:P.underlying t=some (.slice e))(hi:P.info? e=some i)(hz:i.zero=some z)(hsize:i.size=1)(hby:i.bytes=bytes)(hzs:z.cells.size=1)(v:Value)(n:Nat)(xs:List Value)(hs:a.eval s=v)(hown:w.ownsRow base e 1 v n xs)(ro:Option Addr)(m c:Nat)(news:List Value)(hx:a.eval y=.slice ro m c)(hl:news.length=m)(hc:ro=none->c=0)(hrow:RowAt w ro news)(h1:∀u∈news,u.oneCell'=true)(h63:n+m<=maxLen)(hbytes:(n+m)*bytes<=140737488355328)(hbase:base<=w.heap.size)(h:∀v' w',w'.ownsRow base e 1 v' (n+m) (xs++news)->w.grownBy w' v.ownBlock->(v'.ownBlock=v.ownBlock\/v'.ownBlock=some w.heap.size)->K (a.put o.dst v') w'):
  if Region.wanted o (yielded ops a.tmps)=true then Oper.wp P o a w K Q else E:=by
  have hw:Region.wanted o (yielded ops a.tmps)=true:=by simp[Region.wanted,hgd]
  rw[if_pos hw]
  rcases hrow with⟨rfl,rfl⟩ | ⟨g,off,rfl,hg,hr⟩
  ·have hm:m=0:=by simpa using hl.symm
   subst hm
   have hc0:=hc rfl
   subst hc0
   have hrun:=run_append_nil (P:=P) w t o.type e i ht hi hown
   unfold Oper.wp execOp
   simp only[ho,resolve,invoke,builtin,Sem.run_bind,Sem.run_pure,Result.andThen_ok,List.map_toArray,List.map_cons,List.map_nil,hs,hx,hrun]
   exact h v w (by simpa using hown) (World.grownBy.refl _ _) (Or.inl rfl)
  ·obtain⟨v',w',hrun,h2,h3,_,h5⟩:=run_append_own_at (P:=P) w base t o.type e i z 1 bytes ht hi hz hsize hby hzs (by omega) v n xs hown ⟨g,off,none⟩ m c news (by omega) (fun j u hu=>by rw[Addr.add_mid];exact hr j u hu) h1 h63 hbytes hbase
   unfold Oper.wp execOp
   simp only[ho,resolve,invoke,builtin,Sem.run_bind,Sem.run_pure,Result.andThen_ok,List.map_toArray,List.map_cons,List.map_nil,hs,hx,hrun]
   exact h v' w' h2 h3 h5
theorem infoL:(prog.info? 30).map (fun i=>(i.zero,i.size,i.bytes))=some (some (.slice none 0 0),1,24):=by kernel_rfl
theorem z1s{size n:Nat}{v:Value}(h:w.ownsRow base e size v n xs)(k:Ext w w'):w'.ownsRow base e size v n xs:=by
 have hlt:=h.lt
 obtain⟨e1,e2⟩:=h
 refine⟨e1,?_⟩
 rcases e2 with e3 | ⟨g,cap,cur,hv,hb,hgc,r⟩
 ·exact Or.inl e3
 ·exact Or.inr ⟨g,cap,cur,hv,hb,(Below.block k g (hlt g (by rw[hv];rfl)).2).trans hgc,r⟩
variable {B:Nat}
theorem z1r(hB:base<=B)(h:w.heap[B]? =some (.cells #[] 3)):w.ownsRow base 3 1 (.slice (some ⟨B,0,none⟩) 0 0) 0 []:=
 ⟨rfl,Or.inr ⟨B,0,#[],rfl,hB,h,Ql _,by decide,rfl,rfl⟩⟩
theorem q4b(w:World)(o:Obj):(w.alloc o).heap[w.heap.size]? =some o:=blk_alloc_new w o
def AllOk (nn:Nat) (ls:List Lk) (ao:Option Addr) (len cap:Nat) (tq:Int) (k:Nat):Prop:=
 ∀(p:List Int) (b off pc:Nat) (w:World),p.length+k=9->p.Nodup->(∀y∈p,0<=y/\y<(nn:Int))->p≠[]->b<w.heap.size->Q9 w b off p->p.length<=pc->Zg w ao ls->
  Calls prog 105 #[.agg #[.int .i64 nn,.slice ao len cap],.slice (some ⟨b,off,none⟩) p.length pc,.int .i64 tq] w fun e w'=>∃ro rcap vs,e=.returned (.slice ro vs.length rcap)/\Ext w w'/\RowAt w' ro vs/\(ro=none->rcap=0)/\PVs w' (fun c=>c=b\/w.heap.size<=c) (all (cost ls) nn tq k p) vs
theorem lst_last{b off:Nat}(h:Q9 w b off p)(hp:p≠[]):w.cell? ⟨b,off+(p.length - 1),none⟩=some (.int .i64 (lst p)):=by
 have h0:0<p.length:=List.length_pos_iff.2 hp
 rw[h (p.length - 1) (by omega),z2c hp]
variable {g:Nat}
theorem row_one{W:World}(h:W.heap.size=g)(v:Value)(T:TypeId):RowAt (W.alloc (.cells #[v] T)) (some ⟨g,0,none⟩) [v]:=by
 subst h
 refine Or.inr ⟨_,0,rfl,by simp,fun i u hu=>?_⟩
 match i,hu with
 | 0,hu=>simp at hu;subst hu;simp
def allF (C:Int->Int->Int) (n:Nat) (tq:Int) (k:Nat) (p:List Int) (s:Nat):List (List Int):=if ¬(s:Int)∈p/\0<C (lst p) (s:Int) then all C n tq k (p++[(s:Int)]) else []
variable {tq:Int} {k:Nat}
theorem allF_len{C:Int->Int->Int}{n:Nat}(hn:n<=8)(hk:k<=8)(s:Nat)(hs:s<=n):((List.range s).flatMap (allF C n tq k p)).length<=134217728:=by
 have h1:=z2i (allF C n tq k p) (8 ^ k) (List.range s) (fun x _=>by
  unfold allF
  split
  ·exact z8h hn k _
  ·simp)
 have h2:8 ^ k<=8 ^ 8:=Nat.pow_le_pow_right (by omega) hk
 have h3:(List.range s).length*8 ^ k<=8*8 ^ 8:=Nat.mul_le_mul (by simp;omega) h2
 have h4:8*8 ^ 8=134217728:=by decide
 omega
theorem Ext.q8m{a b b' c:World}{size n:Nat}{v:Value}(h:Ext a b)(ho:b'.ownsRow a.heap.size e size v n xs)(hg:b.grownBy c v.ownBlock):Ext a c:=Below.grown h hg h.size (fun k hk=>(ho.lt k hk).1)
theorem one1'(x:Int):∀u∈[Value.int .i64 x],u.oneCell'=true:=by intro u hu;simp at hu;subst hu;rfl
variable {c:Nat}
theorem own_zero{size n:Nat}{ro:Option Addr}(h:w.ownsRow base e size (.slice ro n c) n xs):ro=none->c=0:=by
 intro h0
 subst h0
 rcases h.2 with⟨h1,_⟩ | ⟨g,c,cur,hv,_⟩
 ·cases h1;rfl
 ·cases hv
variable {s:Int}
theorem own_ints'(h:w.ownsRow base 3 1 (.slice (some ⟨g,0,none⟩) (p.length+1) c) (p.length+1) (p.map (Value.int .i64)++[.int .i64 s])):Q9 w g 0 (p++[s]):=by
 intro i hi
 have hi':i<p.length+1:=by simpa using hi
 have e:p.map (Value.int .i64)++[.int .i64 s]=(p++[s]).map (Value.int .i64):=by simp
 rw[Nat.zero_add,h.cellAt i (by omega),e,List.getElem?_map,List.getElem?_eq_getElem hi]
 simp[List.getElem?_eq_getElem hi]
theorem own_cap'(h:w.ownsRow base 3 1 (.slice (some ⟨g,0,none⟩) (p.length+1) c) (p.length+1) (p.map (Value.int .i64)++[.int .i64 s])):(p++[s]).length<=c:=by
 rcases h.2 with⟨h0,_⟩ | ⟨g',cap',cur,hv,_,_,h1,h2,_⟩
 ·cases h0
 ·cases hv;simpa using h1
theorem all_rel{wq w3 w4 w5:World}{o:Obj}{ov v5:Value}{L:List Value}{ps qs:List (List Int)}(hownq:wq.ownsRow B 30 1 ov L.length L)(hpvq:PVs wq (fun c=>B<=c/\ov.ownBlock≠some c) ps L)(hbelq:Below B (w.alloc o) wq)(hszq:B<=wq.heap.size)(mk4:Ext wq w4)(hown5:w5.ownsRow B 30 1 v5 (L.length+vs.length) (L++vs))(hgr5:w4.grownBy w5 ov.ownBlock)(hat5:v5.ownBlock=ov.ownBlock\/v5.ownBlock=some w4.heap.size)(hg:wq.heap.size<=g)(h3:wq.heap.size<=w3.heap.size)(hpv4:PVs w4 (fun c=>c=g\/w3.heap.size<=c) qs vs):
  w5.ownsRow B 30 1 v5 (L++vs).length (L++vs)/\PVs w5 (fun c=>B<=c/\v5.ownBlock≠some c) (ps++qs) (L++vs)/\Below B (w.alloc o) w5:=by
  have hs4:=mk4.size
  have hs5:=hgr5.size
  have hov:∀c,ov.ownBlock=some c->c<wq.heap.size:=fun c hc=>(hownq.lt c hc).2
  have hv5:∀c,ov.ownBlock≠some c->c<w4.heap.size->v5.ownBlock≠some c:=fun c hc hl e=>by
   rcases hat5 with h | h
   ·exact hc (h.symm.trans e)
   ·rw[h] at e
    injection e with e
    omega
  refine⟨by rw[lap];exact hown5,?_,?_⟩
  ·refine PVs.app (hpvq.mono (fun c hc hl=>⟨⟨hc.1,hv5 c hc.2 (by omega)⟩,by omega,?_⟩)) (hpv4.mono (fun c hc hl=>?_))
   ·exact(hgr5.block c (by omega) (fun e=>hc.2 e.symm)).trans (Below.block mk4 c hl)
   ·have hcq:wq.heap.size<=c:=by rcases hc with rfl | hc <;> omega
    have hne:ov.ownBlock≠some c:=fun e=>by have:=hov c e;omega
    exact⟨⟨by omega,hv5 c hne hl⟩,by omega,hgr5.block c hl (fun e=>hne e.symm)⟩
  ·exact Below.grown (q0n hbelq mk4 hszq) hgr5 (by omega) (fun j hj=>(hownq.lt j hj).1)
theorem all_step{nn:Nat}{ls:List Lk}{ao:Option Addr}{len cap:Nat}(hlen:ls.length=len)(hx:len<=9223372036854775807)(hr:q1z (nn:Int) ls)(IH:AllOk nn ls ao len cap tq k):AllOk nn ls ao len cap tq (k+1):=by
 intro p b off pc w hpk hnd hrg hne hb Q2 hpc hl
 have hbd:=hr.bounds
 have hp0:0<p.length:=List.length_pos_iff.2 hne
 have clq:=lst_last Q2 hne
 have i0:0<p.length:=hp0
 have i8:p.length<=8:=by omega
 by_cases ht:lst p=tq
 ·have HA:Hid (all (cost ls) nn tq (k+1) p=[p]):=by unfold all;rw[if_pos ht];exact Qa rfl
  have ht':(lst p == tq)=true:=by simpa using ht
  clear ht
  go_enter func105,ntmps105
  go_wp2
  go_ret
  refine⟨some ⟨w.heap.size+1,0,none⟩,1,[.slice (some ⟨b,off,none⟩) p.length pc],rfl,((Ext.refl w).alloc _).alloc _,row_one (by simp) _ _,fun h=>(by cases h),?_⟩
  rw[HA.out]
  exact⟨⟨b,off,pc,rfl,Or.inl rfl,by simp;omega,fun i hi=>((((Ext.refl w).alloc _).alloc _).cells.1 _ _ hb).trans (Q2 i hi),hpc⟩,trivial⟩
 ·have HA:Hid (all (cost ls) nn tq (k+1) p=(List.range nn).flatMap (allF (cost ls) nn tq k p)):=by unfold all;rw[if_neg ht];exact Qa rfl
  have ht':(lst p == tq)=false:=by simpa using ht
  have hlm:0<=lst p/\lst p<(nn:Int):=hrg _ (z7k hne)
  obtain⟨z,hz⟩:=Qy (lst p)
  rw[<-hz] at clq ht' hlm
  have HZ:=Qa hz
  clear ht hz
  go_enter func105,ntmps105
  go_wp2
  go_loopw [8,9] (fun v iv wr=>∃(s:Nat) (ov:Value) (L:List Value),ov=v/\s<=nn/\iv=.int .i64 s/\wr.ownsRow (w.heap.size+1) 30 1 ov L.length L/\PVs wr (fun c=>w.heap.size+1<=c/\ov.ownBlock≠some c) ((List.range s).flatMap (allF (cost ls) nn tq k p)) L/\Below (w.heap.size+1) (w.alloc (.cells #[.int .i64 nn,.slice ao len cap] 24)) wr) (fun _ iv _=>nn - (intOf iv).toNat)
  case atStart=>exact⟨0,_,[],rfl,Zu _,rfl,World.ownsRow_nil _ _ _ _,trivial,Below.refl _ _⟩
  case round=>
   obtain⟨s,ov,L,hov,hs,rfl,hown,hpv,hbel⟩:=hrel
   subst hov
   obtain⟨wo,rfl⟩:∃wo:World,wo=wr:=⟨_,rfl⟩
   have hE:Ext w wo:=Below.trans ((Ext.refl w).alloc _) (hbel.mono (by omega))
   have hsz:w.heap.size+1<=wo.heap.size:=by have:=hbel.size;simp at this;omega
   have hsz':w.heap.size<wo.heap.size:=by omega
   have k0:w.heap.size<w.heap.size+1:=by omega
   have c0:wo.cell? ⟨w.heap.size,0,none⟩=some (.int .i64 nn):=(hbel.cell (p:=⟨w.heap.size,0,none⟩) k0).trans (by simp)
   have c1:wo.cell? ⟨w.heap.size,1,none⟩=some (.slice ao len cap):=(hbel.cell (p:=⟨w.heap.size,1,none⟩) k0).trans (by simp)
   have hpl:Qj wo (some ⟨b,off,none⟩) p:=Or.inr ⟨b,off,rfl,by omega,fun i hi=>(hE.cells.1 _ _ hb).trans (Q2 i hi)⟩
   have HFl:Hid ((List.range (s+1)).flatMap (allF (cost ls) nn tq k p)=(List.range s).flatMap (allF (cost ls) nn tq k p)++allF (cost ls) nn tq k p s):=by
    have:(List.range (s+1)).flatMap (allF (cost ls) nn tq k p)=(List.range s).flatMap (allF (cost ls) nn tq k p)++allF (cost ls) nn tq k p s:=by rw[List.range_succ,List.flatMap_append];simp
    exact Qa this
   have HB:Hid (∀W:World,Ext wo W->cl W w.heap.size 0 (.int .i64 nn)/\cl W w.heap.size 1 (.slice ao len cap)):=fun W h=>⟨(h.cells.1 _ _ hsz').trans c0,(h.cells.1 _ _ hsz').trans c1⟩
   by_cases hlt:s<nn
   ·cases hin:decide ((s:Int)∈p)
    ·have hin':¬(s:Int)∈p:=of_decide_eq_false hin
     by_cases hc:0<cost ls z (s:Int)
     ·have HF:Hid (allF (cost ls) nn tq k p s=all (cost ls) nn tq k (p++[(s:Int)])):=by unfold allF;rw[<-HZ.out,if_pos ⟨hin',hc⟩];exact Qa rfl
      have HND:Hid ((p++[(s:Int)]).Nodup):=by
       rw[List.nodup_append]
       refine⟨hnd,by simp,fun a ha b hb=>?_⟩
       simp at hb
       subst hb
       intro e
       subst e
       exact hin' ha
      have HRG:Hid (∀y∈p++[(s:Int)],0<=y/\y<(nn:Int)):=fun y hy=>by
       rcases List.mem_append.1 hy with hy | hy
       ·exact hrg y hy
       ·simp at hy;subst hy;omega
      have HLn:Hid (∀vs:List Value,vs.length=(all (cost ls) nn tq k (p++[(s:Int)])).length->L.length+vs.length<=134217728):=fun vs hvs=>by
       have h1:=allF_len (C:=cost ls) (n:=nn) (tq:=tq) (k:=k) (p:=p) (by omega) (by omega) (s+1) (by omega)
       rw[HFl.out,lap, <-hpv.len,HF.out] at h1
       omega
      have HI:Hid (∀(g gc:Nat) (W:World),g<W.heap.size->Q9 W g 0 (p++[(s:Int)])->(p++[(s:Int)]).length<=gc->Zg W ao ls->
       Calls prog 105 #[.agg #[.int .i64 nn,.slice ao len cap],.slice (some ⟨g,0,none⟩) (p.length+1) gc,.int .i64 tq] W fun e w'=>∃ro rcap vs,e=.returned (.slice ro vs.length rcap)/\Ext W w'/\RowAt w' ro vs/\(ro=none->rcap=0)/\PVs w' (fun c=>c=g\/W.heap.size<=c) (all (cost ls) nn tq k (p++[(s:Int)])) vs):=fun g gc W h1 h2 h3 h4=>by
       have h5:=IH (p++[(s:Int)]) g 0 gc W (by simp;omega) HND.out HRG.out (by simp) h1 h2 h3 h4
       have e5:(p++[(s:Int)]).length=p.length+1:=by simp
       rw[e5] at h5
       exact h5
      obtain⟨j0,hj0,hy0,hy1,hy2⟩:=info_parts q8k
      obtain⟨l0,hl0,hm0,hm1,hm2⟩:=info_parts infoL
      clear hin'
      go_wp2_with fail
      refine(q5m (some ⟨b,off,none⟩) pc p.length p (s:Int) _ rfl hpl (by omega)).mono ?_
      rintro e w2 ⟨he,hw2⟩
      obtain rfl:=hw2.symm
      rw[hin] at he
      subst he
      go_wp2_with fail
      refine(q2t nn z (s:Int) ao len cap ls _ hlen (hl.ext hE) hx).mono ?_
      rintro e wq ⟨rfl,Eq⟩
      have hEq:=hE.trans Eq
      have hownq:=z1s hown Eq
      have hpvq:=hpv.ext Eq
      have hbelq:Below (w.heap.size+1) (w.alloc (.cells #[.int .i64 nn,.slice ao len cap] 24)) wq:=q0n hbel Eq hsz
      have hszq:w.heap.size+1<=wq.heap.size:=by have:=Eq.size;omega
      have hszq':w.heap.size<wq.heap.size:=by omega
      have hbq:b<wq.heap.size:=by have:=hEq.size;omega
      clear HB
      have HB:Hid (∀W:World,Ext wq W->cl W w.heap.size 0 (.int .i64 nn)/\cl W w.heap.size 1 (.slice ao len cap)):=fun W h=>⟨((Eq.trans h).cells.1 _ _ hsz').trans c0,((Eq.trans h).cells.1 _ _ hsz').trans c1⟩
      have HY:Hid (∀w4 w5:World,Ext wq w4->w4.grownBy w5 ov.ownBlock->w5.cell? ⟨w.heap.size,0,none⟩=some (.int .i64 nn)/\w5.cell? ⟨w.heap.size,1,none⟩=some (.slice ao len cap)):=fun w4 w5 h hg=>by
       have hne:some w.heap.size≠ov.ownBlock:=fun e=>by have:=(hownq.lt w.heap.size e.symm).1;omega
       have hlt4:w.heap.size<w4.heap.size:=by have:=h.size;omega
       obtain⟨h1,h2⟩:=HB.out w4 h
       exact⟨(hg.cell_far ⟨w.heap.size,0,none⟩ hlt4 hne).trans h1,(hg.cell_far ⟨w.heap.size,1,none⟩ hlt4 hne).trans h2⟩
      obtain⟨c0q,c1q⟩:=HB.out wq (Ext.refl _)
      clear c0 c1 hown hpv hbel hsz hsz' hpl hin
      have hnews:∀W,Ext wq W->RowAt W (some ⟨b,off,none⟩) (p.map (Value.int .i64)):=fun W hW=>Or.inr ⟨b,off,rfl,by have:=hW.size;omega,fun i u hu=>by
       have hi:i<p.length:=by have:=(List.getElem?_eq_some_iff.1 hu).1;simpa using this
       rw[List.getElem?_map,List.getElem?_eq_getElem hi] at hu
       simp at hu
       rw[(hEq.trans hW).cells.1 _ _ hb,Q2 i hi, <-hu,getD_eq hi]⟩
      have hone:∀u∈p.map (Value.int .i64),u.oneCell'=true:=fun u hu=>by
       obtain⟨x,_,rfl⟩:=List.mem_map.1 hu
       rfl
      have HA1:=Qa (And.intro (show((wq.alloc (Obj.cells #[] 3)).drew).ownsRow wq.heap.size 3 1 (.slice (some ⟨wq.heap.size,0,none⟩) 0 0) 0 [] from z1r (Ql _) (q4b wq _)) (And.intro (hnews ((wq.alloc (Obj.cells #[] 3)).drew) ((Ext.refl wq).alloc _).drew) (And.intro (show wq.heap.size<=((wq.alloc (Obj.cells #[] 3)).drew).heap.size by simp) (fun w2 (h:((wq.alloc (Obj.cells #[] 3)).drew).grownBy w2 (some wq.heap.size))=>(show Ext wq w2 from Below.grown ((Below.refl _ _).alloc (Ql _) _).drew h (by simp) (fun j hj=>by cases hj;exact Ql _))))))
      have HB1:=Qa (And.intro (show(((wq.alloc (Obj.cells #[] 3)).alloc (Obj.cells #[.int .i64 s] 3)).drew).ownsRow wq.heap.size 3 1 (.slice (some ⟨wq.heap.size,0,none⟩) 0 0) 0 [] from z1r (Ql _) ((bal _ _ _ (by simp)).trans (q4b wq _))) (And.intro (hnews (((wq.alloc (Obj.cells #[] 3)).alloc (Obj.cells #[.int .i64 s] 3)).drew) (((Ext.refl wq).alloc _).alloc _).drew) (And.intro (show wq.heap.size<=(((wq.alloc (Obj.cells #[] 3)).alloc (Obj.cells #[.int .i64 s] 3)).drew).heap.size by simp;omega) (fun w2 (h:(((wq.alloc (Obj.cells #[] 3)).alloc (Obj.cells #[.int .i64 s] 3)).drew).grownBy w2 (some wq.heap.size))=>(show Ext wq w2 from Below.grown (((Below.refl _ _).alloc (Ql _) _).alloc (by simp) _).drew h (by simp;omega) (fun j hj=>by cases hj;exact Ql _))))))
      have HC1:=Qa (And.intro (show(((wq.alloc (Obj.cells #[.int .i64 s] 3)).alloc (Obj.cells #[] 3)).drew).ownsRow wq.heap.size 3 1 (.slice (some ⟨wq.heap.size+1,0,none⟩) 0 0) 0 [] from z1r (by omega) (by have:=q4b (wq.alloc (Obj.cells #[.int .i64 s] 3)) (Obj.cells #[] 3);rwa [World.size_alloc] at this)) (And.intro (hnews (((wq.alloc (Obj.cells #[.int .i64 s] 3)).alloc (Obj.cells #[] 3)).drew) (((Ext.refl wq).alloc _).alloc _).drew) (And.intro (show wq.heap.size<=(((wq.alloc (Obj.cells #[.int .i64 s] 3)).alloc (Obj.cells #[] 3)).drew).heap.size by simp;omega) (fun w2 (h:(((wq.alloc (Obj.cells #[.int .i64 s] 3)).alloc (Obj.cells #[] 3)).drew).grownBy w2 (some (wq.heap.size+1)))=>(show Ext wq w2 from Below.grown (((Below.refl _ _).alloc (Ql _) _).alloc (by simp) _).drew h (by simp;omega) (fun j hj=>by cases hj;omega))))))
      have HNB:Hid (∀w2,(((wq.alloc (Obj.cells #[] 3)).alloc (Obj.cells #[.int .i64 s] 3)).drew).grownBy w2 (some wq.heap.size)->w2.heap[wq.heap.size+1]? =some (.cells #[.int .i64 s] 3)):=fun w2 h=>by
       rw[h.block (wq.heap.size+1) (by simp) (by simp)]
       have:=q4b (wq.alloc (Obj.cells #[] 3)) (Obj.cells #[.int .i64 s] 3)
       rwa [World.size_alloc] at this
      have HNC:Hid (∀w2,(((wq.alloc (Obj.cells #[.int .i64 s] 3)).alloc (Obj.cells #[] 3)).drew).grownBy w2 (some (wq.heap.size+1))->w2.heap[wq.heap.size]? =some (.cells #[.int .i64 s] 3)):=fun w2 h=>by
       rw[h.block wq.heap.size (by simp;omega) (by simp)]
       exact(bal _ _ _ (by simp)).trans (q4b wq _)
      go_wp2
      go_region_held3 (fun W=>cl W w.heap.size 0 (.int .i64 nn)/\cl W w.heap.size 1 (.slice ao len cap))
       (first | exact HB.out _ (Ext.refl wq).drew | exact HB.out _ ((Ext.refl wq).alloc _).drew | exact HB.out _ (((Ext.refl wq).alloc _).alloc _).drew | exact HB.out _ hX2 | exact HB.out _ (hX2.alloc _) | exact HB.out _ mk3 | exact HB.out _ mk4 | exact HY.out _ _ mk4 hgr5)
       (first
       | (have _t:=mk4
          refine q0u _ ?_ (.tmp 38) (.tmp 47) 35 ?_ (w.heap.size+1) 30 l0 (.slice none 0 0) 24 underlying35 hl0 hm0 hm1 hm2 rfl ov L.length L ?_ ?_ ro vs.length rcap vs ?_ rfl hrc ?_ hpv4.one ?_ ?_ ?_ ?_
          ·rfl
          ·rfl
          ·rfl
          ·with_reducible exact z1s hownq mk4
          ·rfl
          ·with_reducible exact hrow
          ·have:=HLn.out vs hpv4.len;unfold maxLen;omega
          ·have:=HLn.out vs hpv4.len;omega
          ·have:=mk4.size;omega
          intro v5 w5 hown5 hgr5 hat5)
       | (have _t:=mk3
          go_at_call 105
          refine(HI.out g gc _ hlt3 (own_ints' hown3) (own_cap' hown3) (hl.ext (hEq.trans mk3))).mono ?_
          rintro e w4 ⟨ro,rcap,vs,rfl,hE4,hrow,hrc,hpv4⟩
          have mk4:=mk3.trans hE4)
       | (have _t:=hX2
          refine step_append_lies _ ?_ (.tmp 42) (.tmp 44) 30 ?_ wq.heap.size 3 j0 (.int .i64 0) 1 8 underlying30 hj0 hy0 hy1 hy2 rfl (by decide) (.slice (some ⟨g1,0,none⟩) p.length gc1) p.length (p.map (Value.int .i64)) ?_ ?_ ⟨w2.heap.size,0,none⟩ 1 1 [.int .i64 s] ?_ ?_ ?_ (one1' _) ?_ ?_ ?_ ?_ _ rfl ?_
          ·rfl
          ·rfl
          ·rfl
          ·with_reducible exact hown2.alloc _
          ·rfl
          ·rfl
          ·exact World.news_of_block (cs:=#[.int .i64 s]) (q4b w2 _)
          ·omega
          ·unfold maxLen;omega
          ·omega
          ·have:=hX2.size;simp;omega
          intro g gc w3 hown3 hgr3 hat3 hlt3
          have hX3:Ext wq w3:=Ext.q8m (hX2.alloc _) hown2 hgr3
          have mk3:=hX3)
       | (have _t:=hX2
          refine step_append_lies _ ?_ (.tmp 42) (.tmp 44) 30 ?_ wq.heap.size 3 j0 (.int .i64 0) 1 8 underlying30 hj0 hy0 hy1 hy2 rfl (by decide) (.slice (some ⟨g1,0,none⟩) p.length gc1) p.length (p.map (Value.int .i64)) ?_ ?_ ⟨wq.heap.size+1,0,none⟩ 1 1 [.int .i64 s] ?_ ?_ ?_ (one1' _) ?_ ?_ ?_ ?_ _ rfl ?_
          ·rfl
          ·rfl
          ·rfl
          ·with_reducible exact hown2
          ·rfl
          ·rfl
          ·exact World.news_of_block (cs:=#[.int .i64 s]) (HNB.out w2 hgr2)
          ·omega
          ·unfold maxLen;omega
          ·omega
          ·have:=hX2.size;omega
          intro g gc w3 hown3 hgr3 hat3 hlt3
          have hX3:Ext wq w3:=Ext.q8m hX2 hown2 hgr3
          have mk3:=hX3)
       | (have _t:=hX2
          refine step_append_lies _ ?_ (.tmp 42) (.tmp 44) 30 ?_ wq.heap.size 3 j0 (.int .i64 0) 1 8 underlying30 hj0 hy0 hy1 hy2 rfl (by decide) (.slice (some ⟨g1,0,none⟩) p.length gc1) p.length (p.map (Value.int .i64)) ?_ ?_ ⟨wq.heap.size,0,none⟩ 1 1 [.int .i64 s] ?_ ?_ ?_ (one1' _) ?_ ?_ ?_ ?_ _ rfl ?_
          ·rfl
          ·rfl
          ·rfl
          ·with_reducible exact hown2
          ·rfl
          ·rfl
          ·exact World.news_of_block (cs:=#[.int .i64 s]) (HNC.out w2 hgr2)
          ·omega
          ·unfold maxLen;omega
          ·omega
          ·have:=hX2.size;omega
          intro g gc w3 hown3 hgr3 hat3 hlt3
          have hX3:Ext wq w3:=Ext.q8m hX2 hown2 hgr3
          have mk3:=hX3)
       | (refine q0u _ ?_ (.tmp 40) (.tmp 41) 30 ?_ wq.heap.size 3 j0 (.int .i64 0) 8 underlying30 hj0 hy0 hy1 hy2 rfl (.slice (some ⟨wq.heap.size,0,none⟩) 0 0) 0 [] ?_ ?_ (some ⟨b,off,none⟩) p.length pc (p.map (Value.int .i64)) ?_ ?_ ?_ ?_ hone ?_ ?_ ?_ ?_
          ·rfl
          ·rfl
          ·rfl
          ·with_reducible exact HA1.out.1
          ·rfl
          ·simp
          ·intro h;cases h
          ·with_reducible exact HA1.out.2.1
          ·unfold maxLen;omega
          ·omega
          ·with_reducible exact HA1.out.2.2.1
          intro v2 w2 hown2 hgr2 _
          have hX2:=HA1.out.2.2.2 w2 hgr2
          obtain⟨g1,gc1,hv2,hg1a,hg1b⟩:=hown2.form (by omega)
          rw[Nat.zero_add] at hv2
          subst hv2
          rw[Nat.zero_add,List.nil_append] at hown2)
       | (refine q0u _ ?_ (.tmp 40) (.tmp 41) 30 ?_ wq.heap.size 3 j0 (.int .i64 0) 8 underlying30 hj0 hy0 hy1 hy2 rfl (.slice (some ⟨wq.heap.size,0,none⟩) 0 0) 0 [] ?_ ?_ (some ⟨b,off,none⟩) p.length pc (p.map (Value.int .i64)) ?_ ?_ ?_ ?_ hone ?_ ?_ ?_ ?_
          ·rfl
          ·rfl
          ·rfl
          ·with_reducible exact HB1.out.1
          ·rfl
          ·simp
          ·intro h;cases h
          ·with_reducible exact HB1.out.2.1
          ·unfold maxLen;omega
          ·omega
          ·with_reducible exact HB1.out.2.2.1
          intro v2 w2 hown2 hgr2 _
          have hX2:=HB1.out.2.2.2 w2 hgr2
          obtain⟨g1,gc1,hv2,hg1a,hg1b⟩:=hown2.form (by omega)
          rw[Nat.zero_add] at hv2
          subst hv2
          rw[Nat.zero_add,List.nil_append] at hown2)
       | (refine q0u _ ?_ (.tmp 40) (.tmp 41) 30 ?_ wq.heap.size 3 j0 (.int .i64 0) 8 underlying30 hj0 hy0 hy1 hy2 rfl (.slice (some ⟨wq.heap.size+1,0,none⟩) 0 0) 0 [] ?_ ?_ (some ⟨b,off,none⟩) p.length pc (p.map (Value.int .i64)) ?_ ?_ ?_ ?_ hone ?_ ?_ ?_ ?_
          ·rfl
          ·rfl
          ·rfl
          ·with_reducible exact HC1.out.1
          ·rfl
          ·simp
          ·intro h;cases h
          ·with_reducible exact HC1.out.2.1
          ·unfold maxLen;omega
          ·omega
          ·with_reducible exact HC1.out.2.2.1
          intro v2 w2 hown2 hgr2 _
          have hX2:=HC1.out.2.2.2 w2 hgr2
          obtain⟨g1,gc1,hv2,hg1a,hg1b⟩:=hown2.form (by omega)
          rw[Nat.zero_add] at hv2
          subst hv2
          rw[Nat.zero_add,List.nil_append] at hown2)
       | fail)
      all_goals
       go_wp2
       go_roundw
       case rel=>
        obtain⟨r1,r2,r3⟩:=all_rel hownq hpvq hbelq hszq mk4 hown5 hgr5 hat5 (hown3.lt g rfl).1 mk3.size hpv4
        exact⟨s+1,v5,L++vs,rfl,by omega,by go_num,r1,by rw[HFl.out,HF.out];exact r2,r3⟩
       case measure=>simp[intOf];omega
     ·have HF:Hid (allF (cost ls) nn tq k p s=[]):=by unfold allF;rw[<-HZ.out,if_neg (fun h=>hc h.2)];exact Qa rfl
      clear hin'
      go_wp2_with fail
      refine(q5m (some ⟨b,off,none⟩) pc p.length p (s:Int) _ rfl hpl (by omega)).mono ?_
      rintro e w2 ⟨he,hw2⟩
      obtain rfl:=hw2.symm
      rw[hin] at he
      subst he
      go_wp2_with fail
      refine(q2t nn z (s:Int) ao len cap ls _ hlen (hl.ext hE) hx).mono ?_
      rintro e wq ⟨rfl,Eq⟩
      go_wp2
      go_roundw
      case rel=>exact⟨s+1,ov,L,rfl,by omega,by go_num,z1s hown Eq,by rw[HFl.out,HF.out,List.append_nil];exact hpv.ext Eq,q0n hbel Eq hsz⟩
      case measure=>simp[intOf];omega
    ·have HF:Hid (allF (cost ls) nn tq k p s=[]):=by unfold allF;rw[if_neg (fun h=>h.1 (of_decide_eq_true hin))];exact Qa rfl
     go_wp2_with fail
     refine(q5m (some ⟨b,off,none⟩) pc p.length p (s:Int) _ rfl hpl (by omega)).mono ?_
     rintro e w2 ⟨he,hw2⟩
     obtain rfl:=hw2.symm
     rw[hin] at he
     subst he
     go_wp2
     go_roundw
     case rel=>exact⟨s+1,ov,L,rfl,by omega,by go_num,hown,by rw[HFl.out,HF.out,List.append_nil];exact hpv,hbel⟩
     case measure=>simp[intOf];omega
   ·obtain rfl:s=nn:=by omega
    obtain⟨ro,rcap,rfl,hrow⟩:=rowAt_own hown
    have hrc:ro=none->rcap=0:=own_zero hown
    go_wp2
    go_ret
    refine⟨ro,rcap,L,rfl,hE,hrow,hrc,?_⟩
    rw[HA.out]
    exact hpv.mono (fun c hc hl=>⟨Or.inr (by omega),hl,rfl⟩)
end
end Go.Proofs.YthkpbefnkmmaiaaGreat
