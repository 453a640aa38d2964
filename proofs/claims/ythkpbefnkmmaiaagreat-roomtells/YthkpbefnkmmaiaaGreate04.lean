import Derived.Test.YthkpbefnkmmaiaaGreate02
import Derived.Deep.MidRow
import Derived.Laws.CopyOwn
set_option maxRecDepth 100000
set_option maxHeartbeats 2000000
namespace Stp
def pc (C:Int->Int->Int):List Int->Int
 | []=>0
 | [_]=>0
 | a::b::r=>C a b+pc C (b::r)
def chain (C:Int->Int->Int):List Int->Prop
 | []=>True
 | [_]=>True
 | a::b::r=>0<C a b/\chain C (b::r)
def mtv (via:List Int) (m:Nat) (s:Int):Nat:=if via[m]? =some s then m+1 else m
def q5j (via:List Int) (m:Nat) (q:List Int):Nat:=q.foldl (mtv via) m
def Q5:List Int->List Int->Prop
 | a::p,b::q=>a<b\/(a=b/\Q5 p q)
 | _,_=>False
def ext (C:Int->Int->Int) (to:Int):Nat->List Int->Int->List (List Int)
 | 0,_,_=>[]
 | k+1,cl,at'=>if at'=to then [[at']] else
  (List.range 8).flatMap fun(s:Nat)=>if 0<C at' (s:Int)/\¬(s:Int)∈at'::cl then(ext C to k (at'::cl) (s:Int)).map (at'::·) else []
def pick (b:Option (List Int×Int)) (x:List Int×Int):Option (List Int×Int):=if b.any (fun y=>decide (y.2<=x.2)) then b else some x
def ent (C:Int->Int->Int) (to:Int) (via:List Int):Nat->List Int->List Int->Int->Int->Nat->Option (List Int×Int)->Option (List Int×Int)
 | 0,_,_,_,_,_,b=>b
 | k+1,cl,way,at',c,m,b=>if b.any (fun y=>decide (y.2<=c)) then b else
  if at'=to then(if mtv via m at'=via.length then some (way++[at'],c) else b) else
  (List.range 8).foldl (fun b (s:Nat)=>if 0<C at' (s:Int)/\¬(s:Int)∈at'::cl then ent C to via k (at'::cl) (way++[at']) (s:Int) (c+C at' (s:Int)) (mtv via m at') b else b) b
def cand (C:Int->Int->Int) (via way:List Int) (c:Int) (m:Nat) (q:List Int):List (List Int×Int):=if q5j via m q=via.length then [(way++q,c+pc C q)] else []
theorem z4i{C:Int->Int->Int}(hC:∀a b,0<=C a b):∀q,0<=pc C q
 | []=>by simp[pc]
 | [_]=>by simp[pc]
 | a::b::r=>by
  have h1:=hC a b
  have h2:=z4i hC (b::r)
  simp only[pc];omega
variable {C:Int->Int->Int} {to:Int}
theorem q5r:∀{k:Nat} {cl:List Int} {a:Int} {q:List Int},q∈ext C to k cl a->∃r,q=a::r
 | 0,_,_,_,h=>by cases h
 | k+1,cl,a,q,h=>by
  unfold ext at h
  split at h
  ·simp at h;exact⟨[],h⟩
  ·simp only[List.mem_flatMap,List.mem_range] at h
   obtain⟨s,_,h⟩:=h
   split at h
   ·simp only[List.mem_map] at h
    obtain⟨r,_,rfl⟩:=h
    exact⟨r,rfl⟩
   ·cases h
theorem pick_any{b:Option (List Int×Int)}{c:Int}(h:b.any (fun y=>decide (y.2<=c))=true):∀{L:List (List Int×Int)},(∀x∈L,c<=x.2)->L.foldl pick b=b
 | [],_=>rfl
 | x::L,hL=>by
  have h1:pick b x=b:=by
   unfold pick
   cases b with
   | none=>simp at h
   | some y=>
    simp only[Option.any_some,decide_eq_true_eq] at h
    have:=hL x (by simp)
    rw[if_pos]
    simp only[Option.any_some,decide_eq_true_eq]
    omega
  simp only[List.foldl_cons,h1]
  exact pick_any h (fun y hy=>hL y (by simp[hy]))
theorem z0e{α β γ:Type}(f:β->γ->β)(g:α->List γ):∀(l:List α) (b:β),(l.flatMap g).foldl f b=l.foldl (fun b a=>(g a).foldl f b) b
 | [],_=>rfl
 | a::l,b=>by simp only[List.flatMap_cons,List.foldl_append,List.foldl_cons];exact z0e f g l _
theorem foldl_congr{α β:Type}{f g:β->α->β}:∀(l:List α) (b:β),(∀b a,a∈l->f b a=g b a)->l.foldl f b=l.foldl g b
 | [],_,_=>rfl
 | a::l,b,h=>by
  simp only[List.foldl_cons,h b a (by simp)]
  exact foldl_congr l _ (fun b x hx=>h b x (by simp[hx]))
theorem q6n{α β:Type}{f g:α->List β}:∀(l:List α),(∀a,a∈l->f a=g a)->l.flatMap f=l.flatMap g
 | [],_=>rfl
 | a::l,h=>by
  simp only[List.flatMap_cons,h a (by simp)]
  rw[q6n l (fun x hx=>h x (by simp[hx]))]
variable {via:List Int} {c:Int}
theorem cand_step{way:List Int}{m:Nat}{a s:Int}{r:List Int}:cand C via way c m (a::s::r)=cand C via (way++[a]) (c+C a s) (mtv via m a) (s::r):=by
 unfold cand
 have e1:q5j via m (a::s::r)=q5j via (mtv via m a) (s::r):=rfl
 have e2:pc C (a::s::r)=C a s+pc C (s::r):=rfl
 rw[e1,e2,Int.add_assoc,List.append_assoc]
 rfl
theorem ent_eq{C:Int->Int->Int}(hC:∀a b,0<=C a b)(to:Int)(via:List Int):∀(k:Nat) (cl way:List Int) (a c:Int) (m:Nat) (b:Option (List Int×Int)),
 ent C to via k cl way a c m b=((ext C to k cl a).flatMap (cand C via way c m)).foldl pick b
 | 0,_,_,_,_,_,_=>rfl
 | k+1,cl,way,a,c,m,b=>by
  unfold ent
  by_cases hp:b.any (fun y=>decide (y.2<=c))=true
  ·rw[if_pos hp]
   refine(pick_any hp (fun x hx=>?_)).symm
   simp only[List.mem_flatMap] at hx
   obtain⟨q,_,hx⟩:=hx
   unfold cand at hx
   split at hx
   ·simp at hx
    subst hx
    have:=z4i hC q
    simp;omega
   ·cases hx
  ·rw[if_neg hp]
   by_cases ht:a=to
   ·rw[if_pos ht,ext,if_pos ht]
    have e0:cand C via way c m [a]=if mtv via m a=via.length then [(way++[a],c+0)] else []:=rfl
    simp only[List.flatMap_cons,List.flatMap_nil,List.append_nil,e0]
    by_cases hm:mtv via m a=via.length
    ·rw[if_pos hm,if_pos hm]
     simp only[List.foldl_cons,List.foldl_nil,pick,Int.add_zero]
     rw[if_neg hp]
    ·rw[if_neg hm,if_neg hm];rfl
   ·rw[if_neg ht,ext,if_neg ht,List.flatMap_assoc,z0e]
    refine foldl_congr _ _ (fun b s _=>?_)
    split
    ·rw[ent_eq hC to via k]
     congr 1
     rw[List.flatMap_map]
     refine q6n _ (fun q hq=>?_)
     obtain⟨r,rfl⟩:=q5r hq
     exact cand_step.symm
    ·rfl
def lst:List Int->Int
 | []=>0
 | [a]=>a
 | _::b::r=>lst (b::r)
theorem z5b{C:Int->Int->Int}{to:Int}:∀{k:Nat} {cl:List Int} {a:Int} {q:List Int},q∈ext C to k cl a->¬a∈cl->chain C q/\q.Nodup/\lst q=to/\(∀x∈q,¬x∈cl)/\(∀x∈q,x=a\/(0<=x/\x<8))
 | 0,_,_,_,h,_=>by cases h
 | k+1,cl,a,q,h,ha=>by
  unfold ext at h
  split at h
  ·rename_i ht
   simp at h
   subst h
   exact⟨trivial,by simp,ht,fun x hx=>by simp at hx;subst hx;exact ha,fun x hx=>by simp at hx;exact Or.inl hx⟩
  ·simp only[List.mem_flatMap,List.mem_range] at h
   obtain⟨s,hs,h⟩:=h
   split at h
   ·rename_i hc
    simp only[List.mem_map] at h
    obtain⟨r,hr,rfl⟩:=h
    obtain⟨h1,h2,h3,h4,h5⟩:=z5b hr hc.2
    obtain⟨r',rfl⟩:=q5r hr
    refine⟨⟨hc.1,h1⟩,List.nodup_cons.2 ⟨fun hm=>h4 a hm (by simp),h2⟩,h3,fun x hx=>?_,fun x hx=>?_⟩
    ·rcases List.mem_cons.1 hx with rfl | hx
     ·exact ha
     ·exact fun hm=>h4 x hx (by simp[hm])
    ·rcases List.mem_cons.1 hx with rfl | hx
     ·exact Or.inl rfl
     ·rcases h5 x hx with rfl | h6
      ·exact Or.inr ⟨by omega,by omega⟩
      ·exact Or.inr h6
   ·cases h
theorem z7k:∀{q:List Int},q≠[]->lst q∈q
 | [],h=>absurd rfl h
 | [a],_=>by simp[lst]
 | a::b::r,_=>by
  have:=z7k (q:=b::r) (by simp)
  simp only[lst]
  exact List.mem_cons_of_mem _ this
theorem q3r{C:Int->Int->Int}{to:Int}:∀{k:Nat} {cl:List Int} {a:Int} {r:List Int},(a::r).length<=k->chain C (a::r)->(a::r).Nodup->lst (a::r)=to->(∀x∈a::r,¬x∈cl)->(∀x∈a::r,0<=x/\x<8)->a::r∈ext C to k cl a
 | 0,_,_,_,h,_,_,_,_,_=>by simp at h
 | k+1,cl,a,[],_,_,_,hl,_,_=>by
  have:a=to:=hl
  simp[ext,this]
 | k+1,cl,a,b::r,hk,hc,hn,hl,hcl,hr=>by
  have Q2:¬a=to:=by
   intro e
   have h1:=z7k (q:=b::r) (by simp)
   have h2:lst (b::r)=to:=hl
   rw[h2, <-e] at h1
   exact(List.nodup_cons.1 hn).1 h1
  have hb:=hr b (by simp)
  obtain⟨s,rfl⟩:=Int.eq_ofNat_of_zero_le hb.1
  rw[ext,if_neg Q2,List.mem_flatMap]
  refine⟨s,by simp;omega,?_⟩
  have hnb:¬(s:Int)∈a::cl:=by
   intro hm
   rcases List.mem_cons.1 hm with e | hm
   ·exact(List.nodup_cons.1 hn).1 (by rw[<-e];simp)
   ·exact hcl _ (by simp) hm
  rw[if_pos ⟨hc.1,hnb⟩,List.mem_map]
  refine⟨(s:Int)::r,q3r (by simpa using hk) hc.2 (List.nodup_cons.1 hn).2 hl (fun x hx hm=>?_) (fun x hx=>hr x (List.mem_cons_of_mem _ hx)),rfl⟩
  rcases List.mem_cons.1 hm with e | hm
  ·subst e;exact(List.nodup_cons.1 hn).1 hx
  ·exact hcl x (List.mem_cons_of_mem _ hx) hm
theorem q6o{C:Int->Int->Int}{to:Int}:∀{k:Nat} {cl:List Int} {a:Int},(ext C to k cl a).Pairwise Q5
 | 0,_,_=>List.Pairwise.nil
 | k+1,cl,a=>by
  unfold ext
  split
  ·simp
  ·rw[List.pairwise_flatMap]
   refine⟨fun s _=>?_,?_⟩
   ·split
    ·rw[List.pairwise_map]
     exact q6o.imp (fun {x y} h=>Or.inr ⟨rfl,h⟩)
    ·exact List.Pairwise.nil
   ·refine List.pairwise_lt_range.imp (fun {s t} hst=>?_)
    intro x hx y hy
    split at hx
    ·split at hy
     ·simp only[List.mem_map] at hx hy
      obtain⟨x',hx',rfl⟩:=hx
      obtain⟨y',hy',rfl⟩:=hy
      obtain⟨u,rfl⟩:=q5r hx'
      obtain⟨v,rfl⟩:=q5r hy'
      exact Or.inr ⟨rfl,Or.inl (by omega)⟩
     ·cases hy
    ·cases hx
theorem z4m:∀{p q},Q5 p q->¬Q5 q p
 | [],_,h=>by cases h
 | _::_,[],h=>by cases h
 | a::p,b::q,h=>fun k=>by
  rcases h with h | ⟨e,h⟩ <;> rcases k with k | ⟨_,k⟩
  ·omega
  ·omega
  ·omega
  ·exact z4m h k
theorem q5p{R:List Int->List Int->Prop}:∀{L:List (List Int×Int)} {b:Option (List Int×Int)} {p:List Int} {c:Int},L.Pairwise (fun x y=>R x.1 y.1)->(∀y,b=some y->∀x∈L,R y.1 x.1)->L.foldl pick b=some (p,c)->
 (b=some (p,c)\/(p,c)∈L)/\(∀x∈L,c<x.2\/c=x.2/\((p,c)=x\/R p x.1))/\(∀y,b=some y->c<y.2\/b=some (p,c))
 | [],b,p,c,_,_,h=>by
  have h':b=some (p,c):=h
  exact⟨Or.inl h',fun x hx=>(by cases hx),fun y _=>Or.inr h'⟩
 | x::L,b,p,c,hP,hb,h=>by
  obtain⟨hP1,hP2⟩:=List.pairwise_cons.1 hP
  simp only[List.foldl_cons] at h
  by_cases hp:b.any (fun y=>decide (y.2<=x.2))=true
  ·have e:pick b x=b:=by simp[pick,hp]
   rw[e] at h
   obtain⟨h1,h2,h3⟩:=q5p hP2 (fun y hy z hz=>hb y hy z (by simp[hz])) h
   refine⟨h1.imp id (fun h=>by simp[h]),fun z hz=>?_,h3⟩
   rcases List.mem_cons.1 hz with rfl | hz
   ·cases b with
    | none=>simp at hp
    | some y=>
     simp only[Option.any_some,decide_eq_true_eq] at hp
     rcases h3 y rfl with h4 | h4
     ·exact Or.inl (by omega)
     ·simp only[Option.some.injEq] at h4
      subst h4
      have hp':c<=z.2:=hp
      by_cases e:c=z.2
      ·exact Or.inr ⟨e,Or.inr (hb _ rfl z (by simp))⟩
      ·exact Or.inl (by omega)
   ·exact h2 z hz
  ·have e:pick b x=some x:=by simp[pick,hp]
   rw[e] at h
   obtain⟨h1,h2,h3⟩:=q5p hP2 (fun y hy z hz=>by cases hy;exact hP1 z hz) h
   have h3':=h3 x rfl
   refine⟨Or.inr ?_,fun z hz=>?_,fun y hy=>?_⟩
   ·rcases h1 with h1 | h1
    ·cases h1;simp
    ·simp[h1]
   ·rcases List.mem_cons.1 hz with rfl | hz
    ·rcases h3' with h4 | h4
     ·exact Or.inl h4
     ·simp only[Option.some.injEq] at h4
      subst h4
      exact Or.inr ⟨rfl,Or.inl rfl⟩
    ·exact h2 z hz
   ·subst hy
    simp only[Option.any_some,decide_eq_true_eq] at hp
    left
    rcases h3' with h4 | h4
    ·omega
    ·simp only[Option.some.injEq] at h4
     subst h4
     have:¬y.2<=c:=hp
     omega
theorem q8n:∀{L:List (List Int×Int)} {b:Option (List Int×Int)},L.foldl pick b=none->b=none/\L=[]
 | [],b,h=>⟨h,rfl⟩
 | x::L,b,h=>by
  simp only[List.foldl_cons] at h
  have:=(q8n h).1
  unfold pick at this
  split at this
  ·rename_i hp
   subst this
   simp at hp
  ·cases this
structure Pth (C:Int->Int->Int) (fr to:Int) (p:List Int):Prop where
 head:∃r,p=fr::r
 last:lst p=to
 nd:p.Nodup
 ch:chain C p
 rng:∀x∈p,0<=x/\x<8
structure Srv (C:Int->Int->Int) (fr to:Int) (via nt:List Int) (p:List Int):Prop extends Pth C fr to p where
 not:∀x∈p,¬x∈nt
 met:q5j via 0 p=via.length
def find (C:Int->Int->Int) (fr to:Int) (via nt:List Int):Option (List Int×Int):=ent C to via 8 nt [] fr 0 0 none
def z6a (C:Int->Int->Int) (fr to:Int) (via nt p:List Int) (c:Int):Prop:=Srv C fr to via nt p/\c=pc C p/\∀q,Srv C fr to via nt q->c<pc C q\/c=pc C q/\(p=q\/Q5 p q)
variable {fr:Int} {p:List Int}
theorem q8a(h:Pth C fr to p):p.length<=8:=by
 have:∀(n:Nat) (l:List Int),l.Nodup->(∀x∈l,0<=x/\x<(n:Int))->l.length<=n:=by
  intro n
  induction n with
  | zero=>intro l _ h;cases l with
   | nil=>simp
   | cons a r=>have:=h a (by simp);omega
  | succ n ih=>
   intro l hd h
   have h1:=ih (l.erase (n:Int)) (hd.erase _) (fun x hx=>by
    have:=(hd.mem_erase_iff).1 hx
    have:=h x this.2
    omega)
   have h2:l.length<=(l.erase (n:Int)).length+1:=by
    rw[List.length_erase]
    split <;> omega
   omega
 exact this 8 p h.nd h.rng
variable {nt:List Int}
theorem q8s(hf:0<=fr/\fr<8)(hn:¬fr∈nt){x:List Int×Int}:x∈(ext C to 8 nt fr).flatMap (cand C via [] 0 0)↔Srv C fr to via nt x.1/\x.2=pc C x.1:=by
 simp only[List.mem_flatMap]
 constructor
 ·rintro⟨q,hq,hx⟩
  obtain⟨h1,h2,h3,h4,h5⟩:=z5b hq hn
  unfold cand at hx
  split at hx
  ·rename_i hm
   simp at hx
   subst hx
   exact⟨⟨⟨q5r hq,h3,h2,h1,fun x hx=>by rcases h5 x hx with rfl | h;exact hf;exact h⟩,h4,hm⟩,rfl⟩
  ·cases hx
 ·rintro⟨h,hc⟩
  obtain⟨p,c⟩:=x
  simp only at h hc
  obtain⟨r,rfl⟩:=h.head
  refine⟨fr::r,q3r (q8a h.toPth) h.ch h.nd h.last h.not h.rng,?_⟩
  unfold cand
  rw[if_pos h.met]
  simp[hc]
theorem q8p(hC:∀a b,0<=C a b)(hf:0<=fr/\fr<8)(hn:¬fr∈nt)(h:find C fr to via nt=some (p,c)):z6a C fr to via nt p c:=by
 rw[find,ent_eq hC] at h
 have hP:((ext C to 8 nt fr).flatMap (cand C via [] 0 0)).Pairwise (fun x y=>Q5 x.1 y.1):=by
  rw[List.pairwise_flatMap]
  refine⟨fun q _=>?_,q6o.imp (fun {q r} hqr x hx y hy=>?_)⟩
  ·unfold cand;split <;> simp
  ·unfold cand at hx hy
   split at hx
   ·split at hy
    ·simp at hx hy;subst hx hy;exact hqr
    ·cases hy
   ·cases hx
 obtain⟨h1,h2,_⟩:=q5p hP (fun y hy=>by cases hy) h
 rcases h1 with h1 | h1
 ·cases h1
 ·obtain⟨h3,h4⟩:=(q8s hf hn).1 h1
  refine⟨h3,h4,fun q hq=>?_⟩
  rcases h2 (q,pc C q) ((q8s hf hn).2 ⟨hq,rfl⟩) with h5 | ⟨h5,h6⟩
  ·exact Or.inl h5
  ·refine Or.inr ⟨h5,h6.imp (fun e=>by cases e;rfl) id⟩
theorem z5a(hC:∀a b,0<=C a b)(hf:0<=fr/\fr<8)(hn:¬fr∈nt)(h:find C fr to via nt=none):∀q,¬Srv C fr to via nt q:=by
 rw[find,ent_eq hC] at h
 intro q hq
 have:=(q8n h).2
 have h2:=(q8s (C:=C) (to:=to) (via:=via) (x:=(q,pc C q)) hf hn).2 ⟨hq,rfl⟩
 rw[this] at h2
 cases h2
theorem z8d{q:List Int}{d:Int}(h:z6a C fr to via nt p c)(k:z6a C fr to via nt q d):p=q:=by
 have h1:=h.2.2 q k.1
 have h2:=k.2.2 p h.1
 have h3:=h.2.1
 have h4:=k.2.1
 rcases h1 with h1 | ⟨e1,h1⟩
 ·rcases h2 with h2 | ⟨e2,h2⟩ <;> omega
 ·rcases h2 with h2 | ⟨e2,h2⟩
  ·omega
  ·rcases h1 with h1 | h1
   ·exact h1
   ·rcases h2 with h2 | h2
    ·exact h2.symm
    ·exact absurd h2 (z4m h1)
end Stp
namespace Stp
open Stw
theorem z5q{C:Int->Int->Int}:∀{ps:List Int},chain C ps↔∀i,i+1<ps.length->0<C (ps.getD i 0) (ps.getD (i+1) 0)
 | []=>by simp[chain]
 | [a]=>by simp[chain]
 | a::b::r=>by
  simp only[chain]
  rw[z5q (ps:=b::r)]
  constructor
  ·rintro⟨h1,h2⟩ i hi
   cases i with
   | zero=>simpa using h1
   | succ i=>
    have:=h2 i (by simpa using hi)
    simpa[List.getD_cons_succ] using this
  ·intro h
   refine⟨by simpa using h 0 (by simp),fun i hi=>?_⟩
   have:=h (i+1) (by simpa using hi)
   simpa[List.getD_cons_succ] using this
theorem getD_eq{ps:List Int}{i:Nat}(h:i<ps.length):ps.getD i 0=ps[i]:=by simp[h]
theorem nodup_iff{ps:List Int}:ps.Nodup↔∀i,i<ps.length->¬ps.getD i 0∈ps.take i:=by
 rw[List.nodup_iff_pairwise_ne,List.pairwise_iff_getElem]
 constructor
 ·intro h i hi hm
  rw[List.mem_take_iff_getElem] at hm
  obtain⟨j,hj,e⟩:=hm
  rw[getD_eq hi] at e
  exact h j i (by omega) hi (by omega) e
 ·intro h i j hi hj hij e
  refine h j hj ?_
  rw[List.mem_take_iff_getElem,getD_eq hj]
  exact⟨i,by omega,e⟩
variable {ls:List Lk}
theorem q2k{n:Int}{ps:List Int}(hr:q1z n ls):q3k n ls ps=true↔ps≠[]/\(∀x∈ps,0<=x/\x<n)/\ps.Nodup/\chain (cost ls) ps:=by
 have hC:∀a b,0<=cost ls a b:=fun a b=>(hr.cost a b).1
 rw[q6j,nodup_iff,z5q]
 constructor
 ·rintro⟨h0,h⟩
  refine⟨h0,fun x hx=>?_,fun i hi hm=>?_,fun i hi=>?_⟩
  ·obtain⟨i,hi,rfl⟩:=List.getElem_of_mem hx
   have:=h i hi
   simp only[okAt,Bool.and_eq_true] at this
   have:=q2s.1 this.1.1
   rwa [getD_eq hi] at this
  ·have:=h i hi
   rw[q4m hm] at this
   cases this
  ·have:=h (i+1) hi
   have hc:=hC (ps.getD i 0) (ps.getD (i+1) 0)
   by_cases e:cost ls (ps.getD i 0) (ps.getD (i+1) 0)=0
   ·rw[q3m (by omega) (by simpa using e)] at this
    cases this
   ·omega
 ·rintro⟨h0,h1,h2,h3⟩
  refine⟨h0,fun i hi=>z7i (q2s.2 (h1 _ (by rw[getD_eq hi];exact List.getElem_mem hi))) (h2 i hi) ?_⟩
  cases i with
  | zero=>exact Or.inl rfl
  | succ i=>
   right
   have:=h3 i hi
   simp only[Nat.add_sub_cancel]
   omega
theorem z2b:∀(l:List Int) (x:Int),lst (l++[x])=x
 | [],_=>rfl
 | [_],_=>rfl
 | a::b::r,x=>by
  have:=z2b (b::r) x
  simpa[lst] using this
theorem pc_snoc{C:Int->Int->Int}:∀(l:List Int) (x:Int),pc C (l++[x])=pc C l+(if l=[] then 0 else C (lst l) x)
 | [],_=>by simp[pc]
 | [a],x=>by simp[pc,lst]
 | a::b::r,x=>by
  have:=pc_snoc (C:=C) (b::r) x
  simp only[List.cons_append,pc,lst] at this ⊢
  rw[this]
  simp;omega
theorem lst_take{ps:List Int}{k:Nat}(h0:0<k)(h:k<=ps.length):lst (ps.take k)=ps.getD (k - 1) 0:=by
 obtain⟨j,rfl⟩:∃j,k=j+1:=⟨k - 1,by omega⟩
 rw[List.take_succ_eq_append_getElem (by omega:j<ps.length),z2b]
 simp[show j<ps.length by omega]
theorem psum_eq{ls:List Lk}{ps:List Int}:∀k:Nat,k<=ps.length->psum ls ps k=pc (cost ls) (ps.take k)
 | 0,_=>by simp[psum,pc]
 | k+1,h=>by
  simp only[psum]
  rw[psum_eq k (by omega),List.take_succ_eq_append_getElem (by omega:k<ps.length),pc_snoc]
  by_cases e:k=0
  ·subst e;simp
  ·have hne:ps.take k≠[]:=by
    intro e2
    have:=congrArg List.length e2
    simp at this
    rcases this with h3 | h3
    ·omega
    ·subst h3;simp at h
   rw[if_neg e,if_neg hne,lst_take (by omega) (by omega),getD_eq (by omega:k<ps.length)]
theorem psum_all{ps:List Int}:psum ls ps ps.length=pc (cost ls) ps:=by
 rw[psum_eq _ (Ql _),List.take_length]
theorem q6m{n:Int}{ps:List Int}(hr:q1z n ls):lengthOf n ls ps=if q3k n ls ps=true then(pc (cost ls) ps,true) else(0,false):=by
 unfold lengthOf
 have:(Qc n ls).1=0:=by rw[hr.Qc]
 simp only[this,true_and,psum_all]
theorem pth_of{n:Int}{ps:List Int}(hr:q1z n ls)(h:q3k n ls ps=true):Pth (cost ls) (ps.getD 0 0) (lst ps) ps:=by
 obtain⟨h0,h1,h2,h3⟩:=(q2k hr).1 h
 have hb:=hr.bounds
 cases ps with
 | nil=>exact absurd rfl h0
 | cons a r=>exact⟨⟨r,rfl⟩,rfl,h2,h3,fun x hx=>by have:=h1 x hx;omega⟩
theorem z5p{n:Int}{ls:List Lk}(hr:q1z n ls):∀{p:List Int},chain (cost ls) p->(∀a r,p=a::r->0<=a/\a<n)->∀x∈p,0<=x/\x<n
 | [],_,_=>fun x hx=>by cases hx
 | [a],_,h=>fun x hx=>by simp at hx;subst hx;exact h _ _ rfl
 | a::b::r,hc,h=>fun x hx=>by
  rcases List.mem_cons.1 hx with rfl | hx
  ·exact h _ _ rfl
  ·refine z5p hr hc.2 (fun c s e=>?_) x hx
   cases e
   have:=(hr.cost a b).2.2 (by have:=hc.1;omega)
   omega
theorem Pth.path{n:Int}{fr to:Int}{p:List Int}(hr:q1z n ls)(h:Pth (cost ls) fr to p)(hf:0<=fr/\fr<n):q3k n ls p=true:=by
 rw[q2k hr]
 obtain⟨r,rfl⟩:=h.head
 exact⟨by simp,z5p hr h.ch (fun a s e=>by cases e;exact hf),h.nd,h.ch⟩
end Stp
namespace Go.Proofs.YthkpbefnkmmaiaaGreat
open Go.Proofs.Tryz
section
open Go.RowKit Go.Maps Stw Go.Deep
theorem Qa{p:Prop}(h:p):Hid p:=h
def dn (a b x y:Nat):Bool:=decide ((x<a/\y<a)\/(x=a/\y<b)\/(y=a/\x<b))
def cf (ls:List Lk) (a b j:Nat):Value:=.int .i64 (if dn a b (j / 8) (j % 8)=true then cost ls ((j / 8:Nat):Int) ((j % 8:Nat):Int) else 0)
theorem cf_zero(ls:List Lk)(j:Nat):cf ls 0 0 j=.int .i64 0:=by
 have:dn 0 0 (j / 8) (j % 8)=false:=by simp[dn]
 simp[cf,this]
theorem rep_get{n i:Nat}{x:Value}(h:i<n):(List.replicate n x).toArray[i]? =some x:=by simp[h]
variable {ls:List Lk} {j a:Nat}
theorem cf_step{b:Nat}(hb:b<8)(ha:a<8)(hba:b<a):(if j=b*8+a then Value.int .i64 (cost ls a b) else if j=a*8+b then Value.int .i64 (cost ls a b) else cf ls a b j)=cf ls a (b+1) j:=by
 by_cases h1:j=b*8+a
 ·have e1:j / 8=b:=by omega
  have e2:j % 8=a:=by omega
  have:dn a (b+1) b a=true:=by simp[dn]
  rw[if_pos h1,cf,e1,e2,this,if_pos rfl,z5i]
 ·rw[if_neg h1]
  by_cases h2:j=a*8+b
  ·have e1:j / 8=a:=by omega
   have e2:j % 8=b:=by omega
   have:dn a (b+1) a b=true:=by simp[dn]
   rw[if_pos h2,cf,e1,e2,this,if_pos rfl]
  ·rw[if_neg h2,cf,cf]
   have:dn a b (j / 8) (j % 8)=dn a (b+1) (j / 8) (j % 8):=by
    unfold dn
    rw[decide_eq_decide]
    omega
   rw[this]
theorem cf_next{n:Int}(hr:q1z n ls):cf ls a a j=cf ls (a+1) 0 j:=by
 unfold cf
 congr 1
 by_cases h:j / 8=a/\j % 8=a
 ·have:cost ls ((j / 8:Nat):Int) ((j % 8:Nat):Int)=0:=by
   have h3:=(hr.cost ((j / 8:Nat):Int) ((j % 8:Nat):Int)).2.2
   by_cases e:cost ls ((j / 8:Nat):Int) ((j % 8:Nat):Int)=0
   ·exact e
   ·have:=h3 e;omega
  rw[this];simp
 ·have:dn a a (j / 8) (j % 8)=dn (a+1) 0 (j / 8) (j % 8):=by
   unfold dn
   rw[decide_eq_decide]
   omega
  rw[this]
theorem cf_all{nn:Nat}(hr:q1z (nn:Int) ls):cf ls nn 0 j=.int .i64 (cost ls ((j / 8:Nat):Int) ((j % 8:Nat):Int)):=by
 unfold cf
 congr 1
 split
 ·rfl
 ·rename_i h
  have h3:=(hr.cost ((j / 8:Nat):Int) ((j % 8:Nat):Int)).2.2
  by_cases e:cost ls ((j / 8:Nat):Int) ((j % 8:Nat):Int)=0
  ·exact e.symm
  ·have:=h3 e
   exact absurd (by simp[dn];omega) h
def RB (w:World) (g:Nat):Prop:=∃rs,w.heap[g]? =some (.cells rs 162)/\rs.size=64
variable {w:World} {g:Nat}
theorem RB.of_block{w':World}(h:RB w g)(e:w'.heap[g]? =w.heap[g]?):RB w' g:=by
 obtain⟨rs,h1,h2⟩:=h
 exact⟨rs,e.trans h1,h2⟩
theorem RB.made(w:World)(cs:Array Value)(h:cs.size=64):RB (w.alloc (.cells cs 162)) w.heap.size:=⟨cs,blk_alloc_new _ _,h⟩
theorem RB.lt(h:RB w g):g<w.heap.size:=by
 obtain⟨rs,h1,h2⟩:=h
 exact(asi.1 h1).1
theorem RB.set(h:RB w g){a:Addr}(ha:g≠a.block)(v:Value):RB (w.setCell a v) g:=h.of_block (Zm _ _ _ _ ha)
theorem z2m(nn:Nat)(ao:Option Addr)(len cap:Nat)(ls:List Lk)(w:World)(hlen:ls.length=len)(hl:Zg w ao ls)(hx:len<=9223372036854775807)(hr:Qc (nn:Int) ls=(0,0)):
 Calls prog 82 #[.agg #[.int .i64 nn,.slice ao len cap]] w fun e w'=>∃cs:Array Value,e=.returned (.agg cs)/\cs.size=64/\(∀a b:Nat,a<8->b<8->cs[a*8+b]? =some (.int .i64 (cost ls a b)))/\Ext w w':=by
 have HR:=Qa hr
 have hright:=Zo (by rw[hr]:(Qc (nn:Int) ls).1=0)
 have hbd:=hright.bounds
 clear hr
 go_enter func82,ntmps82
 go_wp2
 go_loopw [9] (fun iv wr=>∃a:Nat,a<=nn/\iv=.int .i64 a/\wr.rowIs (w.heap.size+1+1) 162 64 (cf ls a 0)/\Below (w.heap.size+1) (w.alloc (.cells #[.int .i64 nn,.slice ao len cap] 24)) wr/\RB wr (w.heap.size+1)) (fun iv _=>nn - (intOf iv).toNat)
 case atStart=>
  refine⟨0,Zu _,rfl,?_,?_,?_⟩
  ·have:=World.rowIs_alloc ((w.alloc (.cells #[.int .i64 nn,.slice ao len cap] 24)).alloc (.cells (List.replicate 64 (Value.int .i64 0)).toArray 162)) (List.replicate 64 (Value.int .i64 0)).toArray 162 (cf ls 0 0) (fun i hi=>by rw[cf_zero];exact rep_get (by rw[List.size_toArray,List.length_replicate] at hi;exact hi))
   simpa using this
  ·exact((Below.refl _ _).alloc (by simp) _).alloc (by simp) _
  ·have:=(RB.made (w.alloc (.cells #[.int .i64 nn,.slice ao len cap] 24)) (List.replicate 64 (Value.int .i64 0)).toArray (by rw[List.size_toArray,List.length_replicate])).of_block (bal _ (.cells (List.replicate 64 (Value.int .i64 0)).toArray 162) _ (by simp))
   simpa using this
 case round=>
  obtain⟨a,ha,rfl,hrow,hbel,hRB⟩:=hrel
  by_cases hlt:a<nn
  ·go_wp2
   go_loopw [13] (fun iv wr=>∃b:Nat,b<=a/\iv=.int .i64 b/\wr.rowIs (w.heap.size+1+1) 162 64 (cf ls a b)/\Below (w.heap.size+1) (w.alloc (.cells #[.int .i64 nn,.slice ao len cap] 24)) wr/\RB wr (w.heap.size+1)) (fun iv _=>a - (intOf iv).toNat)
   case atStart=>exact⟨0,Zu _,rfl,hrow,hbel,hRB⟩
   case round=>
    clear hrow hbel hRB
    obtain⟨b,hb,rfl,hrow,hbel,hRB⟩:=hrel
    have hEw:Ext w wr:=Below.trans ((Ext.refl w).alloc _) (hbel.mono (by omega))
    have k0:w.heap.size<w.heap.size+1:=by omega
    have c0:wr.cell? ⟨w.heap.size,0,none⟩=some (.int .i64 nn):=(hbel.cell (p:=⟨w.heap.size,0,none⟩) k0).trans (by simp)
    have c1:wr.cell? ⟨w.heap.size,1,none⟩=some (.slice ao len cap):=(hbel.cell (p:=⟨w.heap.size,1,none⟩) k0).trans (by simp)
    by_cases hlb:b<a
    ·go_wp2_with fail
     refine(Cost_any nn a b ao len cap ls _ hlen (hl.ext hEw) hx (Zi (by omega) (by omega)) (Zi (by omega) (by omega)) HR.out).mono ?_
     rintro e w1 ⟨rfl,E1⟩
     have hrow1:=hrow.of_block (Below.block E1 _ hrow.lt)
     have q1:=hrow1.cell (i:=a*8+b) (by omega)
     have q2:=hrow1.cell (i:=b*8+a) (by omega)
     have f1:=hrow1.frozen (a*8+b)
     have f2:=hrow1.frozen (b*8+a)
     go_wp2
     go_region
     go_wp2
     go_roundw
     case rel=>
      refine⟨b+1,by omega,by go_num,((hrow1.set _ _).set _ _).drew.congr (fun j hj=>cf_step (by omega) (by omega) hlb),?_,((hRB.of_block (Below.block E1 _ hRB.lt)).set (by simp) _).set (by simp) _⟩
      exact(((hbel.trans (Below.mono E1 (by have:=hrow.lt;omega))).setCell (by simp) _).setCell (by simp) _).drew
     case measure=>simp[intOf];omega
    ·go_wp2
     go_roundw
     case rel=>
      obtain rfl:b=a:=by omega
      exact⟨b+1,by omega,by go_num,hrow.congr (fun j _=>cf_next hright),hbel,hRB⟩
     case measure=>simp[intOf];omega
  ·obtain⟨cs,hcs,hsz,hget⟩:=hrow
   obtain⟨rs,hrs,hrz⟩:=hRB
   have h1:cs.all (·.oneCell')=true:=by
    rw[Array.all_eq_true]
    intro i hi
    have:=hget i (by omega)
    rw[Array.getElem?_eq_getElem hi] at this
    injection this with this
    rw[this];rfl
   go_wp2_with (first
    | (refine wpList_load_row rfl 162 (.tmp 3) rfl (w.heap.size+1+1) rfl 162 cs (0,0) _ hcs underlying162 rfl ?i1 ?_)
    | (refine wpList_store_row rfl 162 (.tmp 2) (.tmp 32) rfl (w.heap.size+1) cs rfl rfl 162 rs hrs ?i2 ?i3 h1 ?_))
   case i1=>rw[hsz];kernel_rfl
   case i2=>rw[hsz];kernel_rfl
   case i3=>omega
   refine bodyPost_ret_by (results_cell_row results82 _ _ (w.heap.size+1) 162 cs (0,0) _ rfl (setRow_heap _ _ rs cs _ _ hrs) underlying162 rfl (by rw[hsz];kernel_rfl)) rfl ⟨cs,rfl,hsz,fun x y hx hy=>?_,?_⟩
   ·obtain rfl:a=nn:=by omega
    rw[hget (x*8+y) (by omega),cf_all hright,show(x*8+y) / 8=x by omega,show(x*8+y) % 8=y by omega]
   ·exact below_setRow (Below.trans ((Ext.refl w).alloc _) (hbel.mono (by omega))) (by omega) _
end
end Go.Proofs.YthkpbefnkmmaiaaGreat
