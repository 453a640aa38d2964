/- A net that is played, in memory: whose blocks are whose. -/
import Derived.Test.YtolclgbpjiokfaaU19
import Derived.Test.YtolclgbpjiokfaaU08
import Derived.Test.YtolclgbpjiokfaaU04
namespace Go.Proofs.Ytolclgbpjiokfaa.Rm
open Go.RowKit Go.Deep Stw Stp Tb Rul Ct
def nmb (o:Wir.Od) (k:Int):Wir.Od:=⟨o.k,k,o.v,o.rs,o.fs⟩
def asL (x:Option Wir.Od) (k:Int):List Wir.Od:=match x with
 | none=>[]
 | some o=>[nmb o k]
def cn (ord:Nat→Option Wir.Od):Nat→Nat
 | 0=>0
 | m+1=>cn ord m+(if(ord m).isSome=true then 1 else 0)
def outL (ord:Nat→Option Wir.Od) (num:Int):Nat→List (Nat×Wir.Od)
 | 0=>[]
 | m+1=>outL ord num m++(match ord m with
  | none=>[]
  | some o=>[(m,nmb o (num+cn ord m+1))])
def nums (l:List (Nat×Wir.Od)):List Int:=l.map (fun x=>x.2.n)
theorem cn_le {ord:Nat→Option Wir.Od}:∀m,cn ord m≤m
 | 0=>Nat.le_refl _
 | m+1=>by have:=cn_le (ord:=ord) m;unfold cn;split <;> omega
theorem cn_mono {ord:Nat→Option Wir.Od} {a:Nat}:∀{b:Nat},a≤b→cn ord a≤cn ord b
 | 0,h=>by have:a=0:=by omega
           subst this;exact Nat.le_refl _
 | b+1,h=>by
  by_cases e:a=b+1
  ·subst e;exact Nat.le_refl _
  ·have:=cn_mono (ord:=ord) (a:=a) (b:=b) (by omega)
   show cn ord a≤cn ord b+_
   omega
theorem cn_lt {ord:Nat→Option Wir.Od} {a b:Nat} {o:Wir.Od} (h:a<b) (ho:ord a=some o):cn ord a<cn ord b:=by
 have h1:=cn_mono (ord:=ord) (a:=a+1) (b:=b) h
 have h2:cn ord (a+1)=cn ord a+1:=by show cn ord a+_=_;rw[ho];rfl
 omega
theorem tel_eq {ord:Nat→Option Wir.Od} {num:Int} {wts:List Int} {out:List (Nat×Wir.Od)} (h0:0≤num) (h1:num≤90000):∀m,m≤8→tel ord ⟨num,wts,out⟩ m=⟨num+cn ord m,wts++nums (outL ord num m),out++outL ord num m⟩
 | 0,_=>by simp[tel,cn,outL,nums]
 | m+1,hm=>by
  have hc:=cn_le (ord:=ord) m
  rw[tel,tel_eq h0 h1 m (by omega),cn,outL]
  cases ho:ord m with
  | none=>simp[one]
  | some o=>
   have hn:nx (num+cn ord m)=num+cn ord m+1:=by unfold nx;rw[IntKind.wrap_i64];omega
   simp only[one,hn,Option.isSome_some,if_true,nums,List.map_append,List.map_cons,List.map_nil,List.append_assoc,nmb]
   congr 1
   simp[Int.add_assoc]
theorem told_eq {ord:Nat→Option Wir.Od} {g:Cg} {m:Nat} (h0:0≤g.c.num) (h1:g.c.num≤90000) (hm:m≤8):told m ord g=⟨⟨g.c.st,g.c.now,g.c.nxt,g.c.num+cn ord m,g.c.wts++nums (outL ord g.c.num m)⟩,g.out++outL ord g.c.num m⟩:=by
 unfold told;rw[tel_eq h0 h1 m hm]
theorem mem_outL {ord:Nat→Option Wir.Od} {num:Int} {x:Nat×Wir.Od}:∀{m:Nat},x∈outL ord num m↔∃s o,s<m∧ord s=some o∧x=(s,nmb o (num+cn ord s+1))
 | 0=>by simp[outL]
 | m+1=>by
  rw[outL,List.mem_append,mem_outL]
  constructor
  ·rintro(⟨s,o,h1,h2,h3⟩ | h)
   ·exact⟨s,o,by omega,h2,h3⟩
   ·cases ho:ord m with
    | none=>rw[ho] at h;simp at h
    | some o=>rw[ho] at h;simp at h;exact⟨m,o,by omega,ho,h⟩
  ·rintro⟨s,o,h1,h2,h3⟩
   by_cases e:s=m
   ·subst e;rw[h2];exact Or.inr (by simp[h3])
   ·exact Or.inl ⟨s,o,by omega,h2,h3⟩
theorem nums_outL {ord:Nat→Option Wir.Od} {num k:Int} {m:Nat}:k∈nums (outL ord num m)↔∃s o,s<m∧ord s=some o∧k=num+cn ord s+1:=by
 unfold nums
 rw[List.mem_map]
 constructor
 ·rintro⟨x,hx,rfl⟩
  obtain⟨s,o,h1,h2,rfl⟩:=mem_outL.1 hx
  exact⟨s,o,h1,h2,rfl⟩
 ·rintro⟨s,o,h1,h2,rfl⟩
  exact⟨_,mem_outL.2 ⟨s,o,h1,h2,rfl⟩,rfl⟩
theorem nums_nodup {ord:Nat→Option Wir.Od} {num:Int}:∀m,(nums (outL ord num m)).Nodup
 | 0=>by simp[outL,nums]
 | m+1=>by
  have ih:=nums_nodup (ord:=ord) (num:=num) m
  rw[outL]
  cases ho:ord m with
  | none=>simpa using ih
  | some o=>
   show(nums (outL ord num m++[_])).Nodup
   unfold nums at ih ⊢
   rw[List.map_append]
   refine List.nodup_append.2 ⟨ih,by simp,fun a ha b hb=>?_⟩
   obtain⟨s,o',h1,h2,h3⟩:=nums_outL.1 (show a∈nums (outL ord num m) from ha)
   simp[nmb] at hb
   have:=cn_lt h1 h2
   omega
theorem putO_len {out:List (Nat×Wir.Od)}:∀{od:List (List Wir.Od)},(putO od out).length=od.length:=by
 induction out with
 | nil=>intro od;rfl
 | cons x r ih=>intro od;show(putO (od.set _ _) r).length=_;rw[ih];simp
theorem putO_append {od:List (List Wir.Od)} {a b:List (Nat×Wir.Od)}:putO od (a++b)=putO (putO od a) b:=by simp[putO]
theorem getD_set {α:Type} {l:List α} {i j:Nat} {x z:α} (hi:i<l.length):(l.set i x).getD j z=if j=i then x else l.getD j z:=by
 rw[List.getD_eq_getElem?_getD,List.getD_eq_getElem?_getD,List.getElem?_set]
 by_cases e:i=j
 ·subst e;rw[if_pos rfl,if_pos hi,if_pos rfl];rfl
 ·rw[if_neg e,if_neg (fun h=>e h.symm)]
theorem putO_get {ord:Nat→Option Wir.Od} {num:Int} {od:List (List Wir.Od)}:∀{m:Nat},m≤od.length→∀s,(putO od (outL ord num m)).getD s []=od.getD s []++(if s<m then asL (ord s) (num+cn ord s+1) else [])
 | 0,_,s=>by simp[outL,putO]
 | m+1,hm,s=>by
  have ih:=putO_get (ord:=ord) (num:=num) (m:=m) (by omega) (od:=od)
  rw[outL,putO_append]
  cases ho:ord m with
  | none=>
   show(putO od (outL ord num m)).getD s []=_
   rw[ih s]
   by_cases e:s=m
   ·subst e;rw[if_neg (by omega),if_pos (by omega),ho];rfl
   ·by_cases h:s<m
    ·rw[if_pos h,if_pos (by omega)]
    ·rw[if_neg h,if_neg (by omega)]
  | some o=>
   show((putO od (outL ord num m)).set m ((putO od (outL ord num m)).getD m []++[nmb o (num+cn ord m+1)])).getD s []=_
   rw[getD_set (by rw[putO_len];omega)]
   by_cases e:s=m
   ·subst e;rw[if_pos rfl,ih s,if_neg (by omega),if_pos (by omega),ho];simp[asL]
   ·rw[if_neg e,ih s]
    by_cases h:s<m
    ·rw[if_pos h,if_pos (by omega)]
    ·rw[if_neg h,if_neg (by omega)]
end Go.Proofs.Ytolclgbpjiokfaa.Rm
namespace Go.Proofs.Ytolclgbpjiokfaa.Ag
open Go.RowKit Go.Deep Tb Rul
abbrev s0:Int×Int:=(0,0)
def StAt (w:World) (ao:Option Addr) (st:List (Int×Int)):Prop:=
 st=[]∨∃g off,ao=some ⟨g,off,none⟩∧g<w.heap.size∧∀k,k<st.length→w.cell? ⟨g,off+k*2,none⟩=some (.int .i64 (st.getD k s0).1)∧w.cell? ⟨g,off+k*2+1,none⟩=some (.int .i64 (st.getD k s0).2)
theorem StAt.ext {w w':World} {ao:Option Addr} {st:List (Int×Int)} (h:StAt w ao st) (E:Ext w w'):StAt w' ao st:=by
 rcases h with h | ⟨g,off,h1,h2,h3⟩
 ·exact Or.inl h
 ·exact Or.inr ⟨g,off,h1,Nat.lt_of_lt_of_le h2 E.size,fun k hk=>⟨(E.cells.1 _ _ h2).trans (h3 k hk).1,(E.cells.1 _ _ h2).trans (h3 k hk).2⟩⟩
theorem StAt.get {w:World} {ao:Option Addr} {st:List (Int×Int)} (h:StAt w ao st) {k:Nat} (hk:k<st.length):∃g off,ao=some ⟨g,off,none⟩∧g<w.heap.size∧∀k,k<st.length→w.cell? ⟨g,off+k*2,none⟩=some (.int .i64 (st.getD k s0).1)∧w.cell? ⟨g,off+k*2+1,none⟩=some (.int .i64 (st.getD k s0).2):=by
 rcases h with h | h
 ·rw[h] at hk;simp at hk
 ·exact h
def svl (s:Agt.Sw) (ro so:Option Addr) (rc sc:Nat):Value:=.agg #[.slice ro s.rs.length rc,.slice so s.st.length sc]
structure SwAt (w:World) (s:Agt.Sw) (ro so:Option Addr) (rc:Nat):Prop where
 hr:SlOk w ro s.rs.length rc s.rs
 hs:StAt w so s.st
 rl:s.rs.length*24≤140737488351232
 sl:s.st.length*16≤140737488351232
 rq:s.rs.length≤rc∧rc≤9223372036854775807
theorem SwAt.ext {w w':World} {s:Agt.Sw} {ro so:Option Addr} {rc:Nat} (h:SwAt w s ro so rc) (E:Ext w w'):SwAt w' s ro so rc:=⟨h.hr.ext E,h.hs.ext E,h.rl,h.sl,h.rq⟩
theorem ver_step {st:List (Int×Int)} {f:Int} {k:Nat} (hk:k<st.length):Agt.ver (st.drop k) f=if(st.getD k s0).1=f then(st.getD k s0).2 else Agt.ver (st.drop (k+1)) f:=by
 have e:st.getD k s0=st[k]:=by simp[List.getD_eq_getElem?_getD,hk]
 rw[List.drop_eq_getElem_cons hk,Agt.ver,e]
end Go.Proofs.Ytolclgbpjiokfaa.Ag
namespace Go.Proofs.Ytolclgbpjiokfaa.Rm
open Go.RowKit Go.Deep Stw Stp Tb Rul Ct
structure KeepP (S:Nat→Prop) (tg tg':Nat→Nat) (w w':World):Prop where
 size:w.heap.size≤w'.heap.size
 blk:∀b,b<w.heap.size→S (tg b)→tg' b=tg b∧w'.heap[b]? =w.heap[b]?
theorem KeepP.mono {S S':Nat→Prop} {tg tg':Nat→Nat} {w w':World} (h:KeepP S tg tg' w w') (hs:∀x,S' x→S x):KeepP S' tg tg' w w':=⟨h.size,fun b hb hx=>h.blk b hb (hs _ hx)⟩
theorem KeepP.trans {S:Nat→Prop} {tg tg1 tg2:Nat→Nat} {w w1 w2:World} (h:KeepP S tg tg1 w w1) (k:KeepP S tg1 tg2 w1 w2):KeepP S tg tg2 w w2:=⟨Nat.le_trans h.size k.size,fun b hb hx=>by
 obtain⟨e1,e2⟩:=h.blk b hb hx
 obtain⟨f1,f2⟩:=k.blk b (Nat.lt_of_lt_of_le hb h.size) (by rw[e1];exact hx)
 exact⟨f1.trans e1,f2.trans e2⟩⟩
theorem KeepP.refl (S:Nat→Prop) (tg:Nat→Nat) (w:World):KeepP S tg tg w w:=⟨Nat.le_refl _,fun _ _ _=>⟨rfl,rfl⟩⟩
theorem KeepP.ext {S:Nat→Prop} {tg:Nat→Nat} {w w':World} (E:Ext w w'):KeepP S tg tg w w':=⟨E.size,fun b hb _=>⟨rfl,Below.block E b hb⟩⟩
theorem KeepP.set {tg:Nat→Nat} {w:World} {b o t:Nat} (ht:tg b=t) (u:Value):KeepP (fun x=>x≠t) tg tg w (w.setCell ⟨b,o,none⟩ u):=⟨by simp,fun k _ hk=>⟨rfl,blk_setCell_other _ _ _ _ (fun e=>hk (by rw[e];exact ht))⟩⟩
theorem KeepP.push {tg:Nat→Nat} {w w':World} {v:Value} {g t:Nat} (ht:∀k,v.ownBlock=some k→tg k=t) (hg:w.grownBy w' v.ownBlock) (hat:v.ownBlock=some g∨g=w.heap.size):KeepP (fun x=>x≠t) tg (fun b=>if b=g then t else tg b) w w':=⟨hg.size,fun b hb hx=>by
 have hne:b≠g:=fun e=>by
  rcases hat with h | h
  ·exact hx (by rw[e];exact ht g h)
  ·omega
 exact⟨if_neg hne,hg.block b hb (fun e=>hx (ht b e.symm))⟩⟩
end Go.Proofs.Ytolclgbpjiokfaa.Rm
namespace Go.Proofs.Ytolclgbpjiokfaa.Ct
open Go.RowKit Go.Deep Rm
theorem Stb.keep {S:Nat→Prop} {tg tg':Nat→Nat} {w w':World} {D:World→Prop} (h:Stb (fun b=>tg b=0) w D) (k:KeepP S tg tg' w w') (h0:S 0):Stb (fun b=>tg' b=0) w' D:=fun U hU kU=>h U (Nat.le_trans k.size hU) (fun b hb hlt=>by
 obtain⟨e1,e2⟩:=k.blk b hlt (by rw[show tg b=0 from hb];exact h0)
 exact(kU b (e1.trans hb) (Nat.lt_of_lt_of_le hlt k.size)).trans e2)
end Go.Proofs.Ytolclgbpjiokfaa.Ct
namespace Go.Proofs.Ytolclgbpjiokfaa.Rm
open Go.RowKit Go.Deep Stw Stp Tb Rul Ct
structure RwT (tg:Nat→Nat) (t:Nat) (w:World) (e:TypeId) (size:Nat) (v:Value) (n:Nat) (xs:List Value):Prop where
 rw:Rw w e size v n xs
 tg:∀g,v.ownBlock=some g→tg g=t
theorem RwT.nil (tg:Nat→Nat) (t:Nat) (w:World) (e:TypeId) (size:Nat):RwT tg t w e size (.slice none 0 0) 0 []:=⟨Rw.nil _ _ _,fun g h=>by cases h⟩
theorem RwT.keep {S:Nat→Prop} {tg tg':Nat→Nat} {w w':World} {t:Nat} {e:TypeId} {size:Nat} {v:Value} {n:Nat} {xs:List Value} (h:RwT tg t w e size v n xs) (k:KeepP S tg tg' w w') (ht:S t):RwT tg' t w' e size v n xs:=
 ⟨h.rw.keep (fun g hg=>(k.blk g (h.rw.lt g hg) (by rw[h.tg g hg];exact ht)).2),fun g hg=>by rw[(k.blk g (h.rw.lt g hg) (by rw[h.tg g hg];exact ht)).1];exact h.tg g hg⟩
def BrwAt (tg:Nat→Nat) (t:Nat) (w:World) (ns:List Int) (v:Value):Prop:=RwT tg t w 3 1 v ns.length (ns.map (Value.int .i64))
def OdAt (Y:Nat→Prop) (w:World) (o:Wir.Od) (c:Nat→Option Value):Prop:=∃ro rc fo fc,c 0=some (.int .i64 o.k)∧c 1=some (.int .i64 o.n)∧c 2=some (.int .i64 o.v)∧c 3=some (.slice ro o.rs.length rc)∧c 4=some (.slice fo o.fs.length fc)∧Stb Y w (fun U=>RsAt U ro o.rs∧ListAt U fo o.fs)
def OrwAt (tg:Nat→Nat) (t:Nat) (w:World) (os:List Wir.Od) (v:Value):Prop:=∃xs,RwT tg t w 135 5 v os.length xs∧∀i,i<os.length→OdAt (fun b=>tg b=0) w (os.getD i Wir.od0) (fun j=>xs[i*5+j]?)
theorem BrwAt.keep {S:Nat→Prop} {tg tg':Nat→Nat} {w w':World} {t:Nat} {ns:List Int} {v:Value} (h:BrwAt tg t w ns v) (k:KeepP S tg tg' w w') (ht:S t):BrwAt tg' t w' ns v:=RwT.keep h k ht
theorem OrwAt.keep {S:Nat→Prop} {tg tg':Nat→Nat} {w w':World} {t:Nat} {os:List Wir.Od} {v:Value} (h:OrwAt tg t w os v) (k:KeepP S tg tg' w w') (h0:S 0) (ht:S t):OrwAt tg' t w' os v:=by
 obtain⟨xs,h1,h2⟩:=h
 refine⟨xs,h1.keep k ht,fun i hi=>?_⟩
 obtain⟨ro,rc,fo,fc,a0,a1,a2,a3,a4,a5⟩:=h2 i hi
 exact⟨ro,rc,fo,fc,a0,a1,a2,a3,a4,a5.keep k h0⟩
theorem BrwAt.nil (tg:Nat→Nat) (t:Nat) (w:World):BrwAt tg t w [] (.slice none 0 0):=RwT.nil _ _ _ _ _
theorem OrwAt.nil (tg:Nat→Nat) (t:Nat) (w:World):OrwAt tg t w [] (.slice none 0 0):=⟨[],RwT.nil _ _ _ _ _,fun i hi=>by simp at hi⟩
def SwsAt (tg:Nat→Nat) (w:World) (sb n:Nat) (sw:List Agt.Sw):Prop:=tg sb=2∧∃f,w.rowIs sb 60 (n*2) f∧∀s,s<n→∃ro rc so sc,f (s*2)=.slice ro (sw.getD s Agt.sw0).rs.length rc∧f (s*2+1)=.slice so (sw.getD s Agt.sw0).st.length sc∧Stb (fun b=>tg b=0) w (fun U=>Ag.SwAt U (sw.getD s Agt.sw0) ro so rc)
def OrsAt (tg:Nat→Nat) (w:World) (ob n:Nat) (od:List (List Wir.Od)):Prop:=tg ob=3∧∃f,w.rowIs ob 100 n f∧∀s,s<n→OrwAt tg (10+3*s) w (od.getD s []) (f s)
def BksAt (tg:Nat→Nat) (w:World) (bb n:Nat) (bk:List (List Int)):Prop:=tg bb=4∧∃f,w.rowIs bb 31 n f∧∀s,s<n→BrwAt tg (11+3*s) w (bk.getD s []) (f s)
def PksAt (tg:Nat→Nat) (w:World) (pk:List Pk) (v:Value):Prop:=∃xs,RwT tg 5 w 48 4 v pk.length xs∧∀i,i<pk.length→∃tv,xs[i*4]? =some (.int .i64 (pk.getD i pk0).fl)∧xs[i*4+1]? =some (.int .i64 (pk.getD i pk0).v)∧xs[i*4+2]? =some tv∧xs[i*4+3]? =some (.bool (pk.getD i pk0).dn)∧BrwAt tg (12+3*i) w (pk.getD i pk0).tr tv
def PlsAt (tg:Nat→Nat) (w:World) (pn:List Pl) (v:Value):Prop:=∃xs,RwT tg 6 w 30 3 v pn.length xs∧∀i,i<pn.length→∃a:PA,xs[i*3]? =some (.int .i64 (pn.getD i pl0).v)∧xs[i*3+1]? =some (.slice a.fo (pn.getD i pl0).fs.length a.fc)∧xs[i*3+2]? =some (.slice a.qo (pn.getD i pl0).ps.length a.qc)∧Stb (fun b=>tg b=0) w (fun U=>PlAt U (pn.getD i pl0) a)
theorem rowIs_keep {S:Nat→Prop} {tg tg':Nat→Nat} {w w':World} {b:Nat} {T:TypeId} {n:Nat} {f:Nat→Value} (h:w.rowIs b T n f) (k:KeepP S tg tg' w w') (ht:S (tg b)):tg' b=tg b∧w'.rowIs b T n f:=⟨(k.blk b h.lt ht).1,h.of_block (k.blk b h.lt ht).2⟩
theorem SwsAt.keep {S:Nat→Prop} {tg tg':Nat→Nat} {w w':World} {sb n:Nat} {sw:List Agt.Sw} (h:SwsAt tg w sb n sw) (k:KeepP S tg tg' w w') (h0:S 0) (h2:S 2):SwsAt tg' w' sb n sw:=by
 obtain⟨e,f,hr,hs⟩:=h
 obtain⟨e1,e2⟩:=rowIs_keep hr k (by rw[e];exact h2)
 refine⟨e1.trans e,f,e2,fun s h=>?_⟩
 obtain⟨ro,rc,so,sc,a1,a2,a3⟩:=hs s h
 exact⟨ro,rc,so,sc,a1,a2,a3.keep k h0⟩
theorem OrsAt.keep {S:Nat→Prop} {tg tg':Nat→Nat} {w w':World} {ob n:Nat} {od:List (List Wir.Od)} (h:OrsAt tg w ob n od) (k:KeepP S tg tg' w w') (h0:S 0) (h3:S 3) (hr:∀s,S (10+3*s)):OrsAt tg' w' ob n od:=by
 obtain⟨e,f,hf,hs⟩:=h
 obtain⟨e1,e2⟩:=rowIs_keep hf k (by rw[e];exact h3)
 exact⟨e1.trans e,f,e2,fun s h=>(hs s h).keep k h0 (hr s)⟩
theorem BksAt.keep {S:Nat→Prop} {tg tg':Nat→Nat} {w w':World} {bb n:Nat} {bk:List (List Int)} (h:BksAt tg w bb n bk) (k:KeepP S tg tg' w w') (h4:S 4) (hr:∀s,S (11+3*s)):BksAt tg' w' bb n bk:=by
 obtain⟨e,f,hf,hs⟩:=h
 obtain⟨e1,e2⟩:=rowIs_keep hf k (by rw[e];exact h4)
 exact⟨e1.trans e,f,e2,fun s h=>(hs s h).keep k (hr s)⟩
theorem PksAt.keep {S:Nat→Prop} {tg tg':Nat→Nat} {w w':World} {pk:List Pk} {v:Value} (h:PksAt tg w pk v) (k:KeepP S tg tg' w w') (h5:S 5) (hr:∀i,S (12+3*i)):PksAt tg' w' pk v:=by
 obtain⟨xs,h1,h2⟩:=h
 refine⟨xs,h1.keep k h5,fun i hi=>?_⟩
 obtain⟨tv,a0,a1,a2,a3,a4⟩:=h2 i hi
 exact⟨tv,a0,a1,a2,a3,a4.keep k (hr i)⟩
theorem PlsAt.keep {S:Nat→Prop} {tg tg':Nat→Nat} {w w':World} {pn:List Pl} {v:Value} (h:PlsAt tg w pn v) (k:KeepP S tg tg' w w') (h0:S 0) (h6:S 6):PlsAt tg' w' pn v:=by
 obtain⟨xs,h1,h2⟩:=h
 refine⟨xs,h1.keep k h6,fun i hi=>?_⟩
 obtain⟨a,a0,a1,a2,a3⟩:=h2 i hi
 exact⟨a,a0,a1,a2,a3.keep k h0⟩
def wdL (c:Co) (a:CA) (n sb ob bb:Nat) (kv lv:Value) (tl:List Value):List Value:=
 [.int .i64 c.st,.int .i64 c.now.v,.slice a.n.fo c.now.fs.length a.n.fc,.slice a.n.qo c.now.ps.length a.n.qc,.int .i64 c.nxt.v,.slice a.x.fo c.nxt.fs.length a.x.fc,.slice a.x.qo c.nxt.ps.length a.x.qc,.int .i64 c.num,.slice a.wo c.wts.length a.wc,.slice (some ⟨sb,0,none⟩) n n,.slice (some ⟨ob,0,none⟩) n n,.slice (some ⟨bb,0,none⟩) n n,kv,lv]++tl
structure WSt (T:TypeId) (tl:List Value) (w0:World) (P n:Nat) (tg:Nat→Nat) (w:World) (W:Wd) (a:CA) (sb ob bb:Nat) (kv lv:Value):Prop where
 row:w.rowIs P T (14+tl.length) (fun j=>(wdL W.co a n sb ob bb kv lv tl).getD j vd)
 co:Stb (fun b=>tg b=0) w (fun U=>CoAt U W.co a)
 sws:SwsAt tg w sb n W.sw
 ors:OrsAt tg w ob n W.od
 bks:BksAt tg w bb n W.bk
 pks:PksAt tg w W.pk kv
 pls:PlsAt tg w W.pn lv
 tP:tg P=1
 nw:∀b,w.heap.size≤b→tg b=0
 base:∀b,tg b≠0→w0.heap.size≤b
 ext:Ext w0 w
theorem WSt.toExt {T:TypeId} {tl:List Value} {w0 w w':World} {P n:Nat} {tg:Nat→Nat} {W:Wd} {a:CA} {sb ob bb:Nat} {kv lv:Value} (h:WSt T tl w0 P n tg w W a sb ob bb kv lv) (E:Ext w w'):WSt T tl w0 P n tg w' W a sb ob bb kv lv:=
 ⟨h.row.of_block (Below.block E _ h.row.lt),h.co.keep (KeepP.ext (S:=fun _=>True) E) trivial,h.sws.keep (KeepP.ext (S:=fun _=>True) E) trivial trivial,h.ors.keep (KeepP.ext (S:=fun _=>True) E) trivial trivial (fun _=>trivial),h.bks.keep (KeepP.ext (S:=fun _=>True) E) trivial (fun _=>trivial),h.pks.keep (KeepP.ext (S:=fun _=>True) E) trivial (fun _=>trivial),h.pls.keep (KeepP.ext (S:=fun _=>True) E) trivial trivial,h.tP,fun b hb=>h.nw b (Nat.le_trans E.size hb),h.base,h.ext.trans E⟩
def Kpt (tg tg':Nat→Nat) (w w':World):Prop:=KeepP (fun x=>x=0∨x=7∨x=8) tg tg' w w'
theorem Kpt.ext {tg:Nat→Nat} {w w':World} (E:Ext w w'):Kpt tg tg w w':=KeepP.ext E
theorem WSt.putP {T:TypeId} {tl:List Value} {w0 w w':World} {P n:Nat} {tg:Nat→Nat} {W:Wd} {a a':CA} {sb ob bb:Nat} {kv lv kv' lv':Value} {c':Co} {pk':List Pk} {pn':List Pl} (h:WSt T tl w0 P n tg w W a sb ob bb kv lv)
 (hs:w'.heap.size=w.heap.size) (hb:∀b,b≠P→w'.heap[b]? =w.heap[b]?) (hE:Ext w0 w') (hr:w'.rowIs P T (14+tl.length) (fun j=>(wdL c' a' n sb ob bb kv' lv' tl).getD j vd)) (hc:Stb (fun b=>tg b=0) w (fun U=>CoAt U c' a')) (hk:PksAt tg w pk' kv') (hl:PlsAt tg w pn' lv'):
 WSt T tl w0 P n tg w' ⟨c',W.sw,W.od,W.bk,pk',pn'⟩ a' sb ob bb kv' lv'∧Kpt tg tg w w':=by
 have k:KeepP (fun x=>x≠1) tg tg w w':=⟨Nat.le_of_eq hs.symm,fun b _ hx=>⟨rfl,hb b (fun e=>hx (by rw[e];exact h.tP))⟩⟩
 exact⟨⟨hr,hc.keep k (by decide),h.sws.keep k (by decide) (by decide),h.ors.keep k (by decide) (by decide) (fun s=>by omega),h.bks.keep k (by decide) (fun s=>by omega),hk.keep k (by decide) (fun s=>by omega),hl.keep k (by decide) (by decide),h.tP,fun b hb'=>h.nw b (by omega),h.base,hE⟩,k.mono (fun x hx=>by omega)⟩
end Go.Proofs.Ytolclgbpjiokfaa.Rm
