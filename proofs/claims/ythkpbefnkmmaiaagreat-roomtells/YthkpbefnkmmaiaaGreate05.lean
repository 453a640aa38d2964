import Derived.Test.YthkpbefnkmmaiaaGreate04
import Derived.Lib.LazyBuf
import Derived.Deep.RegionHeld3
set_option maxRecDepth 100000
set_option maxHeartbeats 2000000
namespace Go.Proofs.YthkpbefnkmmaiaaGreat
open Go.Proofs.Tryz
section
open Go.RowKit Go.Maps Stw Go.Deep
theorem q8k:(prog.info? 3).map (fun i=>(i.zero,i.size,i.bytes))=some (some (.int .i64 0),1,8):=by kernel_rfl
theorem q5s(b off n c:Nat)(ps:List Int)(w:World)(hn:ps.length=n)(hb:n*8<=140737488351232)(hp:Q9 w b off ps):
 Calls prog 68 #[.slice (some ⟨b,off,none⟩) n c] w fun e w'=>∃v',e=.returned v'/\w'.ownsRow w.heap.size 3 1 v' n (ps.map (Value.int .i64))/\v'≠.slice none 0 0/\Ext w w':=by
 obtain⟨i0,hi,hz0,hz1,hz2⟩:=info_parts q8k
 have hq:∀(w:World) (a:Option Addr) (n c:Nat),(binOp .eql 104 (.slice a n c) (.slice none 0 0)).run prog w=.ok (.bool a.isNone) w:=fun w a n c=>Lib.run_eql_slice_nil w _ _ a n c 0 0 underlying104
 have A:=Qa hp
 clear hp
 go_enter func68,ntmps68
 go_wp2_with (at_builtin;refine wpList_append_own _ rfl _ _ 104 rfl w.heap.size 3 i0 (.int .i64 0) 1 8 underlying104 hi hz0 hz1 hz2 rfl (by decide) _ _ _ rfl (World.ownsRow_made w #[] 0 (Ql _) (Zu _) rfl) ⟨b,off,none⟩ n c (ps.map (Value.int .i64)) rfl ?qc1 ?qc2 ?qc3 ?qc4 ?qc5 ?qc6 ?_)
 case qc1=>simp;omega
 case qc2=>
  intro j u hj
  have hjn:j<ps.length:=by have:=(List.getElem?_eq_some_iff.1 hj).1;simpa using this
  have e:(⟨b,off,none⟩:Addr).add j=⟨b,off+j,none⟩:=Addr.add_mid b off j
  rw[e]
  have h1:=A.out j hjn
  have hlt:b<w.heap.size:=by
   rcases Nat.lt_or_ge b w.heap.size with h | h
   ·exact h
   ·have:w.heap[b]? =none:=by simp[h]
    simp[World.cell?,this] at h1
  rw[World.cell?_alloc_past _ _ _ hlt,h1]
  rw[List.getElem?_map,List.getElem?_eq_getElem hjn] at hj
  simp at hj
  rw[<-hj]
  simp[hjn]
 case qc3=>intro u hu;obtain⟨x,_,rfl⟩:=List.mem_map.1 hu;rfl
 case qc4=>unfold maxLen;omega
 case qc5=>omega
 case qc6=>simp
 intro v' w1 hown hgrow hnil
 go_wp2
 go_ret
 refine⟨v',rfl,by simpa using hown,hnil,?_⟩
 exact((Below.refl _ w).alloc (Ql _) _).grown hgrow (by simp) (by intro k hk;simp[Value.ownBlock] at hk;omega)
def sF (C:Int->Int->Int) (fr to:Int) (vv nv:Value) (cl:List Int) (wv bv:Value) (l:Int) (j:Nat):Value:=
 if j<64 then .int .i64 (C ((j / 8:Nat):Int) ((j % 8:Nat):Int)) else if j=64 then .int .i64 fr else if j=65 then .int .i64 to else if j=66 then vv else if j=67 then nv
 else if j<76 then .bool (decide (((j - 68:Nat):Int)∈cl)) else if j=76 then wv else if j=77 then bv else .int .i64 l
variable {C:Int->Int->Int} {fr to l:Int} {vv nv wv bv:Value} {x:Nat}
theorem sF_close{cl:List Int}(hx:x<8)(j:Nat):(if j=68+x then Value.bool true else sF C fr to vv nv cl wv bv l j)=sF C fr to vv nv ((x:Int)::cl) wv bv l j:=by
 unfold sF
 by_cases h:j=68+x
 ·subst h
  simp[show ¬68+x<64 by omega,show ¬68+x=64 by omega,show ¬68+x=65 by omega,show ¬68+x=66 by omega,show ¬68+x=67 by omega,show 68+x<76 by omega]
 ·rw[if_neg h]
  repeat' split
  all_goals first | rfl | skip
  congr 1
  rw[decide_eq_decide,List.mem_cons]
  constructor
  ·exact Or.inr
  ·rintro(e | e)
   ·omega
   ·exact e
theorem sF_open{cl:List Int}(hx:x<8)(hn:¬(x:Int)∈cl)(j:Nat):(if j=68+x then Value.bool false else sF C fr to vv nv ((x:Int)::cl) wv bv l j)=sF C fr to vv nv cl wv bv l j:=by
 unfold sF
 by_cases h:j=68+x
 ·subst h
  simp[show ¬68+x<64 by omega,show ¬68+x=64 by omega,show ¬68+x=65 by omega,show ¬68+x=66 by omega,show ¬68+x=67 by omega,show 68+x<76 by omega,hn]
 ·rw[if_neg h]
  repeat' split
  all_goals first | rfl | skip
  congr 1
  rw[decide_eq_decide,List.mem_cons]
  constructor
  ·rintro(e | e)
   ·omega
   ·exact e
  ·exact Or.inr
theorem sF_way{v:Value}{cl:List Int}(j:Nat):(if j=76 then v else sF C fr to vv nv cl wv bv l j)=sF C fr to vv nv cl v bv l j:=by
 unfold sF
 by_cases h:j=76
 ·subst h;simp
 ·simp[h]
theorem sF_best{l':Int}{v:Value}{cl:List Int}{j:Nat}(hj:j<79):(if j=78 then Value.int .i64 l' else if j=77 then v else sF C fr to vv nv cl wv bv l j)=sF C fr to vv nv cl wv v l' j:=by
 unfold sF
 by_cases h:j=78
 ·subst h;simp
 ·by_cases h2:j=77
  ·subst h2;simp
  ·rw[if_neg h,if_neg h2]
   repeat' split
   all_goals first | rfl | omega
def z6d (w:World) (S:Nat) (wv bv:Value) (l:Int):Option (List Int×Int)->Prop
 | none=>bv=.slice none 0 0
 | some (p,c)=>∃g cap,bv=.slice (some ⟨g,0,none⟩) p.length cap/\S<g/\g<w.heap.size/\Q9 w g 0 p/\wv.ownBlock≠some g/\l=c/\p.length<=cap
structure SA (w:World) (S:Nat) (C:Int->Int->Int) (fr to:Int) (vv nv:Value) (cl way:List Int) (wv bv:Value) (l:Int) (Zk:Option (List Int×Int)):Prop where
 row:w.rowIs S 190 79 (sF C fr to vv nv cl wv bv l)
 own:w.ownsRow (S+1) 3 1 wv way.length (way.map (Value.int .i64))
 Zk:z6d w S wv bv l Zk
end
section
open Go.RowKit Go.Maps Stw Go.Deep Stp
def SE (w:World) (S:Nat) (C:Int->Int->Int) (fr to:Int) (vv nv:Value) (cl way:List Int) (Zk:Option (List Int×Int)):Prop:=∃wv bv l,SA w S C fr to vv nv cl way wv bv l Zk
def VA (w:World) (S:Nat) (vo:Option Addr) (via:List Int):Prop:=via=[]\/∃b off,vo=some ⟨b,off,none⟩/\b<S/\Q9 w b off via
theorem VA.below{w w':World}{S:Nat}{vo:Option Addr}{via:List Int}(h:VA w S vo via)(k:Below S w w'):VA w' S vo via:=by
 rcases h with h | ⟨b,off,h1,h2,h3⟩
 ·exact Or.inl h
 ·exact Or.inr ⟨b,off,h1,h2,fun i hi=>(k.cell (p:=⟨b,off+i,none⟩) h2).trans (h3 i hi)⟩
def z2x (S:Nat) (C:Int->Int->Int) (fr to:Int) (vo:Option Addr) (vc:Nat) (nv:Value) (via:List Int) (k:Nat):Prop:=
 ∀(cl way:List Int) (x:Nat) (c:Int) (m:Nat) (Zk:Option (List Int×Int)) (w:World),way.length+k=8->way.Nodup->(∀y∈way,0<=y/\y<8)->(∀y∈way,y∈cl)->x<8->¬(x:Int)∈cl->0<=c->c<=1000*(way.length:Int)->m<=via.length->
  VA w S vo via->SE w S C fr to (.slice vo via.length vc) nv cl way Zk->
  Calls prog 110 #[.pointer (some ⟨S,0,none⟩),.int .i64 x,.int .i64 c,.int .i64 m] w fun e w'=>e=.returned (.tuple #[])/\Below S w w'/\SE w' S C fr to (.slice vo via.length vc) nv cl way (ent C to via k cl way x c m Zk)
def rowL (C:Int->Int->Int) (x:Nat):List Value:=(List.range 8).map fun(j:Nat)=>Value.int .i64 (C x j)
theorem rowL_get{C:Int->Int->Int}{x j:Nat}(h:j<8):(rowL C x)[j]? =some (.int .i64 (C x j)):=by simp[rowL,h]
theorem rowL_at{w:World}{S:Nat}{C:Int->Int->Int}{fr to l:Int}{vv nv wv bv:Value}{cl:List Int}{x:Nat}(hx:x<8)(h:w.rowIs S 190 79 (sF C fr to vv nv cl wv bv l)):w.rangeAt S (x*8) (rowL C x):=by
 intro j v hj
 have hj8:j<8:=by have:=(List.getElem?_eq_some_iff.1 hj).1;simpa[rowL] using this
 rw[rowL_get hj8] at hj
 injection hj with hj
 rw[h.cell (i:=x*8+j) (by omega), <-hj]
 simp only[sF,if_pos (show x*8+j<64 by omega),show(x*8+j) / 8=x by omega,show(x*8+j) % 8=j by omega]
theorem q0f{w:World}{S:Nat}{C:Int->Int->Int}{fr to l:Int}{vv nv wv bv:Value}{cl:List Int}{x:Nat}(hx:x<8)(h:w.rowIs S 190 79 (sF C fr to vv nv cl wv bv l)):w.cell? ⟨S,68+x,none⟩=some (.bool (decide ((x:Int)∈cl))):=by
 rw[h.cell (i:=68+x) (by omega)]
 simp[sF,show ¬68+x<64 by omega,show ¬68+x=64 by omega,show ¬68+x=65 by omega,show ¬68+x=66 by omega,show ¬68+x=67 by omega,show 68+x<76 by omega]
theorem row_index{C:Int->Int->Int}{x j:Nat}(h:j<8)(w:World):(Instr.index 160 (.agg (rowL C x).toArray) (.int .i64 j)).run prog w=.ok (.int .i64 (C x j)) w:=by
 have h1:(0:Int)<=(j:Int)/\(j:Int)<8:=by omega
 have h2:=rowL_get (C:=C) (x:=x) h
 have hi:(sizeOf 3).run prog w=.ok 1 w:=by kernel_rfl
 simp[Instr.index,asIntOf,run_underlying underlying160,h1,hi,part,h2]
 omega
def goF (C:Int->Int->Int) (to:Int) (via:List Int) (k:Nat) (cl way:List Int) (x:Int) (c:Int) (m:Nat) (b:Option (List Int×Int)) (s:Nat):Option (List Int×Int):=
 if 0<C x (s:Int)/\¬(s:Int)∈cl then ent C to via k cl way (s:Int) (c+C x (s:Int)) m b else b
theorem q2y{S:Nat}{C:Int->Int->Int}{fr to:Int}{vo:Option Addr}{vc:Nat}{nv:Value}{via:List Int}{k:Nat}(hC:∀a b,0<=C a b/\C a b<=1000)(IH:z2x S C fr to vo vc nv via k)(cl way:List Int)(x:Nat)(c:Int)(m:Nat)(Zk:Option (List Int×Int))(w:World)(hwk:way.length+k=8)(hnd:way.Nodup)(hrg:∀y∈way,0<=y/\y<8)(hcl:∀y∈way,y∈cl)(hx:x<8)(hc0:0<=c)(hc1:c<=1000*((way.length:Int) - 1))(hm:m<=via.length)(hv:VA w S vo via)(hs:SE w S C fr to (.slice vo via.length vc) nv cl way Zk):
 Calls prog 122 #[.pointer (some ⟨S,0,none⟩),.int .i64 x,.int .i64 c,.int .i64 m] w fun e w'=>e=.returned (.tuple #[])/\Below S w w'/\SE w' S C fr to (.slice vo via.length vc) nv cl way ((List.range 8).foldl (goF C to via k cl way x c m) Zk):=by
 have hwl:way.length<=8:=by omega
 obtain⟨wv0,bv0,l0,hsa0⟩:=hs
 have hrange:=rowL_at hx hsa0.row
 go_enter func122,ntmps122
 go_wp2_with (refine wpList_load_mid rfl 160 (.tmp 14) rfl S (x*8) rfl (rowL C x) _ hrange underlying160 rfl (by kernel_rfl) ?_)
 go_loopw [16] (fun iv wr=>∃j:Nat,j<=8/\iv=.int .i64 j/\Below S w wr/\SE wr S C fr to (.slice vo via.length vc) nv cl way ((List.range j).foldl (goF C to via k cl way x c m) Zk)) (fun iv _=>8 - (intOf iv).toNat)
 case atStart=>exact⟨0,by omega,rfl,Below.refl _ _,wv0,bv0,l0,hsa0⟩
 case round=>
  obtain⟨j,hj,rfl,hbel,hse⟩:=hrel
  by_cases hlt:j<8
  ·have hidx:=row_index (C:=C) (x:=x) hlt
   have hse':=hse
   obtain⟨wv,bv,l,hsa⟩:=hse
   have cc:=q0f (x:=j) hlt hsa.row
   have hCj:=hC x j
   have hfold:(List.range (j+1)).foldl (goF C to via k cl way x c m) Zk=goF C to via k cl way x c m ((List.range j).foldl (goF C to via k cl way x c m) Zk) j:=by rw[List.range_succ,List.foldl_append];rfl
   have HFo:=Qa hfold
   obtain⟨b1,hb1⟩:=Qy ((List.range j).foldl (goF C to via k cl way x c m) Zk)
   rw[<-hb1] at hse' HFo
   obtain⟨v,hv0⟩:=Qy (C x j)
   have HV:=Qa hv0
   rw[<-hv0] at hidx hCj
   clear hv0 hfold hsa hb1
   by_cases hp:0<v
   ·cases hd:decide ((j:Int)∈cl)
    ·rw[hd] at cc
     have hnm:¬(j:Int)∈cl:=of_decide_eq_false hd
     have HN:=Qa hnm
     clear hd hnm
     go_wp2_with fail
     refine(IH cl way j (c+v) m b1 _ hwk hnd hrg hcl hlt HN.out (by omega) (by omega) hm (hv.below hbel) hse').mono ?_
     rintro e w1 ⟨rfl,hbel1,hse1⟩
     go_wp2
     go_roundw
     case rel=>
      refine⟨j+1,by omega,by go_num,hbel.trans hbel1,?_⟩
      rw[HFo.out,goF,if_pos ⟨by rw[<-HV.out];exact hp,HN.out⟩, <-HV.out]
      exact hse1
     case measure=>simp[intOf];omega
    ·rw[hd] at cc
     have hnm:(j:Int)∈cl:=of_decide_eq_true hd
     have HN:=Qa hnm
     clear hd hnm
     go_wp2
     go_roundw
     case rel=>
      refine⟨j+1,by omega,by go_num,hbel,?_⟩
      rw[HFo.out,goF,if_neg (fun h=>h.2 HN.out)]
      exact hse'
     case measure=>simp[intOf];omega
   ·go_wp2
    go_roundw
    case rel=>
     refine⟨j+1,by omega,by go_num,hbel,?_⟩
     rw[HFo.out,goF,if_neg (fun h=>hp (by rw[HV.out];exact h.1))]
     exact hse'
    case measure=>simp[intOf];omega
  ·go_wp2
   obtain rfl:j=8:=by omega
   go_end0
   exact⟨rfl,hbel,hse⟩
theorem q3l{w:World}{base:Nat}{e:TypeId}{size g n cap:Nat}{xs:List Value}(h:w.ownsRow base e size (.slice (some ⟨g,0,none⟩) n cap) n xs):n<=cap/\cap<=maxLen:=by
 rcases h.2 with⟨h0,_⟩ | ⟨g',cap',cur,hv,_,_,h1,h2,_⟩
 ·cases h0
 ·cases hv;exact⟨h1,h2⟩
section
variable {w:World} {S:Nat} {C:Int->Int->Int} {fr to l:Int} {vv nv wv bv:Value} {cl way:List Int} {Zk:Option (List Int×Int)}
theorem q8h{w w':World}{g o:Nat}{p:List Int}(h:Q9 w g o p)(e:w'.heap[g]? =w.heap[g]?):Q9 w' g o p:=fun i hi=>(cob (a:=⟨g,o+i,none⟩) e).trans (h i hi)
theorem z6d.kept{w':World}{wv':Value}(h:z6d w S wv bv l Zk)(hsz:w.heap.size<=w'.heap.size)(hb:∀g,S<g->g<w.heap.size->wv.ownBlock≠some g->w'.heap[g]? =w.heap[g]?)(hv:∀g,S<g->g<w.heap.size->wv.ownBlock≠some g->wv'.ownBlock≠some g):z6d w' S wv' bv l Zk:=by
 cases Zk with
 | none=>exact h
 | some x=>
  obtain⟨p,c⟩:=x
  obtain⟨g,cap,h1,h2,h3,h4,h5,h6,h7⟩:=h
  exact⟨g,cap,h1,h2,by omega,q8h h4 (hb g h2 h3 h5),hv g h2 h3 h5,h6,h7⟩
theorem SA.close(h:SA w S C fr to vv nv cl way wv bv l Zk){x:Nat}(hx:x<8):SA (w.setCell ⟨S,68+x,none⟩ (.bool true)) S C fr to vv nv ((x:Int)::cl) way wv bv l Zk:=
 ⟨(h.row.set _ _).congr (fun j _=>sF_close hx j),ownsRow_setCell_below h.own (by simp) _,h.Zk.kept (by simp) (fun g hg _ _=>Zm _ _ _ _ (by simp;omega)) (fun g _ _ h=>h)⟩
theorem SA.q7x{x:Nat}(h:SA w S C fr to vv nv ((x:Int)::cl) way wv bv l Zk)(hx:x<8)(hn:¬(x:Int)∈cl):SA (w.setCell ⟨S,68+x,none⟩ (.bool false)) S C fr to vv nv cl way wv bv l Zk:=
 ⟨(h.row.set _ _).congr (fun j _=>sF_open hx hn j),ownsRow_setCell_below h.own (by simp) _,h.Zk.kept (by simp) (fun g hg _ _=>Zm _ _ _ _ (by simp;omega)) (fun g _ _ h=>h)⟩
theorem SA.push{w':World}{o:Obj}{x:Int}{g cap:Nat}(h:SA w S C fr to vv nv cl way wv bv l Zk)(hown:w'.ownsRow (S+1) 3 1 (.slice (some ⟨g,0,none⟩) (way.length+1) cap) (way.length+1) (way.map (Value.int .i64)++[.int .i64 x]))(hg:(w.alloc o).grownBy w' wv.ownBlock)(Q2:wv.ownBlock=some g\/g=w.heap.size+1):
 SA (w'.setCell ⟨S,76,none⟩ (.slice (some ⟨g,0,none⟩) (way.length+1) cap)) S C fr to vv nv cl (way++[x]) (.slice (some ⟨g,0,none⟩) (way.length+1) cap) bv l Zk:=by
 have hS:=h.row.lt
 have hne:wv.ownBlock≠some S:=by
  intro e
  have:=(h.own.lt S e).1
  omega
 have hblk:∀k,k<w.heap.size->wv.ownBlock≠some k->w'.heap[k]? =w.heap[k]?:=fun k hk hk2=>(hg.block k (by simp;omega) (fun e=>hk2 e.symm)).trans (bal _ _ _ hk)
 refine⟨((h.row.of_block (hblk S hS hne)).set 76 _).congr (fun j _=>sF_way j),?_,h.Zk.kept ?_ (fun k hk1 hk2 hk3=>?_) (fun k hk1 hk2 hk3=>?_)⟩
 ·have:=ownsRow_setCell_below hown (a:=⟨S,76,none⟩) (by simp) (.slice (some ⟨g,0,none⟩) (way.length+1) cap)
  simpa using this
 ·have:=hg.size
  simp at this ⊢
  omega
 ·rw[Zm _ _ _ _ (by simp;omega)]
  exact hblk k hk2 hk3
 ·intro e
  have e':g=k:=by simpa[Value.ownBlock] using e
  subst e'
  rcases Q2 with h1 | h1
  ·exact hk3 h1
  ·omega
theorem SA.pop{x:Int}{n g cap:Nat}(h:SA w S C fr to vv nv cl (way++[x]) (.slice (some ⟨g,0,none⟩) n cap) bv l Zk)(hn:n=way.length+1):
 SA (w.setCell ⟨S,76,none⟩ (.slice (some ⟨g,0,none⟩) way.length cap)) S C fr to vv nv cl way (.slice (some ⟨g,0,none⟩) way.length cap) bv l Zk:=by
 subst hn
 refine⟨(h.row.set 76 _).congr (fun j _=>sF_way j),?_,h.Zk.kept (by simp) (fun k hk _ _=>Zm _ _ _ _ (by simp;omega)) (fun k _ _ h=>by simpa[Value.ownBlock] using h)⟩
 refine ownsRow_setCell_below ?_ (by simp) _
 have:=h.own
 simp only[lap,List.length_cons,List.length_nil,List.map_append,List.map_cons,List.map_nil] at this
 exact ownsRow_pop (by simp) this
theorem SA.Qh{w':World}{v':Value}{p:List Int}{c:Int}(h:SA w S C fr to vv nv cl way wv bv l Zk)(hE:Ext w w')(hown:w'.ownsRow w.heap.size 3 1 v' way.length (way.map (Value.int .i64)))(hp:0<way.length)(hw:p=way):
 SA ((w'.setCell ⟨S,77,none⟩ v').setCell ⟨S,78,none⟩ (.int .i64 c)) S C fr to vv nv cl way wv v' c (some (p,c)):=by
 subst hw
 have hS:=h.row.lt
 obtain⟨g,cap,rfl,hg1,hg2⟩:=hown.form hp
 refine⟨(((h.row.of_block (Below.block hE _ hS)).set 77 _).set 78 _).congr (fun j hj=>sF_best hj),?_,g,cap,rfl,by omega,by simpa using hg2,?_,?_,rfl,(q3l hown).1⟩
 ·refine ownsRow_setCell_below (ownsRow_setCell_below ?_ (by simp) _) (by simp) _
  have hlt:=h.own.lt
  obtain⟨e1,e2⟩:=h.own
  refine⟨e1,?_⟩
  rcases e2 with e3 | ⟨g',cap',cur,hv,hb,hgc,r⟩
  ·exact Or.inl e3
  ·refine Or.inr ⟨g',cap',cur,hv,hb,(Below.block hE g' (hlt g' (by rw[hv];rfl)).2).trans hgc,r⟩
 ·intro i hi
  rw[World.cell?_setCell_other _ _ _ _ (by intro e;have:=congrArg Addr.block e;simp at this;omega),World.cell?_setCell_other _ _ _ _ (by intro e;have:=congrArg Addr.block e;simp at this;omega),Nat.zero_add,hown.cellAt i (by omega),List.getElem?_map,List.getElem?_eq_getElem hi]
  simp[hi]
 ·intro e
  have:=(h.own.lt g e).2
  omega
end
theorem z6t(w:World)(a:Option Addr)(n c:Nat):(binOp .neq 104 (.slice a n c) (.slice none 0 0)).run prog w=.ok (.bool (!a.isNone)) w:=by
 have h:=run_equal_slice_nil w 104 _ a n c underlying104
 simp[binOp,h]
theorem q0c{w:World}{S:Nat}{C:Int->Int->Int}{fr to l:Int}{vv nv wv bv:Value}{cl:List Int}(h:w.rowIs S 190 79 (sF C fr to vv nv cl wv bv l)):
 w.cell? ⟨S,65,none⟩=some (.int .i64 to)/\w.cell? ⟨S,66,none⟩=some vv/\w.cell? ⟨S,76,none⟩=some wv/\w.cell? ⟨S,77,none⟩=some bv/\w.cell? ⟨S,78,none⟩=some (.int .i64 l)/\(∀i,w.frozen? ⟨S,i,none⟩=false):=
 ⟨h.cell (i:=65) (by omega),h.cell (i:=66) (by omega),h.cell (i:=76) (by omega),h.cell (i:=77) (by omega),h.cell (i:=78) (by omega),fun i=>h.frozen i⟩
theorem goes_on{w:World}{S:Nat}{wv bv:Value}{l c:Int}{Zk:Option (List Int×Int)}(h:z6d w S wv bv l Zk)(hp:¬Zk.any (fun y=>decide (y.2<=c))=true):∃bo bn bc,bv=.slice bo bn bc/\(bo=none\/∃a,bo=some a/\¬l<=c):=by
 cases Zk with
 | none=>exact⟨none,0,0,h,Or.inl rfl⟩
 | some y=>
  obtain⟨p,d⟩:=y
  obtain⟨g,cap,rfl,hb2,hb3,hb4,hb5,rfl,hb7⟩:=h
  exact⟨_,_,_,rfl,Or.inr ⟨_,rfl,by simpa using hp⟩⟩
theorem news1{W:World}{n:Nat}(h:W.heap.size=n)(v:Value)(T:TypeId):∀(j:Nat) (u:Value),[v][j]? =some u->(W.alloc (.cells #[v] T)).cell? ((⟨n,0,none⟩:Addr).add j)=some u:=by
 intro j u hj
 subst h
 match j,hj with
 | 0,hj=>simp at hj;subst hj;simp[Addr.add]
theorem one1(x:Int):∀u∈[Value.int .i64 x],u.oneCell'=true:=by intro u hu;simp at hu;subst hu;rfl
theorem q2d(l:List Int)(x:Int):(l++[x]).length=l.length+1:=by simp
theorem z1x{l:List Int}{x:Int}(h:l.Nodup)(hx:¬x∈l):(l++[x]).Nodup:=by
 rw[List.nodup_append]
 refine⟨h,by simp,fun a ha b hb=>?_⟩
 simp at hb
 subst hb
 intro e
 subst e
 exact hx ha
theorem z1g{l:List Int}{x:Nat}(h:∀y∈l,0<=y/\y<8)(hx:x<8):∀y∈l++[(x:Int)],0<=y/\y<8:=by
 intro y hy
 rcases List.mem_append.1 hy with hy | hy
 ·exact h y hy
 ·simp at hy;subst hy;omega
theorem z8a{l cl:List Int}{x:Int}(h:∀y∈l,y∈cl):∀y∈l++[x],y∈x::cl:=by
 intro y hy
 rcases List.mem_append.1 hy with hy | hy
 ·exact List.mem_cons_of_mem _ (h y hy)
 ·simp at hy;subst hy;simp
theorem SA.drew{w:World}{S:Nat}{C:Int->Int->Int}{fr to l:Int}{vv nv wv bv:Value}{cl way:List Int}{Zk:Option (List Int×Int)}(h:SA w S C fr to vv nv cl way wv bv l Zk):SA w.drew S C fr to vv nv cl way wv bv l Zk:=
 ⟨h.row.drew,h.own.drew,h.Zk.kept (Ql _) (fun _ _ _ _=>rfl) (fun _ _ _ h=>h)⟩
theorem own_ints{w:World}{base g n cap:Nat}{L:List Int}(h:w.ownsRow base 3 1 (.slice (some ⟨g,0,none⟩) n cap) L.length (L.map (Value.int .i64))):Q9 w g 0 L:=by
 intro i hi
 have hn:n=L.length:=by
  rcases h.2 with⟨h0,_⟩ | ⟨g',cap',cur,hv,_⟩
  ·cases h0
  ·cases hv;rfl
 subst hn
 rw[Nat.zero_add,h.cellAt i (by omega),List.getElem?_map,List.getElem?_eq_getElem hi]
 simp[hi]
theorem met_next{w:World}{S m:Nat}{vo:Option Addr}{via:List Int}(x:Int)(h:VA w S vo via)(hm:m<=via.length):(m=via.length/\mtv via m x=m)\/∃b off y,m<via.length/\vo=some ⟨b,off,none⟩/\b<S/\w.cell? ⟨b,off+m,none⟩=some (.int .i64 y)/\((y == x)=true/\mtv via m x=m+1\/(y == x)=false/\mtv via m x=m):=by
 by_cases hlt:m<via.length
 ·right
  rcases h with rfl | ⟨b,off,h1,h2,h3⟩
  ·simp at hlt
  ·refine⟨b,off,via.getD m 0,hlt,h1,h2,h3 m hlt,?_⟩
   have e:via[m]? =some (via.getD m 0):=by simp[List.getElem?_eq_getElem hlt]
   cases hxy:(via.getD m 0 == x)
   ·right
    refine⟨rfl,?_⟩
    have:via.getD m 0≠x:=by simpa using hxy
    rw[mtv,e,if_neg (by intro h;injection h with h;exact this h)]
   ·left
    have:via.getD m 0=x:=by simpa using hxy
    exact⟨rfl,by rw[mtv,e,if_pos (by rw[this])]⟩
 ·left
  have:m=via.length:=by omega
  refine⟨this,?_⟩
  rw[mtv,if_neg]
  subst this
  simp
theorem enter_step{S:Nat}{C:Int->Int->Int}{fr:Int}{to:Int}{vo:Option Addr}{vc:Nat}{nv:Value}{via:List Int}(hC:∀a b,0<=C a b/\C a b<=1000)(hvl:via.length<=4611686018427387904){k:Nat}(IH:z2x S C fr to vo vc nv via k):z2x S C fr to vo vc nv via (k+1):=by
 intro cl way x c m Zk w hwk hnd hrg hcl hx hxc hc0 hc1 hm hv hs
 have hwl:way.length<=8:=by omega
 have hs':=hs
 obtain⟨wv,bv,l,hsa⟩:=hs
 obtain⟨c65,c66,c76,c77,c78,hfz⟩:=q0c hsa.row
 have hneq:=z6t
 by_cases hpr:Zk.any (fun y=>decide (y.2<=c))=true
 ·
  have hent:ent C to via (k+1) cl way x c m Zk=Zk:=by unfold ent;rw[if_pos hpr]
  rw[hent]
  cases Zk with
  | none=>simp at hpr
  | some y=>
   obtain⟨p,d⟩:=y
   simp only[Option.any_some,decide_eq_true_eq] at hpr
   obtain⟨g,cap,rfl,hb2,hb3,hb4,hb5,rfl,hb7⟩:=hsa.Zk
   go_enter func110,ntmps110
   go_wp2
   refine bodyPost_ret_by (v:=.tuple #[]) ?_ rfl ⟨rfl,Below.refl _ _,hs'⟩
   simp[results,results110]
 ·have HE:Hid (ent C to via (k+1) cl way x c m Zk=if(x:Int)=to then(if mtv via m x=via.length then some (way++[(x:Int)],c) else Zk) else(List.range 8).foldl (goF C to via k ((x:Int)::cl) (way++[(x:Int)]) x c (mtv via m x)) Zk):=by
   unfold ent;rw[if_neg hpr];exact Qa rfl
  obtain⟨bo,bn,bc,rfl,hbo⟩:=goes_on hsa.Zk hpr
  obtain⟨i0,hi,hz0,hz1,hz2⟩:=info_parts q8k
  have hsa1:=hsa.close hx
  have hbl1:Below S w (w.setCell ⟨S,68+x,none⟩ (.bool true)):=(Below.refl _ _).setCell (by simp) _
  have hcc:=q0f hx hsa.row
  have hSw:=hsa.row.lt
  clear hpr
  rcases hbo with rfl | ⟨a0,rfl,hcl0⟩
  all_goals
   go_enter func110,ntmps110
   go_wp2_with (first | (at_builtin;refine wpList_append_lies _ rfl _ _ 104 rfl (S+1) 3 i0 (.int .i64 0) 1 8 underlying104 hi hz0 hz1 hz2 rfl (by decide) _ _ _ rfl (hsa1.own.alloc _) ⟨w.heap.size,0,none⟩ 1 1 [.int .i64 x] rfl rfl (news1 (by simp) _ _) (one1 _) (by decide) (by unfold maxLen;omega) (by omega) (by simp;omega) _ rfl ?_) | go_in)
   intro g cap w2 hown2 hg2 hat2 hlt2
   have hsa2:=hsa1.push hown2 hg2 (hat2.imp id (fun h=>by simpa using h))
   have hbl2:Below S w w2:=(hbl1.alloc (by have:=hsa.row.lt;simp;omega) _).grown hg2 (by have:=hsa.row.lt;simp;omega) (fun j hj=>by have:=(hsa.own.lt j hj).1;omega)
   have hb2S:w2.heap[S]? =(w.setCell ⟨S,68+x,none⟩ (.bool true)).heap[S]?:=(hg2.block S (by have:=hsa.row.lt;simp;omega) (fun e=>by have:=(hsa.own.lt S e.symm).1;omega)).trans (bal _ _ _ (by simpa using hsa.row.lt))
   obtain⟨d65,d66,d76,d77,d78,dfz⟩:=q0c (hsa1.row.of_block hb2S)
   have dcc:=q0f hx (hsa1.row.of_block hb2S)
   rcases met_next (x:Int) (hv.below hbl2) hm with⟨hml,hmt⟩ | ⟨b,off,y,hml,rfl,hbS,hvc,hyx⟩
   ·have hmlI:¬(m:Int)<(via.length:Int):=by omega
    cases hxt:((x:Int) == to)
    ·have hxt':¬(x:Int)=to:=by simpa using hxt
     have HE':=Qa (HE.out.trans (if_neg hxt'))
     clear HE hxt'
     go_wp2_with fail
     refine(q2y hC IH ((x:Int)::cl) (way++[(x:Int)]) x c (via.length) Zk _ (by simp;omega) (z1x hnd (fun h=>hxc (hcl _ h))) (z1g hrg hx) (z8a hcl) hx hc0 (by simp;omega) (Ql _) ((hv.below hbl2).below ((Below.refl _ _).setCell (by simp) _)) ⟨_,_,_,hsa2⟩).mono ?_
     rintro e w3 ⟨rfl,hbl3,wv3,bv3,l3,hsa3⟩
     obtain⟨g3,cap3,hv3,hg3,hg3'⟩:=hsa3.own.form (by simp)
     rw[q2d] at hv3
     subst hv3
     obtain⟨e65,e66,e76,e77,e78,efz⟩:=q0c hsa3.row
     have hcap3:=q3l (by have:=hsa3.own;rw[q2d] at this;exact this)
     have ecc:=q0f hx hsa3.row
     unfold maxLen at hcap3
     go_wp2
     go_region
     go_wp2
     go_end0
     refine⟨rfl,((((hbl2.setCell (by simp) _).trans hbl3).setCell (by simp) _).setCell (by simp) _).drew,?_⟩
     rw[HE'.out,hmt,hml]
     exact⟨_,_,_,((hsa3.pop (by simp)).q7x hx hxc).drew⟩
    ·have hxt':(x:Int)=to:=by simpa using hxt
     have HE':=Qa (HE.out.trans (if_pos hxt'))
     clear HE hxt'
     have hp2:Q9 (w2.setCell ⟨S,76,none⟩ (.slice (some ⟨g,0,none⟩) (way.length+1) cap)) g 0 (way++[(x:Int)]):=own_ints hsa2.own
     go_wp2_with fail
     refine(q5s g 0 (way.length+1) cap (way++[(x:Int)]) _ (by simp) (by omega) hp2).mono ?_
     rintro e w4 ⟨v',rfl,hown4,hne4,hE4⟩
     obtain⟨g4,cap4,rfl,hg4,hg4'⟩:=hown4.form (by omega)
     have hbS4:=hsa2.row.of_block (Below.block hE4 _ hsa2.row.lt)
     obtain⟨e65,e66,e76,e77,e78,efz⟩:=q0c hbS4
     have hsa3:=hsa2.Qh (c:=c) hE4 (by rw[q2d];exact hown4) (by simp) rfl
     have hbl3:=((hbl2.setCell (p:=⟨S,76,none⟩) (by simp) (.slice (some ⟨g,0,none⟩) (way.length+1) cap)).trans (Below.mono hE4 (by have:=hsa2.row.lt;omega)))
     have hcap3:=q3l hown2
     have ecc:=q0f hx hbS4
     unfold maxLen at hcap3
     go_wp2
     go_region
     go_wp2
     go_end0
     refine⟨rfl,((((hbl3.setCell (by simp) _).setCell (by simp) _).setCell (by simp) _).setCell (by simp) _).drew,?_⟩
     rw[HE'.out,hmt,hml,if_pos rfl]
     exact⟨_,_,_,((hsa3.pop rfl).q7x hx hxc).drew⟩
   ·have hmlI:(m:Int)<(via.length:Int):=by omega
    have hbS':¬b=S:=by omega
    have hbw:b<w2.heap.size:=by have:=hbl2.size;omega
    rcases hyx with⟨hyx,hmt⟩ | ⟨hyx,hmt⟩
    ·cases hxt:((x:Int) == to)
     ·have hxt':¬(x:Int)=to:=by simpa using hxt
      have HE':=Qa (HE.out.trans (if_neg hxt'))
      clear HE hxt'
      go_wp2_with fail
      refine(q2y hC IH ((x:Int)::cl) (way++[(x:Int)]) x c (m+1) Zk _ (by simp;omega) (z1x hnd (fun h=>hxc (hcl _ h))) (z1g hrg hx) (z8a hcl) hx hc0 (by simp;omega) (by omega) ((hv.below hbl2).below ((Below.refl _ _).setCell (by simp) _)) ⟨_,_,_,hsa2⟩).mono ?_
      rintro e w3 ⟨rfl,hbl3,wv3,bv3,l3,hsa3⟩
      obtain⟨g3,cap3,hv3,hg3,hg3'⟩:=hsa3.own.form (by simp)
      rw[q2d] at hv3
      subst hv3
      obtain⟨e65,e66,e76,e77,e78,efz⟩:=q0c hsa3.row
      have hcap3:=q3l (by have:=hsa3.own;rw[q2d] at this;exact this)
      have ecc:=q0f hx hsa3.row
      unfold maxLen at hcap3
      go_wp2
      go_region
      go_wp2
      go_end0
      refine⟨rfl,((((hbl2.setCell (by simp) _).trans hbl3).setCell (by simp) _).setCell (by simp) _).drew,?_⟩
      rw[HE'.out,hmt]
      exact⟨_,_,_,((hsa3.pop (by simp)).q7x hx hxc).drew⟩
     ·have hxt':(x:Int)=to:=by simpa using hxt
      have HE':=Qa (HE.out.trans (if_pos hxt'))
      clear HE hxt'
      by_cases hmm:m+1=via.length
      ·have hmmI:((m:Int)+1 == (via.length:Int))=true:=by simp;omega
       have hp2:Q9 (w2.setCell ⟨S,76,none⟩ (.slice (some ⟨g,0,none⟩) (way.length+1) cap)) g 0 (way++[(x:Int)]):=own_ints hsa2.own
       go_wp2_with fail
       refine(q5s g 0 (way.length+1) cap (way++[(x:Int)]) _ (by simp) (by omega) hp2).mono ?_
       rintro e w4 ⟨v',rfl,hown4,hne4,hE4⟩
       obtain⟨g4,cap4,rfl,hg4,hg4'⟩:=hown4.form (by omega)
       have hbS4:=hsa2.row.of_block (Below.block hE4 _ hsa2.row.lt)
       obtain⟨e65,e66,e76,e77,e78,efz⟩:=q0c hbS4
       have hsa3:=hsa2.Qh (c:=c) hE4 (by rw[q2d];exact hown4) (by simp) rfl
       have hbl3:=((hbl2.setCell (p:=⟨S,76,none⟩) (by simp) (.slice (some ⟨g,0,none⟩) (way.length+1) cap)).trans (Below.mono hE4 (by have:=hsa2.row.lt;omega)))
       have hcap3:=q3l hown2
       have ecc:=q0f hx hbS4
       unfold maxLen at hcap3
       go_wp2
       go_region
       go_wp2
       go_end0
       refine⟨rfl,((((hbl3.setCell (by simp) _).setCell (by simp) _).setCell (by simp) _).setCell (by simp) _).drew,?_⟩
       rw[HE'.out,hmt,if_pos hmm]
       exact⟨_,_,_,((hsa3.pop rfl).q7x hx hxc).drew⟩
      ·have hmmI:((m:Int)+1 == (via.length:Int))=false:=by simp;omega
       obtain⟨e65,e66,e76,e77,e78,efz⟩:=q0c hsa2.row
       have hcap3:=q3l hown2
       have ecc:=q0f hx hsa2.row
       unfold maxLen at hcap3
       go_wp2
       go_region
       go_wp2
       go_end0
       refine⟨rfl,(((hbl2.setCell (by simp) _).setCell (by simp) _).setCell (by simp) _).drew,?_⟩
       rw[HE'.out,hmt,if_neg hmm]
       exact⟨_,_,_,((hsa2.pop rfl).q7x hx hxc).drew⟩
    ·cases hxt:((x:Int) == to)
     ·have hxt':¬(x:Int)=to:=by simpa using hxt
      have HE':=Qa (HE.out.trans (if_neg hxt'))
      clear HE hxt'
      go_wp2_with fail
      refine(q2y hC IH ((x:Int)::cl) (way++[(x:Int)]) x c (m) Zk _ (by simp;omega) (z1x hnd (fun h=>hxc (hcl _ h))) (z1g hrg hx) (z8a hcl) hx hc0 (by simp;omega) hm ((hv.below hbl2).below ((Below.refl _ _).setCell (by simp) _)) ⟨_,_,_,hsa2⟩).mono ?_
      rintro e w3 ⟨rfl,hbl3,wv3,bv3,l3,hsa3⟩
      obtain⟨g3,cap3,hv3,hg3,hg3'⟩:=hsa3.own.form (by simp)
      rw[q2d] at hv3
      subst hv3
      obtain⟨e65,e66,e76,e77,e78,efz⟩:=q0c hsa3.row
      have hcap3:=q3l (by have:=hsa3.own;rw[q2d] at this;exact this)
      have ecc:=q0f hx hsa3.row
      unfold maxLen at hcap3
      go_wp2
      go_region
      go_wp2
      go_end0
      refine⟨rfl,((((hbl2.setCell (by simp) _).trans hbl3).setCell (by simp) _).setCell (by simp) _).drew,?_⟩
      rw[HE'.out,hmt]
      exact⟨_,_,_,((hsa3.pop (by simp)).q7x hx hxc).drew⟩
     ·have hxt':(x:Int)=to:=by simpa using hxt
      have HE':=Qa (HE.out.trans (if_pos hxt'))
      clear HE hxt'
      obtain⟨e65,e66,e76,e77,e78,efz⟩:=q0c hsa2.row
      have hcap3:=q3l hown2
      have ecc:=q0f hx hsa2.row
      unfold maxLen at hcap3
      go_wp2
      go_region
      go_wp2
      go_end0
      refine⟨rfl,(((hbl2.setCell (by simp) _).setCell (by simp) _).setCell (by simp) _).drew,?_⟩
      rw[HE'.out,hmt,if_neg (by omega)]
      exact⟨_,_,_,((hsa2.pop rfl).q7x hx hxc).drew⟩
end
end Go.Proofs.YthkpbefnkmmaiaaGreat
