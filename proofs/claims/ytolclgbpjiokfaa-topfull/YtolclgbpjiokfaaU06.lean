/- What Find answers, for every net and flow: what is wrong with them, that there is no path, or the path; nothing that was there is changed. -/
import Derived.Test.YtolclgbpjiokfaaU05
import Derived.Deep.RegionHeld3
import Derived.Test.YtolclgbpjiokfaaU01
import Derived.Test.YtolclgbpjiokfaaU03
import Derived.Deep.RegionWith
namespace Go.Proofs.Ytolclgbpjiokfaa
open Go.RowKit Go.Maps Stw Go.Deep Stp
theorem run_neq_nil (w:World) (a:Option Addr) (n c:Nat):(binOp .neq 51 (.slice a n c) (.slice none 0 0)).run Try.prog w=.ok (.bool (!a.isNone)) w:=by
 have h:=run_equal_slice_nil w 51 _ a n c Try.underlying51
 simp[binOp,h]
theorem flow_cells {w:World} {S:Nat} {C:Int→Int→Int} {fr to l:Int} {vv nv wv bv:Value} {cl:List Int} (h:w.rowIs S 124 79 (sF C fr to vv nv cl wv bv l)):
 w.cell? ⟨S,65,none⟩=some (.int .i64 to)∧w.cell? ⟨S,66,none⟩=some vv∧w.cell? ⟨S,76,none⟩=some wv∧w.cell? ⟨S,77,none⟩=some bv∧w.cell? ⟨S,78,none⟩=some (.int .i64 l)∧(∀i,w.frozen? ⟨S,i,none⟩=false):=
 ⟨h.cell (i:=65) (by omega),h.cell (i:=66) (by omega),h.cell (i:=76) (by omega),h.cell (i:=77) (by omega),h.cell (i:=78) (by omega),fun i=>h.frozen i⟩
theorem goes_on {w:World} {S:Nat} {wv bv:Value} {l c:Int} {best:Option (List Int×Int)} (h:BestIs w S wv bv l best) (hp:¬best.any (fun y=>decide (y.2≤c))=true):∃bo bn bc,bv=.slice bo bn bc∧(bo=none∨∃a,bo=some a∧¬l≤c):=by
 cases best with
 | none=>exact⟨none,0,0,h,Or.inl rfl⟩
 | some y=>
  obtain⟨p,d⟩:=y
  obtain⟨g,cap,rfl,hb2,hb3,hb4,hb5,rfl,hb7⟩:=h
  exact⟨_,_,_,rfl,Or.inr ⟨_,rfl,by simpa using hp⟩⟩
theorem news1 {W:World} {n:Nat} (h:W.heap.size=n) (v:Value) (T:TypeId):∀(j:Nat) (u:Value),[v][j]? =some u→(W.alloc (.cells #[v] T)).cell? ((⟨n,0,none⟩:Addr).add j)=some u:=by
 intro j u hj
 subst h
 match j,hj with
 | 0,hj=>simp at hj;subst hj;simp[Addr.add]
theorem one1 (x:Int):∀u∈[Value.int .i64 x],u.oneCell'=true:=by intro u hu;simp at hu;subst hu;rfl
theorem len_snoc (l:List Int) (x:Int):(l++[x]).length=l.length+1:=by simp
theorem nd_snoc {l:List Int} {x:Int} (h:l.Nodup) (hx:¬x∈l):(l++[x]).Nodup:=by
 rw[List.nodup_append]
 refine⟨h,by simp,fun a ha b hb=>?_⟩
 simp at hb
 subst hb
 intro e
 subst e
 exact hx ha
theorem rg_snoc {l:List Int} {x:Nat} (h:∀y∈l,0≤y∧y<8) (hx:x<8):∀y∈l++[(x:Int)],0≤y∧y<8:=by
 intro y hy
 rcases List.mem_append.1 hy with hy | hy
 ·exact h y hy
 ·simp at hy;subst hy;omega
theorem cl_snoc {l cl:List Int} {x:Int} (h:∀y∈l,y∈cl):∀y∈l++[x],y∈x::cl:=by
 intro y hy
 rcases List.mem_append.1 hy with hy | hy
 ·exact List.mem_cons_of_mem _ (h y hy)
 ·simp at hy;subst hy;simp
theorem SA.drew {w:World} {S:Nat} {C:Int→Int→Int} {fr to l:Int} {vv nv wv bv:Value} {cl way:List Int} {best:Option (List Int×Int)} (h:SA w S C fr to vv nv cl way wv bv l best):SA w.drew S C fr to vv nv cl way wv bv l best:=
 ⟨h.row.drew,h.own.drew,h.best.kept (Nat.le_refl _) (fun _ _ _ _=>rfl) (fun _ _ _ h=>h)⟩
theorem own_ints {w:World} {base g n cap:Nat} {L:List Int} (h:w.ownsRow base 3 1 (.slice (some ⟨g,0,none⟩) n cap) L.length (L.map (Value.int .i64))):IntsAt w g 0 L:=by
 intro i hi
 have hn:n=L.length:=by
  rcases h.2 with⟨h0,_⟩ | ⟨g',cap',cur,hv,_⟩
  ·cases h0
  ·cases hv;rfl
 subst hn
 rw[Nat.zero_add,h.cellAt i (by omega),List.getElem?_map,List.getElem?_eq_getElem hi]
 simp[List.getD_eq_getElem?_getD,hi]
theorem met_next {w:World} {S m:Nat} {vo:Option Addr} {via:List Int} (x:Int) (h:VA w S vo via) (hm:m≤via.length):(m=via.length∧mtv via m x=m)∨∃b off y,m<via.length∧vo=some ⟨b,off,none⟩∧b<S∧w.cell? ⟨b,off+m,none⟩=some (.int .i64 y)∧((y == x)=true∧mtv via m x=m+1∨(y == x)=false∧mtv via m x=m):=by
 by_cases hlt:m<via.length
 ·right
  rcases h with rfl | ⟨b,off,h1,h2,h3⟩
  ·simp at hlt
  ·refine⟨b,off,via.getD m 0,hlt,h1,h2,h3 m hlt,?_⟩
   have e:via[m]? =some (via.getD m 0):=by simp[List.getD_eq_getElem?_getD,List.getElem?_eq_getElem hlt]
   cases hxy:(via.getD m 0 == x)
   ·right
    refine⟨rfl,?_⟩
    have:via.getD m 0≠x:=by simpa using hxy
    rw[mtv,e,if_neg (by intro h;injection h with h;exact this h)]
   ·left
    have:via.getD m 0=x:=by simpa using hxy
    exact⟨rfl,by rw[mtv,e,if_pos (by rw[this])]⟩
 ·left
  have:m=via.length:=by omega
  refine⟨this,?_⟩
  rw[mtv,if_neg]
  subst this
  simp
set_option maxRecDepth 100000 in
set_option maxHeartbeats 2000000 in
theorem enter_step {S:Nat} {C:Int→Int→Int} {fr:Int} {to:Int} {vo:Option Addr} {vc:Nat} {nv:Value} {via:List Int} (hC:∀a b,0≤C a b∧C a b≤1000) (hvl:via.length≤4611686018427387904) {k:Nat} (IH:EnterOk S C fr to vo vc nv via k):EnterOk S C fr to vo vc nv via (k+1):=by
 intro cl way x c m best w hwk hnd hrg hcl hx hxc hc0 hc1 hm hv hs
 have hwl:way.length≤8:=by omega
 have hs':=hs
 obtain⟨wv,bv,l,hsa⟩:=hs
 obtain⟨c65,c66,c76,c77,c78,hfz⟩:=flow_cells hsa.row
 have hneq:=run_neq_nil
 by_cases hpr:best.any (fun y=>decide (y.2≤c))=true
 ·
  have hent:ent C to via (k+1) cl way x c m best=best:=by unfold ent;rw[if_pos hpr]
  rw[hent]
  cases best with
  | none=>simp at hpr
  | some y=>
   obtain⟨p,d⟩:=y
   simp only[Option.any_some,decide_eq_true_eq] at hpr
   obtain⟨g,cap,rfl,hb2,hb3,hb4,hb5,rfl,hb7⟩:=hsa.best
   go_enter Try.func62,Try.ntmps62
   go_wp2
   refine bodyPost_ret_by (v:=.tuple #[]) ?_ rfl ⟨rfl,Below.refl _ _,hs'⟩
   simp[results,Try.results62]
 ·have HE:Hid (ent C to via (k+1) cl way x c m best=if(x:Int)=to then(if mtv via m x=via.length then some (way++[(x:Int)],c) else best) else(List.range 8).foldl (goF C to via k ((x:Int)::cl) (way++[(x:Int)]) x c (mtv via m x)) best):=by
   unfold ent;rw[if_neg hpr];exact hidp rfl
  obtain⟨bo,bn,bc,rfl,hbo⟩:=goes_on hsa.best hpr
  obtain⟨i0,hi,hz0,hz1,hz2⟩:=info_parts infoI
  have hsa1:=hsa.close hx
  have hbl1:Below S w (w.setCell ⟨S,68+x,none⟩ (.bool true)):=(Below.refl _ _).setCell (by simp) _
  have hcc:=closed_at hx hsa.row
  have hSw:=hsa.row.lt
  clear hpr
  rcases hbo with rfl | ⟨a0,rfl,hcl0⟩
  all_goals
   go_enter Try.func62,Try.ntmps62
   go_wp2_with (first | (at_builtin;refine wpList_append_lies _ rfl _ _ 51 rfl (S+1) 3 i0 (.int .i64 0) 1 8 Try.underlying51 hi hz0 hz1 hz2 rfl (by decide) _ _ _ rfl (hsa1.own.alloc _) ⟨w.heap.size,0,none⟩ 1 1 [.int .i64 x] rfl rfl (news1 (by simp) _ _) (one1 _) (by decide) (by unfold maxLen;omega) (by omega) (by simp;omega) _ rfl ?_) | go_in)
   intro g cap w2 hown2 hg2 hat2 hlt2
   have hsa2:=hsa1.push hown2 hg2 (hat2.imp id (fun h=>by simpa using h))
   have hbl2:Below S w w2:=(hbl1.alloc (by have:=hsa.row.lt;simp;omega) _).grown hg2 (by have:=hsa.row.lt;simp;omega) (fun j hj=>by have:=(hsa.own.lt j hj).1;omega)
   have hb2S:w2.heap[S]? =(w.setCell ⟨S,68+x,none⟩ (.bool true)).heap[S]?:=(hg2.block S (by have:=hsa.row.lt;simp;omega) (fun e=>by have:=(hsa.own.lt S e.symm).1;omega)).trans (blk_alloc_lt _ _ _ (by simpa using hsa.row.lt))
   obtain⟨d65,d66,d76,d77,d78,dfz⟩:=flow_cells (hsa1.row.of_block hb2S)
   have dcc:=closed_at hx (hsa1.row.of_block hb2S)
   rcases met_next (x:Int) (hv.below hbl2) hm with⟨hml,hmt⟩ | ⟨b,off,y,hml,rfl,hbS,hvc,hyx⟩
   ·have hmlI:¬(m:Int)<(via.length:Int):=by omega
    cases hxt:((x:Int) == to)
    ·have hxt':¬(x:Int)=to:=by simpa using hxt
     have HE':=hidp (HE.out.trans (if_neg hxt'))
     clear HE hxt'
     go_wp2_with fail
     refine(goOn_any hC IH ((x:Int)::cl) (way++[(x:Int)]) x c (via.length) best _ (by simp;omega) (nd_snoc hnd (fun h=>hxc (hcl _ h))) (rg_snoc hrg hx) (cl_snoc hcl) hx hc0 (by simp;omega) (Nat.le_refl _) ((hv.below hbl2).below ((Below.refl _ _).setCell (by simp) _)) ⟨_,_,_,hsa2⟩).mono ?_
     rintro e w3 ⟨rfl,hbl3,wv3,bv3,l3,hsa3⟩
     obtain⟨g3,cap3,hv3,hg3,hg3'⟩:=hsa3.own.form (by simp)
     rw[len_snoc] at hv3
     subst hv3
     obtain⟨e65,e66,e76,e77,e78,efz⟩:=flow_cells hsa3.row
     have hcap3:=own_cap (by have:=hsa3.own;rw[len_snoc] at this;exact this)
     have ecc:=closed_at hx hsa3.row
     unfold maxLen at hcap3
     go_wp2
     go_region
     go_wp2
     go_end0
     refine⟨rfl,((((hbl2.setCell (by simp) _).trans hbl3).setCell (by simp) _).setCell (by simp) _).drew,?_⟩
     rw[HE'.out,hmt,hml]
     exact⟨_,_,_,((hsa3.pop (by simp)).reopen hx hxc).drew⟩
    ·have hxt':(x:Int)=to:=by simpa using hxt
     have HE':=hidp (HE.out.trans (if_pos hxt'))
     clear HE hxt'
     have hp2:IntsAt (w2.setCell ⟨S,76,none⟩ (.slice (some ⟨g,0,none⟩) (way.length+1) cap)) g 0 (way++[(x:Int)]):=own_ints hsa2.own
     go_wp2_with fail
     refine(clonePath_any g 0 (way.length+1) cap (way++[(x:Int)]) _ (by simp) (by omega) hp2).mono ?_
     rintro e w4 ⟨v',rfl,hown4,hne4,hE4⟩
     obtain⟨g4,cap4,rfl,hg4,hg4'⟩:=hown4.form (by omega)
     have hbS4:=hsa2.row.of_block (Below.block hE4 _ hsa2.row.lt)
     obtain⟨e65,e66,e76,e77,e78,efz⟩:=flow_cells hbS4
     have hsa3:=hsa2.keep (c:=c) hE4 (by rw[len_snoc];exact hown4) (by simp) rfl
     have hbl3:=((hbl2.setCell (p:=⟨S,76,none⟩) (by simp) (.slice (some ⟨g,0,none⟩) (way.length+1) cap)).trans (Below.mono hE4 (by have:=hsa2.row.lt;omega)))
     have hcap3:=own_cap hown2
     have ecc:=closed_at hx hbS4
     unfold maxLen at hcap3
     go_wp2
     go_region
     go_wp2
     go_end0
     refine⟨rfl,((((hbl3.setCell (by simp) _).setCell (by simp) _).setCell (by simp) _).setCell (by simp) _).drew,?_⟩
     rw[HE'.out,hmt,hml,if_pos rfl]
     exact⟨_,_,_,((hsa3.pop rfl).reopen hx hxc).drew⟩
   ·have hmlI:(m:Int)<(via.length:Int):=by omega
    have hbS':¬b=S:=by omega
    have hbw:b<w2.heap.size:=by have:=hbl2.size;omega
    rcases hyx with⟨hyx,hmt⟩ | ⟨hyx,hmt⟩
    ·cases hxt:((x:Int) == to)
     ·have hxt':¬(x:Int)=to:=by simpa using hxt
      have HE':=hidp (HE.out.trans (if_neg hxt'))
      clear HE hxt'
      go_wp2_with fail
      refine(goOn_any hC IH ((x:Int)::cl) (way++[(x:Int)]) x c (m+1) best _ (by simp;omega) (nd_snoc hnd (fun h=>hxc (hcl _ h))) (rg_snoc hrg hx) (cl_snoc hcl) hx hc0 (by simp;omega) (by omega) ((hv.below hbl2).below ((Below.refl _ _).setCell (by simp) _)) ⟨_,_,_,hsa2⟩).mono ?_
      rintro e w3 ⟨rfl,hbl3,wv3,bv3,l3,hsa3⟩
      obtain⟨g3,cap3,hv3,hg3,hg3'⟩:=hsa3.own.form (by simp)
      rw[len_snoc] at hv3
      subst hv3
      obtain⟨e65,e66,e76,e77,e78,efz⟩:=flow_cells hsa3.row
      have hcap3:=own_cap (by have:=hsa3.own;rw[len_snoc] at this;exact this)
      have ecc:=closed_at hx hsa3.row
      unfold maxLen at hcap3
      go_wp2
      go_region
      go_wp2
      go_end0
      refine⟨rfl,((((hbl2.setCell (by simp) _).trans hbl3).setCell (by simp) _).setCell (by simp) _).drew,?_⟩
      rw[HE'.out,hmt]
      exact⟨_,_,_,((hsa3.pop (by simp)).reopen hx hxc).drew⟩
     ·have hxt':(x:Int)=to:=by simpa using hxt
      have HE':=hidp (HE.out.trans (if_pos hxt'))
      clear HE hxt'
      by_cases hmm:m+1=via.length
      ·have hmmI:((m:Int)+1 == (via.length:Int))=true:=by simp;omega
       have hp2:IntsAt (w2.setCell ⟨S,76,none⟩ (.slice (some ⟨g,0,none⟩) (way.length+1) cap)) g 0 (way++[(x:Int)]):=own_ints hsa2.own
       go_wp2_with fail
       refine(clonePath_any g 0 (way.length+1) cap (way++[(x:Int)]) _ (by simp) (by omega) hp2).mono ?_
       rintro e w4 ⟨v',rfl,hown4,hne4,hE4⟩
       obtain⟨g4,cap4,rfl,hg4,hg4'⟩:=hown4.form (by omega)
       have hbS4:=hsa2.row.of_block (Below.block hE4 _ hsa2.row.lt)
       obtain⟨e65,e66,e76,e77,e78,efz⟩:=flow_cells hbS4
       have hsa3:=hsa2.keep (c:=c) hE4 (by rw[len_snoc];exact hown4) (by simp) rfl
       have hbl3:=((hbl2.setCell (p:=⟨S,76,none⟩) (by simp) (.slice (some ⟨g,0,none⟩) (way.length+1) cap)).trans (Below.mono hE4 (by have:=hsa2.row.lt;omega)))
       have hcap3:=own_cap hown2
       have ecc:=closed_at hx hbS4
       unfold maxLen at hcap3
       go_wp2
       go_region
       go_wp2
       go_end0
       refine⟨rfl,((((hbl3.setCell (by simp) _).setCell (by simp) _).setCell (by simp) _).setCell (by simp) _).drew,?_⟩
       rw[HE'.out,hmt,if_pos hmm]
       exact⟨_,_,_,((hsa3.pop rfl).reopen hx hxc).drew⟩
      ·have hmmI:((m:Int)+1 == (via.length:Int))=false:=by simp;omega
       obtain⟨e65,e66,e76,e77,e78,efz⟩:=flow_cells hsa2.row
       have hcap3:=own_cap hown2
       have ecc:=closed_at hx hsa2.row
       unfold maxLen at hcap3
       go_wp2
       go_region
       go_wp2
       go_end0
       refine⟨rfl,(((hbl2.setCell (by simp) _).setCell (by simp) _).setCell (by simp) _).drew,?_⟩
       rw[HE'.out,hmt,if_neg hmm]
       exact⟨_,_,_,((hsa2.pop rfl).reopen hx hxc).drew⟩
    ·cases hxt:((x:Int) == to)
     ·have hxt':¬(x:Int)=to:=by simpa using hxt
      have HE':=hidp (HE.out.trans (if_neg hxt'))
      clear HE hxt'
      go_wp2_with fail
      refine(goOn_any hC IH ((x:Int)::cl) (way++[(x:Int)]) x c (m) best _ (by simp;omega) (nd_snoc hnd (fun h=>hxc (hcl _ h))) (rg_snoc hrg hx) (cl_snoc hcl) hx hc0 (by simp;omega) hm ((hv.below hbl2).below ((Below.refl _ _).setCell (by simp) _)) ⟨_,_,_,hsa2⟩).mono ?_
      rintro e w3 ⟨rfl,hbl3,wv3,bv3,l3,hsa3⟩
      obtain⟨g3,cap3,hv3,hg3,hg3'⟩:=hsa3.own.form (by simp)
      rw[len_snoc] at hv3
      subst hv3
      obtain⟨e65,e66,e76,e77,e78,efz⟩:=flow_cells hsa3.row
      have hcap3:=own_cap (by have:=hsa3.own;rw[len_snoc] at this;exact this)
      have ecc:=closed_at hx hsa3.row
      unfold maxLen at hcap3
      go_wp2
      go_region
      go_wp2
      go_end0
      refine⟨rfl,((((hbl2.setCell (by simp) _).trans hbl3).setCell (by simp) _).setCell (by simp) _).drew,?_⟩
      rw[HE'.out,hmt]
      exact⟨_,_,_,((hsa3.pop (by simp)).reopen hx hxc).drew⟩
     ·have hxt':(x:Int)=to:=by simpa using hxt
      have HE':=hidp (HE.out.trans (if_pos hxt'))
      clear HE hxt'
      obtain⟨e65,e66,e76,e77,e78,efz⟩:=flow_cells hsa2.row
      have hcap3:=own_cap hown2
      have ecc:=closed_at hx hsa2.row
      unfold maxLen at hcap3
      go_wp2
      go_region
      go_wp2
      go_end0
      refine⟨rfl,(((hbl2.setCell (by simp) _).setCell (by simp) _).setCell (by simp) _).drew,?_⟩
      rw[HE'.out,hmt,if_neg (by omega)]
      exact⟨_,_,_,((hsa2.pop rfl).reopen hx hxc).drew⟩
end Go.Proofs.Ytolclgbpjiokfaa
namespace Stw
theorem nodup_le:∀(n:Nat) (l:List Int),l.Nodup→(∀x∈l,0≤x∧x<(n:Int))→l.length≤n
 | 0,l,_,h=>by
  cases l with
  | nil=>simp
  | cons a r=>have:=h a (by simp);omega
 | n+1,l,hd,h=>by
  have h1:=nodup_le n (l.erase (n:Int)) (hd.erase _) (fun x hx=>by
   have:=(hd.mem_erase_iff).1 hx
   have:=h x this.2
   omega)
  have h2:l.length≤(l.erase (n:Int)).length+1:=by
   rw[List.length_erase]
   split <;> omega
  omega
structure Bfs (n:Int) (ls:List Lk) (fr:Int) (L:List Int) (d:Nat):Prop where
 nd:L.Nodup
 rng:∀x∈L,0≤x∧x<n
 src:fr∈L
 all:∀x∈L,Rch ls fr x
 done:∀i,i<d→∀y,0<cost ls (L.getD i 0) y→y∈L
theorem Bfs.start {n:Int} {ls:List Lk} {fr:Int} (h0:0≤fr) (h1:fr<n):Bfs n ls fr [fr] 0:=
 ⟨by simp,fun x hx=>by simp at hx;omega,by simp,fun x hx=>by simp at hx;subst hx;exact Rch.refl _ _,fun i hi=>by omega⟩
theorem Bfs.len {n:Int} {ls:List Lk} {fr:Int} {L:List Int} {d:Nat} (h:Bfs n ls fr L d) (hn:n≤8):L.length≤8:=
 nodup_le 8 L h.nd (fun x hx=>by have:=h.rng x hx;omega)
theorem getD_mem {L:List Int} {i:Nat} (h:i<L.length):L.getD i 0∈L:=by
 rw[List.getD_eq_getElem?_getD,List.getElem?_eq_getElem h];exact List.getElem_mem h
theorem getD_snoc {L:List Int} {x:Int} {i:Nat} (h:i<L.length):(L++[x]).getD i 0=L.getD i 0:=by
 simp[List.getD_eq_getElem?_getD,List.getElem?_append,h]
def Near (ls:List Lk) (L:List Int) (d j:Nat):Prop:=∀y:Int,0≤y→y<(j:Int)→0<cost ls (L.getD d 0) y→y∈L
theorem near_zero {ls:List Lk} {L:List Int} {d:Nat}:Near ls L d 0:=fun y h0 h1=>by omega
theorem Near.skip {ls:List Lk} {L:List Int} {d j:Nat} (h:Near ls L d j) (hj:(j:Int)∈L∨¬0<cost ls (L.getD d 0) (j:Int)):Near ls L d (j+1):=fun y h0 h1 hc=>by
 by_cases e:y=(j:Int)
 ·subst e
  rcases hj with hj | hj
  ·exact hj
  ·exact absurd hc hj
 ·exact h y h0 (by omega) hc
theorem Near.add {ls:List Lk} {L:List Int} {d j:Nat} (h:Near ls L d j) (hd:d<L.length):Near ls (L++[(j:Int)]) d (j+1):=fun y h0 h1 hc=>by
 rw[getD_snoc hd] at hc
 by_cases e:y=(j:Int)
 ·subst e;simp
 ·have:=h y h0 (by omega) hc
  simp[this]
theorem Bfs.add {n:Int} {ls:List Lk} {fr:Int} {L:List Int} {d:Nat} {x:Int} (h:Bfs n ls fr L d) (hd:d<L.length) (hx:¬x∈L) (h0:0≤x) (h1:x<n) (hc:0<cost ls (L.getD d 0) x):Bfs n ls fr (L++[x]) d:=
 ⟨by
  rw[List.nodup_append]
  refine⟨h.nd,by simp,fun a ha b hb=>?_⟩
  simp at hb
  subst hb
  intro e
  subst e
  exact hx ha,
  fun y hy=>by
   rcases List.mem_append.1 hy with hy | hy
   ·exact h.rng y hy
   ·simp at hy;subst hy;exact⟨h0,h1⟩,
  List.mem_append.2 (Or.inl h.src),
  fun y hy=>by
   rcases List.mem_append.1 hy with hy | hy
   ·exact h.all y hy
   ·simp at hy;subst hy;exact(h.all _ (getD_mem hd)).step hc,
  fun i hi y hy=>by
   rw[getD_snoc (by omega)] at hy
   exact List.mem_append.2 (Or.inl (h.done i hi y hy))⟩
theorem Bfs.next {n:Int} {ls:List Lk} {fr:Int} {L:List Int} {d m:Nat} (h:Bfs n ls fr L d) (hm:n≤(m:Int)) (hk:Near ls L d m) (hr:∀a b,cost ls a b≠0→0≤b∧b<n):Bfs n ls fr L (d+1):=
 ⟨h.nd,h.rng,h.src,h.all,fun i hi y hy=>by
  by_cases e:i=d
  ·subst e
   have:=hr _ _ (by omega:cost ls (L.getD i 0) y≠0)
   exact hk y this.1 (by omega) hy
  ·exact h.done i (by omega) y hy⟩
theorem Bfs.final {n:Int} {ls:List Lk} {fr:Int} {L:List Int} {d:Nat} (h:Bfs n ls fr L d) (hd:L.length≤d) (s:Int):s∈L↔Rch ls fr s:=
 ⟨h.all s,fun hr=>hr (fun x=>x∈L) h.src (fun x y hx hc=>by
  obtain⟨i,hi,rfl⟩:=List.getElem_of_mem hx
  refine h.done i (by omega) y ?_
  rw[List.getD_eq_getElem?_getD,List.getElem?_eq_getElem hi]
  exact hc)⟩
def RL (n:Int) (ls:List Lk) (fr:Int) (L:List Int):Prop:=L.Pairwise (fun a b=>a<b)∧∀s,s∈L↔((wrong n ls).1=0∧swB n fr=true∧Rch ls fr s)
theorem sorted_lt {L:List Int} (hd:L.Nodup):(L.mergeSort fun x y=>decide (x≤y)).Pairwise (fun a b=>a<b):=by
 have h1:=List.pairwise_mergeSort (le:=fun x y:Int=>decide (x≤y)) (fun a b c h1 h2=>by simp at *;omega) (fun a b=>by simp;omega) L
 have h2:(L.mergeSort fun x y=>decide (x≤y)).Nodup:=(List.mergeSort_perm L _).nodup_iff.2 hd
 have h3:=h1.and h2
 exact h3.imp (fun {a b} h=>by have:=h.1;have:=h.2;simp at *;omega)
theorem rl_of {n:Int} {ls:List Lk} {fr:Int} {L:List Int} {d:Nat} (h:Bfs n ls fr L d) (hd:L.length≤d) (hw:(wrong n ls).1=0) (hs:swB n fr=true):RL n ls fr (L.mergeSort fun x y=>decide (x≤y)):=
 ⟨sorted_lt h.nd,fun s=>by
  rw[(List.mergeSort_perm L _).mem_iff,h.final hd s]
  simp[hw,hs]⟩
theorem rl_none {n:Int} {ls:List Lk} {fr:Int} (h:¬((wrong n ls).1=0∧swB n fr=true)):RL n ls fr []:=
 ⟨List.Pairwise.nil,fun s=>by
  constructor
  ·intro h;cases h
  ·rintro⟨h1,h2,_⟩;exact absurd ⟨h1,h2⟩ h⟩
theorem rising_eq:∀{l m:List Int},l.Pairwise (fun a b=>a<b)→m.Pairwise (fun a b=>a<b)→(∀x,x∈l↔x∈m)→l=m
 | [],[],_,_,_=>rfl
 | [],b::m,_,_,h=>by have:=(h b).2 (by simp);cases this
 | a::l,[],_,_,h=>by have:=(h a).1 (by simp);cases this
 | a::l,b::m,h1,h2,h=>by
  obtain⟨p1,q1⟩:=List.pairwise_cons.1 h1
  obtain⟨p2,q2⟩:=List.pairwise_cons.1 h2
  have e:a=b:=by
   have ha:=(h a).1 (by simp)
   have hb:=(h b).2 (by simp)
   rcases List.mem_cons.1 ha with ha | ha
   ·exact ha
   ·rcases List.mem_cons.1 hb with hb | hb
    ·exact hb.symm
    ·have:=p1 b hb;have:=p2 a ha;omega
  subst e
  congr 1
  refine rising_eq q1 q2 (fun x=>?_)
  have:=h x
  simp only[List.mem_cons] at this
  constructor
  ·intro hx
   rcases this.1 (Or.inr hx) with e | e
   ·subst e;have:=p1 x hx;omega
   ·exact e
  ·intro hx
   rcases this.2 (Or.inr hx) with e | e
   ·subst e;have:=p2 x hx;omega
   ·exact e
theorem RL.unique {n:Int} {ls:List Lk} {fr:Int} {L M:List Int} (h:RL n ls fr L) (k:RL n ls fr M):L=M:=rising_eq h.1 k.1 (fun x=>(h.2 x).trans (k.2 x).symm)
end Stw
namespace Go.Proofs.Ytolclgbpjiokfaa
open Go.RowKit Go.Maps Stw Go.Deep Stp
theorem enter_ok {S:Nat} {C:Int→Int→Int} {fr to:Int} {vo:Option Addr} {vc:Nat} {nv:Value} {via:List Int} (hC:∀a b,0≤C a b∧C a b≤1000) (hvl:via.length≤4611686018427387904):∀k,EnterOk S C fr to vo vc nv via k
 | 0=>by
  intro cl way x c m best w hwk hnd hrg hcl hx hxc
  have h:=nodup_le 8 (way++[(x:Int)]) (nd_snoc hnd (fun h=>hxc (hcl _ h))) (rg_snoc hrg hx)
  simp at h
  omega
 | k+1=>enter_step hC hvl (enter_ok hC hvl k)
def matA (C:Int→Int→Int):Array Value:=((List.range 64).map fun(i:Nat)=>Value.int .i64 (C ((i / 8:Nat):Int) ((i % 8:Nat):Int))).toArray
def srcA (C:Int→Int→Int) (fr to:Int) (vv nv:Value):Array Value:=((List.range 79).map (sF C fr to vv nv [] (.slice none 0 0) (.slice none 0 0) 0)).toArray
theorem built_s (C:Int→Int→Int) (fr to:Int) (vv nv:Value):Try.prog.built 124 [(0,.agg (matA C)),(1,.agg #[.int .i64 fr,.int .i64 to,vv,nv])]=some (srcA C fr to vv nv):=by kernel_rfl
theorem mat_eq {C:Int→Int→Int} {cs:Array Value} (hs:cs.size=64) (h:∀a b:Nat,a<8→b<8→cs[a*8+b]? =some (.int .i64 (C a b))):cs=matA C:=by
 apply Array.ext
 ·rw[hs];simp[matA]
 ·intro i h1 h2
  have:=h (i / 8) (i % 8) (by omega) (by omega)
  rw[show i / 8*8+i % 8=i by omega,Array.getElem?_eq_getElem h1] at this
  injection this with this
  rw[this]
  simp[matA]
theorem wpList_build2 {P:Program} {ops:Array Oper} {rest:List Oper} {o:Oper} {a:Act} {w:World} {Q:Exit→Act→World→Prop} (hg:o.guard=none) (t:TypeId) (i1 i2:Nat) (x1 x2:Operand) (ho:o.op=.build t #[(i1,x1),(i2,x2)]) (v1 v2:Value) (h1:a.eval x1=v1) (h2:a.eval x2=v2) (cells:Array Value)
 (hb:P.built t [(i1,v1),(i2,v2)]=some cells) (h:wpList P ops Q rest (a.put o.dst (.agg cells)) w):wpList P ops Q (o::rest) a w:=by
 have hb':P.built t ((#[(i1,x1),(i2,x2)]:Array (Nat×Operand)).map fun(i,x)=>(i,a.eval x)).toList=some cells:=by simpa[h1,h2] using hb
 refine wpList_build hg t _ ho (by rw[hb'];rfl) ?_
 rw[hb'];exact h
def FOut (w w':World) (e:Ending):Option (List Int×Int)→Prop
 | none=>e=.returned (.tuple #[.slice none 0 0,.int .i64 9])
 | some (p,_)=>∃g cap,e=.returned (.tuple #[.slice (some ⟨g,0,none⟩) p.length cap,.int .i64 0])∧w.heap.size≤g∧g<w'.heap.size∧IntsAt w' g 0 p∧p.length≤cap
theorem sF_congr {C:Int→Int→Int} {fr to l:Int} {vv nv wv bv:Value} {cl cl':List Int} (h:∀y,y∈cl↔y∈cl') (j:Nat):sF C fr to vv nv cl wv bv l j=sF C fr to vv nv cl' wv bv l j:=by
 unfold sF
 have:decide (((j - 68:Nat):Int)∈cl)=decide (((j - 68:Nat):Int)∈cl'):=by rw[decide_eq_decide];exact h _
 rw[this]
theorem srcA_row {C:Int→Int→Int} {fr to:Int} {vv nv:Value} {i:Nat} (h:i<79):(srcA C fr to vv nv)[i]? =some (sF C fr to vv nv [] (.slice none 0 0) (.slice none 0 0) 0 i):=by simp[srcA,h]
theorem srcA_size {C:Int→Int→Int} {fr to:Int} {vv nv:Value}:(srcA C fr to vv nv).size=79:=by simp[srcA]
theorem sF_one {C:Int→Int→Int} {fr to l:Int} {vo no wo bo:Option Addr} {v1 v2 n1 n2 w1 w2 b1 b2:Nat} {cl:List Int} (j:Nat):(sF C fr to (.slice vo v1 v2) (.slice no n1 n2) cl (.slice wo w1 w2) (.slice bo b1 b2) l j).oneCell'=true:=by
 unfold sF
 repeat' split
 all_goals rfl
theorem srcA_one {C:Int→Int→Int} {fr to:Int} {vo no:Option Addr} {v1 v2 n1 n2:Nat}:(srcA C fr to (.slice vo v1 v2) (.slice no n1 n2)).all (·.oneCell')=true:=by
 rw[Array.all_eq_true]
 intro i hi
 have hi':i<79:=by rw[srcA_size] at hi;exact hi
 have:=srcA_row (C:=C) (fr:=fr) (to:=to) (vv:=.slice vo v1 v2) (nv:=.slice no n1 n2) hi'
 rw[Array.getElem?_eq_getElem hi] at this
 injection this with this
 rw[this]
 exact sF_one i
set_option maxRecDepth 100000 in
set_option maxHeartbeats 2000000 in
theorem cheapest_core {C:Int→Int→Int} (hC:∀a b,0≤C a b∧C a b≤1000) (frn:Nat) (to:Int) (vo no:Option Addr) (vc nc:Nat) (via nt:List Int) (w:World) (hfr:frn<8) (hvl:via.length≤4611686018427387904) (hnl:nt.length≤4611686018427387904)
 (hv:ListAt w vo via) (hn:ListAt w no nt) (hnr:∀x∈nt,0≤x∧x<8) (hfn:¬(frn:Int)∈nt) (cs ss:Array Value) (hcs:cs.size=64) (hss:ss.size=79) (hone:ss.all (·.oneCell')=true)
 (hbt:Try.prog.built 124 [(0,.agg cs),(1,.agg #[.int .i64 frn,.int .i64 to,.slice vo via.length vc,.slice no nt.length nc])]=some ss) (hsrc:∀i,i<79→ss[i]? =some (sF C frn to (.slice vo via.length vc) (.slice no nt.length nc) [] (.slice none 0 0) (.slice none 0 0) 0 i)):
 Calls Try.prog 46 #[.agg cs,.agg #[.int .i64 frn,.int .i64 to,.slice vo via.length vc,.slice no nt.length nc]] w fun e w'=>Ext w w'∧FOut w w' e (find C frn to via nt):=by
 have hl1:((w.alloc (.cells cs 104)).alloc (.cells #[.int .i64 frn,.int .i64 to,.slice vo via.length vc,.slice no nt.length nc] 55)).heap[w.heap.size]? =some (.cells cs 104 (0,0)):=(blk_alloc_lt _ _ _ (by simp)).trans (blk_alloc_new _ _)
 have hi1:(Try.prog.info? 104).map (·.size)=some cs.size:=by rw[hcs];kernel_rfl
 have hl2:(((w.alloc (.cells cs 104)).alloc (.cells #[.int .i64 frn,.int .i64 to,.slice vo via.length vc,.slice no nt.length nc] 55)).alloc (.cells Try.zeroCells124 124)).heap[w.heap.size+1+1]? =some (.cells Try.zeroCells124 124 (0,0)):=by
  have:=blk_alloc_new ((w.alloc (.cells cs 104)).alloc (.cells #[.int .i64 frn,.int .i64 to,.slice vo via.length vc,.slice no nt.length nc] 55)) (.cells Try.zeroCells124 124)
  simpa using this
 have hi2:(Try.prog.info? 124).map (·.size)=some ss.size:=by rw[hss];kernel_rfl
 have hz2:Try.zeroCells124.size=ss.size:=by rw[hss];kernel_rfl
 have hrow3:((((w.alloc (.cells cs 104)).alloc (.cells #[.int .i64 frn,.int .i64 to,.slice vo via.length vc,.slice no nt.length nc] 55)).alloc (.cells Try.zeroCells124 124)).setRow (w.heap.size+1+1) ss).rowIs (w.heap.size+1+1) 124 79 (sF C frn to (.slice vo via.length vc) (.slice no nt.length nc) [] (.slice none 0 0) (.slice none 0 0) 0):=⟨ss,setRow_heap _ _ _ ss _ _ hl2,hss,hsrc⟩
 have hbel3:Below (w.heap.size+1+1) ((w.alloc (.cells cs 104)).alloc (.cells #[.int .i64 frn,.int .i64 to,.slice vo via.length vc,.slice no nt.length nc] 55)) ((((w.alloc (.cells cs 104)).alloc (.cells #[.int .i64 frn,.int .i64 to,.slice vo via.length vc,.slice no nt.length nc] 55)).alloc (.cells Try.zeroCells124 124)).setRow (w.heap.size+1+1) ss):=below_setRow ((Below.refl _ _).alloc (by simp) _) (Nat.le_refl _) _
 have hc3:∀wr,Below (w.heap.size+1+1) ((w.alloc (.cells cs 104)).alloc (.cells #[.int .i64 frn,.int .i64 to,.slice vo via.length vc,.slice no nt.length nc] 55)) wr→wr.cell? ⟨w.heap.size+1,3,none⟩=some (.slice no nt.length nc)∧wr.cell? ⟨w.heap.size+1,0,none⟩=some (.int .i64 frn)∧Ext w wr:=fun wr h=>
  ⟨(h.cell (p:=⟨w.heap.size+1,3,none⟩) (by simp)).trans (by simp),(h.cell (p:=⟨w.heap.size+1,0,none⟩) (by simp)).trans (by simp),Below.trans (((Ext.refl w).alloc _).alloc _) (h.mono (by omega))⟩
 obtain⟨c3,c0,hE3⟩:=hc3 _ hbel3
 have HC3:=hidp hc3
 clear hc3
 go_enter Try.func46,Try.ntmps46
 go_wp2_with (first
  | (refine wpList_load_row rfl 104 (.tmp 2) rfl w.heap.size rfl 104 cs (0,0) _ hl1 Try.underlying104 rfl hi1 ?_)
  | (refine wpList_build2 rfl 124 0 1 (.tmp 9) (.tmp 10) rfl _ _ rfl rfl ss hbt ?_)
  | (refine wpList_store_row rfl 124 (.tmp 6) (.tmp 11) rfl (w.heap.size+1+1) ss rfl rfl 124 Try.zeroCells124 hl2 hi2 hz2 hone ?_))
 go_loopw [15] (fun iv wr=>∃k:Nat,k≤nt.length∧iv=.int .i64 k∧Below (w.heap.size+1+1) ((w.alloc (.cells cs 104)).alloc (.cells #[.int .i64 frn,.int .i64 to,.slice vo via.length vc,.slice no nt.length nc] 55)) wr∧wr.rowIs (w.heap.size+1+1) 124 79 (sF C frn to (.slice vo via.length vc) (.slice no nt.length nc) (nt.take k) (.slice none 0 0) (.slice none 0 0) 0)) (fun iv _=>nt.length - (intOf iv).toNat)
 case atStart=>exact⟨0,Nat.zero_le _,rfl,hbel3,hrow3⟩
 case round=>
  clear hl1 hl2 hrow3 hbel3 c3 c0 hE3
  obtain⟨k,hk,rfl,hbel,hrow⟩:=hrel
  obtain⟨c3,c0,hE⟩:=HC3.out _ hbel
  by_cases hlt:k<nt.length
  ·obtain⟨b,off,rfl,hb,hat⟩:∃b off,no=some ⟨b,off,none⟩∧b<w.heap.size∧IntsAt w b off nt:=by
    rcases hn with rfl | h
    ·simp at hlt
    ·exact h
   have ce:=(hE.cells.1 _ _ hb).trans (hat k hlt)
   have hmem:nt.getD k 0∈nt:=getD_mem hlt
   have hr:=hnr _ hmem
   obtain⟨x,hx⟩:=Int.eq_ofNat_of_zero_le hr.1
   have HX:=hidp hx
   rw[hx] at ce hr
   clear hx hmem hat
   have hx8:x<8:=by omega
   have ecc:=closed_at hx8 hrow
   have efz:=hrow.frozen (68+x)
   have hbr:b<wr.heap.size:=by have:=hE.size;omega
   go_wp2
   go_roundw
   case rel=>
    refine⟨k+1,by omega,by go_num,hbel.setCell (by simp) _,((hrow.set _ _).congr (fun j _=>sF_close hx8 j)).congr (fun j _=>sF_congr (fun y=>?_) j)⟩
    rw[List.take_succ_eq_append_getElem hlt,List.mem_append,List.mem_cons]
    have e:nt[k]=(x:Int):=by rw[←getD_at hlt];exact HX.out
    rw[e]
    simp
    exact Or.comm
   case measure=>simp[intOf];omega
  ·have hkk:nt.take k=nt:=List.take_of_length_le (by omega)
   rw[hkk] at hrow
   clear hkk
   go_wp2_with fail
   refine(enter_ok hC hvl 8 nt [] frn 0 0 none _ (by simp) (by simp) (by simp) (by simp) hfr hfn (by omega) (by simp) (Nat.zero_le _) ?_ ⟨_,_,_,hrow,World.ownsRow_nil _ _ _ _,rfl⟩).mono ?_
   ·rcases hv with h | ⟨b,off,h1,h2,h3⟩
    ·exact Or.inl h
    ·exact Or.inr ⟨b,off,h1,by omega,fun i hi=>(hE.cells.1 _ _ h2).trans (h3 i hi)⟩
   ·rintro e w4 ⟨rfl,hbl4,wv4,bv4,l4,hsa4⟩
    obtain⟨e65,e66,e76,e77,e78,efz⟩:=flow_cells hsa4.row
    have hE4:Ext w w4:=Below.trans hE (hbl4.mono (by have:=hE.size;omega))
    have heql:∀(w:World) (a:Option Addr) (n c:Nat),(binOp .eql 51 (.slice a n c) (.slice none 0 0)).run Try.prog w=.ok (.bool a.isNone) w:=fun w a n c=>Lib.run_eql_slice_nil w _ _ a n c 0 0 Try.underlying51
    have hbest:=hsa4.best
    have hfd:ent C to via 8 nt [] (frn:Int) 0 0 none=find C frn to via nt:=rfl
    rw[hfd] at hbest
    clear hsa4 hfd c3 c0
    cases hfi:find C frn to via nt with
    | none=>
     rw[hfi] at hbest
     have HF:=hidp hfi
     clear hfi
     have hbv:bv4=.slice none 0 0:=hbest
     subst hbv
     go_wp2
     go_ret2
     refine⟨hE4,?_⟩
     rw[HF.out]
     rfl
    | some y=>
     obtain⟨p,c⟩:=y
     rw[hfi] at hbest
     have HF:=hidp hfi
     clear hfi
     obtain⟨g,cap,rfl,h2,h3,h4,_,_,h7⟩:=hbest
     go_wp2
     go_ret2
     refine⟨hE4,?_⟩
     rw[HF.out]
     exact⟨g,cap,rfl,by omega,h3,h4,h7⟩
theorem cheapest_any {C:Int→Int→Int} (hC:∀a b,0≤C a b∧C a b≤1000) (frn:Nat) (to:Int) (vo no:Option Addr) (vc nc:Nat) (via nt:List Int) (w:World) (hfr:frn<8) (hvl:via.length≤4611686018427387904) (hnl:nt.length≤4611686018427387904)
 (hv:ListAt w vo via) (hn:ListAt w no nt) (hnr:∀x∈nt,0≤x∧x<8) (hfn:¬(frn:Int)∈nt) (cs:Array Value) (hcs:cs.size=64) (hcc:∀a b:Nat,a<8→b<8→cs[a*8+b]? =some (.int .i64 (C a b))):
 Calls Try.prog 46 #[.agg cs,.agg #[.int .i64 frn,.int .i64 to,.slice vo via.length vc,.slice no nt.length nc]] w fun e w'=>Ext w w'∧FOut w w' e (find C frn to via nt):=by
 obtain rfl:=mat_eq hcs hcc
 exact cheapest_core hC frn to vo no vc nc via nt w hfr hvl hnl hv hn hnr hfn _ _ hcs srcA_size srcA_one (built_s _ _ _ _ _) (fun i hi=>srcA_row hi)
end Go.Proofs.Ytolclgbpjiokfaa
namespace Go.Proofs.Ytolclgbpjiokfaa
open Go.RowKit Go.Maps Stw Go.Deep Stp
def fnd (n:Int) (ls:List Lk) (f:Stf.Fl):Int×List Int:=
 if(wrong n ls).1≠0 then((wrong n ls).1,[]) else if Stf.wflow f n≠0 then(Stf.wflow f n,[]) else match find (cost ls) f.fr f.to f.via f.nt with
  | none=>(9,[])
  | some (p,_)=>(0,p)
structure RightF (n:Int) (f:Stf.Fl):Prop where
 fr:0≤f.fr∧f.fr<n
 to:0≤f.to∧f.to<n
 ne:f.fr≠f.to
 via:∀x∈f.via,0≤x∧x<n∧x≠f.fr∧x≠f.to
 nt:∀x∈f.nt,0≤x∧x<n∧x≠f.fr∧x≠f.to
 vnd:f.via.Nodup
 nnd:f.nt.Nodup
 apart:∀x∈f.nt,¬x∈f.via
theorem list_right {a b n:Int} {L:List Int} (h:Stf.wlist a b n L=0):(∀x∈L,0≤x∧x<n∧x≠a∧x≠b)∧L.Nodup:=by
 have h0:=Fw.wlist_zero h
 constructor
 ·intro x hx
  obtain⟨i,hi,rfl⟩:=List.getElem_of_mem hx
  obtain⟨h1,h2,h3,_⟩:=Stf.ewl_zero (h0 i hi)
  rw[getD_at hi] at h1 h2 h3
  simp only[Stf.swB,decide_eq_true_eq] at h1
  exact⟨h1.1,h1.2,h2,h3⟩
 ·rw[Stp.nodup_iff]
  intro i hi
  exact(Stf.ewl_zero (h0 i hi)).2.2.2
theorem rightF_of {n:Int} {f:Stf.Fl} (h:Stf.wflow f n=0):RightF n f:=by
 unfold Stf.wflow at h
 split at h
 ·cases h
 ·rename_i h1
  split at h
  ·cases h
  ·rename_i h2
   split at h
   ·rename_i h3;exact absurd h h3
   ·rename_i h3
    split at h
    ·rename_i h4;exact absurd h h4
    ·rename_i h4
     split at h
     ·cases h
     ·rename_i h5
      simp only[ne_eq,Decidable.not_not] at h3 h4
      obtain⟨v1,v2⟩:=list_right h3
      obtain⟨n1,n2⟩:=list_right h4
      simp only[not_or,Bool.not_eq_false,Stf.swB,decide_eq_true_eq] at h1
      refine⟨h1.1,h1.2,h2,v1,n1,v2,n2,fun x hx hv=>h5 ?_⟩
      rw[List.any_eq_true]
      exact⟨x,hx,decide_eq_true hv⟩
theorem flows_one {w:World} {v nv:Value} {f:Stf.Fl} {b:Nat} (h:w.heap.size=b) (hv:Fw.FV w f.via v) (hn:Fw.FV w f.nt nv):Fw.FlowsAt (w.alloc (.cells #[.int .i64 f.fr,.int .i64 f.to,v,nv] 55)) (some ⟨b,0,none⟩) [f]:=by
 subst h
 refine Or.inr ⟨_,0,rfl,by simp,fun k hk=>?_⟩
 have:k=0:=by simp at hk;omega
 subst this
 exact⟨v,nv,by simp,by simp,by simp,by simp,hv.ext ((Ext.refl _).alloc _),hn.ext ((Ext.refl _).alloc _)⟩
theorem wflows_one {f:Stf.Fl} {n:Int}:Stf.wflows [f] n=(Stf.wflow f n,0):=by
 by_cases h:Stf.wflow f n=0
 ·rw[Fw.wflows_good (by simp) (fun j hj=>by
   have e:j=0:=by simp at hj;omega
   subst e
   simpa using h),h]
 ·have:=Fw.wflows_bad (fs:=[f]) (n:=n) (k:=0) (by simp) (by simp) (fun j hj=>by omega) (by simpa using h)
  simpa using this
theorem sm_one {f:Stf.Fl} (h1:f.via.length≤4611686018427387904) (h2:f.nt.length≤4611686018427387904):Fw.Sm [f]:=by
 intro k hk
 have:k=0:=by simp at hk;omega
 subst this
 exact⟨h1,h2⟩
theorem FOut.none {w w':World} {e:Ending} (h:FOut w w' e none):e=.returned (.tuple #[.slice none 0 0,.int .i64 9]):=h
def FindOut (w w':World) (e:Ending) (r:Int×List Int):Prop:=∃go gc,e=.returned (.tuple #[.slice go r.2.length gc,.int .i64 r.1])∧ListAt w' go r.2∧r.2.length≤gc∧Ext w w'
end Go.Proofs.Ytolclgbpjiokfaa
