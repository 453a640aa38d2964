/- What an insertion sort does with a part of a row of rules. -/
import Derived.Test.YtolclgbpjiokfaaU20
import Derived.Test.YtolclgbpjiokfaaU28
import Derived.Deep.DeepCutAuto
import Derived.Sort.WalkA
namespace Go.Proofs.Ytolclgbpjiokfaa.Ag
open Go.RowKit Go.Deep Tb Rul
def scs (st:List (Int×Int)):List Value:=st.flatMap (fun r=>[.int .i64 r.1,.int .i64 r.2])
theorem scs_cons (r:Int×Int) (st:List (Int×Int)):scs (r::st)=[.int .i64 r.1,.int .i64 r.2]++scs st:=by simp[scs]
theorem scs_len:∀st:List (Int×Int),(scs st).length=st.length*2
 | []=>rfl
 | r::st=>by rw[scs_cons,List.length_append,scs_len st];simp;omega
theorem scs_append (x y:List (Int×Int)):scs (x++y)=scs x++scs y:=by simp[scs]
theorem scs_one (st:List (Int×Int)):∀u∈scs st,u.oneCell'=true:=by
 intro u hu
 simp only[scs,List.mem_flatMap,List.mem_cons,List.not_mem_nil,or_false] at hu
 obtain⟨l,_,rfl | rfl⟩:=hu <;> rfl
theorem scs_at:∀(st:List (Int×Int)) (k:Nat),k<st.length→(scs st)[k*2]? =some (.int .i64 (st.getD k s0).1)∧(scs st)[k*2+1]? =some (.int .i64 (st.getD k s0).2)
 | [],k,h=>by simp at h
 | r::st,0,_=>by simp[scs]
 | r::st,k+1,h=>by
  have ih:=scs_at st k (by simpa using h)
  rw[scs_cons]
  simp only[List.getElem?_append,List.length_cons,List.length_nil,show ¬(k+1)*2<0+1+1 by omega,show ¬(k+1)*2+1<0+1+1 by omega,if_false,show(k+1)*2 - (0+1+1)=k*2 by omega,show(k+1)*2+1 - (0+1+1)=k*2+1 by omega]
  simpa using ih
theorem scs_cells {W:World} {g off:Nat} {st:List (Int×Int)} (h:∀k,k<st.length→W.cell? ⟨g,off+k*2,none⟩=some (.int .i64 (st.getD k s0).1)∧W.cell? ⟨g,off+k*2+1,none⟩=some (.int .i64 (st.getD k s0).2)):
 ∀j u,(scs st)[j]? =some u→W.cell? ((⟨g,off,none⟩:Addr).add j)=some u:=fun j u hu=>by
 have hj:j<st.length*2:=by have:=(List.getElem?_eq_some_iff.1 hu).1;rwa [scs_len] at this
 obtain⟨a0,a1⟩:=scs_at st (j / 2) (by omega)
 obtain⟨c0,c1⟩:=h (j / 2) (by omega)
 rw[add_none]
 rcases(show j % 2=0∨j % 2=1 by omega) with e | e
 ·rw[show j / 2*2=j by omega] at a0 c0;rw[c0, ←a0,hu]
 ·rw[show j / 2*2+1=j by omega] at a1;rw[show off+j / 2*2+1=off+j by omega] at c1;rw[c1, ←a1,hu]
theorem StAt.news {w:World} {a:Addr} {st:List (Int×Int)} (h:StAt w (some a) st):∀j u,(scs st)[j]? =some u→w.cell? (a.add j)=some u:=by
 rcases h with h0 | ⟨g,off,h1,h2,h3⟩
 ·intro j u hu;rw[h0] at hu;simp[scs] at hu
 ·cases h1
  exact scs_cells h3
theorem StAt.nil {w:World} {st:List (Int×Int)} (h:StAt w none st):st=[]:=by
 rcases h with h | ⟨g,off,h,_⟩
 ·exact h
 ·cases h
theorem RsAt.nil {w:World} {rs:List Ru} (h:RsAt w none rs):rs=[]:=by
 rcases h with h | ⟨g,off,h,_⟩
 ·exact h
 ·cases h
def SO (w:World) (base:Nat) (v:Value) (st:List (Int×Int)):Prop:=w.ownsRow base 74 2 v st.length (scs st)
theorem SO.form {w:World} {base:Nat} {v:Value} {st:List (Int×Int)} (h:SO w base v st):∃ao cap,v=.slice ao st.length cap∧StAt w ao st:=by
 rcases h.2 with⟨hv,h0⟩ | ⟨g,cap,cur,hv,hb,hg,hn,hm,hc,ht⟩
 ·exact⟨none,0,by rw[h0];exact hv,Or.inl (List.eq_nil_of_length_eq_zero h0)⟩
 ·refine⟨some ⟨g,0,none⟩,cap,hv,Or.inr ⟨g,0,rfl,(Array.getElem?_eq_some_iff.1 hg).1,fun k hk=>?_⟩⟩
  have hcell:∀j u,j<st.length*2→(scs st)[j]? =some u→w.cell? ⟨g,0+j,none⟩=some u:=fun j u hj hu=>by
   rw[←ht,List.getElem?_take_of_lt hj] at hu
   simp[World.cell?,hg]
   simpa using hu
  obtain⟨a0,a1⟩:=scs_at st k hk
  exact⟨hcell _ _ (by omega) a0,hcell _ _ (by omega) a1⟩
theorem SO.ext {w w':World} {base:Nat} {v:Value} {st:List (Int×Int)} (h:SO w base v st) (k:Ext w w'):SO w' base v st:=by
 refine⟨h.1,?_⟩
 rcases h.2 with h2 | ⟨g,cap,cur,h1,h2,h3,h4⟩
 ·exact Or.inl h2
 ·exact Or.inr ⟨g,cap,cur,h1,h2,(Below.block k g (Array.getElem?_eq_some_iff.1 h3).1).trans h3,h4⟩
theorem SO.nil (w:World) (base:Nat):SO w base (.slice none 0 0) []:=World.ownsRow_nil _ _ _ _
theorem SO.block {w:World} {base:Nat} {v:Value} {st:List (Int×Int)} (h:SO w base v st):∀k,v.ownBlock=some k→base≤k∧k<w.heap.size:=h.lt
theorem infoS:(Try.prog.info? 74).map (fun i=>(i.zero,i.size,i.bytes))=some (some (.agg #[.int .i64 0,.int .i64 0]),2,16):=by kernel_rfl
theorem infoS':∃i,Try.prog.info? 74=some i∧i.zero=some (.agg #[.int .i64 0,.int .i64 0])∧i.size=2∧i.bytes=16:=by
 have h:=infoS
 cases e:Try.prog.info? 74 with
 | none=>rw[e] at h;simp at h
 | some i=>rw[e] at h;simp at h;exact⟨i,rfl,h.1,h.2.1,h.2.2⟩
theorem cells2n {W:World} {n:Nat} (h:W.heap.size=n) (v0 v1:Value) (T:TypeId) (i:Nat) (u:Value) (hu:[v0,v1][i]? =some u):(W.alloc (.cells #[v0,v1] T)).cell? ((⟨n,0,none⟩:Addr).add i)=some u:=by
 subst h
 rw[add_none]
 match i,hu with
 | 0,hu=>simp at hu;subst hu;simp
 | 1,hu=>simp at hu;subst hu;simp
 | i+2,hu=>simp at hu
set_option maxHeartbeats 1000000 in
theorem cloneR_nil (n c:Nat) (w:World):
 Calls Try.prog 108 #[.slice none n c] w fun e w'=>e=.returned (.slice none 0 0)∧w'=w:=by
 have hq:∀(w:World) (a:Option Addr) (n c:Nat),(binOp .eql 57 (.slice a n c) (.slice none 0 0)).run Try.prog w=.ok (.bool a.isNone) w:=fun w a n c=>Lib.run_eql_slice_nil w _ _ a n c 0 0 Try.underlying57
 go_enter Try.func108,Try.ntmps108
 go_wp2
 go_ret
 exact⟨rfl,rfl⟩
set_option maxHeartbeats 1000000 in
theorem cloneR_some (ad:Addr) (n c:Nat) (rs:List Ru) (w:World) (hn:rs.length=n) (hb:n*24≤140737488351232) (hp:∀j u,(rcs rs)[j]? =some u→(w.alloc (.cells #[] 63)).cell? (ad.add j)=some u):
 Calls Try.prog 108 #[.slice (some ad) n c] w fun e w'=>∃v',e=.returned v'∧RO w' w.heap.size v' rs∧Ext w w':=by
 obtain⟨i0,hi,hz0,hz1,hz2⟩:=infoR'
 have hq:∀(w:World) (a:Option Addr) (n c:Nat),(binOp .eql 57 (.slice a n c) (.slice none 0 0)).run Try.prog w=.ok (.bool a.isNone) w:=fun w a n c=>Lib.run_eql_slice_nil w _ _ a n c 0 0 Try.underlying57
 have A:Hid _:=hp
 clear hp
 go_enter Try.func108,Try.ntmps108
 go_wp2_with (at_builtin;refine wpList_append_own _ rfl _ _ 57 rfl w.heap.size 63 i0 (.agg #[.int .i64 0,.int .i64 0,.int .i64 0]) 3 24 Try.underlying57 hi hz0 hz1 hz2 rfl (by decide) _ _ _ rfl (World.ownsRow_made w #[] 0 (Nat.le_refl _) (Nat.zero_le _) rfl) ad n c (rcs rs) rfl ?qc1 ?qc2 ?qc3 ?qc4 ?qc5 ?qc6 ?_)
 case qc1=>rw[rcs_len,hn]
 case qc2=>exact A.out
 case qc3=>exact rcs_one rs
 case qc4=>unfold maxLen;omega
 case qc5=>omega
 case qc6=>simp
 intro v' w1 hown hgrow hnil
 go_wp2
 go_ret
 refine⟨v',rfl,?_,?_⟩
 ·unfold RO;rw[hn];simpa using hown
 ·exact((Below.refl _ w).alloc (Nat.le_refl _) _).grown hgrow (by simp) (by intro k hk;simp[Value.ownBlock] at hk;omega)
theorem cloneR_any (o:Option Addr) (c:Nat) (rs:List Ru) (w:World) (hb:rs.length*24≤140737488351232) (hp:RsAt w o rs):
 Calls Try.prog 108 #[.slice o rs.length c] w fun e w'=>∃v',e=.returned v'∧RO w' w.heap.size v' rs∧Ext w w':=by
 cases o with
 | none=>
  have he:=RsAt.nil hp
  refine(cloneR_nil rs.length c w).mono ?_
  rintro e w' ⟨rfl,rfl⟩
  exact⟨_,rfl,by rw[he];exact RO.nil _ _,Ext.refl _⟩
 | some ad=>
  exact cloneR_some ad rs.length c rs w rfl hb (SlOk.news (len:=rs.length) (cap:=c) ⟨rfl,hp.ext ((Ext.refl w).alloc _),fun h=>by cases h⟩)
set_option maxHeartbeats 1000000 in
theorem cloneS_nil (n c:Nat) (w:World):
 Calls Try.prog 113 #[.slice none n c] w fun e w'=>e=.returned (.slice none 0 0)∧w'=w:=by
 have hq:∀(w:World) (a:Option Addr) (n c:Nat),(binOp .eql 58 (.slice a n c) (.slice none 0 0)).run Try.prog w=.ok (.bool a.isNone) w:=fun w a n c=>Lib.run_eql_slice_nil w _ _ a n c 0 0 Try.underlying58
 go_enter Try.func113,Try.ntmps113
 go_wp2
 go_ret
 exact⟨rfl,rfl⟩
set_option maxHeartbeats 1000000 in
theorem cloneS_some (ad:Addr) (n c:Nat) (st:List (Int×Int)) (w:World) (hn:st.length=n) (hb:n*16≤140737488351232) (hp:∀j u,(scs st)[j]? =some u→(w.alloc (.cells #[] 74)).cell? (ad.add j)=some u):
 Calls Try.prog 113 #[.slice (some ad) n c] w fun e w'=>∃v',e=.returned v'∧SO w' w.heap.size v' st∧Ext w w':=by
 obtain⟨i0,hi,hz0,hz1,hz2⟩:=infoS'
 have hq:∀(w:World) (a:Option Addr) (n c:Nat),(binOp .eql 58 (.slice a n c) (.slice none 0 0)).run Try.prog w=.ok (.bool a.isNone) w:=fun w a n c=>Lib.run_eql_slice_nil w _ _ a n c 0 0 Try.underlying58
 have A:Hid _:=hp
 clear hp
 go_enter Try.func113,Try.ntmps113
 go_wp2_with (at_builtin;refine wpList_append_own _ rfl _ _ 58 rfl w.heap.size 74 i0 (.agg #[.int .i64 0,.int .i64 0]) 2 16 Try.underlying58 hi hz0 hz1 hz2 rfl (by decide) _ _ _ rfl (World.ownsRow_made w #[] 0 (Nat.le_refl _) (Nat.zero_le _) rfl) ad n c (scs st) rfl ?qc1 ?qc2 ?qc3 ?qc4 ?qc5 ?qc6 ?_)
 case qc1=>rw[scs_len,hn]
 case qc2=>exact A.out
 case qc3=>exact scs_one st
 case qc4=>unfold maxLen;omega
 case qc5=>omega
 case qc6=>simp
 intro v' w1 hown hgrow hnil
 go_wp2
 go_ret
 refine⟨v',rfl,?_,?_⟩
 ·unfold SO;rw[hn];simpa using hown
 ·exact((Below.refl _ w).alloc (Nat.le_refl _) _).grown hgrow (by simp) (by intro k hk;simp[Value.ownBlock] at hk;omega)
theorem cloneS_any (o:Option Addr) (c:Nat) (st:List (Int×Int)) (w:World) (hb:st.length*16≤140737488351232) (hp:StAt w o st):
 Calls Try.prog 113 #[.slice o st.length c] w fun e w'=>∃v',e=.returned v'∧SO w' w.heap.size v' st∧Ext w w':=by
 cases o with
 | none=>
  have he:=StAt.nil hp
  refine(cloneS_nil st.length c w).mono ?_
  rintro e w' ⟨rfl,rfl⟩
  exact⟨_,rfl,by rw[he];exact SO.nil _ _,Ext.refl _⟩
 | some ad=>
  exact cloneS_some ad st.length c st w rfl hb (StAt.news (hp.ext ((Ext.refl w).alloc _)))
theorem stamps_snoc {v:Int} {fs:List Int} {k:Nat} (hk:k<fs.length):Agt.stamps v (fs.take (k+1))=Agt.stamps v (fs.take k)++[(fs.getD k 0,v)]:=by
 have e:fs.getD k 0=fs[k]:=by simp[List.getD_eq_getElem?_getD,hk]
 rw[List.take_succ_eq_append_getElem hk,e];unfold Agt.stamps;rw[List.map_append];rfl
theorem stamps_len (v:Int) (fs:List Int):(Agt.stamps v fs).length=fs.length:=by simp[Agt.stamps]
theorem stamps_all {v:Int} {fs:List Int} {k:Nat} (h:fs.length≤k):Agt.stamps v (fs.take k)=Agt.stamps v fs:=by rw[List.take_of_length_le h]
set_option maxRecDepth 100000 in
set_option maxHeartbeats 800000 in
theorem stampsOf_any (fo:Option Addr) (fc:Nat) (fs:List Int) (v:Int) (w:World) (hf:ListAt w fo fs) (hl:fs.length*16≤140737488351232):
 Calls Try.prog 109 #[.slice fo fs.length fc,.int .i64 v] w fun e w'=>∃v',e=.returned v'∧SO w' w.heap.size v' (Agt.stamps v fs)∧Ext w w':=by
 obtain⟨i3,hi3,hz0,hz1,hz2⟩:=infoS'
 go_enter Try.func109,Try.ntmps109
 go_wp2
 go_loopw [5,10] (fun ov iv wd=>∃k:Nat,k≤fs.length∧iv=.int .i64 k∧Hid (SO wd w.heap.size ov (Agt.stamps v (fs.take k)))∧Ext w wd) (fun _ iv _=>fs.length - (intOf iv).toNat)
 case atStart=>exact⟨0,Nat.zero_le _,rfl,SO.nil _ _,Ext.refl w⟩
 case round=>
  obtain⟨k,hk,rfl,HO,hE⟩:=hrel
  by_cases hlt:k<fs.length
  ·obtain⟨g,off,rfl,hg,hcs⟩:=(hf.ext hE).get (k:=k) (by omega)
   have i1:(k:Int)<(fs.length:Int):=by omega
   have HST:Hid _:=stamps_snoc (v:=v) (fs:=fs) (k:=k) (by omega)
   have c0:=hcs k hlt
   obtain⟨f,hf0⟩:∃f,fs.getD k 0=f:=⟨_,rfl⟩
   rw[hf0] at c0 HST
   clear hf0 hcs
   have hE0:=HO.out.ext ((Ext.refl wr).alloc (.cells #[.int .i64 f,.int .i64 v] 74))
   have hdl:(Agt.stamps v (fs.take k)).length=k:=by rw[stamps_len];simp;omega
   have HDL:Hid _:=hdl
   clear hdl
   have hEs:=hE.size
   go_wp2_with (first | (at_builtin;refine wpList_append_own _ rfl _ _ 58 rfl w.heap.size 74 i3 (.agg #[.int .i64 0,.int .i64 0]) 2 16 Try.underlying58 hi3 hz0 hz1 hz2 rfl (by decide) _ _ _ rfl hE0 ⟨wr.heap.size,0,none⟩ 1 1 [.int .i64 f,.int .i64 v] rfl rfl ?c1 ?c2 ?c3 ?c4 ?c5 ?_) | go_in)
   case c1=>exact cells2n rfl _ _ _
   case c2=>intro u hu;simp only[List.mem_cons,List.not_mem_nil,or_false] at hu;rcases hu with rfl | rfl <;> rfl
   case c3=>have:=HDL.out;unfold maxLen;omega
   case c4=>have:=HDL.out;omega
   case c5=>simp;omega
   ·intro v' w5 hown5 hg5 _
    have hE5:Ext w w5:=Below.grown (hE.alloc _) hg5 (by simp;omega) (fun j hj=>(HO.out.block j hj).1)
    have HO2:Hid (SO w5 w.heap.size v' (Agt.stamps v (fs.take (k+1)))):=by
     show SO _ _ _ _
     rw[HST.out]
     unfold SO
     rw[scs_append]
     simpa[scs] using hown5
    clear hown5 hg5 hE0 HST
    go_wp2
    exact⟨⟨k+1,by omega,by go_num,HO2,hE5⟩,by simp[intOf];omega⟩
  ·have i1:¬(k:Int)<(fs.length:Int):=by omega
   have HA:Hid _:=stamps_all (v:=v) (fs:=fs) (k:=k) (by omega)
   go_wp2
   go_ret
   refine⟨_,rfl,?_,hE⟩
   have:=HO.out
   rwa [HA.out] at this
end Go.Proofs.Ytolclgbpjiokfaa.Ag
namespace Go.Proofs.Ytolclgbpjiokfaa.Tb
open Go.RowKit Go.Deep Rul Go.Sort
set_option maxRecDepth 100000 in
set_option maxHeartbeats 800000 in
theorem sym_last (b N cap a m:Nat) (d:Array Ru) (w:World) (h:RW w b N d) (ham:a+1<m) (hmn:m<d.size) (hsz:d.size≤1152921504606846976) (hs:SortedIn lt a m d):
 Calls Try.prog 124 #[.slice (some ⟨b,0,none⟩) d.size cap,.int .i64 a,.int .i64 m,.int .i64 ((m+1:Nat):Int),CB] w fun e w'=>e=.returned (.tuple #[])∧∃d',Mrg a (m+1) d d'∧RW w' b N d'∧w.grownBy w' (some b):=by
 obtain⟨c,hc⟩:∃c,c=m+1:=⟨_,rfl⟩
 have wm:IntKind.i64.wrap ((m:Int) - a)=((m - a:Nat):Int):=by rw[IntKind.wrap_i64];omega
 have wm2:(((m - a:Nat):Int) == 1)=false:=by simp;omega
 have wc:IntKind.i64.wrap ((c:Int) - m)=1:=by rw[IntKind.wrap_i64];omega
 rw[←hc]
 have hc1:c≤m+1:=by omega
 have hc2:m+1≤c:=by omega
 have HC:Hid (c=m+1):=hc
 clear hc
 go_enter Try.func124,Try.ntmps124
 go_wp2
 go_loopw [14,15] (fun iv jv wr=>∃(i j:Nat),a≤i∧i≤j∧j≤m∧iv=.int .i64 i∧jv=.int .i64 j∧(∀t,a≤t→t<i→lt d[m]! d[t]! =false)∧(∀t,j≤t→t<m→lt d[m]! d[t]! =true)∧Ext w wr) (fun iv jv _=>(intOf jv).toNat - (intOf iv).toNat)
 case atStart=>exact⟨a,m,Nat.le_refl _,by omega,Nat.le_refl _,rfl,rfl,fun t h1 h2=>by omega,fun t h1 h2=>by omega,Ext.refl w⟩
 case round=>
  obtain⟨i,j,h1,h2,h3,rfl,rfl,q1,q2,hext⟩:=hrel
  by_cases hlt:i<j
  ·have i1:(i:Int)<(j:Int):=by omega
   obtain⟨k,hk,k1,k2⟩:∃k:Nat,((i:Int)+j) / 2=k∧i≤k∧k<j:=⟨(i+j) / 2,by omega,by omega,by omega⟩
   obtain⟨x,hx⟩:∃x,d[m]! =x:=⟨_,rfl⟩
   obtain⟨y,hy⟩:∃x,d[k]! =x:=⟨_,rfl⟩
   obtain⟨x0,x1,x2⟩:=(h.ext hext).cells (j:=m) (by omega) hx
   obtain⟨y0,y1,y2⟩:=(h.ext hext).cells (j:=k) (by omega) hy
   have HQ:Hid _:=order_re x y wr
   have x0':=cell_regrown x0
   have x1':=cell_regrown x1
   have x2':=cell_regrown x2
   have y0':=cell_regrown y0
   have y1':=cell_regrown y1
   have y2':=cell_regrown y2
   have bk:(k:Int)<(d.size:Int):=by omega
   have ba:(m:Int)<(d.size:Int):=by omega
   clear x0 x1 x2 y0 y1 y2
   have HQ1:Hid _:=q1
   have HQ2:Hid _:=q2
   have HS:Hid _:=hs
   clear q1 q2 hs h
   by_cases hl:cf x y<0
   ·go_wp2_with fail
    refine wp_region_quiet_below (by kernel_rfl) (by kernel_rfl) ?_
    repeat(go_big_quiet_step (with_reducible exact HQ.out _ _))
    refine wpQuiet_nil ?_
    intro _ hw'
    obtain⟨⟨dq,oq⟩,hw''⟩:=hw'
    subst hw''
    clear x0' x1' x2' y0' y1' y2' HQ
    go_wp2
    refine⟨⟨i,k,h1,k1,by omega,rfl,by go_num,HQ1.out,fun t t1 t2=>?_,hext.trans (below_regrown wr dq oq)⟩,by simp[intOf];omega⟩
    have:=cf_lt.1 hl
    rw[←hx, ←hy] at this
    by_cases e:t=k
    ·subst e;exact this
    ·exact lt_of_lt_le this (HS.out k t (by omega) (by omega) (by omega))
   ·have hl2:decide (cf x y<0)=false:=decide_eq_false hl
    go_wp2_with fail
    refine wp_region_quiet_below (by kernel_rfl) (by kernel_rfl) ?_
    repeat(go_big_quiet_step (with_reducible exact HQ.out _ _))
    refine wpQuiet_nil ?_
    intro _ hw'
    obtain⟨⟨dq,oq⟩,hw''⟩:=hw'
    subst hw''
    clear x0' x1' x2' y0' y1' y2' HQ
    go_wp2
    refine⟨⟨k+1,j,by omega,by omega,h3,by go_num,rfl,fun t t1 t2=>?_,HQ2.out,hext.trans (below_regrown wr dq oq)⟩,by simp[intOf];omega⟩
    have:=cf_ge.1 hl
    rw[←hx, ←hy] at this
    by_cases e:t=k
    ·subst e;exact this
    ·exact swo.ntrans _ _ _ this (HS.out t k (by omega) (by omega) (by omega))
  ·have i1:¬(i:Int)<(j:Int):=by omega
   obtain rfl:i=j:=by omega
   have hr0:=h.ext hext
   go_wp2
   go_loopw [17] (fun kv wk=>∃(k:Nat) (dk:Array Ru),i≤k∧k≤m∧kv=.int .i64 k∧dk.size=d.size∧(∀t,k<t→t≤m→dk[t]! =d[t - 1]!)∧dk[k]! =d[m]!∧(∀t,t<k∨m<t→dk[t]! =d[t]!)∧RW wk b N dk∧w.grownBy wk (some b)) (fun kv _=>(intOf kv).toNat)
   case atStart=>exact⟨m,d,by omega,Nat.le_refl _,rfl,rfl,fun t t1 t2=>by omega,rfl,fun t _=>rfl,hr0,Gb.ext hext⟩
   case round=>
    obtain⟨k,dk,k1,k2,rfl,k3,g1,g2,g3,hr,hg⟩:=hrel
    by_cases hkl:i<k
    ·obtain⟨k',rfl⟩:∃k',k=k'+1:=⟨k - 1,by omega⟩
     have i2:(i:Int)<((k':Int)+1):=by omega
     obtain⟨x,hx⟩:∃x,dk[k'+1]! =x:=⟨_,rfl⟩
     obtain⟨y,hy⟩:∃x,dk[k']! =x:=⟨_,rfl⟩
     obtain⟨x0,x1,x2⟩:=hr.cells (j:=k'+1) (by omega) hx
     obtain⟨y0,y1,y2⟩:=hr.cells (j:=k') (by omega) hy
     have fz:=hr.frozen
     have ba:(k':Int)<(d.size:Int):=by omega
     have bc:(k':Int)+1<(d.size:Int):=by omega
     have HR:Hid (RW wr b N dk):=hr
     have HG:Hid (w.grownBy wr (some b)):=hg
     have HD:Hid _:=And.intro g1 (And.intro g2 g3)
     clear hr hg g1 g2 g3 h hr0 q1 q2 hs
     go_wp2_with fail
     go_region
     go_wp2
     refine⟨⟨k',swp dk (k'+1) k',by omega,by omega,by go_num,by rw[size_swp];exact k3,fun t t1 t2=>?_,?_,fun t ht=>?_,?_,?_⟩,by simp[intOf]⟩
     ·by_cases e:t=k'+1
      ·subst e;rw[swp_left _ _ _ (by omega) (by omega)];exact HD.out.2.2 _ (by omega)
      ·rw[swp_other _ _ _ _ (by omega) (by omega)];exact HD.out.1 t (by omega) t2
     ·rw[swp_right _ _ _ (by omega)];exact HD.out.2.1
     ·rw[swp_other _ _ _ _ (by omega) (by omega)];exact HD.out.2.2 t (by omega)
     ·have:=(HR.out.swap (i:=k'+1) (j:=k') (by omega) (by omega)).drew
      rw[hx,hy] at this
      exact this
     ·exact Gb.drew (Gb.swap HG.out _ _ _ _ _ _ _ _)
    ·have i2:¬(i:Int)<(k:Int):=by omega
     have:k=i:=by omega
     subst this
     go_wp2
     (try simp only[Exit.inBlock,Exit.then])
     refine bodyPost_ret (results_none rfl _ _ _) rfl ?_
     have hc:c=m+1:=HC.out
     rw[hc]
     exact⟨rfl,dk,mrg_back (by omega) k2 hs q1 q2 k3 g1 g2 g3,hr,hg⟩
end Go.Proofs.Ytolclgbpjiokfaa.Tb
namespace Go.Proofs.Ytolclgbpjiokfaa.Tb
open Go.RowKit Go.Deep Rul Go.Sort
def SymOk (b N cap:Nat) (K:Nat):Prop:=∀(a m c:Nat) (d:Array Ru) (w:World),c - a≤K→RW w b N d→a<m→m<c→c≤d.size→d.size≤1152921504606846976→SortedIn lt a m d→SortedIn lt m c d→
 Calls Try.prog 124 #[.slice (some ⟨b,0,none⟩) d.size cap,.int .i64 a,.int .i64 m,.int .i64 c,CB] w fun e w'=>e=.returned (.tuple #[])∧∃d',Mrg a c d d'∧RW w' b N d'∧w.grownBy w' (some b)
set_option maxRecDepth 100000 in
set_option maxHeartbeats 1600000 in
theorem sym_gen (b N cap K a m c:Nat) (d:Array Ru) (w:World) (ih:SymOk b N cap K) (hK:c - a≤K+1) (h:RW w b N d) (ham:a+1<m) (hmc:m+1<c) (hcn:c≤d.size) (hsz:d.size≤1152921504606846976) (sX:SortedIn lt a m d) (sY:SortedIn lt m c d):
 Calls Try.prog 124 #[.slice (some ⟨b,0,none⟩) d.size cap,.int .i64 a,.int .i64 m,.int .i64 c,CB] w fun e w'=>e=.returned (.tuple #[])∧∃d',Mrg a c d d'∧RW w' b N d'∧w.grownBy w' (some b):=by
 obtain⟨mid,hmid,mid1,mid2,mid3,mid4⟩:∃mid:Nat,((a:Int)+c) / 2=mid∧a<mid∧mid<c∧2*mid≤a+c∧a+c≤2*mid+1:=⟨(a+c) / 2,by omega,by omega,by omega,by omega,by omega⟩
 obtain⟨n,hn,n1,n2⟩:∃n:Nat,((mid:Int)+m)=n∧n≤mid+m∧mid+m≤n:=⟨mid+m,by omega,by omega,by omega⟩
 obtain⟨p,hp,p1,p2⟩:∃p:Nat,((n:Int) - 1)=p∧p+1≤n∧n≤p+1:=⟨n - 1,by omega,by omega,by omega⟩
 have wm:IntKind.i64.wrap ((m:Int) - a)=((m - a:Nat):Int):=by rw[IntKind.wrap_i64];omega
 have wm2:(((m - a:Nat):Int) == 1)=false:=by simp;omega
 have wc:IntKind.i64.wrap ((c:Int) - m)=((c - m:Nat):Int):=by rw[IntKind.wrap_i64];omega
 have wc2:(((c - m:Nat):Int) == 1)=false:=by simp;omega
 have HI:Hid _:=ih
 have HX:Hid _:=And.intro sX sY
 clear ih sX sY
 go_enter Try.func124,Try.ntmps124
 go_upto_if 140 with fail
 go_cut [20,21] (fun sv rv wc=>∃lo hi:Nat,sv=.int .i64 lo∧rv=.int .i64 hi∧a≤lo∧n≤c+lo∧lo≤hi∧hi≤m∧hi≤mid∧(lo=a∨lo+c=n)∧(hi=m∨hi=mid)∧w=wc)
 case first=>as_aux_lemma=>
  by_cases hlt:mid<m
  ·have i1:(mid:Int)<(m:Int):=by omega
   have w1:IntKind.i64.wrap ((n:Int) - c)=((n - c:Nat):Int):=by rw[IntKind.wrap_i64];omega
   go_wp2
   go_meet
   case rel=>exact⟨n - c,mid,by go_num,rfl,by omega,by omega,by omega,by omega,by omega,by omega,by omega,rfl⟩
  ·have i1:¬(mid:Int)<(m:Int):=by omega
   go_wp2
   go_meet
   case rel=>exact⟨a,m,rfl,rfl,by omega,by omega,by omega,by omega,by omega,by omega,by omega,rfl⟩
 case rest=>as_aux_lemma=>
  obtain⟨lo,hi,rfl,rfl,l1,l2,l3,l4,l5,l6,l7,rfl⟩:=hcut
  go_wp2
  go_loopw [20,21] (fun iv jv wr=>∃(i j:Nat),lo≤i∧i≤j∧j≤hi∧iv=.int .i64 i∧jv=.int .i64 j∧Hid ((lo<i→lt d[n - i]! d[i - 1]! =false)∧(j<hi→lt d[p - j]! d[j]! =true))∧Ext w wr) (fun iv jv _=>(intOf jv).toNat - (intOf iv).toNat)
  case atStart=>exact⟨lo,hi,Nat.le_refl _,by omega,Nat.le_refl _,rfl,rfl,⟨fun h=>absurd h (Nat.lt_irrefl _),fun h=>absurd h (Nat.lt_irrefl _)⟩,Ext.refl w⟩
  case round=>as_aux_lemma=>
   obtain⟨i,j,h1,h2,h3,rfl,rfl,HQ0,hext⟩:=hrel
   by_cases hlt:i<j
   ·have i1:(i:Int)<(j:Int):=by omega
    obtain⟨k,hk,k1,k2⟩:∃k:Nat,((i:Int)+j) / 2=k∧i≤k∧k<j:=⟨(i+j) / 2,by omega,by omega,by omega⟩
    obtain⟨pk,hpk,pk1,pk2⟩:∃pk:Nat,((p:Int) - k)=pk∧pk+k≤p∧p≤pk+k:=⟨p - k,by omega,by omega,by omega⟩
    obtain⟨x,hx⟩:∃x,d[pk]! =x:=⟨_,rfl⟩
    obtain⟨y,hy⟩:∃x,d[k]! =x:=⟨_,rfl⟩
    obtain⟨x0,x1,x2⟩:=(h.ext hext).cells (j:=pk) (by omega) hx
    obtain⟨y0,y1,y2⟩:=(h.ext hext).cells (j:=k) (by omega) hy
    have HQ:Hid _:=order_re x y wr
    have x0':=cell_regrown x0
    have x1':=cell_regrown x1
    have x2':=cell_regrown x2
    have y0':=cell_regrown y0
    have y1':=cell_regrown y1
    have y2':=cell_regrown y2
    have bk:(k:Int)<(d.size:Int):=by omega
    have ba:(pk:Int)<(d.size:Int):=by omega
    clear x0 x1 x2 y0 y1 y2 h
    by_cases hl:cf x y<0
    ·go_wp2_with fail
     refine wp_region_quiet_below (by kernel_rfl) (by kernel_rfl) ?_
     repeat(go_big_quiet_step (with_reducible exact HQ.out _ _))
     refine wpQuiet_nil ?_
     intro _ hw'
     obtain⟨⟨dq,oq⟩,hw''⟩:=hw'
     subst hw''
     clear x0' x1' x2' y0' y1' y2' HQ
     go_wp2
     refine⟨⟨i,k,h1,k1,by omega,rfl,by go_num,⟨HQ0.out.1,fun _=>?_⟩,hext.trans (below_regrown wr dq oq)⟩,by simp[intOf];omega⟩
     have:=cf_lt.1 hl
     rw[←hx, ←hy] at this
     rwa [show p - k=pk by omega]
    ·have hl2:decide (cf x y<0)=false:=decide_eq_false hl
     go_wp2_with fail
     refine wp_region_quiet_below (by kernel_rfl) (by kernel_rfl) ?_
     repeat(go_big_quiet_step (with_reducible exact HQ.out _ _))
     refine wpQuiet_nil ?_
     intro _ hw'
     obtain⟨⟨dq,oq⟩,hw''⟩:=hw'
     subst hw''
     clear x0' x1' x2' y0' y1' y2' HQ
     go_wp2
     refine⟨⟨k+1,j,by omega,by omega,h3,by go_num,rfl,⟨fun _=>?_,HQ0.out.2⟩,hext.trans (below_regrown wr dq oq)⟩,by simp[intOf];omega⟩
     have:=cf_ge.1 hl
     rw[←hx, ←hy] at this
     rwa [show n - (k+1)=pk by omega,show k+1 - 1=k by omega]
   ·have i1:¬(i:Int)<(j:Int):=by omega
    obtain rfl:i=j:=by omega
    have hr0:=h.ext hext
    obtain⟨e,he,e1,e2⟩:∃e:Nat,((n:Int) - i)=e∧e+i≤n∧n≤e+i:=⟨n - i,by omega,by omega,by omega⟩
    go_upto_region 39 with fail
    go_cut [185] (fun v wc=>v=.bool (decide (i<m∧m<e))∧wr=wc)
    case first=>as_aux_lemma=>
     by_cases c1:i<m
     ·have i2:(i:Int)<(m:Int):=by omega
      by_cases c2:m<e
      ·have i3:(m:Int)<(e:Int):=by omega
       have hd:decide (i<m∧m<e)=true:=decide_eq_true ⟨c1,c2⟩
       go_wp2
       go_meet
       case rel=>exact⟨by rw[hd],rfl⟩
      ·have i3:¬(m:Int)<(e:Int):=by omega
       have hd:decide (i<m∧m<e)=false:=decide_eq_false (fun h=>c2 h.2)
       go_wp2
       go_meet
       case rel=>exact⟨by rw[hd],rfl⟩
     ·have i2:¬(i:Int)<(m:Int):=by omega
      have hd:decide (i<m∧m<e)=false:=decide_eq_false (fun h=>c1 h.1)
      go_wp2
      go_meet
      case rel=>exact⟨by rw[hd],rfl⟩
    case rest=>as_aux_lemma=>
     obtain⟨rfl,rfl⟩:=hcut
     go_upto_if 185 with fail
     go_cut [185] (fun _ wc=>∃d1,Hid (Rot i m e d d1)∧RW wc b N d1∧w.grownBy wc (some b))
     case first=>as_aux_lemma=>
      by_cases hR:i<m∧m<e
      ·have hd:decide (i<m∧m<e)=true:=decide_eq_true hR
       go_wp2_with fail
       refine(rotate_any CB b N cap i m e d wr hr0 hR.1 hR.2 (by omega) hsz).mono ?_
       rintro _ w1 ⟨rfl,d1,r1,rw1,g1⟩
       go_wp2
       go_meet
       case rel=>exact⟨d1,r1,rw1,Gb.trans (Gb.ext hext) g1⟩
      ·have hd:decide (i<m∧m<e)=false:=decide_eq_false hR
       have ht:Rot i m e d d:=by
        by_cases c1:i=m
        ·subst c1;exact Rot.triv_left d
        ·have:e=m:=by omega
         subst this;exact Rot.triv_right d
       have HT:Hid _:=ht
       clear ht
       go_wp2
       go_meet
       case rel=>exact⟨d,HT,hr0,Gb.ext hext⟩
     case rest=>as_aux_lemma=>
      obtain⟨d1,HR1,hr1,hg1⟩:=hcut
      clear hr0 h hext
      have hS:SortedIn lt a i d1∧SortedIn lt i mid d1∧SortedIn lt mid e d1∧SortedIn lt e c d1:=by
       have:=HR1.out
       rw[show e=mid+m - i by omega] at this ⊢
       exact rot_sorted HX.out.1 HX.out.2 (by omega) (by omega) (by omega) (by omega) this
      have hd1:d1.size=d.size:=HR1.out.out.1
      have HS:Hid _:=hS
      clear hS
      go_upto_region 41 with fail
      go_cut [199] (fun v wx=>v=.bool (decide (a<i∧i<mid))∧wc=wx)
      case first=>as_aux_lemma=>
       by_cases c1:a<i
       ·have i2:(a:Int)<(i:Int):=by omega
        by_cases c2:i<mid
        ·have i3:(i:Int)<(mid:Int):=by omega
         have hd:decide (a<i∧i<mid)=true:=decide_eq_true ⟨c1,c2⟩
         go_wp2
         go_meet
         case rel=>exact⟨by rw[hd],rfl⟩
        ·have i3:¬(i:Int)<(mid:Int):=by omega
         have hd:decide (a<i∧i<mid)=false:=decide_eq_false (fun h=>c2 h.2)
         go_wp2
         go_meet
         case rel=>exact⟨by rw[hd],rfl⟩
       ·have i2:¬(a:Int)<(i:Int):=by omega
        have hd:decide (a<i∧i<mid)=false:=decide_eq_false (fun h=>c1 h.1)
        go_wp2
        go_meet
        case rel=>exact⟨by rw[hd],rfl⟩
      case rest=>as_aux_lemma=>
       obtain⟨rfl,rfl⟩:=hcut
       go_upto_if 199 with fail
       go_cut [199] (fun _ wc=>∃d2,Hid (Mrg a mid d1 d2)∧RW wc b N d2∧w.grownBy wc (some b))
       case first=>as_aux_lemma=>
        by_cases hR:a<i∧i<mid
        ·have hd:decide (a<i∧i<mid)=true:=decide_eq_true hR
         go_wp2_with fail
         rw[←hd1]
         refine(HI.out a i mid d1 _ (by omega) hr1 hR.1 hR.2 (by omega) (by omega) HS.out.1 HS.out.2.1).mono ?_
         rintro _ w1 ⟨rfl,d2,r1,rw1,g1⟩
         go_wp2
         go_meet
         case rel=>exact⟨d2,r1,rw1,Gb.trans hg1 g1⟩
        ·have hd:decide (a<i∧i<mid)=false:=decide_eq_false hR
         have ht:Mrg a mid d1 d1:=Mrg.same (by
          by_cases c1:i=a
          ·have:=HS.out.2.1;rwa [c1] at this
          ·have:i=mid:=by omega
           have h2:=HS.out.1
           rwa [this] at h2)
         have HT:Hid _:=ht
         clear ht
         go_wp2
         go_meet
         case rel=>exact⟨d1,HT,hr1,hg1⟩
       case rest=>as_aux_lemma=>
        obtain⟨d2,HM2,hr2,hg2⟩:=hcut
        clear hr1 hg1
        have hd2:d2.size=d.size:=HM2.out.1.1.trans hd1
        have hS2:SortedIn lt mid e d2∧SortedIn lt e c d2:=⟨HM2.out.1.sorted_right (Nat.le_refl _) HS.out.2.2.1,HM2.out.1.sorted_right (by omega) HS.out.2.2.2⟩
        have HS2:Hid _:=hS2
        clear hS2
        go_upto_region 43 with fail
        go_cut [213] (fun v wx=>v=.bool (decide (mid<e∧e<c))∧wc=wx)
        case first=>as_aux_lemma=>
         by_cases c1:mid<e
         ·have i2:(mid:Int)<(e:Int):=by omega
          by_cases c2:e<c
          ·have i3:(e:Int)<(c:Int):=by omega
           have hd:decide (mid<e∧e<c)=true:=decide_eq_true ⟨c1,c2⟩
           go_wp2
           go_meet
           case rel=>exact⟨by rw[hd],rfl⟩
          ·have i3:¬(e:Int)<(c:Int):=by omega
           have hd:decide (mid<e∧e<c)=false:=decide_eq_false (fun h=>c2 h.2)
           go_wp2
           go_meet
           case rel=>exact⟨by rw[hd],rfl⟩
         ·have i2:¬(mid:Int)<(e:Int):=by omega
          have hd:decide (mid<e∧e<c)=false:=decide_eq_false (fun h=>c1 h.1)
          go_wp2
          go_meet
          case rel=>exact⟨by rw[hd],rfl⟩
        case rest=>as_aux_lemma=>
         obtain⟨rfl,rfl⟩:=hcut
         have fin:∀d3,Mrg mid c d2 d3→Mrg a c d d3:=fun d3 h3=>by
          have hr:=HR1.out
          rw[show e=mid+m - i by omega] at hr
          exact mrg_sym (by omega) (by omega) (by omega) (by omega) HX.out.1 HX.out.2 (by omega) (by omega) (by omega) (by omega)
           (fun g1 g2=>by have:=HQ0.out.1 (by omega);rwa [show n - i=mid+m - i by omega] at this)
           (fun g1 g2=>by have:=HQ0.out.2 (by omega);rwa [show p - i=mid+m - 1 - i by omega] at this) hr HM2.out h3
         have FIN:Hid _:=fin
         clear fin
         by_cases hR:mid<e∧e<c
         ·have hd:decide (mid<e∧e<c)=true:=decide_eq_true hR
          go_wp2_with fail
          rw[←hd2]
          refine(HI.out mid e c d2 _ (by omega) hr2 hR.1 hR.2 (by omega) (by omega) HS2.out.1 HS2.out.2).mono ?_
          rintro _ w1 ⟨rfl,d3,r1,rw1,g1⟩
          go_wp2
          go_end0
          exact⟨rfl,d3,FIN.out d3 r1,rw1,Gb.trans hg2 g1⟩
         ·have hd:decide (mid<e∧e<c)=false:=decide_eq_false hR
          have ht:Mrg mid c d2 d2:=Mrg.same (by
           by_cases c1:e=mid
           ·have:=HS2.out.2;rwa [c1] at this
           ·have:e=c:=by omega
            have h2:=HS2.out.1
            rwa [this] at h2)
          have HT:Hid _:=ht
          clear ht
          go_wp2
          go_end0
          exact⟨rfl,d2,FIN.out d2 HT.out,hr2,hg2⟩
theorem sym_all (b N cap:Nat):∀K,SymOk b N cap K
 | 0=>fun a m c d w hK _ h1 h2 _ _ _ _=>by omega
 | K+1=>fun a m c d w hK h h1 h2 hc hsz sX sY=>by
  by_cases e1:m=a+1
  ·subst e1
   exact sym_one b N cap a c d w h (by omega) hc hsz sY
  ·by_cases e2:c=m+1
   ·subst e2
    exact sym_last b N cap a m d w h (by omega) (by omega) hsz sX
   ·exact sym_gen b N cap K a m c d w (sym_all b N cap K) hK h (by omega) (by omega) hc hsz sX sY
end Go.Proofs.Ytolclgbpjiokfaa.Tb
namespace Go.Proofs.Ytolclgbpjiokfaa.Tb
open Go.RowKit Go.Deep Rul Go.Sort
set_option maxRecDepth 100000 in
set_option maxHeartbeats 1600000 in
theorem ins_any (b N cap a c:Nat) (d:Array Ru) (w:World) (h:RW w b N d) (hac:a≤c) (hcn:c≤d.size) (hsz:d.size≤1152921504606846976):
 Calls Try.prog 123 #[.slice (some ⟨b,0,none⟩) d.size cap,.int .i64 a,.int .i64 c,CB] w fun e w'=>e=.returned (.tuple #[])∧∃d',Mrg a c d d'∧RW w' b N d'∧w.grownBy w' (some b):=by
 go_enter Try.func123,Try.ntmps123
 go_wp2
 go_loopw [8] (fun iv wr=>∃(i:Nat) (dk:Array Ru),a<i∧i≤c+1∧iv=.int .i64 i∧dk.size=d.size∧Hid (insOuter lt a c i dk=insOuter lt a c (a+1) d)∧RW wr b N dk∧w.grownBy wr (some b)) (fun iv _=>c+1 - (intOf iv).toNat)
 case atStart=>exact⟨a+1,d,by omega,by omega,by go_num,rfl,rfl,h,Gb.refl _ _⟩
 case round=>
  obtain⟨i,dk,h1,h2,rfl,hsk,HO,hr,hg⟩:=hrel
  by_cases hlt:i<c
  ·have i1:(i:Int)<(c:Int):=by omega
   go_wp2
   go_loopw [9] (fun jv wj=>∃(j:Nat) (dj:Array Ru),a≤j∧j≤i∧jv=.int .i64 j∧dj.size=d.size∧Hid (insInner lt a j dj=insInner lt a i dk)∧RW wj b N dj∧w.grownBy wj (some b)) (fun jv _=>(intOf jv).toNat)
   case atStart=>exact⟨i,dk,by omega,Nat.le_refl _,rfl,hsk,rfl,hr,hg⟩
   case round=>
    clear hr hg
    obtain⟨j,dj,k1,k2,rfl,hsj,HI,hr,hg⟩:=hrel
    have out:(j≤a∨lt dj[j]! dj[j - 1]! =false)→Hid (insOuter lt a c (i+1) dj=insOuter lt a c (a+1) d):=fun hs=>by
     show _=_
     rw[←HO.out,insOuter_go _ _ _ _ _ hlt, ←HI.out,insInner_stop _ _ _ _ hs]
    have OUT:Hid _:=out
    clear out
    by_cases hja:a<j
    ·obtain⟨j',rfl⟩:∃j',j=j'+1:=⟨j - 1,by omega⟩
     have i2:(a:Int)<((j':Int)+1):=by omega
     obtain⟨x,hx⟩:∃x,dj[j'+1]! =x:=⟨_,rfl⟩
     obtain⟨y,hy⟩:∃x,dj[j']! =x:=⟨_,rfl⟩
     obtain⟨x0,x1,x2⟩:=hr.cells (j:=j'+1) (by omega) hx
     obtain⟨y0,y1,y2⟩:=hr.cells (j:=j') (by omega) hy
     have HQ:Hid _:=order_re x y wr
     have x0':=cell_regrown x0
     have x1':=cell_regrown x1
     have x2':=cell_regrown x2
     have y0':=cell_regrown y0
     have y1':=cell_regrown y1
     have y2':=cell_regrown y2
     have bk:(j':Int)<(d.size:Int):=by omega
     have ba:(j':Int)+1<(d.size:Int):=by omega
     clear x0 x1 x2 y0 y1 y2
     by_cases hl:cf x y<0
     ·go_wp2_with fail
      refine wp_region_quiet_below (by kernel_rfl) (by kernel_rfl) ?_
      repeat(go_big_quiet_step (with_reducible exact HQ.out _ _))
      refine wpQuiet_nil ?_
      intro _ hw'
      obtain⟨⟨dq,oq⟩,hw''⟩:=hw'
      subst hw''
      clear x0' x1' x2' y0' y1' y2' HQ
      have E1:=below_regrown wr dq oq
      have hr1:=hr.ext E1
      have hg1:=Gb.trans hg (Gb.ext (r:=some b) E1)
      clear hr hg E1
      generalize grow (redrawn wr dq) oq=wq at hr1 hg1 ⊢
      obtain⟨x0,x1,x2⟩:=hr1.cells (j:=j'+1) (by omega) hx
      obtain⟨y0,y1,y2⟩:=hr1.cells (j:=j') (by omega) hy
      have fz:=hr1.frozen
      have HR:Hid (RW wq b N dj):=hr1
      have HG:Hid (w.grownBy wq (some b)):=hg1
      clear hr1 hg1 h
      go_wp2_with fail
      go_region
      go_wp2
      refine⟨⟨j',swp dj (j'+1) j',by omega,by omega,by go_num,by rw[size_swp];exact hsj,?_,?_,?_⟩,by simp[intOf]⟩
      ·show _=_
       have hlt':=cf_lt.1 hl
       have:=insInner_go lt a (j'+1) dj hja (by simp only[Nat.add_sub_cancel];rw[hx,hy];exact hlt')
       simp only[Nat.add_sub_cancel] at this
       rw[←HI.out,this]
      ·have:=(HR.out.swap (i:=j'+1) (j:=j') (by omega) (by omega)).drew
       rw[hx,hy] at this
       exact this
      ·exact Gb.drew (Gb.swap HG.out _ _ _ _ _ _ _ _)
     ·have hl2:decide (cf x y<0)=false:=decide_eq_false hl
      go_wp2_with fail
      refine wp_region_quiet_below (by kernel_rfl) (by kernel_rfl) ?_
      repeat(go_big_quiet_step (with_reducible exact HQ.out _ _))
      refine wpQuiet_nil ?_
      intro _ hw'
      obtain⟨⟨dq,oq⟩,hw''⟩:=hw'
      subst hw''
      clear x0' x1' x2' y0' y1' y2' HQ
      go_wp2
      refine⟨⟨i+1,dj,by omega,by omega,by go_num,hsj,OUT.out (Or.inr ?_),hr.ext (below_regrown wr dq oq),Gb.trans hg (Gb.ext (below_regrown wr dq oq))⟩,by simp[intOf];omega⟩
      simp only[Nat.add_sub_cancel];rw[hx,hy];exact cf_ge.1 hl
    ·have i2:decide ((j:Int)>(a:Int))=false:=decide_eq_false (by omega)
     have i3:¬(a:Int)<(j:Int):=by omega
     go_wp2_with fail
     refine wp_region_quiet_below (by kernel_rfl) (by kernel_rfl) ?_
     repeat(go_big_quiet_step (fail))
     refine wpQuiet_nil ?_
     intro _ hw'
     obtain⟨⟨dq,oq⟩,hw''⟩:=hw'
     subst hw''
     go_wp2
     exact⟨⟨i+1,dj,by omega,by omega,by go_num,hsj,OUT.out (Or.inl (by omega)),hr.ext (below_regrown wr dq oq),Gb.trans hg (Gb.ext (below_regrown wr dq oq))⟩,by simp[intOf];omega⟩
  ·have i1:¬(i:Int)<(c:Int):=by omega
   go_wp2
   go_end0
   have e:dk=insertionSort lt d a c:=by unfold insertionSort;rw[←HO.out,insOuter_stop _ _ _ _ _ hlt]
   exact⟨rfl,dk,e ▸ ins_mrg hac hcn,hr,hg⟩
end Go.Proofs.Ytolclgbpjiokfaa.Tb
