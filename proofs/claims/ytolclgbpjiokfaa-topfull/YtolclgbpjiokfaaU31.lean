/- The blocks in which a switch begins to do an order. -/
import Derived.Test.YtolclgbpjiokfaaU30
import Derived.Test.YtolclgbpjiokfaaU29
import Derived.Test.YtolclgbpjiokfaaU10
import Derived.Test.YtolclgbpjiokfaaU20
namespace Go.Proofs.Ytolclgbpjiokfaa.Tb
open Go.RowKit Go.Deep Rul Go.Sort
set_option maxHeartbeats 400000 in
theorem ins_zero (ao:Option Addr) (cap:Nat) (w:World):Calls Try.prog 123 #[.slice ao 0 cap,.int .i64 0,.int .i64 0,CB] w fun e w'=>e=.returned (.tuple #[])∧w'=w:=by
 go_enter Try.func123,Try.ntmps123
 go_wp2
 go_loopw [8] (fun iv wr=>iv=.int .i64 1∧w=wr) (fun _ _=>0)
 case atStart=>exact⟨rfl,rfl⟩
 case round=>
  obtain⟨rfl,rfl⟩:=hrel
  go_wp2
  go_end0
  exact⟨rfl,rfl⟩
set_option maxHeartbeats 400000 in
theorem stable_zero (ao:Option Addr) (cap:Nat) (w:World):Calls Try.prog 121 #[.slice ao 0 cap,.int .i64 0,CB] w fun e w'=>e=.returned (.tuple #[])∧w'=w:=by
 go_enter Try.func121,Try.ntmps121
 go_wp2
 go_loopw [7,8] (fun av bv wr=>av=.int .i64 0∧bv=.int .i64 20∧w=wr) (fun _ _ _=>0)
 case atStart=>exact⟨rfl,rfl,rfl⟩
 case round=>
  obtain⟨rfl,rfl,rfl⟩:=hrel
  go_wp2_with fail
  refine(ins_zero ao cap w).mono ?_
  rintro e w' ⟨rfl,rfl⟩
  go_wp2
  go_loopw [6] (fun cv wr=>cv=.int .i64 20∧w'=wr) (fun _ _=>0)
  case atStart=>exact⟨rfl,rfl⟩
  case round=>
   obtain⟨rfl,rfl⟩:=hrel
   go_wp2
   go_end0
   exact⟨rfl,rfl⟩
set_option maxHeartbeats 400000 in
theorem SortStable_zero (ao:Option Addr) (cap:Nat) (w:World):Calls Try.prog 115 #[.slice ao 0 cap,CB] w fun e w'=>e=.returned (.tuple #[])∧w'=w:=by
 go_enter Try.func115,Try.ntmps115
 go_wp2_with fail
 refine(stable_zero ao cap _).mono ?_
 rintro e w' ⟨rfl,rfl⟩
 go_wp2
 go_end0
 exact⟨rfl,rfl⟩
set_option maxHeartbeats 400000 in
theorem Compact_short (ao:Option Addr) (n cap:Nat) (w:World) (hn:n<2):Calls Try.prog 116 #[.slice ao n cap] w fun e w'=>e=.returned (.slice ao n cap)∧w'=w:=by
 have i1:(n:Int)<2:=by omega
 go_enter Try.func116,Try.ntmps116
 go_wp2
 go_ret
 exact⟨rfl,rfl⟩
theorem sortCompact (v:Value) (rs:List Ru) (w W:World) (hE:Ext w W) (hbase:w.heap.size≤W.heap.size) (ho:RO W w.heap.size v rs) (hl:rs.length≤1152921504606846976):
 ∃ao cap,v=.slice ao rs.length cap∧(Calls Try.prog 115 #[.slice ao rs.length cap,CB] W fun e w1=>e=.returned (.tuple #[])∧Ext w w1∧
  Calls Try.prog 116 #[.slice ao rs.length cap] w1 fun e w2=>e=.returned (.slice ao (dd (sst rs)).length cap)∧SlOk w2 ao (dd (sst rs)).length cap (dd (sst rs))∧Ext w w2)∧rs.length≤cap∧cap≤9223372036854775807:=by
 by_cases h0:rs.length=0
 ·have hrs:rs=[]:=List.eq_nil_of_length_eq_zero h0
  subst hrs
  obtain⟨ao,cap,hv,hat,hnil,_,hcm⟩:=ho.form
  refine⟨ao,cap,hv,(SortStable_zero ao cap W).mono ?_,Nat.zero_le _,by unfold maxLen at hcm;omega⟩
  rintro e w' ⟨he,rfl⟩
  refine⟨he,hE,(Compact_short ao 0 cap _ (by omega)).mono ?_⟩
  rintro e w' ⟨he,rfl⟩
  exact⟨he,⟨rfl,Or.inl rfl,fun h=>⟨rfl,(hnil h).2⟩⟩,hE⟩
 ·obtain⟨b,cap,hv,hb,hnc,hm,hrow⟩:=ho.rw (by omega)
  have hlen:rs.toArray.size=rs.length:=by simp
  refine⟨some ⟨b,0,none⟩,cap,hv,(SortStable_any b (cap*3) cap rs.length rs.toArray W hlen hrow hl).mono ?_,hnc,by unfold maxLen at hm;omega⟩
  rintro e w1 ⟨he,d1,hd1,r1,g1⟩
  have hd1':d1.toList=sst rs:=by simpa using hd1
  have hE1:Ext w w1:=Below.grown hE g1 hbase (fun k hk=>by cases hk;exact hb)
  have hs1:d1.size=rs.length:=by rw[←Array.length_toList,hd1',sst_len]
  refine⟨he,hE1,?_⟩
  by_cases h2:rs.length<2
  ·refine(Compact_short _ rs.length cap w1 h2).mono ?_
   rintro e w' ⟨he,rfl⟩
   have hdd:dd (sst rs)=sst rs:=dd_short (by rw[sst_len];exact h2)
   rw[hdd]
   refine⟨by rw[he,sst_len],⟨rfl,?_,fun h=>by cases h⟩,hE1⟩
   rw[←hd1'];exact r1.rs
  ·refine(Compact_row b (cap*3) cap rs.length d1 w1 r1 hs1 (by omega) hnc (by unfold maxLen at hm;omega)).mono ?_
   rintro e w2 ⟨he,hat,g2⟩
   rw[hd1'] at he hat
   exact⟨he,⟨rfl,hat,fun h=>by cases h⟩,Below.grown hE1 g2 (by have:=g1.size;omega) (fun k hk=>by cases hk;exact hb)⟩
set_option maxRecDepth 100000 in
set_option maxHeartbeats 800000 in
theorem Add_cap (ao bo:Option Addr) (la ca lb cb:Nat) (ra rb:List Ru) (w:World) (ha:SlOk w ao la ca ra) (hb:SlOk w bo lb cb rb) (hla:la≤9223372036854775807) (hlb:lb*24≤140737488351232):
 Calls Try.prog 104 #[.slice ao la ca,.slice bo lb cb] w fun e w'=>∃vo vc,e=.returned (.tuple #[.slice vo (add ra rb).1.length vc,.int .i64 (add ra rb).2])∧SlOk w' vo (add ra rb).1.length vc (add ra rb).1∧((add ra rb).1.length≤vc∧vc≤9223372036854775807∧NwA w.heap.size vo)∧Ext w w':=by
 obtain⟨x,hx⟩:∃x,x=(Rul.wrong ra).1:=⟨_,rfl⟩
 go_enter Try.func104,Try.ntmps104
 go_wp2_with fail
 refine(Wrong_any ao la ca ra _ ha.hlen ha.hat hla).mono ?_
 rintro e w1 ⟨he,E1⟩
 obtain⟨xat,rfl⟩:∃xat,e=.returned (.agg #[.int .i64 x,.int .i64 xat]):=⟨_,by rw[hx];exact he⟩
 clear he
 by_cases h0:x=0
 ·have ht:tab ra:=by unfold tab;rw[←hx,h0]
  have HT:Hid _:=ht
  have hl16:=(tab_iff.1 ht).1
  have hlen:=ha.hlen
  clear ht hx
  subst h0
  go_wp2_with fail
  refine(Concat_any (w1.heap.size+1) la ca lb cb ao bo ra rb _ (by simp) (by simp) (ha.ext ((E1.alloc _).alloc _)) (hb.ext ((E1.alloc _).alloc _)) (by omega)).mono ?_
  rintro e w2 ⟨v1,rfl,ho,E2⟩
  have hE2:Ext w w2:=((E1.alloc _).alloc _).trans E2
  have hlr:(ra++rb).length=la+lb:=by rw[List.length_append,hlen,hb.hlen]
  have hs2:=hE2.size
  have ho':RO w2 w.heap.size v1 (ra++rb):=by
   refine⟨ho.1,?_⟩
   rcases ho.2 with h | ⟨g,cap,cur,h1,h2,h3⟩
   ·exact Or.inl h
   ·exact Or.inr ⟨g,cap,cur,h1,Nat.le_trans ((E1.alloc _).alloc _).size h2,h3⟩
  obtain⟨vo,vc,rfl,hc,hcl,hcm⟩:=sortCompact v1 (ra++rb) w w2 hE2 hs2 ho' (by omega)
  have HNW:Hid (NwA w.heap.size vo):=own_new ho'
  rw[hlr] at hc
  have HC:Hid _:=hc
  have HCL:Hid (la+lb≤vc∧vc≤9223372036854775807):=⟨by rw[←hlr];exact hcl,hcm⟩
  clear hcl hcm hc ho ho' E2 E1
  go_wp2_with fail
  refine Calls.mono HC.out ?_
  rintro e w3 ⟨rfl,hE3,hc3⟩
  have HC3:Hid _:=hc3
  clear hc3 HC
  go_wp2_with fail
  refine Calls.mono HC3.out ?_
  rintro e w4 ⟨rfl,hok,hE4⟩
  have hdl:(dd (sst (ra++rb))).length≤la+lb:=by
   refine Nat.le_trans (dd_len _) ?_
   rw[sst_len,hlr];exact Nat.le_refl _
  obtain⟨z,hz⟩:∃z,z=dd (sst (ra++rb)):=⟨_,rfl⟩
  rw[←hz] at hok hdl ⊢
  have HZ:Hid _:=hz
  clear hz HC3 hE3 hE2
  go_wp2_with fail
  refine(Wrong_any vo z.length vc z _ rfl hok.hat (by omega)).mono ?_
  rintro e w5 ⟨he,E5⟩
  obtain⟨y,hy⟩:∃y,y=(Rul.wrong z).1:=⟨_,rfl⟩
  obtain⟨yat,rfl⟩:∃yat,e=.returned (.agg #[.int .i64 y,.int .i64 yat]):=⟨_,by rw[hy];exact he⟩
  clear he
  have h1:(Rul.wrong ra).1=0:=HT.out
  by_cases h3:y=0
  ·have hadd:add ra rb=(z,0):=by unfold add;rw[if_neg (by rw[h1];simp), ←HZ.out,if_neg (by rw[←hy,h3];simp)]
   have HA:Hid _:=hadd
   clear hadd hy h1
   subst h3
   go_wp2
   go_ret2
   rw[HA.out]
   exact⟨vo,vc,rfl,hok.ext (E5.alloc _),⟨Nat.le_trans hdl HCL.out.1,HCL.out.2,HNW.out⟩,(hE4.trans E5).alloc _⟩
  ·have hadd:add ra rb=([],y):=by unfold add;rw[if_neg (by rw[h1];simp), ←HZ.out,if_pos (by rw[←hy];exact h3), ←hy]
   have HA:Hid _:=hadd
   have h0':(y != 0)=true:=by simpa using h3
   clear hadd hy h3 h1
   go_wp2
   go_region
   go_wp2
   go_ret2
   rw[HA.out]
   exact⟨none,0,rfl,⟨rfl,Or.inl rfl,fun _=>⟨rfl,rfl⟩⟩,⟨Nat.le_refl _,Nat.zero_le _,NwA.none _⟩,((hE4.trans E5).alloc _).drew⟩
 ·have hadd:add ra rb=([],x):=by unfold add;rw[if_pos (by rw[←hx];exact h0), ←hx]
  have HA:Hid _:=hadd
  have h0':(x != 0)=true:=by simpa using h0
  clear hadd hx h0
  go_wp2
  go_region
  go_wp2
  go_ret2
  rw[HA.out]
  exact⟨none,0,rfl,⟨rfl,Or.inl rfl,fun _=>⟨rfl,rfl⟩⟩,⟨Nat.le_refl _,Nat.zero_le _,NwA.none _⟩,(E1.alloc _).drew⟩
theorem Add_any (ao bo:Option Addr) (la ca lb cb:Nat) (ra rb:List Ru) (w:World) (ha:SlOk w ao la ca ra) (hb:SlOk w bo lb cb rb) (hla:la≤9223372036854775807) (hlb:lb*24≤140737488351232):
 Calls Try.prog 104 #[.slice ao la ca,.slice bo lb cb] w fun e w'=>∃vo vc,e=.returned (.tuple #[.slice vo (add ra rb).1.length vc,.int .i64 (add ra rb).2])∧SlOk w' vo (add ra rb).1.length vc (add ra rb).1∧Ext w w':=
 (Add_cap ao bo la ca lb cb ra rb w ha hb hla hlb).mono (fun _ _ ⟨vo,vc,h1,h2,_,h3⟩=>⟨vo,vc,h1,h2,h3⟩)
end Go.Proofs.Ytolclgbpjiokfaa.Tb
namespace Go.Proofs.Ytolclgbpjiokfaa.Ag
open Go.RowKit Go.Deep Tb Rul Wi
theorem RsAt_put {w:World} {ao:Option Addr} {rs:List Ru} (h:RsAt w ao rs) {p:Addr} {x:Option Addr} {n c:Nat} (hp:w.cell? p=some (.slice x n c)) (u:Value):RsAt (w.setCell p u) ao rs:=by
 have key:∀q i,w.cell? q=some (.int .i64 i)→(w.setCell p u).cell? q=some (.int .i64 i):=fun q i hq=>by
  exact(World.cell?_setCell_other (w:=w) (a:=p) (b:=q) (v:=u) (h:=fun e=>by rw[e,hq] at hp;cases hp)).trans hq
 rcases h with h | ⟨g,off,h1,h2,h3⟩
 ·exact Or.inl h
 ·exact Or.inr ⟨g,off,h1,by simpa using h2,fun k hk=>⟨key _ _ (h3 k hk).1,key _ _ (h3 k hk).2.1,key _ _ (h3 k hk).2.2⟩⟩
theorem StAt_put {w:World} {ao:Option Addr} {st:List (Int×Int)} (h:StAt w ao st) {p:Addr} {x:Option Addr} {n c:Nat} (hp:w.cell? p=some (.slice x n c)) (u:Value):StAt (w.setCell p u) ao st:=by
 have key:∀q i,w.cell? q=some (.int .i64 i)→(w.setCell p u).cell? q=some (.int .i64 i):=fun q i hq=>by
  exact(World.cell?_setCell_other (w:=w) (a:=p) (b:=q) (v:=u) (h:=fun e=>by rw[e,hq] at hp;cases hp)).trans hq
 rcases h with h | ⟨g,off,h1,h2,h3⟩
 ·exact Or.inl h
 ·exact Or.inr ⟨g,off,h1,by simpa using h2,fun k hk=>⟨key _ _ (h3 k hk).1,key _ _ (h3 k hk).2⟩⟩
theorem SwAt_put {w:World} {s:Agt.Sw} {ro so:Option Addr} {rc:Nat} {b:Nat} (h:SwAt w s ro so rc) (r0:w.cell? ⟨b,0,none⟩=some (.slice none 0 0)) (r1:w.cell? ⟨b,1,none⟩=some (.slice none 0 0)) (u v:Value):
 SwAt ((w.setCell ⟨b,0,none⟩ u).setCell ⟨b,1,none⟩ v) s ro so rc:=by
 have r1':(w.setCell ⟨b,0,none⟩ u).cell? ⟨b,1,none⟩=some (.slice none 0 0):=by simp[go_sem,r1]
 exact⟨⟨h.hr.hlen,RsAt_put (RsAt_put h.hr.hat r0 u) r1' v,h.hr.hnil⟩,StAt_put (StAt_put h.hs r0 u) r1' v,h.rl,h.sl,h.rq⟩
theorem SwAt_none (w:World):SwAt w Agt.sw0 none none 0:=⟨⟨rfl,Or.inl rfl,fun _=>⟨rfl,rfl⟩⟩,Or.inl rfl,by simp[Agt.sw0],by simp[Agt.sw0],by simp[Agt.sw0],by omega⟩
def Tw (w:World) (rv sv:Value):World:=(w.alloc (.cells #[rv,sv] 60)).alloc (.cells #[.slice none 0 0,.slice none 0 0] 60)
theorem Tw_ext (w:World) (rv sv:Value):Ext w (Tw w rv sv):=((Ext.refl w).alloc _).alloc _
structure TAt (W:World) (b:Nat) (rv sv:Value):Prop where
 s0:W.cell? ⟨b,0,none⟩=some rv
 s1:W.cell? ⟨b,1,none⟩=some sv
 r0:W.cell? ⟨b+1,0,none⟩=some (.slice none 0 0)
 r1:W.cell? ⟨b+1,1,none⟩=some (.slice none 0 0)
 g0:W.frozen? ⟨b+1,0,none⟩=false
 g1:W.frozen? ⟨b+1,1,none⟩=false
theorem TAt.of {w W:World} {rv sv:Value} (E:Ext (Tw w rv sv) W):TAt W w.heap.size rv sv:=by
 have l0:w.heap.size<(Tw w rv sv).heap.size:=by unfold Tw;simp;omega
 have l1:w.heap.size+1<(Tw w rv sv).heap.size:=by unfold Tw;simp
 obtain⟨hc,hf⟩:=E.cells
 constructor
 ·rw[hc _ _ l0];unfold Tw;first | (simp;done) | (simp[go_sem];done)
 ·rw[hc _ _ l0];unfold Tw;first | (simp;done) | (simp[go_sem];done)
 ·rw[hc _ _ l1];unfold Tw;first | (simp;done) | (simp[go_sem];done)
 ·rw[hc _ _ l1];unfold Tw;first | (simp;done) | (simp[go_sem];done)
 ·rw[hf _ _ l1];unfold Tw;first | (simp;done) | (simp[go_sem];done)
 ·rw[hf _ _ l1];unfold Tw;first | (simp;done) | (simp[go_sem];done)
set_option maxHeartbeats 800000 in
theorem cloAdd_any (ro po:Option Addr) (rc pc q:Nat) (rs ps:List Ru) (w:World) (ha:SlOk w ro rs.length rc rs) (hb:SlOk w po ps.length pc ps) (hla:rs.length≤9223372036854775807) (hlb:ps.length*24≤140737488351232) (q3:w.cell? ⟨q,3,none⟩=some (.slice po ps.length pc)):
 Calls Try.prog 103 #[.slice ro rs.length rc,.pointer (some ⟨q,0,none⟩)] w fun e w'=>∃vo vc,e=.returned (.tuple #[.slice vo (add rs ps).1.length vc,.int .i64 (add rs ps).2])∧SlOk w' vo (add rs ps).1.length vc (add rs ps).1∧((add rs ps).1.length≤vc∧vc≤9223372036854775807∧NwA w.heap.size vo)∧Ext w w':=by
 have HA:Hid _:=Add_cap ro po rs.length rc ps.length pc rs ps w ha hb hla hlb
 clear ha hb hla hlb
 go_enter Try.func103,Try.ntmps103
 go_wp2_with fail
 refine Calls.mono HA.out ?_
 rintro e w1 ⟨vo,vc,rfl,h2,h3,h4⟩
 have H:Hid _:=And.intro h2 (And.intro h3 h4)
 clear h2 h3 h4 HA
 go_wp2
 go_ret2
 exact⟨vo,vc,rfl,H.out.1,H.out.2.1,H.out.2.2⟩
set_option maxHeartbeats 800000 in
theorem cloDrop_any (ro:Option Addr) (rc q:Nat) (rs:List Ru) (v:Int) (w:World) (ha:RsAt w ro rs) (hla:rs.length*24≤140737488351232) (q2:w.cell? ⟨q,2,none⟩=some (.int .i64 v)):
 Calls Try.prog 105 #[.slice ro rs.length rc,.pointer (some ⟨q,0,none⟩)] w fun e w'=>∃vo vc,e=.returned (.tuple #[.slice vo (drp rs v).length vc,.int .i64 0])∧SlOk w' vo (drp rs v).length vc (drp rs v)∧((drp rs v).length≤vc∧vc≤9223372036854775807∧NwA w.heap.size vo)∧Ext w w':=by
 have HA:Hid _:=Drop_any ro rs.length rc rs v w rfl ha hla
 clear ha hla
 go_enter Try.func105,Try.ntmps105
 go_wp2_with fail
 refine Calls.mono HA.out ?_
 rintro e w1 ⟨v',rfl,hO,E1⟩
 obtain⟨vo,vc,rfl,hat,hnil,hle,hmx⟩:=RO.form hO
 have H:Hid (SlOk w1 vo (drp rs v).length vc (drp rs v)∧((drp rs v).length≤vc∧vc≤9223372036854775807∧NwA w.heap.size vo)∧Ext w w1):=⟨⟨rfl,hat,fun hn=>⟨by rw[(hnil hn).1];rfl,(hnil hn).2⟩⟩,⟨hle,by unfold maxLen at hmx;omega,own_new hO⟩,E1⟩
 clear hO hat hnil hle hmx E1 HA
 go_wp2
 go_ret2
 exact⟨vo,vc,rfl,H.out.1,H.out.2.1,H.out.2.2⟩
def chg (al:List Ru) (ae:Int) (st:List (Int×Int)):Agt.Sw×Int:=if ae≠0 then(Agt.sw0,ae) else(⟨al,st⟩,0)
set_option maxRecDepth 100000 in
set_option maxHeartbeats 1600000 in
theorem turn_any (f:Nat) (s:Agt.Sw) (ro so:Option Addr) (rc sc p q:Nat) (al:List Ru) (ae:Int) (w:World) (h:SwAt w s ro so rc) (hf:f=103∨f=105) (hal:ae=0→al.length*24≤140737488351232)
 (p0:w.cell? ⟨p,0,none⟩=some (.func (.func f) #[] #[.pointer (some ⟨q,0,none⟩)])) (pl:p<w.heap.size)
 (hc:∀W,Ext w W→Calls Try.prog f #[.slice ro s.rs.length rc,.pointer (some ⟨q,0,none⟩)] W fun e w'=>∃vo vc,e=.returned (.tuple #[.slice vo al.length vc,.int .i64 ae])∧SlOk w' vo al.length vc al∧(al.length≤vc∧vc≤9223372036854775807∧NwA W.heap.size vo)∧Ext W w'):
 Calls Try.prog 112 #[svl s ro so rc sc,.pointer (some ⟨p,0,none⟩)] w fun e w'=>∃ao bo ac bc,e=.returned (.tuple #[svl (chg al ae s.st).1 ao bo ac bc,.int .i64 (chg al ae s.st).2])∧SwAt w' (chg al ae s.st).1 ao bo ac∧Ext w w'∧NwA w.heap.size ao∧NwA w.heap.size bo:=by
 have HC:Hid _:=hc
 have HS:Hid _:=h
 have HAL:Hid _:=hal
 have hsl:s.st.length*16≤140737488351232:=h.sl
 obtain⟨rs,st⟩:=s
 unfold svl at *
 simp only at hsl HC HS HAL ⊢
 have hp2:((w.alloc (.cells #[.slice ro rs.length rc,.slice so st.length sc] 60)).alloc (.cells #[.slice none 0 0,.slice none 0 0] 60)).cell? ⟨p,0,none⟩=some (.func (.func f) #[] #[.pointer (some ⟨q,0,none⟩)]):=((Tw_ext w (.slice ro rs.length rc) (.slice so st.length sc)).cells.1 _ _ pl).trans p0
 clear h hc hal
 rcases hf with rfl | rfl
 all_goals
  go_enter Try.func112,Try.ntmps112
  go_wp2_with fail
  refine Calls.mono (HC.out _ (Tw_ext w _ _)) ?_
  rintro e w1 ⟨vo,vc,rfl,h2,h3,E1⟩
  have E1':Ext (Tw w (.slice ro rs.length rc) (.slice so st.length sc)) w1:=E1
  have H2:Hid _:=h2
  have H3:Hid _:=And.intro h3.1 h3.2.1
  have HN3:Hid (NwA w.heap.size vo):=h3.2.2.mono (Tw_ext w (.slice ro rs.length rc) (.slice so st.length sc)).size
  clear h2 h3 E1 hp2 p0 pl
  have hEw:=(Tw_ext w (.slice ro rs.length rc) (.slice so st.length sc)).trans E1'
  obtain⟨s0,s1,r0,r1,g0,g1⟩:=TAt.of E1'
  by_cases hz:ae=0
  ·subst hz
   have HL24:Hid (al.length*24≤140737488351232):=HAL.out rfl
   have HG:Hid (chg al 0 st=(⟨al,st⟩,0)):=if_neg (by simp)
   go_wp2_with fail
   refine(cloneS_any so sc st _ hsl (StAt.ext HS.out.hs hEw)).mono ?_
   rintro e w2 ⟨v',rfl,hO,E2⟩
   obtain⟨bo,bc,rfl,hat⟩:=SO.form hO
   have HO:Hid _:=hat
   have HNO:Hid (NwA w.heap.size bo):=(own_new hO).mono hEw.size
   clear hO hat s0 s1 r0 r1 g0 g1
   obtain⟨s0,s1,r0,r1,g0,g1⟩:=TAt.of (E1'.trans E2)
   go_wp2
   refine bodyPost_ret (v:=.tuple #[.agg #[.slice vo al.length vc,.slice bo st.length bc],.int .i64 0]) (by simp[results,Try.results112,go_sem,r0,r1]) rfl ?_
   refine⟨vo,bo,vc,bc,?_,?_,((hEw.trans E2).setCell (by simp) _).setCell (by simp) _,HN3.out,HNO.out⟩
   ·rw[HG.out]
   ·rw[HG.out]
    refine SwAt_put (s:=⟨al,st⟩) ⟨H2.out.ext E2,HO.out,HL24.out,hsl,H3.out⟩ r0 r1 _ _
  ·have HG:Hid (chg al ae st=(Agt.sw0,ae)):=if_pos hz
   have b0:(ae != 0)=true:=by simpa using hz
   clear hz
   go_wp2
   refine bodyPost_ret (v:=.tuple #[.agg #[.slice none 0 0,.slice none 0 0],.int .i64 ae]) (by simp[results,Try.results112,go_sem,r0,r1]) rfl ?_
   refine⟨none,none,0,0,?_,?_,(hEw.setCell (by simp) _).setCell (by simp) _,NwA.none _,NwA.none _⟩
   ·rw[HG.out];rfl
   ·rw[HG.out];exact SwAt_none _
end Go.Proofs.Ytolclgbpjiokfaa.Ag
namespace Go.Proofs.Ytolclgbpjiokfaa.Ag
open Go.RowKit Go.Deep Tb Rul Wi
set_option maxRecDepth 100000 in
set_option maxHeartbeats 1600000 in
theorem cloStamp_any (s:Agt.Sw) (ro so fo:Option Addr) (rc sc fc q:Nat) (v:Int) (fs:List Int) (w:World) (h:SwAt w s ro so rc) (hf:ListAt w fo fs) (hfl:fs.length≤12)
 (q2:w.cell? ⟨q,2,none⟩=some (.int .i64 v)) (q4:w.cell? ⟨q,4,none⟩=some (.slice fo fs.length fc)) (ql:q<w.heap.size):
 Calls Try.prog 107 #[svl s ro so rc sc,.pointer (some ⟨q,0,none⟩)] w fun e w'=>∃ao bo ac bc,e=.returned (.tuple #[svl ⟨s.rs,Agt.stamps v fs⟩ ao bo ac bc,.int .i64 0])∧SwAt w' ⟨s.rs,Agt.stamps v fs⟩ ao bo ac∧Ext w w'∧NwA w.heap.size ao∧NwA w.heap.size bo:=by
 have HS:Hid _:=h
 have HF:Hid _:=hf
 have hrl:s.rs.length*24≤140737488351232:=h.rl
 have HQ:Hid (∀W,Ext w W→W.cell? ⟨q,2,none⟩=some (.int .i64 v)∧W.cell? ⟨q,4,none⟩=some (.slice fo fs.length fc)):=fun W hW=>⟨(hW.cells.1 _ _ ql).trans q2,(hW.cells.1 _ _ ql).trans q4⟩
 obtain⟨rs,st⟩:=s
 unfold svl at *
 simp only at hrl HS ⊢
 clear h hf q2 q4 ql
 go_enter Try.func107,Try.ntmps107
 go_wp2_with fail
 obtain⟨B,hB⟩:∃B,B=w.alloc (.cells #[.slice ro rs.length rc,.slice so st.length sc] 60):=⟨_,rfl⟩
 obtain⟨X,hX⟩:∃X,X=B.alloc (.cells #[.slice none 0 0,.slice none 0 0] 60):=⟨_,rfl⟩
 have hXT:X=Tw w (.slice ro rs.length rc) (.slice so st.length sc):=by rw[hX,hB];rfl
 have hBw:Ext w B:=by rw[hB];exact(Ext.refl w).alloc _
 have hBX:Ext B X:=by rw[hX];exact(Ext.refl B).alloc _
 have hBs:B.heap.size=w.heap.size+1:=by rw[hB];simp
 have HBS:Hid _:=hBs
 have HK:Hid (∀W,Ext B W→W.cell? ⟨w.heap.size,0,none⟩=some (.slice ro rs.length rc)∧W.cell? ⟨q,2,none⟩=some (.int .i64 v)∧W.cell? ⟨q,4,none⟩=some (.slice fo fs.length fc)):=fun W hW=>⟨(hW.cells.1 _ _ (by rw[hB];simp)).trans (by rw[hB];simp),HQ.out W (hBw.trans hW)⟩
 have HT:Hid (∀W,Ext X W→TAt W w.heap.size (.slice ro rs.length rc) (.slice so st.length sc)):=fun W hW=>TAt.of (by rw[←hXT];exact hW)
 rw[←hB, ←hX]
 clear hB hX hXT hBs HQ
 have hXd:Ext X X.drew:=(Ext.refl X).drew
 have HCL:Hid (∀W,Ext X W→Calls Try.prog 108 #[.slice ro rs.length rc] W fun e w'=>∃vo vc,e=.returned (.slice vo rs.length vc)∧Hid (SlOk w' vo rs.length vc rs∧(rs.length≤vc∧vc≤9223372036854775807)∧NwA w.heap.size vo)∧Ext W w'):=fun W hW=>by
  refine(cloneR_any ro rc rs W hrl (RsAt.ext HS.out.hr.hat ((hBw.trans hBX).trans hW))).mono ?_
  rintro e w1 ⟨v',rfl,hO,E1⟩
  obtain⟨vo,vc,rfl,hat,hnil,hle,hmx⟩:=RO.form hO
  exact⟨vo,vc,rfl,⟨⟨rfl,hat,fun hn=>⟨by rw[(hnil hn).1];rfl,(hnil hn).2⟩⟩,⟨hle,by unfold maxLen at hmx;omega⟩,(own_new hO).mono ((hBw.trans hBX).trans hW).size⟩,E1⟩
 have HST:Hid (∀W,Ext X W→Calls Try.prog 109 #[.slice fo fs.length fc,.int .i64 v] W fun e w'=>∃bo bc,e=.returned (.slice bo (Agt.stamps v fs).length bc)∧Hid (StAt w' bo (Agt.stamps v fs)∧NwA w.heap.size bo)∧Ext W w'):=fun W hW=>by
  refine(stampsOf_any fo fc fs v W (ListAt.ext HF.out ((hBw.trans hBX).trans hW)) (by omega)).mono ?_
  rintro e w1 ⟨v',rfl,hO,E1⟩
  obtain⟨bo,bc,rfl,hat⟩:=SO.form hO
  exact⟨bo,bc,rfl,⟨hat,(own_new hO).mono ((hBw.trans hBX).trans hW).size⟩,E1⟩
 have HSL:Hid ((Agt.stamps v fs).length*16≤140737488351232):=by show _≤_;rw[stamps_len];omega
 have HRL:Hid (rs.length*24≤140737488351232):=hrl
 clear hrl HF HS
 go_region_held3 (fun W=>W.cell? ⟨w.heap.size,0,none⟩=some (.slice ro rs.length rc)∧W.cell? ⟨q,2,none⟩=some (.int .i64 v)∧W.cell? ⟨q,4,none⟩=some (.slice fo fs.length fc))
  (first | exact HK.out _ (hBX.trans hXd) | exact HK.out _ (hBX.trans mk1c) | exact HK.out _ (hBX.trans mk1s) | exact HK.out _ (hBX.trans mk2) | exact HK.out _ (((hBX.trans mk2).setCell (Nat.le_of_eq HBS.out) _).setCell (Nat.le_of_eq HBS.out) _))
  (first
  | (have _t:=mk1c
     go_at_call 109
     refine(HST.out _ mk1c).mono ?_
     rintro e w2 ⟨bo,bc,rfl,H2,E2⟩
     have H1':Hid _:=And.intro (SlOk.ext H1.out.1 E2) H1.out.2
     have H2':Hid _:=And.intro H2.out.1 H2.out.2
     have mk2:=mk1c.trans E2
     obtain⟨_,_,r0,r1,g0,g1⟩:=HT.out _ mk2)
  | (have _t:=mk1s
     go_at_call 108
     refine(HCL.out _ mk1s).mono ?_
     rintro e w2 ⟨vo,vc,rfl,H1,E2⟩
     have H1':Hid _:=And.intro H1.out.1 H1.out.2
     have H2':Hid _:=And.intro (StAt.ext H2.out.1 E2) H2.out.2
     have mk2:=mk1s.trans E2
     obtain⟨_,_,r0,r1,g0,g1⟩:=HT.out _ mk2)
  | (go_at_call 108
     refine(HCL.out _ hXd).mono ?_
     rintro e w1 ⟨vo,vc,rfl,H1,E1⟩
     have mk1c:=hXd.trans E1)
  | (go_at_call 109
     refine(HST.out _ hXd).mono ?_
     rintro e w1 ⟨bo,bc,rfl,H2,E1⟩
     have mk1s:=hXd.trans E1))
 all_goals
  go_wp2
  refine bodyPost_ret (v:=.tuple #[.agg #[.slice vo rs.length vc,.slice bo (Agt.stamps v fs).length bc],.int .i64 0]) (by simp[results,Try.results107,go_sem,r0,r1]) rfl ?_
  refine⟨vo,bo,vc,bc,rfl,?_,(((hBw.trans hBX).trans mk2).setCell (by simp) _).setCell (by simp) _,H1'.out.2.2,H2'.out.2⟩
  exact SwAt_put (s:=⟨rs,Agt.stamps v fs⟩) ⟨H1'.out.1,H2'.out.1,HRL.out,HSL.out,H1'.out.2.1⟩ r0 r1 _ _
set_option maxHeartbeats 400000 in
theorem toRules_any (g:Nat) (p:Value) (w:World):
 Calls Try.prog 102 #[.func (.func g) #[] #[p]] w fun e w'=>e=.returned (.func (.func 112) #[] #[.pointer (some ⟨w.heap.size,0,none⟩)])∧w'=w.alloc (.cells #[.func (.func g) #[] #[p]] 186):=by
 go_enter Try.func102,Try.ntmps102
 go_wp2
 go_ret
 exact⟨rfl,rfl⟩
def Ob (w:World) (o:Wir.Od) (po fo:Option Addr) (pc fc:Nat):World:=w.alloc (.cells #[.int .i64 o.k,.int .i64 o.n,.int .i64 o.v,.slice po o.rs.length pc,.slice fo o.fs.length fc] 135)
set_option maxHeartbeats 800000 in
theorem changeBy_add (o:Wir.Od) (po fo:Option Addr) (pc fc:Nat) (w:World) (hk:o.k=1):
 Calls Try.prog 89 #[ovl o po fo pc fc] w fun e w'=>e=.returned (.func (.func 112) #[] #[.pointer (some ⟨w.heap.size+1,0,none⟩)])∧w'=(Ob w o po fo pc fc).alloc (.cells #[.func (.func 103) #[] #[.pointer (some ⟨w.heap.size,0,none⟩)]] 186):=by
 obtain⟨k,n,v,ps,fs⟩:=o
 have hk':k=1:=hk
 subst hk'
 unfold ovl Ob
 clear hk
 go_enter Try.func89,Try.ntmps89
 go_wp2_with fail
 refine(toRules_any _ _ _).mono ?_
 rintro e w1 ⟨rfl,rfl⟩
 go_wp2
 go_ret
 exact⟨by simp,rfl⟩
set_option maxHeartbeats 800000 in
theorem changeBy_drop (o:Wir.Od) (po fo:Option Addr) (pc fc:Nat) (w:World) (hk:o.k=3):
 Calls Try.prog 89 #[ovl o po fo pc fc] w fun e w'=>e=.returned (.func (.func 112) #[] #[.pointer (some ⟨w.heap.size+1,0,none⟩)])∧w'=(Ob w o po fo pc fc).alloc (.cells #[.func (.func 105) #[] #[.pointer (some ⟨w.heap.size,0,none⟩)]] 186):=by
 obtain⟨k,n,v,ps,fs⟩:=o
 have hk':k=3:=hk
 subst hk'
 unfold ovl Ob
 clear hk
 go_enter Try.func89,Try.ntmps89
 go_wp2_with fail
 refine(toRules_any _ _ _).mono ?_
 rintro e w1 ⟨rfl,rfl⟩
 go_wp2
 go_ret
 exact⟨by simp,rfl⟩
set_option maxHeartbeats 800000 in
theorem changeBy_stamp (o:Wir.Od) (po fo:Option Addr) (pc fc:Nat) (w:World) (hk:o.k=2):
 Calls Try.prog 89 #[ovl o po fo pc fc] w fun e w'=>e=.returned (.func (.func 107) #[] #[.pointer (some ⟨w.heap.size,0,none⟩)])∧w'=Ob w o po fo pc fc:=by
 obtain⟨k,n,v,ps,fs⟩:=o
 have hk':k=2:=hk
 subst hk'
 unfold ovl Ob
 clear hk
 go_enter Try.func89,Try.ntmps89
 go_wp2
 go_ret
 exact⟨rfl,rfl⟩
end Go.Proofs.Ytolclgbpjiokfaa.Ag
namespace Go.Proofs.Ytolclgbpjiokfaa.Ag
open Go.RowKit Go.Deep Tb Rul Wi
def Dw (w:World) (rv sv:Value) (k n v:Int) (pv fv:Value):World:=
 ((w.alloc (.cells #[rv,sv] 60)).alloc (.cells #[.int .i64 k,.int .i64 n,.int .i64 v,pv,fv] 135)).alloc (.cells #[.slice none 0 0,.slice none 0 0] 60)
theorem Dw_ext (w:World) (rv sv:Value) (k n v:Int) (pv fv:Value):Ext w (Dw w rv sv k n v pv fv):=(((Ext.refl w).alloc _).alloc _).alloc _
structure DAt (W:World) (b:Nat) (rv sv:Value) (k n v:Int) (pv fv:Value):Prop where
 s0:W.cell? ⟨b,0,none⟩=some rv
 s1:W.cell? ⟨b,1,none⟩=some sv
 o0:W.cell? ⟨b+1,0,none⟩=some (.int .i64 k)
 o1:W.cell? ⟨b+1,1,none⟩=some (.int .i64 n)
 o2:W.cell? ⟨b+1,2,none⟩=some (.int .i64 v)
 o3:W.cell? ⟨b+1,3,none⟩=some pv
 o4:W.cell? ⟨b+1,4,none⟩=some fv
 r0:W.cell? ⟨b+1+1,0,none⟩=some (.slice none 0 0)
 r1:W.cell? ⟨b+1+1,1,none⟩=some (.slice none 0 0)
 f0:W.frozen? ⟨b,0,none⟩=false
 f1:W.frozen? ⟨b,1,none⟩=false
 g0:W.frozen? ⟨b+1+1,0,none⟩=false
 g1:W.frozen? ⟨b+1+1,1,none⟩=false
theorem DAt.of {w W:World} {rv sv:Value} {k n v:Int} {pv fv:Value} (E:Ext (Dw w rv sv k n v pv fv) W):DAt W w.heap.size rv sv k n v pv fv:=by
 have l0:w.heap.size<(Dw w rv sv k n v pv fv).heap.size:=by unfold Dw;simp;omega
 have l1:w.heap.size+1<(Dw w rv sv k n v pv fv).heap.size:=by unfold Dw;simp
 have l2:w.heap.size+1+1<(Dw w rv sv k n v pv fv).heap.size:=by unfold Dw;simp
 obtain⟨hc,hf⟩:=E.cells
 constructor
 ·rw[hc _ _ l0];unfold Dw;first | (simp;done) | (simp[go_sem];done)
 ·rw[hc _ _ l0];unfold Dw;first | (simp;done) | (simp[go_sem];done)
 ·rw[hc _ _ l1];unfold Dw;first | (simp;done) | (simp[go_sem];done)
 ·rw[hc _ _ l1];unfold Dw;first | (simp;done) | (simp[go_sem];done)
 ·rw[hc _ _ l1];unfold Dw;first | (simp;done) | (simp[go_sem];done)
 ·rw[hc _ _ l1];unfold Dw;first | (simp;done) | (simp[go_sem];done)
 ·rw[hc _ _ l1];unfold Dw;first | (simp;done) | (simp[go_sem];done)
 ·rw[hc _ _ l2];unfold Dw;first | (simp;done) | (simp[go_sem];done)
 ·rw[hc _ _ l2];unfold Dw;first | (simp;done) | (simp[go_sem];done)
 ·rw[hf _ _ l0];unfold Dw;first | (simp;done) | (simp[go_sem];done)
 ·rw[hf _ _ l0];unfold Dw;first | (simp;done) | (simp[go_sem];done)
 ·rw[hf _ _ l2];unfold Dw;first | (simp;done) | (simp[go_sem];done)
 ·rw[hf _ _ l2];unfold Dw;first | (simp;done) | (simp[go_sem];done)
end Go.Proofs.Ytolclgbpjiokfaa.Ag
