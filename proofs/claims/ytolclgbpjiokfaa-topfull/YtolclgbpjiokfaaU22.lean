/- What take makes of a world: the control is another one, and what was told is on its way. -/
import Derived.Test.YtolclgbpjiokfaaU21
import Derived.Test.YtolclgbpjiokfaaU15
namespace Go.Proofs.Ytolclgbpjiokfaa.Rm
open Go.RowKit Go.Deep Stw Stp Tb Rul Ct
theorem infoOd:(Try.prog.info? 135).map (fun i=>(i.zero,i.size,i.bytes))=some (some (.agg #[.int .i64 0,.int .i64 0,.int .i64 0,.slice none 0 0,.slice none 0 0]),5,72):=by kernel_rfl
theorem wdL_len {c:Co} {a:CA} {n sb ob bb:Nat} {kv lv:Value} {tl:List Value}:(wdL c a n sb ob bb kv lv tl).length=14+tl.length:=by simp[wdL];omega
theorem WSt.putC {T:TypeId} {tl:List Value} {w0 w:World} {P n:Nat} {tg:Nat→Nat} {W:Wd} {a a':CA} {sb ob bb:Nat} {kv lv:Value} {c':Co} (h:WSt T tl w0 P n tg w W a sb ob bb kv lv) (hc:Stb (fun b=>tg b=0) w (fun U=>CoAt U c' a')):
 WSt T tl w0 P n tg (W9 w P (.int .i64 c'.st) (.int .i64 c'.now.v) (.slice a'.n.fo c'.now.fs.length a'.n.fc) (.slice a'.n.qo c'.now.ps.length a'.n.qc) (.int .i64 c'.nxt.v) (.slice a'.x.fo c'.nxt.fs.length a'.x.fc) (.slice a'.x.qo c'.nxt.ps.length a'.x.qc) (.int .i64 c'.num) (.slice a'.wo c'.wts.length a'.wc)) ⟨c',W.sw,W.od,W.bk,W.pk,W.pn⟩ a' sb ob bb kv lv∧
 Kpt tg tg w (W9 w P (.int .i64 c'.st) (.int .i64 c'.now.v) (.slice a'.n.fo c'.now.fs.length a'.n.fc) (.slice a'.n.qo c'.now.ps.length a'.n.qc) (.int .i64 c'.nxt.v) (.slice a'.x.fo c'.nxt.fs.length a'.x.fc) (.slice a'.x.qo c'.nxt.ps.length a'.x.qc) (.int .i64 c'.num) (.slice a'.wo c'.wts.length a'.wc)):=by
 refine h.putP W9_size0 W9_block0 (W9_ext0 h.ext (h.base P (by rw[h.tP];decide))) ?_ hc h.pks h.pls
 unfold W9
 refine(((((((((h.row.set 0 _).set 1 _).set 2 _).set 3 _).set 4 _).set 5 _).set 6 _).set 7 _).set 8 _).congr (fun j hj=>?_)
 by_cases hj9:j<9
 ·obtain rfl | rfl | rfl | rfl | rfl | rfl | rfl | rfl | rfl:j=0∨j=1∨j=2∨j=3∨j=4∨j=5∨j=6∨j=7∨j=8:=by omega
  all_goals rfl
 ·obtain⟨i,rfl⟩:∃i,j=i+9:=⟨j - 9,by omega⟩
  simp only[show ¬i+9=0 by omega,show ¬i+9=1 by omega,show ¬i+9=2 by omega,show ¬i+9=3 by omega,show ¬i+9=4 by omega,show ¬i+9=5 by omega,show ¬i+9=6 by omega,show ¬i+9=7 by omega,show ¬i+9=8 by omega,if_false]
  rfl
theorem putO_le {out:List (Nat×Wir.Od)}:∀{od:List (List Wir.Od)} {s:Nat},((putO od out).getD s []).length≤(od.getD s []).length+out.length:=by
 induction out with
 | nil=>intro od s;exact Nat.le_refl _
 | cons x r ih=>
  intro od s
  show((putO (od.set x.1 (od.getD x.1 []++[x.2])) r).getD s []).length≤_
  refine Nat.le_trans ih ?_
  have:((od.set x.1 (od.getD x.1 []++[x.2])).getD s []).length≤(od.getD s []).length+1:=by
   by_cases hx:x.1<od.length
   ·rw[getD_set hx]
    split
    ·rename_i e;rw[e];simp
    ·omega
   ·rw[List.set_eq_of_length_le (by omega)];omega
  rw[List.length_cons];omega
theorem putO_take {od:List (List Wir.Od)} {out:List (Nat×Wir.Od)} {k:Nat} (hk:k<out.length):putO od (out.take (k+1))=(putO od (out.take k)).set out[k].1 ((putO od (out.take k)).getD out[k].1 []++[out[k].2]):=by
 rw[List.take_succ_eq_append_getElem hk,putO_append];rfl
theorem TosAt.one {w:World} {ao:Option Addr} {out:List (Nat×Wir.Od)} (h:TosAt w ao out) {k:Nat} (hk:k<out.length):∃b off,ao=some ⟨b,off,none⟩∧b<w.heap.size:=by
 rcases h with h | ⟨b,off,h1,h2,_⟩
 ·rw[h] at hk;simp at hk
 ·exact⟨b,off,h1,h2⟩
theorem stb_block {Y:Nat→Prop} {w:World} {D:World→Prop} {b:Nat} (h:Stb Y w D) (hb:b<w.heap.size) (hD:∀U,D U→∃o v,U.cell? ⟨b,o,none⟩=some v):Y b:=Classical.byContradiction fun hY=>by
 have:=hD {w with heap:=w.heap.set b (.cells #[] 0 (0,0)) hb} (h _ (by simp) (fun b' hb' hlt=>by
  have:b≠b':=fun e=>hY (by rw[e];exact hb')
  simp[this]))
 obtain⟨o,v,hv⟩:=this
 simp[World.cell?] at hv
theorem TosAt.lists {Y:Nat→Prop} {w:World} {b off:Nat} {out:List (Nat×Wir.Od)} (h:Stb Y w (fun U=>TosAt U (some ⟨b,off,none⟩) out)) (hb:b<w.heap.size) {k:Nat} (hk:k<out.length) {ro fo:Option Addr} {rc fc:Nat} (h4:w.cell? ⟨b,off+k*6+4,none⟩=some (.slice ro out[k].2.rs.length rc)) (h5:w.cell? ⟨b,off+k*6+5,none⟩=some (.slice fo out[k].2.fs.length fc)):Stb Y w (fun U=>RsAt U ro out[k].2.rs∧ListAt U fo out[k].2.fs):=by
 have hne:out≠[]:=fun e=>by rw[e] at hk;simp at hk
 have hY:Y b:=stb_block h hb (fun U hU=>by
  rcases hU with h0 | ⟨_,_,e0,_,hcs⟩
  ·exact absurd h0 hne
  ·cases e0
   obtain⟨_,_,_,_,d0,_⟩:=hcs k hk
   exact⟨_,_,d0⟩)
 intro U hU kU
 have hc:∀o,U.cell? ⟨b,o,none⟩=w.cell? ⟨b,o,none⟩:=fun o=>World.cell?_of_block (a:=⟨b,o,none⟩) (kU b hY hb)
 rcases h U hU kU with h0 | ⟨_,_,e0,_,hcs⟩
 ·exact absurd h0 hne
 ·cases e0
  obtain⟨ro',rc',fo',fc',_,_,_,_,d4,d5,hr,hf⟩:=hcs k hk
  rw[hc,h4] at d4
  rw[hc,h5] at d5
  cases d4
  cases d5
  exact⟨hr,hf⟩
theorem grown_keep {V w5:World} {tg:Nat→Nat} {t b:Nat} {v:Value} (hg:V.grownBy w5 v.ownBlock) (ht:∀k,v.ownBlock=some k→tg k=t) (hb:tg b≠t) (hlt:b<V.heap.size):(∀o,w5.cell? ⟨b,o,none⟩=V.cell? ⟨b,o,none⟩)∧(∀o,w5.frozen? ⟨b,o,none⟩=V.frozen? ⟨b,o,none⟩):=by
 have e:=hg.block b hlt (fun e=>hb (ht b e.symm))
 exact⟨fun o=>World.cell?_of_block (a:=⟨b,o,none⟩) e,fun o=>World.frozen?_of_block (a:=⟨b,o,none⟩) e⟩
theorem news5 {w W:World} {H:Nat} (hH:w.heap.size=H) {a b c d e:Value} {T:TypeId} (E:Ext (w.alloc (.cells #[a,b,c,d,e] T)) W):∀(j:Nat) (u:Value),[a,b,c,d,e][j]? =some u→W.cell? ((⟨H,0,none⟩:Addr).add j)=some u:=fun j u hu=>by
 have hb:(w.alloc (.cells #[a,b,c,d,e] T)).heap[H]? =some (.cells #[a,b,c,d,e] T (0,0)):=by rw[←hH];exact blk_alloc_new _ _
 have hb2:W.heap[H]? =some (.cells #[a,b,c,d,e] T (0,0)):=(Below.block E H (by simp;omega)).trans hb
 have hadd:(⟨H,0,none⟩:Addr).add j=⟨H,j,none⟩:=by unfold Addr.add;split <;> simp_all
 rw[hadd,cell_of_row _ _ _ _ _ _ hb2]
 have:j<5:=(List.getElem?_eq_some_iff.1 hu).1
 obtain rfl | rfl | rfl | rfl | rfl:j=0∨j=1∨j=2∨j=3∨j=4:=by omega
 all_goals exact hu
theorem one5 (a b c:Int) (o o':Option Addr) (l c' l' c2:Nat):∀u∈[Value.int .i64 a,.int .i64 b,.int .i64 c,.slice o l c',.slice o' l' c2],u.oneCell'=true:=by
 intro u hu
 simp at hu
 rcases hu with rfl | rfl | rfl | rfl | rfl <;> rfl
set_option maxRecDepth 100000 in
set_option maxHeartbeats 4000000 in
theorem take_any (tl:List Value) (w0:World) (P n:Nat) (tg:Nat→Nat) (w:World) (W:Wd) (a:CA) (sb ob bb:Nat) (kv lv:Value) (c':Co) (a':CA) (out:List (Nat×Wir.Od)) (tO:Option Addr) (tc:Nat) (h:WSt 95 tl w0 P n tg w W a sb ob bb kv lv) (hl:W.od.length=n)
 (hc:Stb (fun b=>tg b=0) w (fun U=>CoAt U c' a'∧TosAt U tO out)) (hx:∀x∈out,x.1<n) (ho:out.length≤1000) (hr:∀s,(W.od.getD s []).length≤100000):
 Calls Try.prog 66 #[.pointer (some ⟨P,0,none⟩),cvl c' a',.slice tO out.length tc] w fun e w'=>e=.returned (.tuple #[])∧∃tg',WSt 95 tl w0 P n tg' w' ⟨c',W.sw,putO W.od out,W.bk,W.pk,W.pn⟩ a' sb ob bb kv lv∧Kpt tg tg' w w':=by
 obtain⟨i0,hi0,hz00,hz01,hz02⟩:=info_parts infoOd
 unfold cvl
 have HW:=hidp h
 have HC:=hidp hc
 have hP:=h.row.lt
 have hL:=wdL_len (c:=W.co) (a:=a) (n:=n) (sb:=sb) (ob:=ob) (bb:=bb) (kv:=kv) (lv:=lv) (tl:=tl)
 have q0:=h.row.cell (i:=0) (by omega)
 have q1:=h.row.cell (i:=1) (by omega)
 have q2:=h.row.cell (i:=2) (by omega)
 have q3:=h.row.cell (i:=3) (by omega)
 have q4:=h.row.cell (i:=4) (by omega)
 have q5:=h.row.cell (i:=5) (by omega)
 have q6:=h.row.cell (i:=6) (by omega)
 have q7:=h.row.cell (i:=7) (by omega)
 have q8:=h.row.cell (i:=8) (by omega)
 have f0:=h.row.frozen 0
 have f1:=h.row.frozen 1
 have f2:=h.row.frozen 2
 have f3:=h.row.frozen 3
 have f4:=h.row.frozen 4
 have f5:=h.row.frozen 5
 have f6:=h.row.frozen 6
 have f7:=h.row.frozen 7
 have f8:=h.row.frozen 8
 clear h hc hL
 go_enter Try.func66,Try.ntmps66
 go_wp2
 clear q0 q1 q2 q3 q4 q5 q6 q7 q8 f0 f1 f2 f3 f4 f5 f6 f7 f8
 obtain⟨W1,hW1⟩:∃W1,W1=(W9 w P (.int .i64 c'.st) (.int .i64 c'.now.v) (.slice a'.n.fo c'.now.fs.length a'.n.fc) (.slice a'.n.qo c'.now.ps.length a'.n.qc) (.int .i64 c'.nxt.v) (.slice a'.x.fo c'.nxt.fs.length a'.x.fc) (.slice a'.x.qo c'.nxt.ps.length a'.x.qc) (.int .i64 c'.num) (.slice a'.wo c'.wts.length a'.wc)).alloc (.cells #[.int .i64 c'.st,.int .i64 c'.now.v,.slice a'.n.fo c'.now.fs.length a'.n.fc,.slice a'.n.qo c'.now.ps.length a'.n.qc,.int .i64 c'.nxt.v,.slice a'.x.fo c'.nxt.fs.length a'.x.fc,.slice a'.x.qo c'.nxt.ps.length a'.x.qc,.int .i64 c'.num,.slice a'.wo c'.wts.length a'.wc] 33):=⟨_,rfl⟩
 have HW1:Hid (WSt 95 tl w0 P n tg W1 ⟨c',W.sw,W.od,W.bk,W.pk,W.pn⟩ a' sb ob bb kv lv∧Kpt tg tg w W1):=by
  have h1:=HW.out.putC (HC.out.imp (fun U hU=>hU.1))
  rw[hW1]
  exact⟨h1.1.toExt ((Ext.refl _).alloc _),h1.2.trans (Kpt.ext ((Ext.refl _).alloc _))⟩
 unfold W9 at hW1
 rw[←hW1]
 clear hW1 HW
 go_loopw [15] (fun iv wd=>∃k:Nat,k≤out.length∧iv=.int .i64 k∧Hid (∃tg',WSt 95 tl w0 P n tg' wd ⟨c',W.sw,putO W.od (out.take k),W.bk,W.pk,W.pn⟩ a' sb ob bb kv lv∧Kpt tg tg' w wd)) (fun iv _=>out.length - (intOf iv).toNat)
 case atStart=>exact⟨0,Nat.zero_le _,rfl,tg,HW1.out.1,HW1.out.2⟩
 case round=>
  obtain⟨k,hk,rfl,HI⟩:=hrel
  by_cases hlt:k<out.length
  ·have i1:(k:Int)<(out.length:Int):=by omega
   obtain⟨tg1,hW,hK⟩:=HI.out
   have hC1:Stb (fun b=>tg1 b=0) wr (fun U=>CoAt U c' a'∧TosAt U tO out):=HC.out.keep hK (Or.inl rfl)
   obtain⟨tb,toff,rfl,htb⟩:=TosAt.one hC1.at.2 hlt
   rcases hC1.at.2 with h0 | ⟨_,_,e0,_,hcs⟩
   ·exfalso;rw[h0] at hlt;simp at hlt
   cases e0
   obtain⟨ro,rc,fo,fc,d0,d1,d2,d3,d4,d5,_,_⟩:=hcs k hlt
   have hxn:=hx out[k] (List.getElem_mem hlt)
   have HPT:=hidp (putO_take (od:=W.od) hlt)
   have HST:=hidp (TosAt.lists (hC1.imp (fun U hU=>hU.2)) htb hlt d4 d5)
   have hps:((putO W.od (out.take k)).getD out[k].1 []).length≤101000:=by
    have h1:=putO_le (out:=out.take k) (od:=W.od) (s:=out[k].1)
    have h2:=hr out[k].1
    rw[List.length_take] at h1
    omega
   have HOL:Hid ((putO W.od (out.take k)).length=n):=by show _=_;rw[putO_len];exact hl
   generalize out[k]=x at HST HPT d0 d1 d2 d3 d4 d5 hxn hps
   obtain⟨s,ok,on,ov,ors,ofs⟩:=x
   simp only at HST HPT d0 d1 d2 d3 d4 d5 hxn hps
   obtain⟨v,cv,fv,hobl,xs,hrw,hod⟩:=hW.ors.get (s:=s) hxn
   have hRW:=hidp hrw
   have hOD:=hidp hod
   have hWr:=hidp hW
   have hKr:=hidp hK
   have cP:wr.cell? ⟨P,10,none⟩=some (.slice (some ⟨ob,0,none⟩) n n):=hW.row.cell (i:=10) (by omega)
   have hPl:=hW.row.lt
   have j1:(0:Int)≤(s:Int):=by omega
   have j2:(s:Int)<(n:Int):=by omega
   clear hW hK hC1 hcs hrw hod HI
   have HSX:Hid (∀V,Ext (wr.alloc (.cells #[.int .i64 (s:Int),.int .i64 ok,.int .i64 on,.int .i64 ov,.slice ro ors.length rc,.slice fo ofs.length fc] 164)) V→V.cell? ⟨P,10,none⟩=some (.slice (some ⟨ob,0,none⟩) n n)∧V.cell? ⟨wr.heap.size,0,none⟩=some (.int .i64 (s:Int))∧V.cell? ⟨wr.heap.size,1,none⟩=some (.int .i64 ok)∧V.cell? ⟨wr.heap.size,2,none⟩=some (.int .i64 on)∧V.cell? ⟨wr.heap.size,3,none⟩=some (.int .i64 ov)∧V.cell? ⟨wr.heap.size,4,none⟩=some (.slice ro ors.length rc)∧V.cell? ⟨wr.heap.size,5,none⟩=some (.slice fo ofs.length fc)∧V.cell? ⟨ob,s,none⟩=some v):=fun V hV=>by
    have l0:wr.heap.size<(wr.alloc (.cells #[.int .i64 (s:Int),.int .i64 ok,.int .i64 on,.int .i64 ov,.slice ro ors.length rc,.slice fo ofs.length fc] 164)).heap.size:=by simp
    have E0:Ext wr V:=((Ext.refl wr).alloc _).trans hV
    exact⟨(E0.cells.1 _ _ hPl).trans cP,(hV.cells.1 _ _ l0).trans (by simp),(hV.cells.1 _ _ l0).trans (by simp),(hV.cells.1 _ _ l0).trans (by simp),(hV.cells.1 _ _ l0).trans (by simp),(hV.cells.1 _ _ l0).trans (by simp),(hV.cells.1 _ _ l0).trans (by simp),(E0.cells.1 _ _ hobl).trans cv⟩
   go_wp2
   refine Last.LH.start (m:=21) (S:=fun V=>V.cell? ⟨P,10,none⟩=some (.slice (some ⟨ob,0,none⟩) n n)∧V.cell? ⟨wr.heap.size,0,none⟩=some (.int .i64 (s:Int))∧V.cell? ⟨wr.heap.size,1,none⟩=some (.int .i64 ok)∧V.cell? ⟨wr.heap.size,2,none⟩=some (.int .i64 on)∧V.cell? ⟨wr.heap.size,3,none⟩=some (.int .i64 ov)∧V.cell? ⟨wr.heap.size,4,none⟩=some (.slice ro ors.length rc)∧V.cell? ⟨wr.heap.size,5,none⟩=some (.slice fo ofs.length fc)∧V.cell? ⟨ob,s,none⟩=some v) (by kernel_rfl) ?_
   have hHeld:(fun V:World=>V.cell? ⟨P,10,none⟩=some (.slice (some ⟨ob,0,none⟩) n n)∧V.cell? ⟨wr.heap.size,0,none⟩=some (.int .i64 (s:Int))∧V.cell? ⟨wr.heap.size,1,none⟩=some (.int .i64 ok)∧V.cell? ⟨wr.heap.size,2,none⟩=some (.int .i64 on)∧V.cell? ⟨wr.heap.size,3,none⟩=some (.int .i64 ov)∧V.cell? ⟨wr.heap.size,4,none⟩=some (.slice ro ors.length rc)∧V.cell? ⟨wr.heap.size,5,none⟩=some (.slice fo ofs.length fc)∧V.cell? ⟨ob,s,none⟩=some v) (wr.alloc (.cells #[.int .i64 (s:Int),.int .i64 ok,.int .i64 on,.int .i64 ov,.slice ro ors.length rc,.slice fo ofs.length fc] 164)).drew:=HSX.out _ (Ext.refl _).drew
   refine Last.LH.take (i:=0) (v:=?v0) rfl (by kernel_rfl) (by kernel_rfl) (by kernel_rfl) (by kernel_rfl) (fun _ _ _ h=>h) (by rfl) ?hy0 hHeld ?rest0
   case hy0=>intro W hSW;(try dsimp only at hSW);go_simp;with_reducible rfl
   refine Last.LH.take (i:=1) (v:=?v1) rfl (by kernel_rfl) (by kernel_rfl) (by kernel_rfl) (by kernel_rfl) (fun _ _ _ h=>h) (by rfl) ?hy1 hHeld ?rest1
   case hy1=>intro W hSW;(try dsimp only at hSW);go_simp;with_reducible rfl
   refine Last.LH.take (i:=2) (v:=?v2) rfl (by kernel_rfl) (by kernel_rfl) (by kernel_rfl) (by kernel_rfl) (fun _ _ _ h=>h) (by rfl) ?hy2 hHeld ?rest2
   case hy2=>intro W hSW;(try dsimp only at hSW);go_simp;with_reducible rfl
   refine Last.LH.take (i:=3) (v:=?v3) rfl (by kernel_rfl) (by kernel_rfl) (by kernel_rfl) (by kernel_rfl) (fun _ _ _ h=>h) (by rfl) ?hy3 hHeld ?rest3
   case hy3=>intro W hSW;(try dsimp only at hSW);go_simp;with_reducible rfl
   refine Last.LH.take (i:=4) (v:=?v4) rfl (by kernel_rfl) (by kernel_rfl) (by kernel_rfl) (by kernel_rfl) (fun _ _ _ h=>h) (by rfl) ?hy4 hHeld ?rest4
   case hy4=>intro W hSW;(try dsimp only at hSW);go_simp;with_reducible rfl
   refine Last.LH.take (i:=5) (v:=?v5) rfl (by kernel_rfl) (by kernel_rfl) (by kernel_rfl) (by kernel_rfl) (fun _ _ _ h=>h) (by rfl) ?hy5 hHeld ?rest5
   case hy5=>intro W hSW;(try dsimp only at hSW);go_simp;with_reducible rfl
   refine Last.LH.take (i:=6) (v:=?v6) rfl (by kernel_rfl) (by kernel_rfl) (by kernel_rfl) (by kernel_rfl) (fun _ _ _ h=>h) (by rfl) ?hy6 hHeld ?rest6
   case hy6=>intro W hSW;(try dsimp only at hSW);go_simp;with_reducible rfl
   refine Last.LH.take (i:=7) (v:=?v7) rfl (by kernel_rfl) (by kernel_rfl) (by kernel_rfl) (by kernel_rfl) (fun _ _ _ h=>h) (by rfl) ?hy7 hHeld ?rest7
   case hy7=>intro W hSW;(try dsimp only at hSW);go_simp;with_reducible rfl
   refine Last.LH.take (i:=8) (v:=?v8) rfl (by kernel_rfl) (by kernel_rfl) (by kernel_rfl) (by kernel_rfl) (fun _ _ _ h=>h) (by rfl) ?hy8 hHeld ?rest8
   case hy8=>intro W hSW;(try dsimp only at hSW);go_simp;with_reducible rfl
   refine Last.LH.take (i:=9) (v:=?v9) rfl (by kernel_rfl) (by kernel_rfl) (by kernel_rfl) (by kernel_rfl) (fun _ _ _ h=>h) (by rfl) ?hy9 hHeld ?rest9
   case hy9=>intro W hSW;(try dsimp only at hSW);go_simp;with_reducible rfl
   refine Last.LH.take (i:=10) (v:=?v10) rfl (by kernel_rfl) (by kernel_rfl) (by kernel_rfl) (by kernel_rfl) (fun _ _ _ h=>h) (by rfl) ?hy10 hHeld ?rest10
   case hy10=>intro W hSW;(try dsimp only at hSW);go_simp;with_reducible rfl
   refine Last.LH.take (i:=11) (v:=?v11) rfl (by kernel_rfl) (by kernel_rfl) (by kernel_rfl) (by kernel_rfl) (fun _ _ _ h=>h) (by rfl) ?hy11 hHeld ?rest11
   case hy11=>intro W hSW;(try dsimp only at hSW);go_simp;with_reducible rfl
   refine Last.LH.take (i:=12) (v:=?v12) rfl (by kernel_rfl) (by kernel_rfl) (by kernel_rfl) (by kernel_rfl) (fun _ _ _ h=>h) (by rfl) ?hy12 hHeld ?rest12
   case hy12=>intro W hSW;(try dsimp only at hSW);go_simp;with_reducible rfl
   refine Last.LH.take (i:=13) (v:=?v13) rfl (by kernel_rfl) (by kernel_rfl) (by kernel_rfl) (by kernel_rfl) (fun _ _ _ h=>h) (by rfl) ?hy13 hHeld ?rest13
   case hy13=>intro W hSW;(try dsimp only at hSW);go_simp;with_reducible rfl
   refine Last.LH.take (i:=14) (v:=?v14) rfl (by kernel_rfl) (by kernel_rfl) (by kernel_rfl) (by kernel_rfl) (fun _ _ _ h=>h) (by rfl) ?hy14 hHeld ?rest14
   case hy14=>intro W hSW;(try dsimp only at hSW);go_simp;with_reducible rfl
   refine Last.LH.take (i:=15) (v:=?v15) rfl (by kernel_rfl) (by kernel_rfl) (by kernel_rfl) (by kernel_rfl) (fun _ _ _ h=>h) (by rfl) ?hy15 hHeld ?rest15
   case hy15=>intro W hSW;(try dsimp only at hSW);go_simp;with_reducible rfl
   refine Last.LH.take (i:=16) (v:=?v16) rfl (by kernel_rfl) (by kernel_rfl) (by kernel_rfl) (by kernel_rfl) (fun _ _ _ h=>h) (by rfl) ?hy16 hHeld ?rest16
   case hy16=>intro W hSW;(try dsimp only at hSW);go_simp;with_reducible rfl
   refine Last.LH.take (i:=17) (v:=?v17) rfl (by kernel_rfl) (by kernel_rfl) (by kernel_rfl) (by kernel_rfl) (fun _ _ _ h=>h) (by rfl) ?hy17 hHeld ?rest17
   case hy17=>intro W hSW;(try dsimp only at hSW);go_simp;with_reducible rfl
   refine Last.LH.one (i:=18) (by kernel_rfl) rfl (fun K hK=>?_)
   go_simp
   refine hK _ _ (fun _=>HSX.out _ ((Ext.refl _).alloc _).drew) ?_
   clear hK K hHeld
   have EA:Ext wr ((wr.alloc (.cells #[.int .i64 (s:Int),.int .i64 ok,.int .i64 on,.int .i64 ov,.slice ro ors.length rc,.slice fo ofs.length fc] 164)).alloc (.cells #[.int .i64 ok,.int .i64 on,.int .i64 ov,.slice ro ors.length rc,.slice fo ofs.length fc] 135)).drew:=(((Ext.refl wr).alloc _).alloc _).drew
   have EB:Ext ((wr.alloc (.cells #[.int .i64 (s:Int),.int .i64 ok,.int .i64 on,.int .i64 ov,.slice ro ors.length rc,.slice fo ofs.length fc] 164)).alloc (.cells #[.int .i64 ok,.int .i64 on,.int .i64 ov,.slice ro ors.length rc,.slice fo ofs.length fc] 135)) ((wr.alloc (.cells #[.int .i64 (s:Int),.int .i64 ok,.int .i64 on,.int .i64 ov,.slice ro ors.length rc,.slice fo ofs.length fc] 164)).alloc (.cells #[.int .i64 ok,.int .i64 on,.int .i64 ov,.slice ro ors.length rc,.slice fo ofs.length fc] 135)).drew:=(Ext.refl _).drew
   refine Last.LH.one (i:=19) (by kernel_rfl) rfl (fun K hK=>?_)
   refine step_append_rw _ rfl (.tmp 34) (.tmp 37) 100 rfl 135 i0 _ 5 72 Try.underlying100 hi0 hz00 hz01 hz02 rfl (by decide) v ((putO W.od (out.take k)).getD s []).length xs rfl ?rw ⟨wr.heap.size+1,0,none⟩ 1 [.int .i64 ok,.int .i64 on,.int .i64 ov,.slice ro ors.length rc,.slice fo ofs.length fc] rfl rfl ?news (one5 ok on ov ro fo ors.length rc ofs.length fc) ?h63 ?hb ?_
   case rw=>with_reducible exact(hRW.out.keep (KeepP.ext (S:=fun _=>True) EA) trivial).rw
   case news=>with_reducible exact news5 (by simp) EB
   case h63=>unfold maxLen;omega
   case hb=>omega
   intro g off cap w5 hr5 hg5 hat5
   have HPU:=hidp (WSt.pushO (o:=⟨ok,on,ov,ors,ofs⟩) (hWr.out.toExt EA) hxn HOL.out (hRW.out.keep (KeepP.ext (S:=fun _=>True) EA) trivial) (fun i hi=>(hOD.out i hi).keep (KeepP.ext (S:=fun _=>True) EA) trivial) (HST.out.keep (KeepP.ext (S:=fun _=>True) EA) trivial) hr5 hg5 hat5)
   obtain⟨c10,x0,x1,x2,x3,x4,x5,co⟩:=HSX.out _ (((Ext.refl _).alloc _).drew (a:=wr.alloc (.cells #[.int .i64 (s:Int),.int .i64 ok,.int .i64 on,.int .i64 ov,.slice ro ors.length rc,.slice fo ofs.length fc] 164)) (b:=(wr.alloc (.cells #[.int .i64 (s:Int),.int .i64 ok,.int .i64 on,.int .i64 ov,.slice ro ors.length rc,.slice fo ofs.length fc] 164)).alloc (.cells #[.int .i64 ok,.int .i64 on,.int .i64 ov,.slice ro ors.length rc,.slice fo ofs.length fc] 135)))
   have t1:=hWr.out.tP
   have t3:=hWr.out.ors.1
   have t0:=hWr.out.nw wr.heap.size (Nat.le_refl _)
   have lP:P<((wr.alloc (.cells #[.int .i64 (s:Int),.int .i64 ok,.int .i64 on,.int .i64 ov,.slice ro ors.length rc,.slice fo ofs.length fc] 164)).alloc (.cells #[.int .i64 ok,.int .i64 on,.int .i64 ov,.slice ro ors.length rc,.slice fo ofs.length fc] 135)).drew.heap.size:=Nat.lt_of_lt_of_le hPl EA.size
   have lO:ob<((wr.alloc (.cells #[.int .i64 (s:Int),.int .i64 ok,.int .i64 on,.int .i64 ov,.slice ro ors.length rc,.slice fo ofs.length fc] 164)).alloc (.cells #[.int .i64 ok,.int .i64 on,.int .i64 ov,.slice ro ors.length rc,.slice fo ofs.length fc] 135)).drew.heap.size:=Nat.lt_of_lt_of_le hobl EA.size
   have lX:wr.heap.size<((wr.alloc (.cells #[.int .i64 (s:Int),.int .i64 ok,.int .i64 on,.int .i64 ov,.slice ro ors.length rc,.slice fo ofs.length fc] 164)).alloc (.cells #[.int .i64 ok,.int .i64 on,.int .i64 ov,.slice ro ors.length rc,.slice fo ofs.length fc] 135)).drew.heap.size:=by simp;omega
   have gP:=(grown_keep hg5 hRW.out.tg (b:=P) (by rw[t1];omega) lP).1
   have gX:=(grown_keep hg5 hRW.out.tg (b:=wr.heap.size) (by rw[t0];omega) lX).1
   have gO:=grown_keep hg5 hRW.out.tg (b:=ob) (by rw[t3];omega) lO
   have fo5:w5.frozen? ⟨ob,s,none⟩=false:=(gO.2 s).trans ((EA.cells.2 _ _ hobl).trans fv)
   have hob5:ob<w5.heap.size:=Nat.lt_of_lt_of_le lO hg5.size
   have hS5:=And.intro ((gP 10).trans c10) (And.intro ((gX 0).trans x0) (And.intro ((gX 1).trans x1) (And.intro ((gX 2).trans x2) (And.intro ((gX 3).trans x3) (And.intro ((gX 4).trans x4) (And.intro ((gX 5).trans x5) ((gO.1 s).trans co)))))))
   clear gP gX gO c10 x0 x1 x2 x3 x4 x5 co hr5 hg5 hat5 t0 t1 t3
   have co5:=hS5.2.2.2.2.2.2.2
   refine hK _ _ (fun _=>hS5) ?_
   clear hK K
   refine Last.LH.take (i:=20) (v:=?v20) rfl (by kernel_rfl) (by kernel_rfl) (by kernel_rfl) (by kernel_rfl) (fun _ _ _ h=>h) (by rfl) ?hy20 hS5 ?rest20
   case hy20=>intro W hSW;(try dsimp only at hSW);go_simp;with_reducible rfl
   refine Last.LH.one (i:=21) (by kernel_rfl) rfl (fun K hK=>?_)
   go_simp
   refine hK _ _ (fun h=>absurd rfl h) ?_
   clear hK K
   refine Last.LH.done (by kernel_rfl) ?_
   clear hS5 co5 fo5
   have HN:Hid (∃tg',WSt 95 tl w0 P n tg' (w5.setCell ⟨ob,s,none⟩ (.slice (some ⟨g,off,none⟩) (((putO W.od (out.take k)).getD s []).length+1) cap)) ⟨c',W.sw,putO W.od (out.take (k+1)),W.bk,W.pk,W.pn⟩ a' sb ob bb kv lv∧Kpt tg tg' w (w5.setCell ⟨ob,s,none⟩ (.slice (some ⟨g,off,none⟩) (((putO W.od (out.take k)).getD s []).length+1) cap))):=by
    refine⟨_,?_,hKr.out.trans ((Kpt.ext EA).trans HPU.out.2)⟩
    rw[HPT.out]
    exact HPU.out.1
   go_wp2
   exact⟨⟨k+1,by omega,by go_num,HN⟩,by simp[intOf];omega⟩
  ·go_wp2
   go_end0
   have e:out.take k=out:=List.take_of_length_le (by omega)
   rw[e] at HI
   exact⟨rfl,HI.out⟩
end Go.Proofs.Ytolclgbpjiokfaa.Rm
