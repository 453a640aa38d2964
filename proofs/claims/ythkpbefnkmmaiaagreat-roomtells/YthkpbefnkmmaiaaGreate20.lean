import Derived.Test.YthkpbefnkmmaiaaGreate19
set_option maxRecDepth 100000
set_option maxHeartbeats 4000000
namespace Go.Proofs.YthkpbefnkmmaiaaGreat
open Go.Proofs.Tryz
namespace Rm
open Go.RowKit Go.Deep Stw Stp Tb Rul Ct
theorem infoOd:(prog.info? 69).map (fun i=>(i.zero,i.size,i.bytes))=some (some (.agg #[.int .i64 0,.int .i64 0,.int .i64 0,.slice none 0 0,.slice none 0 0]),5,72):=by kernel_rfl
variable {a:CA} {sb ob bb:Nat} {lv kv:Value} {tl:List Value} {c:Co}
theorem z0o{n:Nat}:(wdL c a n sb ob bb kv lv tl).length=14+tl.length:=by simp[wdL];omega
variable {w w0:World} {tg:Nat->Nat} {P:Nat} {W:Wd}
theorem Q0.putC{T:TypeId}{n:Nat}{a':CA}{c':Co}(h:Q0 T tl w0 P n tg w W a sb ob bb kv lv)(hc:Stb (fun b=>tg b=0) w (fun U=>Zr U c' a')):
 Q0 T tl w0 P n tg (W9 w P (.int .i64 c'.st) (.int .i64 c'.now.v) (.slice a'.n.fo c'.now.fs.length a'.n.fc) (.slice a'.n.qo c'.now.ps.length a'.n.qc) (.int .i64 c'.Qd.v) (.slice a'.x.fo c'.Qd.fs.length a'.x.fc) (.slice a'.x.qo c'.Qd.ps.length a'.x.qc) (.int .i64 c'.num) (.slice a'.wo c'.Qg.length a'.wc)) ⟨c',W.sw,W.od,W.bk,W.pk,W.pn⟩ a' sb ob bb kv lv/\
 Zv tg tg w (W9 w P (.int .i64 c'.st) (.int .i64 c'.now.v) (.slice a'.n.fo c'.now.fs.length a'.n.fc) (.slice a'.n.qo c'.now.ps.length a'.n.qc) (.int .i64 c'.Qd.v) (.slice a'.x.fo c'.Qd.fs.length a'.x.fc) (.slice a'.x.qo c'.Qd.ps.length a'.x.qc) (.int .i64 c'.num) (.slice a'.wo c'.Qg.length a'.wc)):=by
 refine h.putP q1n q0z (q0g h.ext (h.base P (by rw[h.tP];decide))) ?_ hc h.pks h.pls
 unfold W9
 refine(((((((((h.row.set 0 _).set 1 _).set 2 _).set 3 _).set 4 _).set 5 _).set 6 _).set 7 _).set 8 _).congr (fun j hj=>?_)
 by_cases hj9:j<9
 ·obtain rfl | rfl | rfl | rfl | rfl | rfl | rfl | rfl | rfl:j=0\/j=1\/j=2\/j=3\/j=4\/j=5\/j=6\/j=7\/j=8:=by omega
  all_goals rfl
 ·obtain⟨i,rfl⟩:∃i,j=i+9:=⟨j - 9,by omega⟩
  simp only[show ¬i+9=0 by omega,show ¬i+9=1 by omega,show ¬i+9=2 by omega,show ¬i+9=3 by omega,show ¬i+9=4 by omega,show ¬i+9=5 by omega,show ¬i+9=6 by omega,show ¬i+9=7 by omega,show ¬i+9=8 by omega,if_false]
  rfl
variable {out:List (Nat×Wir.Od)}
theorem putO_le:∀{od:List (List Wir.Od)} {s:Nat},((Zh od out).getD s []).length<=(od.getD s []).length+out.length:=by
 induction out with
 | nil=>intro od s;exact Ql _
 | cons x r ih=>
  intro od s
  show((Zh (od.set x.1 (od.getD x.1 []++[x.2])) r).getD s []).length<=_
  refine ltr ih ?_
  have:((od.set x.1 (od.getD x.1 []++[x.2])).getD s []).length<=(od.getD s []).length+1:=by
   by_cases hx:x.1<od.length
   ·rw[q0p hx]
    split
    ·rename_i e;rw[e];simp
    ·omega
   ·rw[List.set_eq_of_length_le (by omega)];omega
  rw[List.length_cons];omega
variable {k:Nat}
theorem z4d{od:List (List Wir.Od)}(hk:k<out.length):Zh od (out.take (k+1))=(Zh od (out.take k)).set out[k].1 ((Zh od (out.take k)).getD out[k].1 []++[out[k].2]):=by
 rw[List.take_succ_eq_append_getElem hk,q7y];rfl
theorem Zw.one{ao:Option Addr}(h:Zw w ao out)(hk:k<out.length):∃b off,ao=some ⟨b,off,none⟩/\b<w.heap.size:=by
 rcases h with h | ⟨b,off,h1,h2,_⟩
 ·rw[h] at hk;simp at hk
 ·exact⟨b,off,h1,h2⟩
variable {b:Nat} {Y:Nat->Prop}
theorem stb_block{D:World->Prop}(h:Stb Y w D)(hb:b<w.heap.size)(hD:∀U,D U->∃o v,U.cell? ⟨b,o,none⟩=some v):Y b:=Classical.byContradiction fun hY=>by
 have:=hD {w with heap:=w.heap.set b (.cells #[] 0 (0,0)) hb} (h _ (by simp) (fun b' hb' hlt=>by
  have:b≠b':=fun e=>hY (by rw[e];exact hb')
  simp[this]))
 obtain⟨o,v,hv⟩:=this
 simp[World.cell?] at hv
variable {off:Nat}
theorem Zw.lists(h:Stb Y w (fun U=>Zw U (some ⟨b,off,none⟩) out))(hb:b<w.heap.size)(hk:k<out.length){ro fo:Option Addr}{rc fc:Nat}(h4:w.cell? ⟨b,off+k*6+4,none⟩=some (.slice ro out[k].2.rs.length rc))(h5:w.cell? ⟨b,off+k*6+5,none⟩=some (.slice fo out[k].2.fs.length fc)):Stb Y w (fun U=>Zl U ro out[k].2.rs/\Qj U fo out[k].2.fs):=by
 have hne:out≠[]:=fun e=>by rw[e] at hk;simp at hk
 have hY:Y b:=stb_block h hb (fun U hU=>by
  rcases hU with h0 | ⟨_,_,e0,_,hcs⟩
  ·exact absurd h0 hne
  ·cases e0
   obtain⟨_,_,_,_,d0,_⟩:=hcs k hk
   exact⟨_,_,d0⟩)
 intro U hU kU
 have hc:∀o,U.cell? ⟨b,o,none⟩=w.cell? ⟨b,o,none⟩:=fun o=>cob (a:=⟨b,o,none⟩) (kU b hY hb)
 rcases h U hU kU with h0 | ⟨_,_,e0,_,hcs⟩
 ·exact absurd h0 hne
 ·cases e0
  obtain⟨ro',rc',fo',fc',_,_,_,_,d4,d5,hr,hf⟩:=hcs k hk
  rw[hc,h4] at d4
  rw[hc,h5] at d5
  cases d4
  cases d5
  exact⟨hr,hf⟩
theorem Qz{V w5:World}{t:Nat}{v:Value}(hg:V.grownBy w5 v.ownBlock)(ht:∀k,v.ownBlock=some k->tg k=t)(hb:tg b≠t)(hlt:b<V.heap.size):(∀o,w5.cell? ⟨b,o,none⟩=V.cell? ⟨b,o,none⟩)/\(∀o,w5.frozen? ⟨b,o,none⟩=V.frozen? ⟨b,o,none⟩):=by
 have e:=hg.block b hlt (fun e=>hb (ht b e.symm))
 exact⟨fun o=>cob (a:=⟨b,o,none⟩) e,fun o=>World.frozen?_of_block (a:=⟨b,o,none⟩) e⟩
theorem news5{W:World}{H:Nat}(hH:w.heap.size=H){a b c d e:Value}{T:TypeId}(E:Ext (w.alloc (.cells #[a,b,c,d,e] T)) W):∀(j:Nat) (u:Value),[a,b,c,d,e][j]? =some u->W.cell? ((⟨H,0,none⟩:Addr).add j)=some u:=fun j u hu=>by
 have hb:(w.alloc (.cells #[a,b,c,d,e] T)).heap[H]? =some (.cells #[a,b,c,d,e] T):=by rw[<-hH];exact blk_alloc_new _ _
 have hb2:W.heap[H]? =some (.cells #[a,b,c,d,e] T):=(Below.block E H (by simp;omega)).trans hb
 have hadd:(⟨H,0,none⟩:Addr).add j=⟨H,j,none⟩:=by unfold Addr.add;split <;> simp_all
 rw[hadd,cell_of_row _ _ _ _ _ _ hb2]
 have:j<5:=(List.getElem?_eq_some_iff.1 hu).1
 obtain rfl | rfl | rfl | rfl | rfl:j=0\/j=1\/j=2\/j=3\/j=4:=by omega
 all_goals exact hu
theorem one5(a b c:Int)(o o':Option Addr)(l c' l' c2:Nat):∀u∈[Value.int .i64 a,.int .i64 b,.int .i64 c,.slice o l c',.slice o' l' c2],u.oneCell'=true:=by
 intro u hu
 simp at hu
 rcases hu with rfl | rfl | rfl | rfl | rfl <;> rfl
theorem z0t(tl:List Value)(w0:World)(P n:Nat)(tg:Nat->Nat)(w:World)(W:Wd)(a:CA)(sb ob bb:Nat)(kv lv:Value)(c':Co)(a':CA)(out:List (Nat×Wir.Od))(tO:Option Addr)(tc:Nat)(h:Q0 56 tl w0 P n tg w W a sb ob bb kv lv)(hl:W.od.length=n)(hc:Stb (fun b=>tg b=0) w (fun U=>Zr U c' a'/\Zw U tO out))(hx:∀x∈out,x.1<n)(ho:out.length<=1000)(hr:∀s,(W.od.getD s []).length<=100000):
  Calls prog 41 #[.pointer (some ⟨P,0,none⟩),cvl c' a',.slice tO out.length tc] w fun e w'=>e=.returned (.tuple #[])/\∃tg',Q0 56 tl w0 P n tg' w' ⟨c',W.sw,Zh W.od out,W.bk,W.pk,W.pn⟩ a' sb ob bb kv lv/\Zv tg tg' w w':=by
  obtain⟨i0,hi0,hz00,hz01,hz02⟩:=info_parts infoOd
  unfold cvl
  have HW:=Qa h
  have HC:=Qa hc
  have hP:=h.row.lt
  have hL:=z0o (c:=W.co) (a:=a) (n:=n) (sb:=sb) (ob:=ob) (bb:=bb) (kv:=kv) (lv:=lv) (tl:=tl)
  have q0:=h.row.cell (i:=0) (by omega)
  have q1:=h.row.cell (i:=1) (by omega)
  have q2:=h.row.cell (i:=2) (by omega)
  have q3:=h.row.cell (i:=3) (by omega)
  have q4:=h.row.cell (i:=4) (by omega)
  have q5:=h.row.cell (i:=5) (by omega)
  have q6:=h.row.cell (i:=6) (by omega)
  have q7:=h.row.cell (i:=7) (by omega)
  have q8:=h.row.cell (i:=8) (by omega)
  have f0:=h.row.frozen 0
  have f1:=h.row.frozen 1
  have f2:=h.row.frozen 2
  have f3:=h.row.frozen 3
  have f4:=h.row.frozen 4
  have f5:=h.row.frozen 5
  have f6:=h.row.frozen 6
  have f7:=h.row.frozen 7
  have f8:=h.row.frozen 8
  clear h hc hL
  go_enter func41,ntmps41
  go_wp2
  clear q0 q1 q2 q3 q4 q5 q6 q7 q8 f0 f1 f2 f3 f4 f5 f6 f7 f8
  obtain⟨W1,hW1⟩:=Qy ((W9 w P (.int .i64 c'.st) (.int .i64 c'.now.v) (.slice a'.n.fo c'.now.fs.length a'.n.fc) (.slice a'.n.qo c'.now.ps.length a'.n.qc) (.int .i64 c'.Qd.v) (.slice a'.x.fo c'.Qd.fs.length a'.x.fc) (.slice a'.x.qo c'.Qd.ps.length a'.x.qc) (.int .i64 c'.num) (.slice a'.wo c'.Qg.length a'.wc)).alloc (.cells #[.int .i64 c'.st,.int .i64 c'.now.v,.slice a'.n.fo c'.now.fs.length a'.n.fc,.slice a'.n.qo c'.now.ps.length a'.n.qc,.int .i64 c'.Qd.v,.slice a'.x.fo c'.Qd.fs.length a'.x.fc,.slice a'.x.qo c'.Qd.ps.length a'.x.qc,.int .i64 c'.num,.slice a'.wo c'.Qg.length a'.wc] 32))
  have HW1:Hid (Q0 56 tl w0 P n tg W1 ⟨c',W.sw,W.od,W.bk,W.pk,W.pn⟩ a' sb ob bb kv lv/\Zv tg tg w W1):=by
   have h1:=HW.out.putC (HC.out.imp (fun U hU=>hU.1))
   rw[hW1]
   exact⟨h1.1.Qm ((Ext.refl _).alloc _),h1.2.trans (Zv.ext ((Ext.refl _).alloc _))⟩
  unfold W9 at hW1
  rw[<-hW1]
  clear hW1 HW
  go_loopw [15] (fun iv wd=>∃k:Nat,k<=out.length/\iv=.int .i64 k/\Hid (∃tg',Q0 56 tl w0 P n tg' wd ⟨c',W.sw,Zh W.od (out.take k),W.bk,W.pk,W.pn⟩ a' sb ob bb kv lv/\Zv tg tg' w wd)) (fun iv _=>out.length - (intOf iv).toNat)
  case atStart=>exact⟨0,Zu _,rfl,tg,HW1.out.1,HW1.out.2⟩
  case round=>
   obtain⟨k,hk,rfl,HI⟩:=hrel
   by_cases hlt:k<out.length
   ·have i1:(k:Int)<(out.length:Int):=by omega
    obtain⟨tg1,hW,hK⟩:=HI.out
    have hC1:Stb (fun b=>tg1 b=0) wr (fun U=>Zr U c' a'/\Zw U tO out):=HC.out.Qh hK (Or.inl rfl)
    obtain⟨tb,toff,rfl,htb⟩:=Zw.one hC1.at.2 hlt
    rcases hC1.at.2 with h0 | ⟨_,_,e0,_,hcs⟩
    ·exfalso;rw[h0] at hlt;simp at hlt
    cases e0
    obtain⟨ro,rc,fo,fc,d0,d1,d2,d3,d4,d5,_,_⟩:=hcs k hlt
    have hxn:=hx out[k] (List.getElem_mem hlt)
    have HPT:=Qa (z4d (od:=W.od) hlt)
    have HST:=Qa (Zw.lists (hC1.imp (fun U hU=>hU.2)) htb hlt d4 d5)
    have hps:((Zh W.od (out.take k)).getD out[k].1 []).length<=101000:=by
     have h1:=putO_le (out:=out.take k) (od:=W.od) (s:=out[k].1)
     have h2:=hr out[k].1
     rw[List.length_take] at h1
     omega
    have HOL:Hid ((Zh W.od (out.take k)).length=n):=by show _=_;rw[q3x];exact hl
    generalize out[k]=x at HST HPT d0 d1 d2 d3 d4 d5 hxn hps
    obtain⟨s,ok,on,ov,ors,ofs⟩:=x
    simp only at HST HPT d0 d1 d2 d3 d4 d5 hxn hps
    obtain⟨v,cv,fv,hobl,xs,hrw,hod⟩:=hW.ors.get (s:=s) hxn
    have hRW:=Qa hrw
    have hOD:=Qa hod
    have hWr:=Qa hW
    have hKr:=Qa hK
    have cP:wr.cell? ⟨P,10,none⟩=some (.slice (some ⟨ob,0,none⟩) n n):=hW.row.cell (i:=10) (by omega)
    have hPl:=hW.row.lt
    have j1:(0:Int)<=(s:Int):=by omega
    have j2:(s:Int)<(n:Int):=by omega
    clear hW hK hC1 hcs hrw hod HI
    have HSX:Hid (∀V,Ext (wr.alloc (.cells #[.int .i64 s,.int .i64 ok,.int .i64 on,.int .i64 ov,.slice ro ors.length rc,.slice fo ofs.length fc] 145)) V->cl V P 10 (.slice (some ⟨ob,0,none⟩) n n)/\cl V wr.heap.size 0 (.int .i64 s)/\cl V wr.heap.size 1 (.int .i64 ok)/\cl V wr.heap.size 2 (.int .i64 on)/\cl V wr.heap.size 3 (.int .i64 ov)/\cl V wr.heap.size 4 (.slice ro ors.length rc)/\cl V wr.heap.size 5 (.slice fo ofs.length fc)/\cl V ob s v):=fun V hV=>by
     have l0:wr.heap.size<(wr.alloc (.cells #[.int .i64 s,.int .i64 ok,.int .i64 on,.int .i64 ov,.slice ro ors.length rc,.slice fo ofs.length fc] 145)).heap.size:=by simp
     have E0:Ext wr V:=((Ext.refl wr).alloc _).trans hV
     exact⟨(E0.cells.1 _ _ hPl).trans cP,(hV.cells.1 _ _ l0).trans (by simp),(hV.cells.1 _ _ l0).trans (by simp),(hV.cells.1 _ _ l0).trans (by simp),(hV.cells.1 _ _ l0).trans (by simp),(hV.cells.1 _ _ l0).trans (by simp),(hV.cells.1 _ _ l0).trans (by simp),(E0.cells.1 _ _ hobl).trans cv⟩
    go_wp2
    refine Last.LH.start (m:=21) (S:=fun V=>cl V P 10 (.slice (some ⟨ob,0,none⟩) n n)/\cl V wr.heap.size 0 (.int .i64 s)/\cl V wr.heap.size 1 (.int .i64 ok)/\cl V wr.heap.size 2 (.int .i64 on)/\cl V wr.heap.size 3 (.int .i64 ov)/\cl V wr.heap.size 4 (.slice ro ors.length rc)/\cl V wr.heap.size 5 (.slice fo ofs.length fc)/\cl V ob s v) (by kernel_rfl) ?_
    have Qe:(fun V:World=>cl V P 10 (.slice (some ⟨ob,0,none⟩) n n)/\cl V wr.heap.size 0 (.int .i64 s)/\cl V wr.heap.size 1 (.int .i64 ok)/\cl V wr.heap.size 2 (.int .i64 on)/\cl V wr.heap.size 3 (.int .i64 ov)/\cl V wr.heap.size 4 (.slice ro ors.length rc)/\cl V wr.heap.size 5 (.slice fo ofs.length fc)/\cl V ob s v) (wr.alloc (.cells #[.int .i64 s,.int .i64 ok,.int .i64 on,.int .i64 ov,.slice ro ors.length rc,.slice fo ofs.length fc] 145)).drew:=HSX.out _ (Ext.refl _).drew
    refine ltk 0 Qe ?_
    refine ltk 1 Qe ?_
    refine ltk 2 Qe ?_
    refine ltk 3 Qe ?_
    refine ltk 4 Qe ?_
    refine ltk 5 Qe ?_
    refine ltk 6 Qe ?_
    refine ltk 7 Qe ?_
    refine ltk 8 Qe ?_
    refine ltk 9 Qe ?_
    refine ltk 10 Qe ?_
    refine ltk 11 Qe ?_
    refine ltk 12 Qe ?_
    refine ltk 13 Qe ?_
    refine ltk 14 Qe ?_
    refine ltk 15 Qe ?_
    refine ltk 16 Qe ?_
    refine ltk 17 Qe ?_
    refine lon 18 (fun K hK=>?_)
    go_simp
    refine hK _ _ (fun _=>HSX.out _ ((Ext.refl _).alloc _).drew) ?_
    clear hK K Qe
    have EA:Ext wr ((wr.alloc (.cells #[.int .i64 s,.int .i64 ok,.int .i64 on,.int .i64 ov,.slice ro ors.length rc,.slice fo ofs.length fc] 145)).alloc (.cells #[.int .i64 ok,.int .i64 on,.int .i64 ov,.slice ro ors.length rc,.slice fo ofs.length fc] 69)).drew:=(((Ext.refl wr).alloc _).alloc _).drew
    have EB:Ext ((wr.alloc (.cells #[.int .i64 s,.int .i64 ok,.int .i64 on,.int .i64 ov,.slice ro ors.length rc,.slice fo ofs.length fc] 145)).alloc (.cells #[.int .i64 ok,.int .i64 on,.int .i64 ov,.slice ro ors.length rc,.slice fo ofs.length fc] 69)) ((wr.alloc (.cells #[.int .i64 s,.int .i64 ok,.int .i64 on,.int .i64 ov,.slice ro ors.length rc,.slice fo ofs.length fc] 145)).alloc (.cells #[.int .i64 ok,.int .i64 on,.int .i64 ov,.slice ro ors.length rc,.slice fo ofs.length fc] 69)).drew:=(Ext.refl _).drew
    refine lon 19 (fun K hK=>?_)
    refine Q4 _ rfl (.tmp 34) (.tmp 37) 66 rfl 69 i0 _ 5 72 underlying66 hi0 hz00 hz01 hz02 rfl (by decide) v ((Zh W.od (out.take k)).getD s []).length xs rfl ?rw ⟨wr.heap.size+1,0,none⟩ 1 [.int .i64 ok,.int .i64 on,.int .i64 ov,.slice ro ors.length rc,.slice fo ofs.length fc] rfl rfl ?news (one5 ok on ov ro fo ors.length rc ofs.length fc) ?h63 ?hb ?_
    case rw=>with_reducible exact(hRW.out.Qh (Qf.ext (S:=fun _=>True) EA) trivial).rw
    case news=>with_reducible exact news5 (by simp) EB
    case h63=>unfold maxLen;omega
    case hb=>omega
    intro g off cap w5 hr5 hg5 hat5
    have HPU:=Qa (Q0.pushO (o:=⟨ok,on,ov,ors,ofs⟩) (hWr.out.Qm EA) hxn HOL.out (hRW.out.Qh (Qf.ext (S:=fun _=>True) EA) trivial) (fun i hi=>(hOD.out i hi).Qh (Qf.ext (S:=fun _=>True) EA) trivial) (HST.out.Qh (Qf.ext (S:=fun _=>True) EA) trivial) hr5 hg5 hat5)
    obtain⟨c10,x0,x1,x2,x3,x4,x5,co⟩:=HSX.out _ (((Ext.refl _).alloc _).drew (a:=wr.alloc (.cells #[.int .i64 s,.int .i64 ok,.int .i64 on,.int .i64 ov,.slice ro ors.length rc,.slice fo ofs.length fc] 145)) (b:=(wr.alloc (.cells #[.int .i64 s,.int .i64 ok,.int .i64 on,.int .i64 ov,.slice ro ors.length rc,.slice fo ofs.length fc] 145)).alloc (.cells #[.int .i64 ok,.int .i64 on,.int .i64 ov,.slice ro ors.length rc,.slice fo ofs.length fc] 69)))
    have t1:=hWr.out.tP
    have t3:=hWr.out.ors.1
    have t0:=hWr.out.nw wr.heap.size (Ql _)
    have lP:P<((wr.alloc (.cells #[.int .i64 s,.int .i64 ok,.int .i64 on,.int .i64 ov,.slice ro ors.length rc,.slice fo ofs.length fc] 145)).alloc (.cells #[.int .i64 ok,.int .i64 on,.int .i64 ov,.slice ro ors.length rc,.slice fo ofs.length fc] 69)).drew.heap.size:=Q5 hPl EA.size
    have lO:ob<((wr.alloc (.cells #[.int .i64 s,.int .i64 ok,.int .i64 on,.int .i64 ov,.slice ro ors.length rc,.slice fo ofs.length fc] 145)).alloc (.cells #[.int .i64 ok,.int .i64 on,.int .i64 ov,.slice ro ors.length rc,.slice fo ofs.length fc] 69)).drew.heap.size:=Q5 hobl EA.size
    have lX:wr.heap.size<((wr.alloc (.cells #[.int .i64 s,.int .i64 ok,.int .i64 on,.int .i64 ov,.slice ro ors.length rc,.slice fo ofs.length fc] 145)).alloc (.cells #[.int .i64 ok,.int .i64 on,.int .i64 ov,.slice ro ors.length rc,.slice fo ofs.length fc] 69)).drew.heap.size:=by simp;omega
    have gP:=(Qz hg5 hRW.out.tg (b:=P) (by rw[t1];omega) lP).1
    have gX:=(Qz hg5 hRW.out.tg (b:=wr.heap.size) (by rw[t0];omega) lX).1
    have gO:=Qz hg5 hRW.out.tg (b:=ob) (by rw[t3];omega) lO
    have fo5:w5.frozen? ⟨ob,s,none⟩=false:=(gO.2 s).trans ((EA.cells.2 _ _ hobl).trans fv)
    have hob5:ob<w5.heap.size:=Q5 lO hg5.size
    have hS5:=And.intro ((gP 10).trans c10) (And.intro ((gX 0).trans x0) (And.intro ((gX 1).trans x1) (And.intro ((gX 2).trans x2) (And.intro ((gX 3).trans x3) (And.intro ((gX 4).trans x4) (And.intro ((gX 5).trans x5) ((gO.1 s).trans co)))))))
    clear gP gX gO c10 x0 x1 x2 x3 x4 x5 co hr5 hg5 hat5 t0 t1 t3
    have co5:=hS5.2.2.2.2.2.2.2
    refine hK _ _ (fun _=>hS5) ?_
    clear hK K
    refine ltk 20 hS5 ?_
    refine lon 21 (fun K hK=>?_)
    go_simp
    refine hK _ _ (fun h=>absurd rfl h) ?_
    clear hK K
    refine ldn ?_
    clear hS5 co5 fo5
    have HN:Hid (∃tg',Q0 56 tl w0 P n tg' (w5.setCell ⟨ob,s,none⟩ (.slice (some ⟨g,off,none⟩) (((Zh W.od (out.take k)).getD s []).length+1) cap)) ⟨c',W.sw,Zh W.od (out.take (k+1)),W.bk,W.pk,W.pn⟩ a' sb ob bb kv lv/\Zv tg tg' w (w5.setCell ⟨ob,s,none⟩ (.slice (some ⟨g,off,none⟩) (((Zh W.od (out.take k)).getD s []).length+1) cap))):=by
     refine⟨_,?_,hKr.out.trans ((Zv.ext EA).trans HPU.out.2)⟩
     rw[HPT.out]
     exact HPU.out.1
    go_wp2
    exact⟨⟨k+1,by omega,by go_num,HN⟩,by simp[intOf];omega⟩
   ·go_wp2
    go_end0
    have e:out.take k=out:=List.take_of_length_le (by omega)
    rw[e] at HI
    exact⟨rfl,HI.out⟩
theorem wdL_put{n:Nat}{T:TypeId}(h:w.rowIs P T (14+tl.length) (fun j=>(wdL c a n sb ob bb kv lv tl).getD j vd)):
 (∀v,(w.setCell ⟨P,12,none⟩ v).rowIs P T (14+tl.length) (fun j=>(wdL c a n sb ob bb v lv tl).getD j vd))/\(∀v,(w.setCell ⟨P,13,none⟩ v).rowIs P T (14+tl.length) (fun j=>(wdL c a n sb ob bb kv v tl).getD j vd)):=by
 refine⟨fun v=>(h.set 12 v).congr (fun j _=>?_),fun v=>(h.set 13 v).congr (fun j _=>?_)⟩
 ·exact(q1m (by rw[z0o];omega) j).trans rfl
 ·exact(q1m (by rw[z0o];omega) j).trans rfl
variable {j:Nat}
theorem q2z{α:Type}{l us:List α}{n:Nat}(h:l.length=n):(l++us)[n+j]? =us[j]?:=by
 rw[List.getElem?_append_right (by omega),show n+j - l.length=j by omega]
variable {g cap:Nat} {w2:World} {xs:List Value}
theorem Q0.pushL{T:TypeId}{n:Nat}{a:CA}{p:Pl}{ap:PA}(h:Q0 T tl w0 P n tg w W a sb ob bb kv lv)(hv:RwT tg 6 w 29 3 lv W.pn.length xs)(hpl:∀i,i<W.pn.length->∃a:PA,xs[i*3]? =some (.int .i64 (W.pn.getD i pl0).v)/\xs[i*3+1]? =some (.slice a.fo (W.pn.getD i pl0).fs.length a.fc)/\xs[i*3+2]? =some (.slice a.qo (W.pn.getD i pl0).ps.length a.qc)/\Stb (fun b=>tg b=0) w (fun U=>PlAt U (W.pn.getD i pl0) a))(hst:Stb (fun b=>tg b=0) w (fun U=>PlAt U p ap))(hr:Rw w2 29 3 (.slice (some ⟨g,off,none⟩) (W.pn.length+1) cap) (W.pn.length+1) (xs++[.int .i64 p.v,.slice ap.fo p.fs.length ap.fc,.slice ap.qo p.ps.length ap.qc]))(hg:w.grownBy w2 lv.ownBlock)(Q2:lv.ownBlock=some g\/g=w.heap.size):
  ∃tg',Q0 T tl w0 P n tg' (w2.setCell ⟨P,13,none⟩ (.slice (some ⟨g,off,none⟩) (W.pn.length+1) cap)) ⟨W.co,W.sw,W.od,W.bk,W.pk,W.pn++[p]⟩ a sb ob bb kv (.slice (some ⟨g,off,none⟩) (W.pn.length+1) cap)/\Zv tg tg' w (w2.setCell ⟨P,13,none⟩ (.slice (some ⟨g,off,none⟩) (W.pn.length+1) cap)):=by
  have k:=Qf.push (tg:=tg) (t:=6) hv.tg hg Q2
  obtain⟨e1,e2⟩:=Zf h.row k (by rw[h.tP];decide)
  have tP':=e1.trans h.tP
  have k2:Qf (fun x=>x≠1) (fun b=>if b=g then 6 else tg b) (fun b=>if b=g then 6 else tg b) w2 (w2.setCell ⟨P,13,none⟩ (.slice (some ⟨g,off,none⟩) (W.pn.length+1) cap)):=Qf.set (tg:=fun b=>if b=g then 6 else tg b) tP' _
  have kk:Qf (fun x=>x≠1/\x≠6) tg (fun b=>if b=g then 6 else tg b) w (w2.setCell ⟨P,13,none⟩ (.slice (some ⟨g,off,none⟩) (W.pn.length+1) cap)):=(k.mono (fun x hx=>hx.2)).trans (k2.mono (fun x hx=>hx.1))
  have hgl:g<w2.heap.size:=hr.lt g rfl
  have hb:∀b,(if b=g then 6 else tg b)≠0->w0.heap.size<=b:=fun b hb=>by
   by_cases e:b=g
   ·subst e
    rcases Q2 with h1 | h1
    ·exact h.base b (by rw[hv.tg b h1];decide)
    ·rw[h1];exact h.ext.size
   ·rw[if_neg e] at hb;exact h.base b hb
  have hxl:xs.length=W.pn.length*3:=hv.rw.len
  have hPg:P≠g:=fun e=>by
   have tP'':(if P=g then 6 else tg P)=1:=tP'
   rw[if_pos e] at tP'';omega
  have hr3:=hr.Qh (w':=w2.setCell ⟨P,13,none⟩ (.slice (some ⟨g,off,none⟩) (W.pn.length+1) cap)) (fun j hj=>Zm _ _ _ _ (fun e=>hPg (by simp[Value.ownBlock] at hj;rw[hj];exact e.symm)))
  refine⟨_,⟨(wdL_put e2).2 _,h.co.Qh kk (by decide),h.sws.Qh kk (by decide) (by decide),h.ors.Qh kk (by decide) (by decide) (fun j=>by omega),h.bks.Qh kk (by decide) (fun j=>by omega),h.pks.Qh kk (by decide) (fun j=>by omega),⟨_,⟨by rw[lap];exact hr3,fun j hj=>by simp[Value.ownBlock] at hj;simp[hj]⟩,fun i hi=>?_⟩,tP',fun b hb'=>?_,hb,?_⟩,kk.mono (fun x hx=>by omega)⟩
  ·rw[lap,List.length_singleton] at hi
   rw[q7q]
   by_cases hlt:i<W.pn.length
   ·rw[if_pos hlt]
    obtain⟨a,a0,a1,a2,a3⟩:=hpl i hlt
    exact⟨a,by rw[List.getElem?_append_left (by omega)];exact a0,by rw[List.getElem?_append_left (by omega)];exact a1,by rw[List.getElem?_append_left (by omega)];exact a2,a3.Qh kk (by decide)⟩
   ·have e:i=W.pn.length:=by omega
    rw[if_neg hlt,if_pos e,e]
    exact⟨ap,q2z (j:=0) hxl,q2z (j:=1) hxl,q2z (j:=2) hxl,hst.Qh kk (by decide)⟩
  ·have hb'':w2.heap.size<=b:=by simpa using hb'
   show(if b=g then _ else tg b)=0
   rw[if_neg (by omega)]
   exact h.nw b (ltr hg.size hb'')
  ·exact q1f (q3q h.ext h.base hg (fun j hj=>by rw[hv.tg j hj];decide)) hb (tg:=fun b=>if b=g then 6 else tg b) (by show(if P=g then 6 else tg P)≠0;have e4:(if P=g then 6 else tg P)=1:=tP';rw[e4];decide) _
theorem Q0.pushK{T:TypeId}{w1:World}{n:Nat}{f v x:Int}{d:Bool}(h:Q0 T tl w0 P n tg w W a sb ob bb kv lv)(E:Ext w w1)(hv:RwT tg 5 w 71 4 kv W.pk.length xs)(hpk:∀i,i<W.pk.length->∃tv,xs[i*4]? =some (.int .i64 (W.pk.getD i Q8).fl)/\xs[i*4+1]? =some (.int .i64 (W.pk.getD i Q8).v)/\xs[i*4+2]? =some tv/\xs[i*4+3]? =some (.bool (W.pk.getD i Q8).dn)/\Za tg (12+3*i) w (W.pk.getD i Q8).tr tv)(ht:w1.heap[w.heap.size]? =some (.cells #[.int .i64 x] 3))(hr:Rw w2 71 4 (.slice (some ⟨g,off,none⟩) (W.pk.length+1) cap) (W.pk.length+1) (xs++[.int .i64 f,.int .i64 v,.slice (some ⟨w.heap.size,0,none⟩) 1 1,.bool d]))(hg:w1.grownBy w2 kv.ownBlock)(Q2:kv.ownBlock=some g\/g=w1.heap.size):
  ∃tg',Q0 T tl w0 P n tg' (w2.setCell ⟨P,12,none⟩ (.slice (some ⟨g,off,none⟩) (W.pk.length+1) cap)) ⟨W.co,W.sw,W.od,W.bk,W.pk++[⟨f,v,[x],d⟩],W.pn⟩ a sb ob bb (.slice (some ⟨g,off,none⟩) (W.pk.length+1) cap) lv/\Zv tg tg' w (w2.setCell ⟨P,12,none⟩ (.slice (some ⟨g,off,none⟩) (W.pk.length+1) cap)):=by
  have hH:w.heap.size<w1.heap.size:=(asi.1 ht).1
  have hgH:g≠w.heap.size:=fun e=>by
   rcases Q2 with h1 | h1
   ·have:=hv.rw.lt g h1;omega
   ·omega
  have k1:Qf (fun _=>True) tg (fun b=>if b=w.heap.size then 12+3*W.pk.length else tg b) w w1:=⟨E.size,fun b hb _=>⟨if_neg (by omega),Below.block E b hb⟩⟩
  have hv1:RwT (fun b=>if b=w.heap.size then 12+3*W.pk.length else tg b) 5 w1 71 4 kv W.pk.length xs:=hv.Qh k1 trivial
  have k:=Qf.push (tg:=fun b=>if b=w.heap.size then 12+3*W.pk.length else tg b) (t:=5) hv1.tg hg Q2
  have k12:Qf (fun x=>x≠5) tg (fun b=>if b=g then 5 else if b=w.heap.size then 12+3*W.pk.length else tg b) w w2:=(k1.mono (fun _ _=>trivial)).trans k
  obtain⟨e1,e2⟩:=Zf h.row k12 (by rw[h.tP];decide)
  have tP':=e1.trans h.tP
  have k2:Qf (fun x=>x≠1) (fun b=>if b=g then 5 else if b=w.heap.size then 12+3*W.pk.length else tg b) (fun b=>if b=g then 5 else if b=w.heap.size then 12+3*W.pk.length else tg b) w2 (w2.setCell ⟨P,12,none⟩ (.slice (some ⟨g,off,none⟩) (W.pk.length+1) cap)):=Qf.set (tg:=fun b=>if b=g then 5 else if b=w.heap.size then 12+3*W.pk.length else tg b) tP' _
  have kk:Qf (fun x=>x≠1/\x≠5) tg (fun b=>if b=g then 5 else if b=w.heap.size then 12+3*W.pk.length else tg b) w (w2.setCell ⟨P,12,none⟩ (.slice (some ⟨g,off,none⟩) (W.pk.length+1) cap)):=(k12.mono (fun x hx=>hx.2)).trans (k2.mono (fun x hx=>hx.1))
  have hgl:g<w2.heap.size:=hr.lt g rfl
  have hb:∀b,(if b=g then 5 else if b=w.heap.size then 12+3*W.pk.length else tg b)≠0->w0.heap.size<=b:=fun b hb=>by
   by_cases e:b=g
   ·subst e
    rcases Q2 with h1 | h1
    ·exact h.base b (by rw[hv.tg b h1];decide)
    ·rw[h1];have:=h.ext.size;omega
   ·rw[if_neg e] at hb
    by_cases e2:b=w.heap.size
    ·rw[e2];exact h.ext.size
    ·rw[if_neg e2] at hb;exact h.base b hb
  have hxl:xs.length=W.pk.length*4:=hv.rw.len
  have hPg:P≠g:=fun e=>by
   have tP'':(if P=g then 5 else if P=w.heap.size then 12+3*W.pk.length else tg P)=1:=tP'
   rw[if_pos e] at tP'';omega
  have hPl:=h.row.lt
  have hr3:=hr.Qh (w':=w2.setCell ⟨P,12,none⟩ (.slice (some ⟨g,off,none⟩) (W.pk.length+1) cap)) (fun j hj=>Zm _ _ _ _ (fun e=>hPg (by simp[Value.ownBlock] at hj;rw[hj];exact e.symm)))
  refine⟨_,⟨(wdL_put e2).1 _,h.co.Qh kk (by decide),h.sws.Qh kk (by decide) (by decide),h.ors.Qh kk (by decide) (by decide) (fun j=>by omega),h.bks.Qh kk (by decide) (fun j=>by omega),⟨_,⟨by rw[lap];exact hr3,fun j hj=>by simp[Value.ownBlock] at hj;simp[hj]⟩,fun i hi=>?_⟩,h.pls.Qh kk (by decide) (by decide),tP',fun b hb'=>?_,hb,?_⟩,kk.mono (fun x hx=>by omega)⟩
  ·rw[lap,List.length_singleton] at hi
   rw[q7q]
   by_cases hlt:i<W.pk.length
   ·rw[if_pos hlt]
    obtain⟨tv,a0,a1,a2,a3,a4⟩:=hpk i hlt
    exact⟨tv,by rw[List.getElem?_append_left (by omega)];exact a0,by rw[List.getElem?_append_left (by omega)];exact a1,by rw[List.getElem?_append_left (by omega)];exact a2,by rw[List.getElem?_append_left (by omega)];exact a3,a4.Qh kk (by omega)⟩
   ·have e:i=W.pk.length:=by omega
    rw[if_neg hlt,if_pos e,e]
    refine⟨_,q2z (j:=0) hxl,q2z (j:=1) hxl,q2z (j:=2) hxl,q2z (j:=3) hxl,⟨rfl,Or.inr ⟨w.heap.size,0,1,#[.int .i64 x],rfl,?_,Ql _,by unfold maxLen;decide,by simp,fun j hj=>?_⟩⟩,fun k hk=>?_⟩
    ·have hHg:some w.heap.size≠kv.ownBlock:=fun e=>by have:=hv.rw.lt _ e.symm;omega
     rw[Zm _ _ _ _ (by simp;omega),hg.block _ hH hHg];exact ht
    ·simp at hj;subst hj;simp
    ·simp[Value.ownBlock] at hk
     subst hk
     show(if w.heap.size=g then _ else _)=_
     rw[if_neg (fun e=>hgH e.symm),if_pos rfl]
  ·have hb'':w2.heap.size<=b:=by simpa using hb'
   have:=hg.size
   show(if b=g then _ else if b=w.heap.size then _ else tg b)=0
   rw[if_neg (by omega),if_neg (by omega)]
   exact h.nw b (by omega)
  ·refine q1f (Below.grown (h.ext.trans E) hg (h.ext.trans E).size (fun j hj=>h.base j (by rw[hv.tg j hj];decide))) hb (tg:=fun b=>if b=g then 5 else if b=w.heap.size then 12+3*W.pk.length else tg b) ?_ _
   show(if P=g then 5 else if P=w.heap.size then 12+3*W.pk.length else tg P)≠0
   have e4:(if P=g then 5 else if P=w.heap.size then 12+3*W.pk.length else tg P)=1:=tP'
   rw[e4];decide
variable {i:Nat} {pk:List Pk}
theorem q8x.get{v:Value}(h:q8x tg w pk v)(hi:i<pk.length):∃g off cap tv,v=.slice (some ⟨g,off,none⟩) pk.length cap/\g<w.heap.size/\tg g=5/\(∀j,w.frozen? ⟨g,j,none⟩=false)/\w.cell? ⟨g,off+i*4,none⟩=some (.int .i64 (pk.getD i Q8).fl)/\w.cell? ⟨g,off+i*4+1,none⟩=some (.int .i64 (pk.getD i Q8).v)/\w.cell? ⟨g,off+i*4+2,none⟩=some tv/\w.cell? ⟨g,off+i*4+3,none⟩=some (.bool (pk.getD i Q8).dn)/\Za tg (12+3*i) w (pk.getD i Q8).tr tv:=by
 obtain⟨xs,hr,hp⟩:=h
 obtain⟨g,off,cap,hv,hg,_,hz,hc⟩:=hr.rw.cells (by omega)
 obtain⟨tv,a0,a1,a2,a3,a4⟩:=hp i hi
 have hl:i*4+4<=pk.length*4:=by omega
 refine⟨g,off,cap,tv,hv,hg,hr.tg g (by rw[hv];rfl),hz,?_,?_,?_,?_,a4⟩
 ·rw[hc _ (by omega)];exact a0
 ·rw[Nat.add_assoc,hc _ (by omega)];exact a1
 ·rw[Nat.add_assoc,hc _ (by omega)];exact a2
 ·rw[Nat.add_assoc,hc _ (by omega)];exact a3
theorem q8x.same{u:Value}{q:Pk}(h:q8x tg w pk (.slice (some ⟨g,off,none⟩) pk.length cap))(hi:i<pk.length)(hj:j<4)(hu:∀xs:List Value,∀tv,xs.length=pk.length*4->xs[i*4]? =some (.int .i64 (pk.getD i Q8).fl)->xs[i*4+1]? =some (.int .i64 (pk.getD i Q8).v)->xs[i*4+2]? =some tv->xs[i*4+3]? =some (.bool (pk.getD i Q8).dn)->
 ∃tv',(xs.set (i*4+j) u)[i*4]? =some (.int .i64 q.fl)/\(xs.set (i*4+j) u)[i*4+1]? =some (.int .i64 q.v)/\(xs.set (i*4+j) u)[i*4+2]? =some tv'/\(xs.set (i*4+j) u)[i*4+3]? =some (.bool q.dn)/\(Za tg (12+3*i) w (pk.getD i Q8).tr tv->Za tg (12+3*i) w q.tr tv')):
  q8x tg (w.setCell ⟨g,off+(i*4+j),none⟩ u) (pk.set i q) (.slice (some ⟨g,off,none⟩) pk.length cap):=by
  obtain⟨xs,hr,hp⟩:=h
  have ht:=hr.tg g rfl
  have k:Qf (fun x=>x≠5) tg tg w (w.setCell ⟨g,off+(i*4+j),none⟩ u):=Qf.set ht u
  have hxl:=hr.rw.len
  refine⟨xs.set (i*4+j) u,⟨by rw[List.length_set];exact hr.rw.set (i*4+j) (by omega) u,hr.tg⟩,fun m hm=>?_⟩
  rw[List.length_set] at hm
  rw[q0p hi]
  by_cases e:m=i
  ·subst e
   rw[if_pos rfl]
   obtain⟨tv,a0,a1,a2,a3,a4⟩:=hp m hi
   obtain⟨tv',b0,b1,b2,b3,b4⟩:=hu xs tv hxl a0 a1 a2 a3
   exact⟨tv',b0,b1,b2,b3,(b4 a4).Qh k (by omega)⟩
  ·rw[if_neg e]
   obtain⟨tv,a0,a1,a2,a3,a4⟩:=hp m hm
   exact⟨tv,by rw[List.getElem?_set_ne (by omega)];exact a0,by rw[List.getElem?_set_ne (by omega)];exact a1,by rw[List.getElem?_set_ne (by omega)];exact a2,by rw[List.getElem?_set_ne (by omega)];exact a3,a4.Qh k (by omega)⟩
theorem Q0.doneK{T:TypeId}{n:Nat}(h:Q0 T tl w0 P n tg w W a sb ob bb (.slice (some ⟨g,off,none⟩) W.pk.length cap) lv)(hi:i<W.pk.length)(tG:tg g=5):
 Q0 T tl w0 P n tg (w.setCell ⟨g,off+(i*4+3),none⟩ (.bool true)) ⟨W.co,W.sw,W.od,W.bk,W.pk.set i ⟨(W.pk.getD i Q8).fl,(W.pk.getD i Q8).v,(W.pk.getD i Q8).tr,true⟩,W.pn⟩ a sb ob bb (.slice (some ⟨g,off,none⟩) W.pk.length cap) lv/\Zv tg tg w (w.setCell ⟨g,off+(i*4+3),none⟩ (.bool true)):=by
 have k:Qf (fun x=>x≠5) tg tg w (w.setCell ⟨g,off+(i*4+3),none⟩ (.bool true)):=Qf.set tG _
 have hp:=h.pks.same (i:=i) (j:=3) (u:=.bool true) (q:=⟨(W.pk.getD i Q8).fl,(W.pk.getD i Q8).v,(W.pk.getD i Q8).tr,true⟩) hi (by omega) (fun xs tv hl a0 a1 a2 a3=>⟨tv,by rw[List.getElem?_set_ne (by omega)];exact a0,by rw[List.getElem?_set_ne (by omega)];exact a1,by rw[List.getElem?_set_ne (by omega)];exact a2,by rw[List.getElem?_set_self (by omega)],fun h=>h⟩)
 obtain⟨e1,e2⟩:=Zf h.row k (by rw[h.tP];decide)
 exact⟨⟨e2,h.co.Qh k (by decide),h.sws.Qh k (by decide) (by decide),h.ors.Qh k (by decide) (by decide) (fun j=>by omega),h.bks.Qh k (by decide) (fun j=>by omega),hp,h.pls.Qh k (by decide) (by decide),h.tP,fun b hb=>h.nw b (by simpa using hb),h.base,q1f h.ext h.base (by rw[tG];decide) _⟩,k.mono (fun x hx=>by omega)⟩
theorem Q0.moveK{T:TypeId}{n:Nat}{tv:Value}{gt ot ct:Nat}{y:Int}(h:Q0 T tl w0 P n tg w W a sb ob bb (.slice (some ⟨g,off,none⟩) W.pk.length cap) lv)(hi:i<W.pk.length)(hv:Za tg (12+3*i) w (W.pk.getD i Q8).tr tv)(hr:Rw w2 3 1 (.slice (some ⟨gt,ot,none⟩) ((W.pk.getD i Q8).tr.length+1) ct) ((W.pk.getD i Q8).tr.length+1) ((W.pk.getD i Q8).tr.map (Value.int .i64)++[.int .i64 y]))(hg:w.grownBy w2 tv.ownBlock)(Q2:tv.ownBlock=some gt\/gt=w.heap.size):
  ∃tg',Q0 T tl w0 P n tg' (w2.setCell ⟨g,off+(i*4+2),none⟩ (.slice (some ⟨gt,ot,none⟩) ((W.pk.getD i Q8).tr.length+1) ct)) ⟨W.co,W.sw,W.od,W.bk,W.pk.set i ⟨(W.pk.getD i Q8).fl,(W.pk.getD i Q8).v,(W.pk.getD i Q8).tr++[y],(W.pk.getD i Q8).dn⟩,W.pn⟩ a sb ob bb (.slice (some ⟨g,off,none⟩) W.pk.length cap) lv/\Zv tg tg' w (w2.setCell ⟨g,off+(i*4+2),none⟩ (.slice (some ⟨gt,ot,none⟩) ((W.pk.getD i Q8).tr.length+1) ct)):=by
  have k:=Qf.push (tg:=tg) (t:=12+3*i) hv.tg hg Q2
  have hrow:=Za.snoc (tg:=tg) (t:=12+3*i) hr
  have hgl:gt<w2.heap.size:=hr.lt gt rfl
  -- the packets behind the trace's growth:all but its own trace
  have hpk2:q8x (fun b=>if b=gt then 12+3*i else tg b) (w2.setCell ⟨g,off+(i*4+2),none⟩ (.slice (some ⟨gt,ot,none⟩) ((W.pk.getD i Q8).tr.length+1) ct)) (W.pk.set i ⟨(W.pk.getD i Q8).fl,(W.pk.getD i Q8).v,(W.pk.getD i Q8).tr++[y],(W.pk.getD i Q8).dn⟩) (.slice (some ⟨g,off,none⟩) W.pk.length cap):=by
   obtain⟨xs,hx,hp⟩:=h.pks
   have hx2:=hx.Qh k (by omega)
   have tG2:=hx2.tg g rfl
   have k2:Qf (fun x=>x≠5) (fun b=>if b=gt then 12+3*i else tg b) (fun b=>if b=gt then 12+3*i else tg b) w2 (w2.setCell ⟨g,off+(i*4+2),none⟩ (.slice (some ⟨gt,ot,none⟩) ((W.pk.getD i Q8).tr.length+1) ct)):=Qf.set (tg:=fun b=>if b=gt then 12+3*i else tg b) tG2 _
   have hxl:=hx.rw.len
   refine⟨xs.set (i*4+2) (.slice (some ⟨gt,ot,none⟩) ((W.pk.getD i Q8).tr.length+1) ct),⟨by rw[List.length_set];exact hx2.rw.set (i*4+2) (by omega) _,hx2.tg⟩,fun m hm=>?_⟩
   rw[List.length_set] at hm
   rw[q0p hi]
   by_cases e:m=i
   ·subst e
    rw[if_pos rfl]
    obtain⟨tv',a0,a1,a2,a3,a4⟩:=hp m hi
    exact⟨_,by rw[List.getElem?_set_ne (by omega)];exact a0,by rw[List.getElem?_set_ne (by omega)];exact a1,List.getElem?_set_self (by omega),by rw[List.getElem?_set_ne (by omega)];exact a3,hrow.Qh k2 (by omega)⟩
   ·rw[if_neg e]
    obtain⟨tv',a0,a1,a2,a3,a4⟩:=hp m hm
    exact⟨tv',by rw[List.getElem?_set_ne (by omega)];exact a0,by rw[List.getElem?_set_ne (by omega)];exact a1,by rw[List.getElem?_set_ne (by omega)];exact a2,by rw[List.getElem?_set_ne (by omega)];exact a3,(a4.Qh k (by omega)).Qh k2 (by omega)⟩
  have tG2:(if g=gt then 12+3*i else tg g)=5:=by
   obtain⟨xs,hx,_⟩:=h.pks
   exact(hx.Qh k (by omega)).tg g rfl
  have k2:Qf (fun x=>x≠5) (fun b=>if b=gt then 12+3*i else tg b) (fun b=>if b=gt then 12+3*i else tg b) w2 (w2.setCell ⟨g,off+(i*4+2),none⟩ (.slice (some ⟨gt,ot,none⟩) ((W.pk.getD i Q8).tr.length+1) ct)):=Qf.set (tg:=fun b=>if b=gt then 12+3*i else tg b) tG2 _
  have kk:Qf (fun x=>x≠5/\x≠12+3*i) tg (fun b=>if b=gt then 12+3*i else tg b) w (w2.setCell ⟨g,off+(i*4+2),none⟩ (.slice (some ⟨gt,ot,none⟩) ((W.pk.getD i Q8).tr.length+1) ct)):=(k.mono (fun x hx=>hx.2)).trans (k2.mono (fun x hx=>hx.1))
  have hb:∀b,(if b=gt then 12+3*i else tg b)≠0->w0.heap.size<=b:=fun b hb=>by
   by_cases e:b=gt
   ·subst e
    rcases Q2 with h1 | h1
    ·exact h.base b (by rw[hv.tg b h1];omega)
    ·rw[h1];exact h.ext.size
   ·rw[if_neg e] at hb;exact h.base b hb
  obtain⟨e1,e2⟩:=Zf h.row kk (by rw[h.tP];omega)
  refine⟨_,⟨e2,h.co.Qh kk (by omega),h.sws.Qh kk (by omega) (by omega),h.ors.Qh kk (by omega) (by omega) (fun j=>by omega),h.bks.Qh kk (by omega) (fun j=>by omega),hpk2,h.pls.Qh kk (by omega) (by omega),e1.trans h.tP,fun b hb'=>?_,hb,?_⟩,kk.mono (fun x hx=>by omega)⟩
  ·have hb'':w2.heap.size<=b:=by simpa using hb'
   show(if b=gt then _ else tg b)=0
   rw[if_neg (by omega)]
   exact h.nw b (ltr hg.size hb'')
  ·exact q1f (q3q h.ext h.base hg (fun j hj=>by rw[hv.tg j hj];omega)) hb (tg:=fun b=>if b=gt then 12+3*i else tg b) (by show(if g=gt then 12+3*i else tg g)≠0;rw[tG2];decide) _
end Rm
end Go.Proofs.YthkpbefnkmmaiaaGreat
