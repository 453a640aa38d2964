import Derived.Test.YthkpbefnkmmaiaaGreate11
set_option maxRecDepth 100000
set_option maxHeartbeats 4000000
namespace Go.Proofs.YthkpbefnkmmaiaaGreat
open Go.Proofs.Tryz
namespace Ct
open Go.RowKit Go.Deep Stw Stp Tb Rul
variable {g:Cg} {w0 w:World} {P B:Nat} {a:CA} {wv tv:Value} {TV:List Value} {X:Nat->Prop}
theorem CSt.fresh{n:Nat}(h:CSt B X P w0 w g a n wv tv TV):∀b,w.heap.size<=b->Qn P tv wv b:=fun b hb=>by
 have hP:=h.row.lt
 refine⟨by omega,fun e=>?_,fun e=>?_⟩
 ·have:=(h.ownW.lt b e).2;omega
 ·have:=(h.ownT.lt b e).2;omega
variable {ord:Nat->Option Wir.Od} {k:Nat}
theorem q1r(h:ord k=none):told (k+1) ord g=told k ord g:=by
 unfold told;rw[tel,h];rfl
theorem q1q{x:Wir.Od}(h:ord k=some x):told (k+1) ord g=
 ⟨⟨(told k ord g).c.st,(told k ord g).c.now,(told k ord g).c.Qd,nx (told k ord g).c.num,(told k ord g).c.Qg++[nx (told k ord g).c.num]⟩,(told k ord g).out++[(k,⟨x.k,nx (told k ord g).c.num,x.v,x.rs,x.fs⟩)]⟩:=by
 unfold told;rw[tel,h];rfl
theorem q0t{ord:Nat->Option Wir.Od}{g:Cg}:∀k,(told k ord g).c.Qg.length<=g.c.Qg.length+k/\(told k ord g).out.length<=g.out.length+k
 | 0=>⟨Ql _,Ql _⟩
 | k+1=>by
  have ih:=q0t (ord:=ord) (g:=g) k
  cases h:ord k with
  | none=>rw[q1r h];omega
  | some x=>rw[q1q h];simp only[lap,List.length_cons,List.length_nil];omega
theorem enter_any{F:Nat}(hF:F=86\/F=102\/F=123):∀(args:Array Value) (W:World),(callFunc F args).run prog W=.ok (.enter F args) W:=by
 intro args W
 rcases hF with rfl | rfl | rfl <;> kernel_rfl
def TeOut (B:Nat) (X:Nat->Prop) (P:Nat) (w0 w:World) (G:Cg) (a:CA) (n:Nat) (wv tv:Value) (e:Ending) (w':World):Prop:=e=.returned (.tuple #[])/\∃wv' tv' TV',CSt B X P w0 w' G a n wv' tv' TV'/\Kp P w tv wv w' tv' wv'
theorem z0r(B:Nat)(X:Nat->Prop)(F p1 p2 P n:Nat)(ord:Nat->Option Wir.Od)(w0 w:World)(g:Cg)(a:CA)(wv tv:Value)(TV:List Value)(h:CSt B X P w0 w g a n wv tv TV)(hF:F=86\/F=102\/F=123)(hX:∀b,w.heap.size<=b->X b)(hn:n<=8)(hwl:g.c.Qg.length<=16777216)(hol:g.out.length<=100)(hst:∀W tv' wv',Kp P w tv wv W tv' wv'->Ext w0 W->(∀b,W.heap.size<=b->Qn P tv' wv' b/\X b)->∀s:Nat,s<n->Calls prog F #[.int .i64 s,.pointer (some ⟨p1,0,none⟩),.pointer (some ⟨p2,0,none⟩)] W fun e w'=>StOut (fun b=>Qn P tv' wv' b/\X b) (ord s) e w'/\Ext W w'):
  Calls prog 64 #[.pointer (some ⟨P,0,none⟩),.func (.func F) #[] #[.pointer (some ⟨p1,0,none⟩),.pointer (some ⟨p2,0,none⟩)]] w fun e w'=>TeOut B X P w0 w (told n ord g) a n wv tv e w':=by
  have HCF:=Qa (enter_any hF)
  have HXX:=Qa hX
  clear hX
  have HST:=Qa hst
  have HC:=Qa h
  clear hst
  obtain⟨i0,hi0,hz00,hz01,hz02⟩:=info_parts q8k
  obtain⟨j0,hj0,hy0,hy1,hy2⟩:=info_parts infoT
  have s9:w.cell? ⟨P,9,none⟩=some (.int .i64 n):=h.row.cell (i:=9) (by omega)
  clear h
  go_enter func64,ntmps64
  go_wp2
  clear s9
  go_loopw [11] (fun iv wr=>∃(k:Nat) (wv' tv':Value) (TV':List Value),k<=n/\iv=.int .i64 k/\Hid (CSt B X P w0 wr (told k ord g) a n wv' tv' TV')/\Hid (Kp P w tv wv wr tv' wv')) (fun iv _=>n - (intOf iv).toNat)
  case atStart=>exact⟨0,wv,tv,TV,Zu _,rfl,HC,Kp.ext (Ext.refl w)⟩
  case round=>
   obtain⟨k,wv',tv',TV',hk,rfl,HC1,HK1⟩:=hrel
   by_cases hlt:k<n
   ·have i1:(k:Int)<(n:Int):=by omega
    have HL:=Qa (q0t (ord:=ord) (g:=g) k)
    go_wp2_with fail
    rw[HCF.out]
    refine Calls.mono (HST.out wr tv' wv' HK1.out HC1.out.bel (fun b hb=>⟨HC1.out.fresh b hb,HXX.out b (ltr HK1.out.size hb)⟩) k hlt) ?_
    rintro e w1 ⟨⟨ok,ov,ro,fo,rl,rc,fl,fc,rfl,hx⟩,E1⟩
    have HX:=Qa hx
    clear hx
    have HC2:=Qa (HC1.out.ext E1)
    have HK2:=Qa (HK1.out.trans (Kp.ext E1))
    clear HC1 HK1
    cases ho:ord k with
    | none=>
     have HT:=Qa (q1r (g:=g) ho)
     clear ho
     go_wp2
     refine⟨⟨k+1,wv',tv',TV',by omega,by go_num,?_,?_⟩,by simp[intOf];omega⟩
     ·rw[HT.out];exact HC2.out.ext ((Ext.refl w1).alloc _)
     ·exact HK2.out.trans (Kp.ext ((Ext.refl w1).alloc _))
    | some x=>
     have HT:=Qa (q1q (g:=g) ho)
     have HX2:=Qa (HX.out x ho)
     clear ho HX
     obtain⟨G,hG⟩:∃G,told k ord g=G:=⟨_,rfl⟩
     rw[hG] at HC2 HT HL
     clear hG
     obtain⟨⟨st,now,Qd,num,Qg⟩,out⟩:=G
     simp only at HC2 HT HL
     obtain⟨m,hm⟩:∃m,nx num=m:=⟨_,rfl⟩
     rw[hm] at HT
     have hm':IntKind.i64.wrap (num+1)=m:=hm
     have c7:w1.cell? ⟨P,7,none⟩=some (.int .i64 num):=HC2.out.row.cell (i:=7) (by omega)
     have z7:=HC2.out.row.frozen 7
     have hPl:=HC2.out.row.lt
     clear hm
     go_upto_region 7 with fail
     obtain⟨w4,hw4⟩:=Qy ((w1.setCell ⟨P,7,none⟩ (.int .i64 m)).alloc (.cells #[.int .i64 ok,.int .i64 m,.int .i64 ov,.slice ro rl rc,.slice fo fl fc] 69))
     have E4:Ext (w1.setCell ⟨P,7,none⟩ (.int .i64 m)) w4:=by rw[hw4];exact(Ext.refl _).alloc _
     have HC4:Hid (CSt B X P w0 w4 ⟨⟨st,now,Qd,m,Qg⟩,out⟩ a n wv' tv' TV'):=(HC2.out.put (g':=⟨⟨st,now,Qd,m,Qg⟩,out⟩) 7 (by omega) (.int .i64 m) rfl rfl rfl HC2.out.hn HC2.out.hx).ext E4
     have k4:Kp P w1 tv' wv' w4 tv' wv':=CSt.kput.trans (Kp.ext E4)
     have HK4:Hid (Kp P w tv wv w4 tv' wv'):=HK2.out.trans k4
     have HR4:Hid (ok=x.k/\ov=x.v/\RQ w4 (fun b=>Qn P tv' wv' b/\X b) x.rs (.slice ro rl rc)/\LQ w4 (fun b=>Qn P tv' wv' b/\X b) x.fs (.slice fo fl fc)):=⟨HX2.out.1,HX2.out.2.1,HX2.out.2.2.1.mono k4.hx,HX2.out.2.2.2.mono k4.hx⟩
     have HB4:Hid (w4.heap[w1.heap.size]? =some (.cells #[.int .i64 ok,.int .i64 m,.int .i64 ov,.slice ro rl rc,.slice fo fl fc] 69)/\w1.heap.size<w4.heap.size/\w1.heap.size≠P/\wv'.ownBlock≠some w1.heap.size):=by
      refine⟨?_,by rw[hw4];simp,by omega,fun e=>?_⟩
      ·rw[hw4]
       have:=blk_alloc_new (w1.setCell ⟨P,7,none⟩ (.int .i64 m)) (.cells #[.int .i64 ok,.int .i64 m,.int .i64 ov,.slice ro rl rc,.slice fo fl fc] 69)
       rwa [show(w1.setCell ⟨P,7,none⟩ (.int .i64 m)).heap.size=w1.heap.size by simp] at this
      ·have:=(HC2.out.ownW.lt _ e).2;omega
     rw[<-hw4]
     clear hw4 E4 k4 c7 z7 hPl HC2 HK2 HX2 E1
     obtain⟨b,hb⟩:=Qy (w1.heap.size)
     rw[<-hb] at HB4 ⊢
     clear hb
     have q8:w4.cell? ⟨P,8,none⟩=some wv':=HC4.out.row.cell (i:=8) (by omega)
     have o1:w4.cell? ⟨b,1,none⟩=some (.int .i64 m):=Qb HB4.out.1 1
     have hPl:=HC4.out.row.lt
     have hb4:=HB4.out.2.1
     have hL:=HL.out
     have HFIN:Hid (∀(g5 gc5:Nat) (w5:World),w5.ownsRow w0.heap.size 3 1 (.slice (some ⟨g5,0,none⟩) (Qg.length+1) gc5) (Qg.length+1) (Qg.map (Value.int .i64)++[.int .i64 m])->(w4.alloc (.cells #[.int .i64 m] 3)).grownBy w5 wv'.ownBlock->(wv'.ownBlock=some g5\/g5=w4.heap.size+1)->
      w5.cell? ⟨P,8,none⟩=some wv'/\w5.frozen? ⟨P,8,none⟩=false/\Hid (CSt B X P w0 (w5.setCell ⟨P,8,none⟩ (.slice (some ⟨g5,0,none⟩) (Qg.length+1) gc5)) ⟨⟨st,now,Qd,m,Qg++[m]⟩,out⟩ a n (.slice (some ⟨g5,0,none⟩) (Qg.length+1) gc5) tv' TV'/\Kp P w tv wv (w5.setCell ⟨P,8,none⟩ (.slice (some ⟨g5,0,none⟩) (Qg.length+1) gc5)) tv' (.slice (some ⟨g5,0,none⟩) (Qg.length+1) gc5)/\
       ok=x.k/\ov=x.v/\RQ (w5.setCell ⟨P,8,none⟩ (.slice (some ⟨g5,0,none⟩) (Qg.length+1) gc5)) (fun b=>Qn P tv' (.slice (some ⟨g5,0,none⟩) (Qg.length+1) gc5) b/\X b) x.rs (.slice ro rl rc)/\LQ (w5.setCell ⟨P,8,none⟩ (.slice (some ⟨g5,0,none⟩) (Qg.length+1) gc5)) (fun b=>Qn P tv' (.slice (some ⟨g5,0,none⟩) (Qg.length+1) gc5) b/\X b) x.fs (.slice fo fl fc)/\
       (w5.setCell ⟨P,8,none⟩ (.slice (some ⟨g5,0,none⟩) (Qg.length+1) gc5)).heap[b]? =some (.cells #[.int .i64 ok,.int .i64 m,.int .i64 ov,.slice ro rl rc,.slice fo fl fc] 69))):=fun g5 gc5 w5 hown5 hgr5 hat5=>by
      obtain⟨r1,r2,r3,r4,r5⟩:=HC4.out.pushW hown5 hgr5 hat5
      exact⟨r1,r2,r3,HK4.out.trans r4,HR4.out.1,HR4.out.2.1,HR4.out.2.2.1.mono r4.hx,HR4.out.2.2.2.mono r4.hx,(r5 b HB4.out.2.1 HB4.out.2.2.1 HB4.out.2.2.2).trans HB4.out.1⟩
     go_region_law
      (refine step_append_lies _ ?_ (.tmp 42) (.tmp 45) 30 ?_ w0.heap.size 3 i0 (.int .i64 0) 1 8 underlying30 hi0 hz00 hz01 hz02 rfl (by decide) wv' Qg.length (Qg.map (Value.int .i64)) ?_ ?_ ⟨w4.heap.size,0,none⟩ 1 1 [.int .i64 m] ?_ ?_ ?_ (z1t _) ?_ ?_ ?_ ?_ _ rfl ?_
       ·rfl
       ·rfl
       ·rfl
       ·exact q0h HC4.out.ownW ((Ext.refl w4).alloc _).drew
       ·rfl
       ·rfl
       ·exact World.news_of_block (cs:=#[.int .i64 m]) (blk_alloc_new w4 _)
       ·omega
       ·unfold maxLen;omega
       ·omega
       ·have:=HC4.out.bel.size;simp;omega
       intro g5 gc5 w5 hown5 hgr5 hat5 hlt5
       have hfin:=HFIN.out g5 gc5 w5 hown5 ⟨hgr5.os,hgr5.tape,hgr5.output,hgr5.size,hgr5.block⟩ (hat5.imp id (fun h=>by simpa using h))
       have q1:=hfin.1
       have q2:=hfin.2.1
       have HG5:=Qa hfin.2.2.out
       clear hown5 hgr5 hat5 hlt5 hfin)
     all_goals
      clear q8 o1 HFIN HC4 HK4 HR4 HB4 hb4 hPl
      go_upto_region 8 with fail
      obtain⟨w8,hw8⟩:=Qy (w5.setCell ⟨P,8,none⟩ (.slice (some ⟨g5,0,none⟩) (Qg.length+1) gc5))
      rw[<-hw8] at HG5 ⊢
      clear hw8 q1 q2
      have q10:w8.cell? ⟨P,10,none⟩=some tv':=HG5.out.1.row.cell (i:=10) (by omega)
      have o0:w8.cell? ⟨b,0,none⟩=some (.int .i64 ok):=Qb HG5.out.2.2.2.2.2.2 0
      have o1:w8.cell? ⟨b,1,none⟩=some (.int .i64 m):=Qb HG5.out.2.2.2.2.2.2 1
      have o2:w8.cell? ⟨b,2,none⟩=some (.int .i64 ov):=Qb HG5.out.2.2.2.2.2.2 2
      have o3:w8.cell? ⟨b,3,none⟩=some (.slice ro rl rc):=Qb HG5.out.2.2.2.2.2.2 3
      have o4:w8.cell? ⟨b,4,none⟩=some (.slice fo fl fc):=Qb HG5.out.2.2.2.2.2.2 4
      have hPl:=HG5.out.1.row.lt
      have hb8:b<w8.heap.size:=(asi.1 HG5.out.2.2.2.2.2.2).1
      have HFIN:Hid (∀(g6 gc6:Nat) (w6:World),w6.ownsRow (P+1) 145 6 (.slice (some ⟨g6,0,none⟩) (out.length+1) gc6) (out.length+1) (TV'++[.int .i64 k,.int .i64 ok,.int .i64 m,.int .i64 ov,.slice ro rl rc,.slice fo fl fc])->(w8.alloc (.cells #[.int .i64 k,.int .i64 ok,.int .i64 m,.int .i64 ov,.slice ro rl rc,.slice fo fl fc] 145)).grownBy w6 tv'.ownBlock->(tv'.ownBlock=some g6\/g6=w8.heap.size+1)->
       w6.cell? ⟨P,10,none⟩=some tv'/\w6.frozen? ⟨P,10,none⟩=false/\Hid (CSt B X P w0 (w6.setCell ⟨P,10,none⟩ (.slice (some ⟨g6,0,none⟩) (out.length+1) gc6)) (told (k+1) ord g) a n (.slice (some ⟨g5,0,none⟩) (Qg.length+1) gc5) (.slice (some ⟨g6,0,none⟩) (out.length+1) gc6) (TV'++[.int .i64 k,.int .i64 ok,.int .i64 m,.int .i64 ov,.slice ro rl rc,.slice fo fl fc])/\
        Kp P w tv wv (w6.setCell ⟨P,10,none⟩ (.slice (some ⟨g6,0,none⟩) (out.length+1) gc6)) (.slice (some ⟨g6,0,none⟩) (out.length+1) gc6) (.slice (some ⟨g5,0,none⟩) (Qg.length+1) gc5))):=fun g6 gc6 w6 hown6 hgr6 hat6=>by
       obtain⟨hC,hK,e1,e2,hR,hF,_⟩:=HG5.out
       rw[e1,e2] at hown6 hgr6 ⊢
       obtain⟨r1,r2,r3,r4⟩:=hC.pushT (x:=(k,⟨x.k,m,x.v,x.rs,x.fs⟩)) hR hF hown6 hgr6 hat6
       exact⟨r1,r2,by rw[HT.out];exact r3,hK.trans r4⟩
      go_region_law
       (refine step_append_lies _ ?_ (.tmp 54) (.tmp 58) 109 ?_ (P+1) 145 j0 (.agg #[.int .i64 0,.int .i64 0,.int .i64 0,.int .i64 0,.slice none 0 0,.slice none 0 0]) 6 80 underlying109 hj0 hy0 hy1 hy2 rfl (by decide) tv' out.length TV' ?_ ?_ ⟨w8.heap.size,0,none⟩ 1 1 [.int .i64 k,.int .i64 ok,.int .i64 m,.int .i64 ov,.slice ro rl rc,.slice fo fl fc] ?_ ?_ ?_ (one6s _ _ _ _ _ _ _ _ _ _) ?_ ?_ ?_ ?_ _ rfl ?_
        ·rfl
        ·rfl
        ·rfl
        ·exact q0h HG5.out.1.ownT ((Ext.refl w8).alloc _).drew
        ·rfl
        ·rfl
        ·exact World.news_of_block (cs:=#[.int .i64 k,.int .i64 ok,.int .i64 m,.int .i64 ov,.slice ro rl rc,.slice fo fl fc]) (blk_alloc_new w8 _)
        ·omega
        ·unfold maxLen;omega
        ·omega
        ·simp;omega
        intro g6 gc6 w6 hown6 hgr6 hat6 hlt6
        have hfin:=HFIN.out g6 gc6 w6 hown6 ⟨hgr6.os,hgr6.tape,hgr6.output,hgr6.size,hgr6.block⟩ (hat6.imp id (fun h=>by simpa using h))
        have q1:=hfin.1
        have q2:=hfin.2.1
        have HG6:=Qa hfin.2.2.out
        clear hown6 hgr6 hat6 hlt6 hfin)
      all_goals
       clear q10 o0 o1 o2 o3 o4 HFIN
       go_wp2
       refine⟨⟨k+1,_,_,_,by omega,by go_num,HG6.out.1,HG6.out.2⟩,by simp[intOf];omega⟩
   ·have hkn:k=n:=by omega
    have i1:¬(k:Int)<(n:Int):=by omega
    rw[hkn] at HC1
    clear hkn
    go_wp2
    go_end0
    exact⟨rfl,_,_,_,HC1.out,HK1.out⟩
theorem q7o{F n p1 p2:Nat}{w1:World}(hC:CSt B X P w0 w g a n wv tv TV)(hX:∀b,w.heap.size<=b->X b)(h:Hid (∀(Q:Nat->Prop) (W:World),(∀b,w.heap.size<=b->b<w1.heap.size->Q b/\b<W.heap.size/\W.heap[b]? =w1.heap[b]?)->Ext w0 W->(∀b,W.heap.size<=b->Q b)->∀s:Nat,s<n->Calls prog F #[.int .i64 s,.pointer (some ⟨p1,0,none⟩),.pointer (some ⟨p2,0,none⟩)] W fun e w''=>StOut Q (ord s) e w''/\Ext W w'')):
  ∀W tv' wv',Kp P w1 tv wv W tv' wv'->Ext w0 W->(∀b,W.heap.size<=b->Qn P tv' wv' b/\X b)->∀s:Nat,s<n->Calls prog F #[.int .i64 s,.pointer (some ⟨p1,0,none⟩),.pointer (some ⟨p2,0,none⟩)] W fun e w'=>StOut (fun b=>Qn P tv' wv' b/\X b) (ord s) e w'/\Ext W w':=
  fun W tv' wv' hk hW hf s hs=>h.out (fun b=>Qn P tv' wv' b/\X b) W (fun b hb hlt=>⟨⟨(hk.block b (hC.fresh b hb) hlt).1,hX b hb⟩,Q5 hlt hk.size,(hk.block b (hC.fresh b hb) hlt).2⟩) hW hf s hs
theorem q0w{i:Nat}{l:List Value}{T:TypeId}(h:w.rowIs P T 11 (fun j=>l.getD j vd))(hi:i<l.length)(v:Value):(w.setCell ⟨P,i,none⟩ v).rowIs P T 11 (fun j=>(l.set i v).getD j vd):=
 (h.set i v).congr (fun j _=>q1m hi j)
variable {g':Cg}
theorem CSt.redo{n:Nat}{w':World}{a':CA}(h:CSt B X P w0 w g a n wv tv TV)(hrow:w'.rowIs P 139 11 (fun j=>(chL g'.c a' n wv tv).getD j vd))(H:∀b,b≠P->w'.heap[b]? =w.heap[b]?)(hs:w'.heap.size=w.heap.size)(hE:Ext w0 w')(hw:g'.c.Qg=g.c.Qg)(ho:g'.out=g.out)(hn:q3u B w0 g'.c.now a'.n)(hx:q3u B w0 g'.c.Qd a'.x):CSt B X P w0 w' g' a' n wv tv TV:=by
  refine⟨hrow,?_,?_,h.wP,h.apart,?_,hE,h.hP,h.hB,hn,hx⟩
  ·rw[hw]
   refine⟨h.ownW.1,?_⟩
   rcases h.ownW.2 with h2 | ⟨b,cap,cur,h1,h2,h3,h4⟩
   ·exact Or.inl h2
   ·exact Or.inr ⟨b,cap,cur,h1,h2,(H b (fun e=>h.wP (by rw[h1,e];rfl))).trans h3,h4⟩
  ·rw[ho]
   refine⟨h.ownT.1,?_⟩
   rcases h.ownT.2 with h2 | ⟨b,cap,cur,h1,h2,h3,h4⟩
   ·exact Or.inl h2
   ·exact Or.inr ⟨b,cap,cur,h1,h2,(H b (by omega)).trans h3,h4⟩
  ·rw[ho];exact h.lt.mono (fun b hb hlt=>⟨hb,by omega,H b (by have:=hb.1.1;omega)⟩)
def NsOut (B:Nat) (X:Nat->Prop) (P n:Nat) (w0 w:World) (tv wv:Value) (g:Cg) (e:Ending) (w':World):Prop:=e=.returned (.bool (q3n n g).isSome)/\∃a' wv' tv' TV',CSt B X P w0 w' ((q3n n g).getD g) a' n wv' tv' TV'/\Kp P w tv wv w' tv' wv'
abbrev S7 (P:Nat) (v1:Int) (f1 q1:Value) (v2:Int) (f2 q2:Value) (V:World):Prop:=V.cell? ⟨P,1,none⟩=some (.int .i64 v1)/\V.cell? ⟨P,2,none⟩=some f1/\V.cell? ⟨P,3,none⟩=some q1/\V.cell? ⟨P,4,none⟩=some (.int .i64 v2)/\V.cell? ⟨P,5,none⟩=some f2/\V.cell? ⟨P,6,none⟩=some q2
theorem CSt.s7{n:Nat}(h:CSt B X P w0 w g a n wv tv TV):S7 P g.c.now.v (.slice a.n.fo g.c.now.fs.length a.n.fc) (.slice a.n.qo g.c.now.ps.length a.n.qc) g.c.Qd.v (.slice a.x.fo g.c.Qd.fs.length a.x.fc) (.slice a.x.qo g.c.Qd.ps.length a.x.qc) w:=
 ⟨h.row.cell (i:=1) (by omega),h.row.cell (i:=2) (by omega),h.row.cell (i:=3) (by omega),h.row.cell (i:=4) (by omega),h.row.cell (i:=5) (by omega),h.row.cell (i:=6) (by omega)⟩
theorem z1w(B:Nat)(X:Nat->Prop)(P n:Nat)(w0 w:World)(g:Cg)(a:CA)(wv tv:Value)(TV:List Value)(h:CSt B X P w0 w g a n wv tv TV)(hX:∀b,w.heap.size<=b->X b)(hn:n<=8)(hnk:PlOk g.c.now)(hxk:PlOk g.c.Qd)(hwl:g.c.Qg.length<=16777216)(hol:g.c.st=1->g.out.length<=100):
 Calls prog 87 #[.pointer (some ⟨P,0,none⟩)] w fun e w'=>NsOut B X P n w0 w tv wv g e w':=by
 obtain⟨⟨st,now,Qd,num,Qg⟩,out⟩:=g
 simp only at hnk hxk hwl hol
 have s0:w.cell? ⟨P,0,none⟩=some (.int .i64 st):=h.row.cell (i:=0) (by omega)
 have z0:=h.row.frozen 0
 have HC:=Qa h
 have hPl:=h.row.lt
 clear h
 by_cases h1:st=1
 ·subst h1
  have ho:out.length<=100:=hol rfl
  clear hol
  have HN:Hid (q3n n ⟨⟨1,now,Qd,num,Qg⟩,out⟩=some (told n (Zz now Qd) ⟨⟨2,now,Qd,num,Qg⟩,out⟩)):=rfl
  go_enter func87,ntmps87
  go_upto_region 6 with fail
  obtain⟨w2,hw2⟩:=Qy (w.setCell ⟨P,0,none⟩ (.int .i64 2))
  have HC2:Hid (CSt B X P w0 w2 ⟨⟨2,now,Qd,num,Qg⟩,out⟩ a n wv tv TV):=by rw[hw2];exact HC.out.put (g':=⟨⟨2,now,Qd,num,Qg⟩,out⟩) 0 (by omega) _ rfl rfl rfl HC.out.hn HC.out.hx
  have HKp:Hid (Kp P w tv wv w2 tv wv):=by rw[hw2];exact CSt.kput
  rw[<-hw2]
  clear hw2 HC s0 z0
  have HX2:Hid (∀b,w2.drew.heap.size<=b->X b):=Qa (fun b hb=>hX b (by have:=HKp.out.size;exact ltr this hb))
  have hd:Ext w2 w2.drew:=(Ext.refl w2).drew
  have HS7:Hid (∀V,Ext w2 V->S7 P now.v (.slice a.n.fo now.fs.length a.n.fc) (.slice a.n.qo now.ps.length a.n.qc) Qd.v (.slice a.x.fo Qd.fs.length a.x.fc) (.slice a.x.qo Qd.ps.length a.x.qc) V):=fun V hV=>(HC2.out.ext hV).s7
  have HST:Hid (Calls prog 111 #[.agg #[.int .i64 now.v,.slice a.n.fo now.fs.length a.n.fc,.slice a.n.qo now.ps.length a.n.qc],.agg #[.int .i64 Qd.v,.slice a.x.fo Qd.fs.length a.x.fc,.slice a.x.qo Qd.ps.length a.x.qc]] w2.drew fun e w'=>StepOf 123 n (Zz now Qd) w0 w2.drew w' e):=z3r now Qd a.n a.x n w0 _ HC2.out.hn.at HC2.out.hx.at hnk hxk
  have HTE:Hid (∀(w1:World) (p1 p2:Nat),Ext w2.drew w1->Hid (∀(Q:Nat->Prop) (W:World),(∀b,w2.drew.heap.size<=b->b<w1.heap.size->Q b/\b<W.heap.size/\W.heap[b]? =w1.heap[b]?)->Ext w0 W->(∀b,W.heap.size<=b->Q b)->∀s:Nat,s<n->Calls prog 123 #[.int .i64 s,.pointer (some ⟨p1,0,none⟩),.pointer (some ⟨p2,0,none⟩)] W fun e w''=>StOut Q (Zz now Qd s) e w''/\Ext W w'')->
   Calls prog 64 #[.pointer (some ⟨P,0,none⟩),.func (.func 123) #[] #[.pointer (some ⟨p1,0,none⟩),.pointer (some ⟨p2,0,none⟩)]] w1 fun e w'=>TeOut B X P w0 w1 (told n (Zz now Qd) ⟨⟨2,now,Qd,num,Qg⟩,out⟩) a n wv tv e w'):=fun w1 p1 p2 E1 hs=>
   z0r B X 123 p1 p2 P n (Zz now Qd) w0 w1 _ a wv tv TV ((HC2.out.ext hd).ext E1) (Or.inr (Or.inr rfl)) (fun b hb=>HX2.out b (ltr E1.size hb)) hn hwl ho (q7o (HC2.out.ext hd) HX2.out hs)
  clear hnk hxk hwl ho
  obtain⟨v1,f1,q1,v2,f2,q2,e1,e2,e3,e4,e5,e6⟩:∃v1 f1 q1 v2 f2 q2,now.v=v1/\Value.slice a.n.fo now.fs.length a.n.fc=f1/\Value.slice a.n.qo now.ps.length a.n.qc=q1/\Qd.v=v2/\Value.slice a.x.fo Qd.fs.length a.x.fc=f2/\Value.slice a.x.qo Qd.ps.length a.x.qc=q2:=⟨_,_,_,_,_,_,rfl,rfl,rfl,rfl,rfl,rfl⟩
  have HS8:Hid (∀V wv' tv' TV',CSt B X P w0 V (told n (Zz now Qd) ⟨⟨2,now,Qd,num,Qg⟩,out⟩) a n wv' tv' TV'->S7 P now.v (.slice a.n.fo now.fs.length a.n.fc) (.slice a.n.qo now.ps.length a.n.qc) Qd.v (.slice a.x.fo Qd.fs.length a.x.fc) (.slice a.x.qo Qd.ps.length a.x.qc) V):=fun V wv' tv' TV' hV=>hV.s7
  rw[e1,e2,e3,e4,e5,e6] at HS7 HST HS8
  clear e1 e2 e3 e4 e5 e6
  go_region_held3 (fun V=>cl V P 1 (.int .i64 v1)/\cl V P 2 f1/\cl V P 3 q1/\cl V P 4 (.int .i64 v2)/\cl V P 5 f2/\cl V P 6 q2)
   (first | with_reducible exact HS7.out _ hd | with_reducible exact HS7.out _ mk1 | with_reducible exact HSL.out)
   (first
   | (have _t:=mk1
      go_at_call 64
      refine(HTE.out _ _ _ E1 HP).mono ?_
      rintro e w4 ⟨rfl,wv',tv',TV',hC4,hK4⟩
      have HC4:=Qa hC4
      have HSL:=Qa (HS8.out _ _ _ _ hC4)
      have HK4:=Qa (HKp.out.trans ((Kp.ext mk1).trans hK4))
      clear hC4 hK4)
   | (go_at_call 111
      refine HST.out.mono ?_
      rintro e w3 ⟨p1,p2,rfl,E1,HP⟩
      have mk1:=hd.trans E1)
   | fail)
  all_goals
   go_wp2
   go_ret
   exact⟨by rw[HN.out];first | done | rfl,a,wv',tv',TV',by rw[HN.out];exact HC4.out,HK4.out⟩
 ·by_cases h2:st=2
  ·subst h2
   have HN:Hid (q3n n ⟨⟨2,now,Qd,num,Qg⟩,out⟩=some ⟨⟨3,now,Qd,num,Qg⟩,out⟩):=rfl
   clear hol hnk hxk hwl h1
   go_enter func87,ntmps87
   go_wp2
   go_ret
   exact⟨by rw[HN.out];first | done | rfl,a,wv,tv,TV,by rw[HN.out];exact HC.out.put (g':=⟨⟨3,now,Qd,num,Qg⟩,out⟩) 0 (by omega) _ rfl rfl rfl HC.out.hn HC.out.hx,CSt.kput⟩
  ·by_cases h4:st=4
   ·subst h4
    have HN:Hid (q3n n ⟨⟨4,now,Qd,num,Qg⟩,out⟩=some ⟨⟨0,Qd,pl0,num,Qg⟩,out⟩):=rfl
    clear hol hnk hxk hwl h1 h2
    obtain⟨t1,t2,t3,t4,t5,t6⟩:=HC.out.s7
    simp only at t1 t2 t3 t4 t5 t6
    have z1:=HC.out.row.frozen 1
    have z2:=HC.out.row.frozen 2
    have z3:=HC.out.row.frozen 3
    have z4:=HC.out.row.frozen 4
    have z5:=HC.out.row.frozen 5
    have z6:=HC.out.row.frozen 6
    have HF:Hid (∃a',CSt B X P w0 (((((((w.setCell ⟨P,0,none⟩ (.int .i64 0)).setCell ⟨P,1,none⟩ (.int .i64 Qd.v)).setCell ⟨P,2,none⟩ (.slice a.x.fo Qd.fs.length a.x.fc)).setCell ⟨P,3,none⟩ (.slice a.x.qo Qd.ps.length a.x.qc)).setCell ⟨P,4,none⟩ (.int .i64 0)).setCell ⟨P,5,none⟩ (.slice none 0 0)).setCell ⟨P,6,none⟩ (.slice none 0 0)) ⟨⟨0,Qd,pl0,num,Qg⟩,out⟩ a' n wv tv TV):=by
     have c:=HC.out
     have hp:w0.heap.size<=P:=c.hP
     refine⟨⟨a.x,pa0,a.wo,a.wc⟩,c.redo ?_ (fun b hb=>?_) (by simp) ?_ rfl rfl c.hx (q3u.zero B w0)⟩
     ·exact q0w (q0w (q0w (q0w (q0w (q0w (q0w c.row (i:=0) (by simp[chL]) _) (i:=1) (by simp[chL]) _) (i:=2) (by simp[chL]) _) (i:=3) (by simp[chL]) _) (i:=4) (by simp[chL]) _) (i:=5) (by simp[chL]) _) (i:=6) (by simp[chL]) _
     ·simp only[Zm _ _ _ _ (show b≠(⟨P,0,none⟩:Addr).block from hb),Zm _ _ _ _ (show b≠(⟨P,1,none⟩:Addr).block from hb),Zm _ _ _ _ (show b≠(⟨P,2,none⟩:Addr).block from hb),Zm _ _ _ _ (show b≠(⟨P,3,none⟩:Addr).block from hb),Zm _ _ _ _ (show b≠(⟨P,4,none⟩:Addr).block from hb),Zm _ _ _ _ (show b≠(⟨P,5,none⟩:Addr).block from hb),Zm _ _ _ _ (show b≠(⟨P,6,none⟩:Addr).block from hb)]
     ·exact((((((c.bel.setCell (by simpa using hp) _).setCell (by simpa using hp) _).setCell (by simpa using hp) _).setCell (by simpa using hp) _).setCell (by simpa using hp) _).setCell (by simpa using hp) _).setCell (by simpa using hp) _
    obtain⟨a',hF⟩:=HF.out
    have HF':=Qa hF
    clear hF HF
    go_enter func87,ntmps87
    go_wp2
    go_ret
    exact⟨by rw[HN.out];first | done | rfl,a',wv,tv,TV,by rw[HN.out];exact HF'.out,(CSt.kput.trans (CSt.kput.trans (CSt.kput.trans (CSt.kput.trans (CSt.kput.trans (CSt.kput.trans CSt.kput))))))⟩
   ·have HN:Hid (q3n n ⟨⟨st,now,Qd,num,Qg⟩,out⟩=none):=by show q3n _ _=_;unfold q3n;simp[h1,h2,h4]
    have b1:(st == 1)=false:=by simpa using h1
    have b2:(st == 2)=false:=by simpa using h2
    have b4:(st == 4)=false:=by simpa using h4
    clear hol hnk hxk hwl h1 h2 h4
    go_enter func87,ntmps87
    go_wp2
    go_ret
    exact⟨by rw[HN.out];first | done | rfl,a,wv,tv,TV,by rw[HN.out];exact HC.out,Kp.ext (Ext.refl w)⟩
theorem goS_wait{n:Nat}(h:g.c.Qg≠[]):goS n g=g:=by unfold goS;rw[if_pos h]
theorem goS_stay{n:Nat}(hw:g.c.Qg=[])(h:q3n n g=none):goS n g=g:=by
 unfold q3n at h
 unfold goS
 rw[if_neg (by simp[hw])]
 split at h
 ·cases h
 ·split at h
  ·cases h
  ·split at h
   ·cases h
   ·rename_i h1 h2 h4
    rw[if_neg h1,if_neg h2,if_neg h4]
theorem goS_step{n:Nat}(hw:g.c.Qg=[])(h:q3n n g=some g'):goS n g'=goS n g/\g'.c.st≠1/\(g.c.st=1->g'.c.st=2)/\(g.c.st≠1->(g.c.st=2\/g.c.st=4)/\g'.c.st≠2/\g'.c.st≠4):=by
 unfold q3n at h
 split at h
 ·rename_i h1
  cases h
  refine⟨?_,by simp[told,Zd],fun _=>rfl,fun h=>absurd h1 h⟩
  rw[show goS n g=q6v (told n (Zz g.c.now g.c.Qd) (Zd g 2)) by unfold goS;rw[if_neg (by simp[hw]),if_pos h1]]
  unfold goS q6v
  split
  ·rfl
  ·rw[if_neg (by simp[told,Zd]),if_pos (by simp[told,Zd])]
 ·rename_i h1
  split at h
  ·rename_i h2
   cases h
   refine⟨?_,by simp[Zd],fun h=>absurd h h1,fun _=>⟨Or.inl h2,by simp[Zd],by simp[Zd]⟩⟩
   rw[show goS n g=Zd g 3 by unfold goS;rw[if_neg (by simp[hw]),if_neg h1,if_pos h2]]
   unfold goS
   rw[if_neg (by simp[Zd,hw]),if_neg (by simp[Zd]),if_neg (by simp[Zd]),if_neg (by simp[Zd])]
  ·rename_i h2
   split at h
   ·rename_i h4
    cases h
    refine⟨?_,by simp,fun h=>absurd h h1,fun _=>⟨Or.inr h4,by simp,by simp⟩⟩
    rw[show goS n g=⟨⟨0,g.c.Qd,pl0,g.c.num,g.c.Qg⟩,g.out⟩ by unfold goS;rw[if_neg (by simp[hw]),if_neg h1,if_neg h2,if_pos h4]]
    unfold goS
    rw[if_neg (by simp[hw]),if_neg (by simp),if_neg (by simp),if_neg (by simp)]
   ·cases h
theorem nextS_ok{n:Nat}(h:q3n n g=some g')(hn:PlOk g.c.now)(hx:PlOk g.c.Qd):PlOk g'.c.now/\PlOk g'.c.Qd:=by
 unfold q3n at h
 split at h
 ·cases h;exact⟨hn,hx⟩
 ·split at h
  ·cases h;exact⟨hn,hx⟩
  ·split at h
   ·cases h;exact⟨hx,PlOk.zero⟩
   ·cases h
def rk (st:Int):Nat:=if st=1 then 2 else if st=2\/st=4 then 1 else 0
def rkW (P:Nat) (w:World):Nat:=match w.cell? ⟨P,0,none⟩ with
 | some (.int .i64 k)=>rk k
 | _=>0
theorem CSt.rkW{B:Nat}{X:Nat->Prop}{P n:Nat}{w0 w:World}{g:Cg}{a:CA}{wv tv:Value}{TV:List Value}(h:CSt B X P w0 w g a n wv tv TV):rkW P w=rk g.c.st:=by
 have:w.cell? ⟨P,0,none⟩=some (.int .i64 g.c.st):=h.row.cell (i:=0) (by omega)
 unfold Ct.rkW;rw[this]
theorem nextS_len{n:Nat}(hw:g.c.Qg.length<=8)(hn:n<=8)(h:q3n n g=some g'):g'.c.Qg.length<=16777216:=by
 unfold q3n at h
 split at h
 ·cases h
  have:=(q0t (ord:=Zz g.c.now g.c.Qd) (g:=Zd g 2) n).1
  have e:(Zd g 2).c.Qg=g.c.Qg:=rfl
  rw[e] at this
  omega
 ·split at h
  ·cases h;show g.c.Qg.length<=_;omega
  ·split at h
   ·cases h;show g.c.Qg.length<=_;omega
   ·cases h
theorem rk_lt{s s':Int}(h:s'≠1/\(s=1->s'=2)/\(s≠1->(s=2\/s=4)/\s'≠2/\s'≠4)):rk s'<rk s:=by
 unfold rk
 by_cases h1:s=1
 ·rw[if_pos h1,h.2.1 h1];decide
 ·obtain⟨h2,h3,h4⟩:=h.2.2 h1
  rw[if_neg h1,if_pos h2,if_neg h.1,if_neg (by omega)];decide
def q8y (B:Nat) (w0:World) (G:Cg) (k:Int) (e:Ending) (w':World):Prop:=∃a' tO tc,e=.returned (.tuple #[cvl G.c a',.slice tO G.out.length tc,.int .i64 k])/\Hid (∀U:World,w'.heap.size<=U.heap.size->(∀b,B<=b->b<w'.heap.size->U.heap[b]? =w'.heap[b]?)->Zr U G.c a'/\Zw U tO G.out)/\Ext w0 w'
theorem q0m(V:World):V.drew.heap=V.heap:=rfl
def W9 (V:World) (R:Nat) (x0 x1 x2 x3 x4 x5 x6 x7 x8:Value):World:=((((((((V.setCell ⟨R,0,none⟩ x0).setCell ⟨R,1,none⟩ x1).setCell ⟨R,2,none⟩ x2).setCell ⟨R,3,none⟩ x3).setCell ⟨R,4,none⟩ x4).setCell ⟨R,5,none⟩ x5).setCell ⟨R,6,none⟩ x6).setCell ⟨R,7,none⟩ x7).setCell ⟨R,8,none⟩ x8
variable {V:World} {R:Nat} {x0 x1 x2 x3 x4 x5 x6 x7 x8:Value}
theorem q0z:∀b,b≠R->(W9 V R x0 x1 x2 x3 x4 x5 x6 x7 x8).heap[b]? =V.heap[b]?:=fun b hb=>by
 unfold W9
 rw[Zm _ _ _ _ hb,Zm _ _ _ _ hb,Zm _ _ _ _ hb,Zm _ _ _ _ hb,Zm _ _ _ _ hb,Zm _ _ _ _ hb,Zm _ _ _ _ hb,Zm _ _ _ _ hb,Zm _ _ _ _ hb]
theorem q1n:(W9 V R x0 x1 x2 x3 x4 x5 x6 x7 x8).heap.size=V.heap.size:=by
 unfold W9
 simp
theorem q0g(h:Ext w0 V)(hR:w0.heap.size<=R):Ext w0 (W9 V R x0 x1 x2 x3 x4 x5 x6 x7 x8):=
 ((((((((h.setCell hR _).setCell hR _).setCell hR _).setCell hR _).setCell hR _).setCell hR _).setCell hR _).setCell hR _).setCell hR _
theorem q7f:∀b,b≠R->(W9 V R x0 x1 x2 x3 x4 x5 x6 x7 x8).drew.heap[b]? =V.heap[b]?:=fun b hb=>by
 rw[q0m];exact q0z b hb
theorem q4y:(W9 V R x0 x1 x2 x3 x4 x5 x6 x7 x8).drew.heap.size=V.heap.size:=by
 rw[q0m];exact q1n
theorem z5y(h:Ext w0 V)(hR:w0.heap.size<=R):Ext w0 (W9 V R x0 x1 x2 x3 x4 x5 x6 x7 x8).drew:=(q0g h hR).drew
def GInv (B R P n:Nat) (w0 w1:World) (tv wv:Value) (g:Cg) (wr:World):Prop:=∃g' a' wv' tv' TV',CSt B (· ≠R) P w0 wr g' a' n wv' tv' TV'/\Kp P w1 tv wv wr tv' wv'/\goS n g'=goS n g/\PlOk g'.c.now/\PlOk g'.c.Qd/\(g'.c.st=1->g'.out.length<=100)/\g'.c.Qg.length<=16777216
theorem CSt.fin9{n:Nat}(h:CSt B (· ≠R) P w0 w g a n wv tv TV)(hR:Qn P tv wv R)(hw0:w0.heap.size<=R)(hV:∀b,b≠R->V.heap[b]? =w.heap[b]?)(hs:V.heap.size=w.heap.size){wo tO:Option Addr}{wc tc:Nat}(ew:wv=.slice wo g.c.Qg.length wc)(et:tv=.slice tO g.out.length tc):
 ∀U:World,V.heap.size<=U.heap.size->(∀b,B<=b->b<V.heap.size->U.heap[b]? =V.heap[b]?)->Zr U g.c ⟨a.n,a.x,wo,wc⟩/\Zw U tO g.out:=fun U hsU hU=>by
 have hB:=h.hB
 have hP:=h.hP
 have hK:∀b,b≠R->B<=b->b<w.heap.size->U.heap[b]? =w.heap[b]?:=fun b h1 h2 h3=>(hU b h2 (by omega)).trans (hV b h1)
 have oW:U.ownsRow w0.heap.size 3 1 wv g.c.Qg.length (g.c.Qg.map (Value.int .i64)):=by
  refine⟨h.ownW.1,?_⟩
  rcases h.ownW.2 with h2 | ⟨b,cap,cur,h1,h2,h3,h4⟩
  ·exact Or.inl h2
  ·exact Or.inr ⟨b,cap,cur,h1,h2,(hK b (fun e=>hR.2.1 (by rw[h1,e];rfl)) (by omega) (h.ownW.lt b (by rw[h1];rfl)).2).trans h3,h4⟩
 have oT:U.ownsRow (P+1) 145 6 tv g.out.length TV:=by
  refine⟨h.ownT.1,?_⟩
  rcases h.ownT.2 with h2 | ⟨b,cap,cur,h1,h2,h3,h4⟩
  ·exact Or.inl h2
  ·exact Or.inr ⟨b,cap,cur,h1,h2,(hK b (fun e=>hR.2.2 (by rw[h1,e];rfl)) (by omega) (h.ownT.lt b (by rw[h1];rfl)).2).trans h3,h4⟩
 obtain⟨wo',wc',e1,hl,_⟩:=(q8o oW).fv
 obtain⟨tO',tc',e2,ht⟩:=z0q oT (h.lt.mono (w':=U) (Q':=fun _=>True) (fun b hb hlt=>⟨trivial,by omega,hK b hb.2 (by have:=hb.1.1;omega) hlt⟩))
 rw[ew] at e1
 rw[et] at e2
 cases e1
 cases e2
 have hbl:=h.bel.size
 have hp:∀b,B<=b->b<w0.heap.size->U.heap[b]? =w0.heap[b]?:=fun b h1 h2=>(hK b (by omega) h1 (by omega)).trans (Below.block h.bel b h2)
 exact⟨⟨h.hn U (by omega) hp,h.hx U (by omega) hp,hl⟩,ht⟩
theorem q2y(B P n:Nat)(w0 w:World)(g:Cg)(a:CA)(wv tv:Value)(TV:List Value)(h:CSt B (fun _=>True) P w0 w g a n wv tv TV)(hn:n<=8)(hnk:PlOk g.c.now)(hxk:PlOk g.c.Qd)(hwl:g.c.Qg.length<=16777216)(hol:g.out.length<=100):
 Calls prog 66 #[.pointer (some ⟨P,0,none⟩)] w fun e w'=>q8y B w0 (goS n g) 0 e w':=by
 have HC:=Qa h
 have hPl:=h.row.lt
 have HK:=Qa (And.intro hnk hxk)
 have hw0:w0.heap.size<=w.heap.size:=h.bel.size
 clear h hnk hxk
 go_enter func66,ntmps66
 go_wp2
 obtain⟨w1,hw1⟩:=Qy (w.alloc (.cells #[.int .i64 0,.int .i64 0,.slice none 0 0,.slice none 0 0,.int .i64 0,.slice none 0 0,.slice none 0 0,.int .i64 0,.slice none 0 0] 32))
 have hE1:Ext w w1:=by rw[hw1];exact(Ext.refl w).alloc _
 have HC1:Hid (CSt B (· ≠w.heap.size) P w0 w1 g a n wv tv TV):=by
  have c:=HC.out.ext hE1
  refine⟨c.row,c.ownW,c.ownT,c.wP,c.apart,?_,c.bel,c.hP,c.hB,c.hn,c.hx⟩
  exact HC.out.lt.mono (fun b hb hlt=>⟨⟨hb.1,by omega⟩,Q5 hlt hE1.size,Below.block hE1 b hlt⟩)
 have HR:Hid (Qn P tv wv w.heap.size/\w1.heap[w.heap.size]? =some (.cells #[.int .i64 0,.int .i64 0,.slice none 0 0,.slice none 0 0,.int .i64 0,.slice none 0 0,.slice none 0 0,.int .i64 0,.slice none 0 0] 32)/\w.heap.size<w1.heap.size):=by
  refine⟨HC.out.fresh _ (Ql _),?_,by rw[hw1];simp⟩
  rw[hw1];exact blk_alloc_new _ _
 rw[<-hw1]
 obtain⟨R,hR⟩:=Qy (w.heap.size)
 rw[<-hR] at HC1 HR hw0 ⊢
 clear hw1 HC hE1 hR
 go_loopw [] (fun wr=>Hid (GInv B R P n w0 w1 tv wv g wr)) (fun wr=>rkW P wr)
 case atStart=>exact⟨g,a,wv,tv,TV,HC1.out,Kp.ext (Ext.refl w1),rfl,HK.out.1,HK.out.2,fun _=>hol,hwl⟩
 case round=>
  clear HC1 HK
  obtain⟨⟨⟨st,now,Qd,num,Qg⟩,out⟩,a2,wv2,tv2,TV2,hC2,hK2,hg2,hn2,hx2,ho2,hwl2⟩:=hrel.out
  clear hrel
  have HC2:=Qa hC2
  have HK2:=Qa hK2
  have HG2:=Qa hg2
  have hRK:rkW P wr=rk st:=hC2.rkW
  obtain⟨wo,wc,hwv,_⟩:=q8o hC2.ownW
  have c8:wr.cell? ⟨P,8,none⟩=some (.slice wo Qg.length wc):=by rw[<-hwv];exact hC2.row.cell (i:=8) (by omega)
  have hPl2:=hC2.row.lt
  clear hC2 hK2 hg2 hwv
  have HRK:=Qa hRK
  clear hRK
  by_cases hw:Qg=[]
  focus
   subst hw
   simp only[List.length_nil] at c8 hwl2
   have HNS:=Qa (z1w B (· ≠R) P n w0 wr _ a2 wv2 tv2 TV2 HC2.out (fun b hb=>by have:=HR.out.2.2;have:=HK2.out.size;omega) hn hn2 hx2 (by simp) ho2)
   go_wp2_with fail
   refine HNS.out.mono ?_
   rintro e w2 ⟨rfl,a3,wv3,tv3,TV3,hC3,hK3⟩
   have HC3:=Qa hC3
   have HK3:=Qa (HK2.out.trans hK3)
   clear hC3 hK3 HNS c8
   rcases hns:q3n n ⟨⟨st,now,Qd,num,[]⟩,out⟩ with _ | g4
   rotate_left
   ·rw[hns] at HC3
    have HST:=Qa (goS_step rfl hns)
    have HOK:=Qa (nextS_ok hns hn2 hx2)
    have HWL:Hid (g4.c.Qg.length<=16777216):=nextS_len (by simp) hn hns
    clear hns
    go_wp2
    refine⟨⟨g4,a3,wv3,tv3,TV3,HC3.out,HK3.out,HST.out.1.trans HG2.out,HOK.out.1,HOK.out.2,fun h=>absurd h HST.out.2.1,HWL.out⟩,?_⟩
    rw[HRK.out,HC3.out.rkW]
    exact rk_lt HST.out.2
   rw[hns] at HC3
   have HST:=Qa ((goS_stay rfl hns).symm.trans HG2.out)
   clear hns
   go_wp2
   obtain⟨G5,hG5⟩:∃G5:Cg,(⟨⟨st,now,Qd,num,[]⟩,out⟩:Cg)=G5:=⟨_,rfl⟩
   have HC5:Hid (CSt B (· ≠R) P w0 w2 G5 a3 n wv3 tv3 TV3):=by rw[<-hG5];exact HC3.out
   rw[hG5] at HST
   obtain⟨V5,a5,wv5,tv5,TV5,eV,ea,ew,et,eT⟩:∃V5 a5 wv5 tv5 TV5,w2=V5/\a3=a5/\wv3=wv5/\tv3=tv5/\TV3=TV5:=⟨_,_,_,_,_,rfl,rfl,rfl,rfl,rfl⟩
   rw[ea,ew,et,eT] at HC5
   rw[ew,et] at HK3
   rw[eV] at HC5 HK3 ⊢
   have HK5:=HK3
   clear HC3 HK3 HC2 HK2 HG2 HRK hG5 eV ea ew et eT hn2 hx2 ho2 hwl2
  rotate_left
  focus
   have HST:=Qa ((goS_wait (n:=n) (g:=⟨⟨st,now,Qd,num,Qg⟩,out⟩) hw).symm.trans HG2.out)
   have b0:((Qg.length:Int) == 0)=false:=by
    cases Qg with
    | nil=>exact absurd rfl hw
    | cons=>simp;omega
   clear hw
   go_wp2
   obtain⟨G5,hG5⟩:∃G5:Cg,(⟨⟨st,now,Qd,num,Qg⟩,out⟩:Cg)=G5:=⟨_,rfl⟩
   have HC5:Hid (CSt B (· ≠R) P w0 wr G5 a2 n wv2 tv2 TV2):=by rw[<-hG5];exact HC2.out
   rw[hG5] at HST
   obtain⟨V5,a5,wv5,tv5,TV5,eV,ea,ew,et,eT⟩:∃V5 a5 wv5 tv5 TV5,wr=V5/\a2=a5/\wv2=wv5/\tv2=tv5/\TV2=TV5:=⟨_,_,_,_,_,rfl,rfl,rfl,rfl,rfl⟩
   rw[ea,ew,et,eT] at HC5
   rw[ew,et] at HK2
   rw[eV] at HC5 HK2 ⊢
   have HK5:=HK2
   clear HC2 HK2 HG2 HRK hG5 eV ea ew et eT hn2 hx2 ho2 hwl2 c8 b0 hPl2
  rotate_left
  all_goals(
   have hb5:V5.heap[R]? =some (.cells #[.int .i64 0,.int .i64 0,.slice none 0 0,.slice none 0 0,.int .i64 0,.slice none 0 0,.slice none 0 0,.int .i64 0,.slice none 0 0] 32):=((HK5.out.block R HR.out.1 HR.out.2.2).2).trans HR.out.2.1
   have HFIN:Hid (∀(V:World) (wo tO:Option Addr) (wc tc:Nat),(∀b,b≠R->V.heap[b]? =V5.heap[b]?)->V.heap.size=V5.heap.size->wv5=.slice wo G5.c.Qg.length wc->tv5=.slice tO G5.out.length tc->_):=fun V wo tO wc tc hV hs ew et=>HC5.out.fin9 (V:=V) ((HK5.out.block R HR.out.1 HR.out.2.2).1) hw0 hV hs ew et
   have HBE:Hid (Ext w0 V5):=HC5.out.bel
   obtain⟨wo5,wc5,hwv,_⟩:=q8o HC5.out.ownW
   obtain⟨tO5,tc5,htv,_⟩:=z0q HC5.out.ownT HC5.out.lt
   obtain⟨k0,hk0⟩:∃v,G5.c.st=v:=⟨_,rfl⟩
   obtain⟨k1,hk1⟩:∃v,G5.c.now.v=v:=⟨_,rfl⟩
   obtain⟨k4,hk4⟩:∃v,G5.c.Qd.v=v:=⟨_,rfl⟩
   obtain⟨k7,hk7⟩:∃v,G5.c.num=v:=⟨_,rfl⟩
   obtain⟨o2,l2,q2,eo2,el2,eq2⟩:∃o l q,a5.n.fo=o/\G5.c.now.fs.length=l/\a5.n.fc=q:=⟨_,_,_,rfl,rfl,rfl⟩
   obtain⟨o3,l3,q3,eo3,el3,eq3⟩:∃o l q,a5.n.qo=o/\G5.c.now.ps.length=l/\a5.n.qc=q:=⟨_,_,_,rfl,rfl,rfl⟩
   obtain⟨o5,l5,q5,eo5,el5,eq5⟩:∃o l q,a5.x.fo=o/\G5.c.Qd.fs.length=l/\a5.x.fc=q:=⟨_,_,_,rfl,rfl,rfl⟩
   obtain⟨o6,l6,q6,eo6,el6,eq6⟩:∃o l q,a5.x.qo=o/\G5.c.Qd.ps.length=l/\a5.x.qc=q:=⟨_,_,_,rfl,rfl,rfl⟩
   obtain⟨l8,el8⟩:∃l,G5.c.Qg.length=l:=⟨_,rfl⟩
   obtain⟨l9,el9⟩:∃l,G5.out.length=l:=⟨_,rfl⟩
   have c0:V5.cell? ⟨P,0,none⟩=some (.int .i64 k0):=by rw[<-hk0];exact HC5.out.row.cell (i:=0) (by omega)
   have c1:V5.cell? ⟨P,1,none⟩=some (.int .i64 k1):=by rw[<-hk1];exact HC5.out.row.cell (i:=1) (by omega)
   have c2:V5.cell? ⟨P,2,none⟩=some (.slice o2 l2 q2):=by rw[<-eo2, <-el2, <-eq2];exact HC5.out.row.cell (i:=2) (by omega)
   have c3:V5.cell? ⟨P,3,none⟩=some (.slice o3 l3 q3):=by rw[<-eo3, <-el3, <-eq3];exact HC5.out.row.cell (i:=3) (by omega)
   have c4:V5.cell? ⟨P,4,none⟩=some (.int .i64 k4):=by rw[<-hk4];exact HC5.out.row.cell (i:=4) (by omega)
   have c5:V5.cell? ⟨P,5,none⟩=some (.slice o5 l5 q5):=by rw[<-eo5, <-el5, <-eq5];exact HC5.out.row.cell (i:=5) (by omega)
   have c6:V5.cell? ⟨P,6,none⟩=some (.slice o6 l6 q6):=by rw[<-eo6, <-el6, <-eq6];exact HC5.out.row.cell (i:=6) (by omega)
   have c7:V5.cell? ⟨P,7,none⟩=some (.int .i64 k7):=by rw[<-hk7];exact HC5.out.row.cell (i:=7) (by omega)
   have c8:V5.cell? ⟨P,8,none⟩=some (.slice wo5 l8 wc5):=by rw[<-el8, <-hwv];exact HC5.out.row.cell (i:=8) (by omega)
   have c10:V5.cell? ⟨P,10,none⟩=some (.slice tO5 l9 tc5):=by rw[<-el9, <-htv];exact HC5.out.row.cell (i:=10) (by omega)
   have HV:Hid (cvl G5.c ⟨a5.n,a5.x,wo5,wc5⟩=.agg #[.int .i64 k0,.int .i64 k1,.slice o2 l2 q2,.slice o3 l3 q3,.int .i64 k4,.slice o5 l5 q5,.slice o6 l6 q6,.int .i64 k7,.slice wo5 l8 wc5]/\G5.out.length=l9/\wv5=.slice wo5 G5.c.Qg.length wc5/\tv5=.slice tO5 G5.out.length tc5):=⟨by rw[<-hk0, <-hk1, <-hk4, <-hk7, <-eo2, <-el2, <-eq2, <-eo3, <-el3, <-eq3, <-eo5, <-el5, <-eq5, <-eo6, <-el6, <-eq6, <-el8];rfl,el9,hwv,htv⟩
   clear hk0 hk1 hk4 hk7 eo2 el2 eq2 eo3 el3 eq3 eo5 el5 eq5 eo6 el6 eq6 el8 el9 hwv htv
   obtain⟨r0,r1,r2,r3,r4,r5,r6,r7,r8⟩:=box9 hb5
   obtain⟨z0,z1,z2,z3,z4,z5,z6,z7,z8⟩:=frz9 hb5
   simp only[List.getElem?_toArray,List.getElem?_cons_zero,List.getElem?_cons_succ] at r0 r1 r2 r3 r4 r5 r6 r7 r8
   have hPR:P<R:=HR.out.1.1
   have hRl:R<V5.heap.size:=(asi.1 hb5).1
   have hPl5:=HC5.out.row.lt
   clear hb5
   go_region
   go_wp2
   refine bodyPost_ret (v:=.tuple #[.agg #[.int .i64 k0,.int .i64 k1,.slice o2 l2 q2,.slice o3 l3 q3,.int .i64 k4,.slice o5 l5 q5,.slice o6 l6 q6,.int .i64 k7,.slice wo5 l8 wc5],.slice tO5 l9 tc5,.int .i64 0]) (by simp[results,results66,go_sem,r0,r1,r2,r3,r4,r5,r6,r7,r8]) rfl ?_
   rw[<-HST.out]
   have h1:=HFIN.out (W9 V5 R (.int .i64 k0) (.int .i64 k1) (.slice o2 l2 q2) (.slice o3 l3 q3) (.int .i64 k4) (.slice o5 l5 q5) (.slice o6 l6 q6) (.int .i64 k7) (.slice wo5 l8 wc5)).drew _ _ _ _ q7f q4y HV.out.2.2.1 HV.out.2.2.2
   exact⟨_,_,_,by rw[HV.out.1,HV.out.2.1],h1,z5y HBE.out hw0⟩)
end Ct
end Go.Proofs.YthkpbefnkmmaiaaGreat
