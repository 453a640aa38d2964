import Derived.Test.YthkpbefnkmmaiaaGreate34
set_option maxRecDepth 100000
set_option maxHeartbeats 4000000
namespace Go.Proofs.YthkpbefnkmmaiaaGreat
open Go.Proofs.Tryz
namespace Tb
open Go.RowKit Go.Maps Stw Go.Deep Rul Go.Sort
theorem q0s(v s:Int)(fo qo:Option Addr)(fl fc ql qc:Nat)(ps:List (List Int))(w:World)(hql:ps.length=ql)(hps:PsAt w qo ps)(hT:tot ps ps.length*24<=140737488351232)(hqx:ql<=4611686018427387904):
 Calls prog 52 #[.agg #[.int .i64 v,.slice fo fl fc,.slice qo ql qc],.int .i64 s] w fun e w'=>∃v',e=.returned v'/\RO w' w.heap.size v' (rof v s ps ql)/\Ext w w':=by
 obtain⟨i3',hi3,hz0,hz1,hz2⟩:=infoR'
 have hE0:Ext w (w.alloc (.cells #[.int .i64 v,.slice fo fl fc,.slice qo ql qc] 29)):=(Ext.refl w).alloc _
 have HB:Hid (∀W:World,Ext (w.alloc (.cells #[.int .i64 v,.slice fo fl fc,.slice qo ql qc] 29)) W->cl W w.heap.size 0 (.int .i64 v)/\cl W w.heap.size 2 (.slice qo ql qc)):=fun W h=>
  ⟨(h.cells.1 _ _ (by simp)).trans (by simp),(h.cells.1 _ _ (by simp)).trans (by simp)⟩
 have HT:Hid _:=hT
 clear hT
 go_enter func52,ntmps52
 go_wp2
 obtain⟨W1,hW1⟩:=Qy (w.alloc (.cells #[.int .i64 v,.slice fo fl fc,.slice qo ql qc] 29))
 have hW1s:w.heap.size<W1.heap.size:=by rw[hW1];simp
 rw[<-hW1] at HB hE0 ⊢
 clear hW1
 go_loopw [5,13] (fun ov iv wd=>∃k:Nat,k<=ql/\iv=.int .i64 k/\Hid (RO wd W1.heap.size ov (rof v s ps k))/\Ext W1 wd) (fun _ iv _=>ql - (intOf iv).toNat)
 case atStart=>exact⟨0,Zu _,rfl,RO.nil _ _,Ext.refl W1⟩
 case round=>
  obtain⟨k,hk,rfl,HO,hE⟩:=hrel
  by_cases hlt:k<ql
  ·have i1:(k:Int)<(ql:Int):=by omega
   have htk:tot ps k+(ps.getD k []).length<=tot ps ps.length:=by have:=z0p (ps:=ps) (j:=k+1) (k:=ps.length) (by omega);rwa [tot] at this
   rcases hps.ext hE0 with h0 | ⟨g,off,rfl,hg,hcs⟩
   ·exfalso;rw[h0] at hql;simp at hql;omega
   obtain⟨xo,xc,cx0,lx⟩:=hcs k (by omega)
   have cx:=(hE.cells.1 _ _ hg).trans cx0
   clear cx0
   obtain⟨path,hpath⟩:=Qy (ps.getD k [])
   rw[<-hpath] at cx lx htk
   have hr1:Hid (rof v s ps (k+1)=rof v s ps k++stk v k s path path.length):=by show rof v s ps k++_=_;rw[hpath]
   clear hpath hcs
   obtain⟨L,hL⟩:=Qy (path.length)
   rw[<-hL] at cx htk
   have hL1:L<=path.length:=by omega
   have hL2:path.length<=L:=by omega
   have HL:Hid (L=path.length):=hL
   clear hL
   have hLx:L<=4611686018427387904:=by have:=HT.out;omega
   have HO1:Hid (RO wr W1.heap.size u5 (rof v s ps k++stk v k s path 0)):=by show RO _ _ _ (_++[]);rw[List.append_nil];exact HO.out
   go_wp2
   clear cx
   go_loopw [5,20] (fun ov jv wd=>∃j:Nat,j<=L/\jv=.int .i64 j/\Hid (RO wd W1.heap.size ov (rof v s ps k++stk v k s path j))/\Ext W1 wd) (fun _ jv _=>L - (intOf jv).toNat)
   case atStart=>exact⟨0,Zu _,rfl,HO1,hE⟩
   case round=>
    clear HO1 HO hE
    obtain⟨j,hj,rfl,HO,hE⟩:=hrel
    by_cases hjl:j<L
    ·have i2:(j:Int)<(L:Int):=by omega
     rcases lx with h0 | ⟨b,o,rfl,hb,hin0⟩
     ·exfalso;rw[h0] at hL2 hL1;simp at hL1 hL2;omega
     have c1:=(hE.cells.1 _ _ hb).trans (hin0 j (by omega))
     obtain⟨a,ha⟩:∃a,path.getD j 0=a:=⟨_,rfl⟩
     rw[ha] at c1
     obtain⟨b0,b2⟩:=HB.out wr hE
     by_cases hc:a=s/\j+1<L
     ·have c2:=(hE.cells.1 _ _ hb).trans (hin0 (j+1) (by omega))
      obtain⟨y,hy⟩:∃a,path.getD (j+1) 0=a:=⟨_,rfl⟩
      rw[hy] at c2
      have hst:stk v k s path (j+1)=stk v k s path j++[(v,(k:Int),y)]:=by rw[stk,ha,hy,if_pos ⟨hc.1,by omega⟩]
      have HST:Hid _:=hst
      have e1:(a == s)=true:=by simpa using hc.1
      have i3:(j:Int)<(L:Int) - 1:=by omega
      have i4:(j:Int)+1<(L:Int):=by omega
      have p0:(0:Int)<=(j:Int)+1:=by omega
      obtain⟨R,hR⟩:∃R,rof v s ps k++stk v k s path j=R:=⟨_,rfl⟩
      have hRl:R.length<=tot ps k+L:=by
       rw[<-hR,lap]
       have h1:=z1e (v:=v) (s:=s) (ps:=ps) k
       have h2:=z0v (v:=v) (f:=k) (s:=s) (path:=path) j
       omega
      have hown:RO wr W1.heap.size u5 R:=by rw[<-hR];exact HO.out
      have HOw:Hid (RO wr W1.heap.size u5 R):=hown
      have HRR:Hid _:=hR
      have hTo:=HT.out
      have hsz:=hE.size
      have ww:IntKind.i64.wrap ((j:Int)+1)=(j:Int)+1:=by rw[IntKind.wrap_i64];omega
      have HFIN:Hid (∀(g5 gc5:Nat) (w5:World),w5.ownsRow W1.heap.size 132 3 (.slice (some ⟨g5,0,none⟩) (R.length+1) gc5) (R.length+1) (rcs R++[.int .i64 v,.int .i64 k,.int .i64 y])->(wr.alloc (.cells #[.int .i64 v,.int .i64 k,.int .i64 y] 132)).grownBy w5 u5.ownBlock->
       RO w5 W1.heap.size (.slice (some ⟨g5,0,none⟩) (R.length+1) gc5) (rof v s ps k++stk v k s path (j+1))/\Ext W1 w5):=fun g5 gc5 w5 ho hg=>by
       refine⟨?_,Below.grown (hE.alloc _) hg (by simp;omega) (fun q hq=>(hown.block q hq).1)⟩
       rw[hst, <-List.append_assoc,hR]
       unfold RO
       rw[q2j,lap]
       simpa[rcs] using ho
      clear hst ha hy hc hin0 hR hown HO
      go_wp2
      go_region_law
       (refine step_append_lies _ ?_ (.tmp 35) (.tmp 45) 61 ?_ W1.heap.size 132 i3' (.agg #[.int .i64 0,.int .i64 0,.int .i64 0]) 3 24 underlying61 hi3 hz0 hz1 hz2 rfl (by decide) u5 R.length (rcs R) ?_ ?_ ⟨wr.heap.size,0,none⟩ 1 1 [.int .i64 v,.int .i64 k,.int .i64 y] ?_ ?_ ?_ (one3 _ _ _) ?_ ?_ ?_ ?_ _ rfl ?_
        ·rfl
        ·rfl
        ·rfl
        ·exact RO.ext HOw.out ((Ext.refl wr).alloc _).drew
        ·rfl
        ·rfl
        ·exact World.news_of_block (cs:=#[.int .i64 v,.int .i64 k,.int .i64 y]) (blk_alloc_new wr _)
        ·omega
        ·unfold maxLen;omega
        ·omega
        ·simp;omega
        intro g5 gc5 w5 hown5 hgr5 hat5 hlt5
        have HG5:Hid _:=HFIN.out g5 gc5 w5 hown5 ⟨hgr5.os,hgr5.tape,hgr5.output,hgr5.size,hgr5.block⟩
        clear hown5 hgr5 hat5 hlt5)
      all_goals(
       go_wp2
       exact⟨⟨j+1,by omega,by go_num,HG5.out.1,HG5.out.2⟩,by simp[intOf];omega⟩)
     ·have HO2:Hid (RO wr W1.heap.size u5 (rof v s ps k++stk v k s path (j+1))):=by
       show RO _ _ _ _
       rw[stk,ha,if_neg (fun h=>hc ⟨h.1,by omega⟩),List.append_nil]
       exact HO.out
      by_cases hs:a=s
      ·have hjn:¬j+1<L:=fun h=>hc ⟨hs,h⟩
       have e1:(a == s)=true:=by simpa using hs
       have i3:¬(j:Int)<(L:Int) - 1:=by omega
       clear hc hs ha HO hin0
       go_wp2
       exact⟨⟨j+1,by omega,by go_num,HO2,hE⟩,by simp[intOf];omega⟩
      ·have e1:(a == s)=false:=by simpa using hs
       clear hc hs ha HO hin0
       go_wp2
       exact⟨⟨j+1,by omega,by go_num,HO2,hE⟩,by simp[intOf];omega⟩
    ·have i2:¬(j:Int)<(L:Int):=by omega
     have HO2:Hid (RO wr W1.heap.size u5 (rof v s ps (k+1))):=by
      show RO _ _ _ _
      rw[hr1.out,show path.length=j by omega]
      exact HO.out
     go_wp2
     exact⟨⟨k+1,by omega,by go_num,HO2,hE⟩,by simp[intOf];omega⟩
  ·have hkq:k=ql:=by omega
   have HO2:Hid (RO wr W1.heap.size u5 (rof v s ps ql)):=by have:=HO.out;rwa [hkq] at this
   go_wp2
   go_ret
   refine⟨_,rfl,?_,hE0.trans hE⟩
   have h:=HO2.out
   refine⟨h.1,?_⟩
   rcases h.2 with h2 | ⟨g,cap,cur,h1,h2,h3⟩
   ·exact Or.inl h2
   ·exact Or.inr ⟨g,cap,cur,h1,by omega,h3⟩
end Tb
namespace Ct
open Go.RowKit Go.Deep Stw Stp Tb Rul
def ZR (Y:Nat->Prop) (w:World) (b:Nat):Prop:=b≠w.heap.size+1+1/\(Y b\/w.heap.size<=b)
def RfOut (Y:Nat->Prop) (w:World) (G:Cg) (k:Int) (e:Ending) (w':World):Prop:=∃(a':CA) (tO:Option Addr) (tc:Nat),e=.returned (.tuple #[cvl G.c a',.slice tO G.out.length tc,.int .i64 k])/\Hid (∀U:World,w'.heap.size<=U.heap.size->(∀b,(Y b\/w.heap.size<=b)->b<w'.heap.size->U.heap[b]? =w'.heap[b]?)->Zr U G.c a'/\Zw U tO G.out)/\(a'.wo=none->a'.wc=0)/\Ext w w'
variable {w V:World} {Y:Nat->Prop} {R:Nat} {k:Int}
theorem z1i(hwR:w.heap.size<=R)(E:Ext w V)(x0 x1 x2 x3 x4 x5 x6 x7 x8:Value):RfOut Y w ⟨co0,[]⟩ k (.returned (.tuple #[.agg #[.int .i64 0,.int .i64 0,.slice none 0 0,.slice none 0 0,.int .i64 0,.slice none 0 0,.slice none 0 0,.int .i64 0,.slice none 0 0],.slice none 0 0,.int .i64 k])) (W9 V R x0 x1 x2 x3 x4 x5 x6 x7 x8):=
 ⟨ca0,none,0,rfl,fun U _ _=>⟨Zr.zero U,Or.inl rfl⟩,fun _=>rfl,q0g E hwR⟩
theorem z1h(hwR:w.heap.size<=R)(E:Ext w V)(x0 x1 x2 x3 x4 x5 x6 x7 x8:Value):RfOut Y w ⟨co0,[]⟩ k (.returned (.tuple #[.agg #[.int .i64 0,.int .i64 0,.slice none 0 0,.slice none 0 0,.int .i64 0,.slice none 0 0,.slice none 0 0,.int .i64 0,.slice none 0 0],.slice none 0 0,.int .i64 k])) (W9 V R x0 x1 x2 x3 x4 x5 x6 x7 x8).drew:=
 ⟨ca0,none,0,rfl,fun U _ _=>⟨Zr.zero U,Or.inl rfl⟩,fun _=>rfl,z5y E hwR⟩
theorem z7h{W:World}{b:Nat}{T:TypeId}(h:W.heap.size=b)(v:Value):(W.alloc (.cells #[v] T)).rowIs b T 1 (fun _=>v):=by
 subst h
 exact World.rowIs_alloc W #[v] T _ (fun i hi=>by
  have hi':i<1:=hi
  match i,hi' with
  | 0,_=>simp)
variable {O:Nat} {a:CA}
theorem RSt.start{c:Co}(hbox:BX V w.heap.size (coL c a))(hobx:V.rowIs O 86 1 (fun _=>.slice none 0 0))(Q2:Stb (fun b=>Y b/\b<w.heap.size\/w.heap.size+1+1<b/\b<O) V (fun U=>Zr U c a))(E:Ext w V)(hO:w.heap.size+1+1<O)(hwn:a.wo=none->a.wc=0):
 RSt (ZR Y w) w.heap.size O w V ⟨c,[]⟩ a (.slice none 0 0) []:=
 ⟨hbox,hobx,World.ownsRow_nil _ _ _ _,by simp[Value.ownBlock],by simp[Value.ownBlock],trivial,Q2.more (fun b h1 _=>by
  rcases h1 with⟨y,h1⟩ | h1
  ·exact⟨⟨by omega,by omega,by simp[Value.ownBlock]⟩,by omega,Or.inl y⟩
  ·exact⟨⟨by omega,by omega,by simp[Value.ownBlock]⟩,by omega,Or.inr (by omega)⟩),hwn,E,Ql _,by omega,by omega,fun b hb=>by have:=hobx.lt;exact⟨by omega,Or.inr (by omega)⟩⟩
theorem RSt.q1e{Z:Nat->Prop}{P:Nat}{w0:World}{g:Cg}{tv:Value}{TV:List Value}(h:RSt Z P O w0 w g a tv TV):
 ∃(k0 k1:Int) (o2:Option Addr) (l2 q2:Nat) (o3:Option Addr) (l3 q3:Nat) (k4:Int) (o5:Option Addr) (l5 q5:Nat) (o6:Option Addr) (l6 q6:Nat) (k7:Int) (o8:Option Addr) (l8 q8:Nat) (tO:Option Addr) (l9 tc:Nat),
  w.cell? ⟨P,0,none⟩=some (.int .i64 k0)/\w.cell? ⟨P,1,none⟩=some (.int .i64 k1)/\w.cell? ⟨P,2,none⟩=some (.slice o2 l2 q2)/\w.cell? ⟨P,3,none⟩=some (.slice o3 l3 q3)/\w.cell? ⟨P,4,none⟩=some (.int .i64 k4)/\w.cell? ⟨P,5,none⟩=some (.slice o5 l5 q5)/\w.cell? ⟨P,6,none⟩=some (.slice o6 l6 q6)/\w.cell? ⟨P,7,none⟩=some (.int .i64 k7)/\w.cell? ⟨P,8,none⟩=some (.slice o8 l8 q8)/\w.cell? ⟨O,0,none⟩=some (.slice tO l9 tc)/\
  Hid (Value.agg #[.int .i64 k0,.int .i64 k1,.slice o2 l2 q2,.slice o3 l3 q3,.int .i64 k4,.slice o5 l5 q5,.slice o6 l6 q6,.int .i64 k7,.slice o8 l8 q8]=cvl g.c a/\l9=g.out.length/\((∀b,tv.ownBlock=some b->Z b)->∀V:World,w.heap.size<=V.heap.size->(∀b,Z b->b<w.heap.size->V.heap[b]? =w.heap[b]?)->Zr V g.c a/\Zw V tO g.out)):=by
 obtain⟨tO,tc,htv,_⟩:=z0q h.ownT h.lt
 have ho:w.cell? ⟨O,0,none⟩=some tv:=h.obx.cell (i:=0) (by omega)
 rw[htv] at ho
 refine⟨_,_,_,_,_,_,_,_,_,_,_,_,_,_,_,_,_,_,_,_,_,_,Go.World.rowIs.cell h.box (i:=0) (by omega),Go.World.rowIs.cell h.box (i:=1) (by omega),Go.World.rowIs.cell h.box (i:=2) (by omega),Go.World.rowIs.cell h.box (i:=3) (by omega),Go.World.rowIs.cell h.box (i:=4) (by omega),Go.World.rowIs.cell h.box (i:=5) (by omega),Go.World.rowIs.cell h.box (i:=6) (by omega),Go.World.rowIs.cell h.box (i:=7) (by omega),Go.World.rowIs.cell h.box (i:=8) (by omega),ho,rfl,rfl,fun hZ V hs hV=>?_⟩
 refine⟨h.at_ V hs (fun b hb hlt=>hV b hb.2 hlt),?_⟩
 have oT:V.ownsRow w0.heap.size 88 6 tv g.out.length TV:=by
  refine⟨h.ownT.1,?_⟩
  rcases h.ownT.2 with h2 | ⟨b,cap,cur,h1,h2,h3,h4⟩
  ·exact Or.inl h2
  ·exact Or.inr ⟨b,cap,cur,h1,h2,(hV b (hZ b (by rw[h1];rfl)) (h.ownT.lt b (by rw[h1];rfl)).2).trans h3,h4⟩
 obtain⟨tO',tc',htv',hT⟩:=z0q oT (h.lt.mono (Q':=fun _=>True) (fun b hb hlt=>⟨trivial,by omega,hV b hb.2 hlt⟩))
 rw[htv] at htv'
 cases htv'
 exact hT
theorem q4w(Y:Nat->Prop)(c:Co)(a:CA)(n:Int)(ao:Option Addr)(len cap:Nat)(ls:List Lk)(w:World)(hst:Stb (fun b=>Y b/\b<w.heap.size) w (fun U=>Zr U c a))(hok:CoOk c)(hwn:a.wo=none->a.wc=0)(hlen:ls.length=len)(hl:Zg w ao ls)(hx:len<=9223372036854775807)(hcap:len<=cap):
 Calls prog 31 #[cvl c a,.agg #[.int .i64 n,.slice ao len cap]] w fun e w'=>RfOut Y w (Qq c n ls).1 (Qq c n ls).2 e w':=by
 have HA:=Qa (Aw_ab w c a n (.slice ao len cap))
 have hE0:=z0l w c a n (.slice ao len cap)
 unfold cvl
 go_enter func31,ntmps31
 go_wp2_with fail
 unfold Aw at HA hE0
 obtain⟨W1,hW1⟩:=Qy (((w.alloc (.cells #[.int .i64 c.st,.int .i64 c.now.v,.slice a.n.fo c.now.fs.length a.n.fc,.slice a.n.qo c.now.ps.length a.n.qc,.int .i64 c.Qd.v,.slice a.x.fo c.Qd.fs.length a.x.fc,.slice a.x.qo c.Qd.ps.length a.x.qc,.int .i64 c.num,.slice a.wo c.Qg.length a.wc] 32)).alloc (.cells #[.int .i64 n,.slice ao len cap] 24)).alloc (.cells #[.int .i64 0,.int .i64 0,.slice none 0 0,.slice none 0 0,.int .i64 0,.slice none 0 0,.slice none 0 0,.int .i64 0,.slice none 0 0] 32))
 rw[<-hW1] at HA hE0 ⊢
 clear hW1
 refine(Q3 n ao len cap ls W1 hlen (hl.ext hE0) hx hcap).mono ?_
 rintro e w1 ⟨rfl,E1⟩
 obtain⟨w2,hw2⟩:=Qy (w1.alloc (.cells #[.int .i64 (Qc n ls).1,.int .i64 (Qc n ls).2] 43))
 have f0:w2.cell? ⟨w1.heap.size,0,none⟩=some (.int .i64 (Qc n ls).1):=by rw[hw2];simp
 have hf0:w1.heap.size<w2.heap.size:=by rw[hw2];simp
 have E2:Ext W1 w2:=by rw[hw2];exact E1.alloc _
 have hl11:=(HA.out.ext E1).lt
 have hne1:w1.heap.size≠w.heap.size+1+1:=by omega
 go_upto_region 2 with fail
 rw[<-hw2]
 clear hw2
 have HA2:=Qa (HA.out.ext E2)
 have hl2:=HA2.out.lt
 have hE2:=hE0.trans E2
 have hl20:w.heap.size<w2.heap.size:=by omega
 have hl21:w.heap.size+1<w2.heap.size:=by omega
 by_cases hr:(Qc n ls).1=0
 ·have hright:=Zo hr
  have hbd:=hright.bounds
  obtain⟨nn,rfl⟩:=Int.eq_ofNat_of_zero_le (show 0<=n by omega)
  have hn8:nn<=8:=by omega
  have HW:=Qa hr
  rw[hr] at f0
  clear hr hright hbd
  have c0:w2.cell? ⟨w.heap.size,0,none⟩=some (.int .i64 c.st):=Zj HA2.out.box (i:=0) (by omega)
  have z0:w2.frozen? ⟨w.heap.size,0,none⟩=false:=World.rowIs.frozen HA2.out.box 0
  by_cases h3:c.st=3
  ·have HD:Hid (Qq c nn ls=(goS nn (told nn (drpO c.now) ⟨⟨4,c.now,c.Qd,c.num,c.Qg⟩,[]⟩),0)):=by
    show _=_
    unfold Qq
    rw[if_neg (by simpa using HW.out),if_neg (by simpa using h3)]
    rfl
   rw[h3] at c0
   obtain⟨W3,hW3⟩:=Qy ((w2.setCell ⟨w.heap.size,0,none⟩ (.int .i64 4)).alloc (.cells #[.slice none 0 0] 86))
   have E3':Ext w (w2.setCell ⟨w.heap.size,0,none⟩ (.int .i64 4)):=hE2.setCell (Ql _) _
   have hs3:(w2.setCell ⟨w.heap.size,0,none⟩ (.int .i64 4)).heap.size=w2.heap.size:=by simp
   have HR3:Hid (RSt (ZR Y w) w.heap.size w2.heap.size w W3 ⟨⟨4,c.now,c.Qd,c.num,c.Qg⟩,[]⟩ a (.slice none 0 0) []):=by
    rw[hW3]
    have E3:=E3'.alloc (.cells #[.slice none 0 0] 86)
    have hbx:BX (w2.setCell ⟨w.heap.size,0,none⟩ (.int .i64 4)) w.heap.size (coL ⟨4,c.now,c.Qd,c.num,c.Qg⟩ a):=by
     have e:(coL c a).set 0 (.int .i64 4)=coL ⟨4,c.now,c.Qd,c.num,c.Qg⟩ a:=rfl
     rw[<-e]
     exact BX.set HA2.out.box (i:=0) (by simp[coL]) _
    refine RSt.start (World.rowIs.alloc hbx _) (z7h hs3 _) ?_ E3 (by omega) hwn
    exact((hst.ext E3).more (fun b hb _=>Or.inl hb)).imp (fun U k=>⟨k.hn,k.hx,k.hw⟩)
   have HA3:Hid (W3.cell? ⟨w.heap.size+1,0,none⟩=some (.int .i64 nn)/\W3.cell? ⟨w.heap.size+1,1,none⟩=some (.slice ao len cap)/\W3.heap[w.heap.size+1+1]? =some (.cells #[.int .i64 0,.int .i64 0,.slice none 0 0,.slice none 0 0,.int .i64 0,.slice none 0 0,.slice none 0 0,.int .i64 0,.slice none 0 0] 32)/\w.heap.size+1+1<W3.heap.size):=by
    have hb:∀b,b≠w.heap.size->b<w2.heap.size->W3.heap[b]? =w2.heap[b]?:=fun b h1 h2=>by
     rw[hW3,bal _ _ _ (by simpa using h2),Zm _ _ _ _ (by simpa using h1)]
    exact⟨(cob (a:=⟨w.heap.size+1,0,none⟩) (hb (w.heap.size+1) (by omega) hl21)).trans HA2.out.n0,(cob (a:=⟨w.heap.size+1,1,none⟩) (hb (w.heap.size+1) (by omega) hl21)).trans HA2.out.n1,(hb _ (by omega) hl2).trans HA2.out.ans,by rw[hW3];simp;omega⟩
   have HH3:=Qa h3
   clear h3
   go_upto_region 8 with fail
   rw[<-hW3]
   clear hW3 c0 z0 E3' hs3
   have HQ1:Hid (Qr w.heap.size w2.heap.size (.slice none 0 0) (w.heap.size+1)):=⟨by omega,by omega,by simp[Value.ownBlock]⟩
   have HQ2:Hid (Qr w.heap.size w2.heap.size (.slice none 0 0) (w.heap.size+1+1)):=⟨by omega,by omega,by simp[Value.ownBlock]⟩
   go_wp2
   go_loopw [9] (fun sv wx=>∃s:Nat,s<=nn/\sv=.int .i64 s/\Hid (∃a2 tv2 TV2,RSt (ZR Y w) w.heap.size w2.heap.size w wx (told s (drpO c.now) ⟨⟨4,c.now,c.Qd,c.num,c.Qg⟩,[]⟩) a2 tv2 TV2/\RKp w.heap.size w2.heap.size W3 (.slice none 0 0) wx tv2)) (fun sv _=>nn - (intOf sv).toNat)
   case atStart=>exact⟨0,Zu _,rfl,_,_,_,HR3.out,RKp.ext (Ext.refl _)⟩
   case round=>
    obtain⟨s,hs,rfl,HX⟩:=hrel
    obtain⟨a2,tv2,TV2,hR4,hK4⟩:=HX.out
    have HR4:=Qa hR4
    have HK4:=Qa hK4
    have HL:=Qa (q0t (ord:=drpO c.now) (g:=⟨⟨4,c.now,c.Qd,c.num,c.Qg⟩,[]⟩) s)
    clear HX hR4 hK4
    have n0:wr.cell? ⟨w.heap.size+1,0,none⟩=some (.int .i64 nn):=(cob (a:=⟨w.heap.size+1,0,none⟩) (HK4.out.block _ HQ1.out (by have:=HA3.out.2.2.2;omega)).2).trans HA3.out.1
    have hl4:w.heap.size+1+1<wr.heap.size:=Q5 HA3.out.2.2.2 HK4.out.size
    have hl41:w.heap.size+1<wr.heap.size:=by omega
    have hl40:w.heap.size<wr.heap.size:=by omega
    by_cases hlt:s<nn
    ·have i1:(s:Int)<(nn:Int):=by omega
     have HCX:Hid (∀V,Ext wr V->cl V w.heap.size 1 (.int .i64 c.now.v)/\cl V w.heap.size 2 (.slice a2.n.fo c.now.fs.length a2.n.fc)/\cl V w.heap.size 3 (.slice a2.n.qo c.now.ps.length a2.n.qc)):=fun V hV=>by
      have q:=(HR4.out.ext hV).box
      exact⟨Zj q (i:=1) (by omega),Zj q (i:=2) (by omega),Zj q (i:=3) (by omega)⟩
     have HPS:Hid (PsAt wr a2.n.qo c.now.ps):=q0i.ps HR4.out.at_.at.hn.hq
     have hT:tot c.now.ps c.now.ps.length*24<=140737488351232:=by rw[q3g];have:=hok.n.tt;omega
     have hql:=hok.n.ql
     obtain⟨c1,c2,c3⟩:=HCX.out wr (Ext.refl wr)
     go_wp2_with fail
     refine Calls.mono (q0s c.now.v s a2.n.fo a2.n.qo c.now.fs.length a2.n.fc c.now.ps.length a2.n.qc c.now.ps _ rfl HPS.out hT (by omega)) ?_
     rintro e w5 ⟨v5,rfl,ho5,E5⟩
     obtain⟨mo,mc,rfl,_,_,_,_⟩:=RO.form ho5
     clear ho5 c1 c2 c3 hT
     have HRL:Hid (rls c.now s=rof c.now.v s c.now.ps c.now.ps.length):=rfl
     obtain⟨L,hL⟩:∃L,rof c.now.v s c.now.ps c.now.ps.length=L:=⟨_,rfl⟩
     rw[hL] at HRL ⊢
     clear hL
     have HR5:=Qa (HR4.out.ext E5)
     have HK5:=Qa (HK4.out.trans (RKp.ext E5))
     obtain⟨c1,_,_⟩:=HCX.out w5 E5
     have hl50:=Q5 hl40 E5.size
     by_cases hL0:L=[]
     ·have HN:Hid (told (s+1) (drpO c.now) ⟨⟨4,c.now,c.Qd,c.num,c.Qg⟩,[]⟩=told s (drpO c.now) ⟨⟨4,c.now,c.Qd,c.num,c.Qg⟩,[]⟩):=q1r (by unfold drpO;rw[HRL.out,if_pos hL0])
      subst hL0
      simp only[List.length_nil]
      go_wp2
      exact⟨⟨s+1,by omega,by go_num,_,_,_,by rw[HN.out];exact HR5.out,HK5.out⟩,by simp[intOf];omega⟩
     ·have HN:=Qa (q1q (g:=⟨⟨4,c.now,c.Qd,c.num,c.Qg⟩,[]⟩) (show drpO c.now s=some ⟨3,0,c.now.v,[],[]⟩ by unfold drpO;rw[HRL.out,if_neg hL0]))
      have iL:(0:Int)<(L.length:Int):=by have:=List.length_pos_iff.2 hL0;omega
      have HTL:=Qa (q4v _ w.heap.size w2.heap.size s 3 0 c.now.v [] [] none none 0 0 0 0 w w5 _ a2 tv2 TV2 HR5.out (RQ.nil _ _) (LQ.nil _ _) (by have h1:_<=c.Qg.length+s:=HL.out.1;have:=hok.w;omega) (by have h1:_<=0+s:=HL.out.2;omega))
      clear hL0
      go_wp2_with (go_at_call 53;refine Calls.mono HTL.out ?_;rintro e w6 ⟨rfl,a6,tv6,TV6,hR6,hK6⟩;have HR6:=Qa hR6;have HK6:=Qa hK6;clear hR6 hK6)
      exact⟨⟨s+1,by omega,by go_num,_,_,_,by rw[HN.out];exact HR6.out,HK5.out.trans HK6.out⟩,by simp[intOf];omega⟩
    ·have i1:¬(s:Int)<(nn:Int):=by omega
     have hsn:s=nn:=by omega
     rw[hsn] at HR4 HL
     clear hsn
     have n1:wr.cell? ⟨w.heap.size+1,1,none⟩=some (.slice ao len cap):=(cob (a:=⟨w.heap.size+1,1,none⟩) (HK4.out.block _ HQ1.out (by have:=HA3.out.2.2.2;omega)).2).trans HA3.out.2.1
     have HBG:=Qa (q3h _ w.heap.size w2.heap.size nn ao len cap w wr _ a2 tv2 TV2 HR4.out hn8 hok.n.fl hok.x.fl (by have h1:_<=0+nn:=HL.out.2;omega))
     go_wp2_with (go_at_call 54;refine Calls.mono HBG.out ?_;rintro e w6 ⟨rfl,a6,tv6,TV6,hR6,hK6⟩;have HR6:=Qa hR6;have HK6:=Qa (HK4.out.trans hK6);clear hR6 hK6)
     clear n0 n1 HBG
     have HAN:Hid (Qr w.heap.size w2.heap.size tv6 (w.heap.size+1+1)/\w6.heap[w.heap.size+1+1]? =some (.cells #[.int .i64 0,.int .i64 0,.slice none 0 0,.slice none 0 0,.int .i64 0,.slice none 0 0,.slice none 0 0,.int .i64 0,.slice none 0 0] 32)):=by
      have k:=HK6.out.block _ HQ2.out HA3.out.2.2.2
      exact⟨k.1,k.2.trans HA3.out.2.2.1⟩
     have hb6:=HAN.out.2
     obtain⟨r0,r1,r2,r3,r4,r5,r6,r7,r8⟩:=box9 hb6
     obtain⟨z0,z1,z2,z3,z4,z5,z6,z7,z8⟩:=frz9 hb6
     simp only[List.getElem?_toArray,List.getElem?_cons_zero,List.getElem?_cons_succ] at r0 r1 r2 r3 r4 r5 r6 r7 r8
     have hl62:w.heap.size+1+1<w6.heap.size:=(asi.1 hb6).1
     have hl60:=World.rowIs.lt HR6.out.box
     have hl6O:=HR6.out.obx.lt
     clear hb6
     obtain⟨k0,k1,o2,l2,q2,o3,l3,q3,k4,o5,l5,q5,o6,l6,q6,k7,o8,l8,q8,tO,l9,tc,c0,c1,c2,c3,c4,c5,c6,c7,c8,cO,HF⟩:=HR6.out.q1e
     go_region
     go_wp2
     refine bodyPost_ret (v:=.tuple #[.agg #[.int .i64 k0,.int .i64 k1,.slice o2 l2 q2,.slice o3 l3 q3,.int .i64 k4,.slice o5 l5 q5,.slice o6 l6 q6,.int .i64 k7,.slice o8 l8 q8],.slice tO l9 tc,.int .i64 0]) (by simp[results,results31,go_sem,r0,r1,r2,r3,r4,r5,r6,r7,r8]) rfl ?_
     rw[HD.out]
     obtain⟨e1,e2,e3⟩:=HF.out
     exact⟨a6,tO,tc,by rw[e1,e2],fun U hU kU=>e3 (fun b hb=>⟨fun e=>HAN.out.1.2.2 (by rw[hb,e]),Or.inr (HR6.out.ownT.lt b hb).1⟩) U (ltr (Nat.le_of_eq q4y.symm) hU) (fun b hb hlt=>(kU b hb.2 (Q5 hlt (Nat.le_of_eq q4y.symm))).trans (q7f b hb.1)),HR6.out.wn,z5y HR6.out.bel (by omega)⟩
  ·have HD:Hid (Qq c nn ls=(⟨co0,[]⟩,11)):=by
    show _=_
    unfold Qq
    rw[if_neg (by simpa using HW.out),if_pos h3]
   have b3:(c.st != 3)=true:=by simpa using h3
   clear h3
   obtain⟨r0,r1,r2,r3,r4,r5,r6,r7,r8⟩:=HA2.out.q3f
   have z:=Qi HA2.out.ans
   have z0':=z 0
   have z1:=z 1
   have z2:=z 2
   have z3:=z 3
   have z4:=z 4
   have z5:=z 5
   have z6:=z 6
   have z7:=z 7
   have z8:=z 8
   clear z
   go_wp2
   refine bodyPost_ret (v:=.tuple #[.agg #[.int .i64 0,.int .i64 0,.slice none 0 0,.slice none 0 0,.int .i64 0,.slice none 0 0,.slice none 0 0,.int .i64 0,.slice none 0 0],.slice none 0 0,.int .i64 11]) (by simp[results,results31,go_sem,r0,r1,r2,r3,r4,r5,r6,r7,r8]) rfl ?_
   rw[HD.out]
   exact z1i (by omega) hE2 _ _ _ _ _ _ _ _ _
 ·have HD:Hid (Qq c n ls=(⟨co0,[]⟩,(Qc n ls).1)):=by
   show _=_
   unfold Qq
   rw[if_pos hr]
  have hr':((Qc n ls).1 != 0)=true:=by simpa using hr
  clear hr
  obtain⟨r0,r1,r2,r3,r4,r5,r6,r7,r8⟩:=HA2.out.q3f
  have z:=Qi HA2.out.ans
  have z0':=z 0
  have z1:=z 1
  have z2:=z 2
  have z3:=z 3
  have z4:=z 4
  have z5:=z 5
  have z6:=z 6
  have z7:=z 7
  have z8:=z 8
  clear z
  go_wp2
  go_region
  go_wp2
  refine bodyPost_ret (v:=.tuple #[.agg #[.int .i64 0,.int .i64 0,.slice none 0 0,.slice none 0 0,.int .i64 0,.slice none 0 0,.slice none 0 0,.int .i64 0,.slice none 0 0],.slice none 0 0,.int .i64 (Qc n ls).1]) (by simp[results,results31,go_sem,r0,r1,r2,r3,r4,r5,r6,r7,r8]) rfl ?_
  rw[HD.out]
  exact z1h (by omega) hE2 _ _ _ _ _ _ _ _ _
end Ct
section
open Go.RowKit Go.Maps Stw Go.Sort
theorem jn_cases2(y:Lk)(a b:Int):((a == y.a)=true/\(b == y.b)=true/\jn y a b=true)\/((a == y.a)=true/\(b == y.b)=false/\(a == y.b)=true/\(b == y.a)=true/\jn y a b=true)\/((a == y.a)=true/\(b == y.b)=false/\(a == y.b)=true/\(b == y.a)=false/\jn y a b=false)\/
 ((a == y.a)=true/\(b == y.b)=false/\(a == y.b)=false/\jn y a b=false)\/((a == y.a)=false/\(a == y.b)=true/\(b == y.a)=true/\jn y a b=true)\/((a == y.a)=false/\(a == y.b)=true/\(b == y.a)=false/\jn y a b=false)\/((a == y.a)=false/\(a == y.b)=false/\jn y a b=false):=by
 unfold jn
 rw[BEq.comm (a:=a) (b:=y.a),BEq.comm (a:=b) (b:=y.b),BEq.comm (a:=a) (b:=y.b),BEq.comm (a:=b) (b:=y.a)]
 cases (y.a == a) <;> cases (y.b == b) <;> cases (y.a == b) <;> cases (y.b == a) <;> simp
theorem cost_at:∀{ls:List Lk} {k:Nat} {a b:Int},k<ls.length->(∀j,j<k->jn (ls.getD j lk0) a b=false)->jn (ls.getD k lk0) a b=true->cost ls a b=(ls.getD k lk0).c
 | [],_,_,_,h,_,_=>by simp at h
 | l::r,0,a,b,_,_,h=>by
  have h':jn l a b=true:=h
  simp[cost,h']
 | l::r,k+1,a,b,hk,h0,h1=>by
  have h2:jn l a b=false:=h0 0 (by omega)
  simp only[cost,h2,Bool.false_eq_true,if_false]
  have:=cost_at (ls:=r) (k:=k) (a:=a) (b:=b) (by simpa using hk) (fun j hj=>h0 (j+1) (by omega)) h1
  simpa using this
theorem cost_not:∀{ls:List Lk} {a b:Int},(∀j,j<ls.length->jn (ls.getD j lk0) a b=false)->cost ls a b=0
 | [],_,_,_=>rfl
 | l::r,a,b,h0=>by
  have h2:jn l a b=false:=h0 0 (by simp)
  simp only[cost,h2,Bool.false_eq_true,if_false]
  exact cost_not (fun j hj=>h0 (j+1) (by simp;omega))
theorem z4b(n a b:Int)(ao:Option Addr)(cap:Nat)(w:World):
 Calls prog 119 #[.agg #[.int .i64 n,.slice ao 0 cap],.int .i64 a,.int .i64 b] w fun e w'=>e=.returned (.int .i64 0)/\Ext w w':=by
 go_enter func119,ntmps119
 go_wp2
 refine wp_loop_rounds 1 ?_
 rw[rounds_succ]
 go_wp2
 go_ret
 exact⟨rfl,(Ext.refl w).alloc _⟩
theorem z4a(n a0 b0:Int)(b off len cap:Nat)(ls:List Lk)(w:World)(hlen:ls.length=len)(hl:q5a w b off ls)(hbl:b<w.heap.size)(hx:len<=9223372036854775807):
 Calls prog 119 #[.agg #[.int .i64 n,.slice (some ⟨b,off,none⟩) len cap],.int .i64 a0,.int .i64 b0] w fun e w'=>e=.returned (.int .i64 (cost ls a0 b0))/\Ext w w':=by
 go_enter func119,ntmps119
 go_wp2
 go_loopw [12] (fun i wr=>∃k:Nat,k<=len/\i=.int .i64 k/\(∀j,j<k->jn (ls.getD j lk0) a0 b0=false)/\Ext w wr) (fun i _=>len - (intOf i).toNat)
 case atStart=>exact⟨0,Zu _,rfl,fun j hj=>by omega,(Ext.refl w).alloc _⟩
 case round=>
  obtain⟨k,hk,rfl,hno,hext⟩:=hrel
  by_cases hlt:k<len
  ·obtain⟨m0,m1,m2⟩:=hl k (by omega)
   rw[<-hext.cells.1 _ _ hbl] at m0 m1 m2
   have hjc:=jn_cases2 (ls.getD k lk0) a0 b0
   have hca:=cost_at (ls:=ls) (k:=k) (a:=a0) (b:=b0) (by omega) hno
   obtain⟨y,hy⟩:=Qy (ls.getD k lk0)
   rw[<-hy] at m0 m1 m2 hjc hca
   have HY:Hid (y=ls.getD k lk0):=hy
   have HCA:Hid (jn y a0 b0=true->cost ls a0 b0=y.c):=hca
   have HNO:Hid (∀j,j<k->jn (ls.getD j lk0) a0 b0=false):=hno
   clear hy hca hno
   have hbr:b<wr.heap.size:=by have:=hext.size;omega
   rcases hjc with⟨j1,j2,j3⟩ | ⟨j1,j2,j4,j5,j3⟩ | ⟨j1,j2,j4,j5,j3⟩ | ⟨j1,j2,j4,j3⟩ | ⟨j1,j4,j5,j3⟩ | ⟨j1,j4,j5,j3⟩ | ⟨j1,j4,j3⟩
   all_goals
    have HJ:Hid _:=j3
    clear j3
    go_wp2
    first
    | (go_ret
       exact⟨by rw[HCA.out HJ.out];rfl,hext.alloc _⟩)
    | (go_roundw
       (case rel=>
        refine⟨k+1,by omega,by go_num,fun j hj=>?_,hext.alloc _⟩
        by_cases e:j=k
        ·subst e;rw[<-HY.out];exact HJ.out
        ·exact HNO.out j (by omega))
       (case measure=>simp[intOf];omega))
  ·go_wp2
   go_ret
   exact⟨by rw[cost_not (fun j hj=>hno j (by omega))];rfl,hext⟩
theorem q2t(n a0 b0:Int)(ao:Option Addr)(len cap:Nat)(ls:List Lk)(w:World)(hlen:ls.length=len)(hl:Zg w ao ls)(hx:len<=9223372036854775807):
 Calls prog 119 #[.agg #[.int .i64 n,.slice ao len cap],.int .i64 a0,.int .i64 b0] w fun e w'=>e=.returned (.int .i64 (cost ls a0 b0))/\Ext w w':=by
 rcases hl with rfl | ⟨b,off,rfl,hb,hl⟩
 ·subst hlen
  exact z4b n a0 b0 ao cap w
 ·exact z4a n a0 b0 b off len cap ls w hlen hl hb hx
end
end Go.Proofs.YthkpbefnkmmaiaaGreat
