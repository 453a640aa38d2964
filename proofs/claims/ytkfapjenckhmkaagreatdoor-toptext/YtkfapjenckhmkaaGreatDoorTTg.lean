/- What Parse answers, for every text: flows that lie somewhere, or a fault; nothing that was there is changed. -/
import Derived.Test.YtkfapjenckhmkaaGreatDoorTTf
import Derived.Test.YtkfapjenckhmkaaGreatDoorTTe
import Derived.Test.YtkfapjenckhmkaaGreatDoorU02
namespace Go.Proofs.YtkfapjenckhmkaaGreatDoor.Zg
open Go.RowKit Stz
theorem cut_parts (s:ByteArray) (sep:ByteArray) (w:World) (hs:s.size≤1000000) (hm:MaxAt w):
 Calls Tryz.prog 12 #[.string s,.string sep] w fun e w'=>∃x y:ByteArray,e=.returned (.tuple #[.string x,.string y,.bool (Lib.cut s.data.toList sep.data.toList).2.2])∧x.data.toList=(Lib.cut s.data.toList sep.data.toList).1∧y.data.toList=(Lib.cut s.data.toList sep.data.toList).2.1∧
  x.size≤s.size∧y.size≤s.size∧Ext w w':=by
 obtain⟨m,hm⟩:=hm
 refine(Tryz.cut_any s sep m w (by omega) hm).mono ?_
 rintro e w' ⟨rfl,n,rfl⟩
 have h1:=cut_len s.data.toList sep.data.toList
 have h2:=cut_len2 s.data.toList sep.data.toList
 have h3:=Lib.size_eq s
 refine⟨_,_,rfl,by simp,by simp,?_,?_,(Ext.refl w).drewN n⟩
 ·rw[Lib.size_eq,h3];exact h1
 ·rw[Lib.size_eq,h3];exact h2
def Box4 (w:World) (b:Nat) (v0 v1 v2 v3:Value):Prop:=b<w.heap.size∧w.cell? ⟨b,0,none⟩=some v0∧w.cell? ⟨b,1,none⟩=some v1∧w.cell? ⟨b,2,none⟩=some v2∧w.cell? ⟨b,3,none⟩=some v3∧
 w.frozen? ⟨b,0,none⟩=false∧w.frozen? ⟨b,1,none⟩=false∧w.frozen? ⟨b,2,none⟩=false∧w.frozen? ⟨b,3,none⟩=false
theorem Box4.ext {w w':World} {b:Nat} {v0 v1 v2 v3:Value} (h:Box4 w b v0 v1 v2 v3) (E:Ext w w'):Box4 w' b v0 v1 v2 v3:=by
 obtain⟨h,h0,h1,h2,h3,f0,f1,f2,f3⟩:=h
 have hc:=E.cells.1 b;have hf:=E.cells.2 b
 exact⟨Nat.lt_of_lt_of_le h E.size,(hc _ h).trans h0,(hc _ h).trans h1,(hc _ h).trans h2,(hc _ h).trans h3,(hf _ h).trans f0,(hf _ h).trans f1,(hf _ h).trans f2,(hf _ h).trans f3⟩
theorem Box4.made (w:World) (v0 v1 v2 v3:Value) (T:TypeId):Box4 (w.alloc (.cells #[v0,v1,v2,v3] T)) w.heap.size v0 v1 v2 v3:=by
 refine⟨by simp,by simp,by simp,by simp,by simp,by simp,by simp,by simp,by simp⟩
theorem Box4.made' {w:World} {n:Nat} (h:w.heap.size=n) (v0 v1 v2 v3:Value) (T:TypeId):Box4 (w.alloc (.cells #[v0,v1,v2,v3] T)) n v0 v1 v2 v3:=h ▸ Box4.made w v0 v1 v2 v3 T
theorem Box4.alloc {w:World} {b:Nat} {v0 v1 v2 v3:Value} (h:Box4 w b v0 v1 v2 v3) (o:Obj):Box4 (w.alloc o) b v0 v1 v2 v3:=h.ext ((Ext.refl w).alloc o)
theorem Box4.other {w:World} {b:Nat} {v0 v1 v2 v3:Value} (h:Box4 w b v0 v1 v2 v3) {p:Addr} (hp:p.block≠b) (u:Value):Box4 (w.setCell p u) b v0 v1 v2 v3:=by
 obtain⟨h,h0,h1,h2,h3,f0,f1,f2,f3⟩:=h
 have ne:∀i,p≠⟨b,i,none⟩:=fun i e=>hp (by rw[e])
 refine⟨by simpa using h,?_,?_,?_,?_,by simpa using f0,by simpa using f1,by simpa using f2,by simpa using f3⟩
 all_goals(rw[World.cell?_setCell_other];assumption;exact ne _)
theorem Box4.set2 {w:World} {b:Nat} {v0 v1 v2 v3:Value} (h:Box4 w b v0 v1 v2 v3) (u:Value):Box4 (w.setCell ⟨b,2,none⟩ u) b v0 v1 u v3:=by
 obtain⟨h,h0,h1,h2,h3,f0,f1,f2,f3⟩:=h
 refine⟨by simpa using h,?_,?_,?_,?_,by simpa using f0,by simpa using f1,by simpa using f2,by simpa using f3⟩
 ·rw[World.cell?_setCell_other];exact h0;simp
 ·rw[World.cell?_setCell_other];exact h1;simp
 ·exact World.cell?_setCell_same _ _ _ h2
 ·rw[World.cell?_setCell_other];exact h3;simp
theorem Box4.set3 {w:World} {b:Nat} {v0 v1 v2 v3:Value} (h:Box4 w b v0 v1 v2 v3) (u:Value):Box4 (w.setCell ⟨b,3,none⟩ u) b v0 v1 v2 u:=by
 obtain⟨h,h0,h1,h2,h3,f0,f1,f2,f3⟩:=h
 refine⟨by simpa using h,?_,?_,?_,?_,by simpa using f0,by simpa using f1,by simpa using f2,by simpa using f3⟩
 ·rw[World.cell?_setCell_other];exact h0;simp
 ·rw[World.cell?_setCell_other];exact h1;simp
 ·rw[World.cell?_setCell_other];exact h2;simp
 ·exact World.cell?_setCell_same _ _ _ h3
theorem rl_some {l:Bs} {a b:Int} {X Y:List Int} (ha:a=numV (c3 l).1) (hb:b=numV (c3 l).2.1) (hX:X=(lst (c2 l).2.2 (c2 l).2.1).getD []) (hY:Y=(lst (c1 l).2.2 (c1 l).2.1).getD []) {f:Fl} (h:rl l=some f):f=⟨a,b,X,Y⟩:=by
 unfold rl at h
 unfold numV at ha hb
 split at h
 ·rename_i a' b' v' n' e1 e2 e3 e4
  rw[e1] at ha;rw[e2] at hb;rw[e3] at hX;rw[e4] at hY
  simp only[Option.getD_some] at ha hb hX hY
  subst ha hb hX hY
  exact(Option.some.inj h).symm
 ·cases h
theorem rl_isSome (l:Bs):(rl l).isSome=((num (c3 l).1).isSome && (num (c3 l).2.1).isSome && (lst (c2 l).2.2 (c2 l).2.1).isSome && (lst (c1 l).2.2 (c1 l).2.1).isSome):=by
 unfold rl
 cases num (c3 l).1 <;> cases num (c3 l).2.1 <;> cases lst (c2 l).2.2 (c2 l).2.1 <;> cases lst (c1 l).2.2 (c1 l).2.1 <;> rfl
theorem eq4 (a b c d:Bool) (w:World):(binOp .eql 91 (.agg #[.bool a,.bool b,.bool c,.bool d]) (.agg #[.bool true,.bool true,.bool true,.bool true])).run Tryz.prog w=.ok (.bool (a && b && c && d)) w:=by
 cases a <;> cases b <;> cases c <;> cases d <;> kernel_rfl
set_option maxHeartbeats 2000000 in
theorem readLine_any (s:ByteArray) (w:World) (hs:s.size≤1000000) (hm:MaxAt w):
 Calls Tryz.prog 13 #[.string s] w fun e w'=>Ext w w'∧∃a b X Y v n,e=.returned (.tuple #[.agg #[.int .i64 a,.int .i64 b,v,n],.bool (rl s.data.toList).isSome])∧
  LB w.heap.size w' X v∧LB w.heap.size w' Y n∧∀f,rl s.data.toList=some f→f=⟨a,b,X,Y⟩:=by
 go_enter Tryz.func13,Tryz.ntmps13
 go_wp2_with fail
 refine(cut_parts s _ _ hs (hm.ext ((Ext.refl w).alloc _))).mono ?_
 rintro e w1 ⟨x1,y1,he,hx1,hy1,lx1,ly1,E1⟩
 have hb1:(Lib.cut s.data.toList (ByteArray.mk #[32,110,111,116,32]).data.toList)=c1 s.data.toList:=rfl
 rw[hb1] at hx1 hy1 he
 obtain⟨t1,ht1,rfl⟩:∃t1,t1=(c1 s.data.toList).2.2∧e=.returned (.tuple #[.string x1,.string y1,.bool t1]):=⟨_,rfl,he⟩
 have hm1:=(hm.ext ((Ext.refl w).alloc _)).ext E1
 have HT1:=hid ht1
 have HY1:=hid hy1
 clear hb1 he ht1 hy1
 go_wp2_with fail
 refine(cut_parts x1 _ _ (by omega) hm1).mono ?_
 rintro e w2 ⟨x2,y2,he,hx2,hy2,lx2,ly2,E2⟩
 have hb2:(Lib.cut x1.data.toList (ByteArray.mk #[32,118,105,97,32]).data.toList)=c2 s.data.toList:=by unfold c2;rw[←hx1];rfl
 rw[hb2] at hx2 hy2 he
 obtain⟨t2,ht2,rfl⟩:∃t2,t2=(c2 s.data.toList).2.2∧e=.returned (.tuple #[.string x2,.string y2,.bool t2]):=⟨_,rfl,he⟩
 have hm2:=hm1.ext E2
 have HT2:=hid ht2
 have HY2:=hid hy2
 clear hb2 he ht2 hy2 hx1
 go_wp2_with fail
 refine(cut_parts x2 _ _ (by omega) hm2).mono ?_
 rintro e w3 ⟨x3,y3,he,hx3,hy3,lx3,ly3,E3⟩
 have hb3:(Lib.cut x2.data.toList (ByteArray.mk #[62]).data.toList)=c3 s.data.toList:=by unfold c3;rw[←hx2]
 rw[hb3] at hx3 hy3 he
 obtain⟨t3,rfl⟩:∃t3,e=.returned (.tuple #[.string x3,.string y3,.bool t3]):=⟨_,he⟩
 have hm3:=hm2.ext E3
 clear hb3 he hx2
 go_wp2_with fail
 refine(readNumber_any x3 _ (by omega)).mono ?_
 rintro e w4 ⟨he,rfl⟩
 rw[hx3] at he
 obtain⟨a,β0,ha,h0,rfl⟩:∃a β0,a=numV (c3 s.data.toList).1∧β0=(num (c3 s.data.toList).1).isSome∧e=.returned (.tuple #[.int .i64 a,.bool β0]):=⟨_,_,rfl,rfl,he⟩
 have HA:=hid ha
 have H0:=hid h0
 clear ha h0 he
 go_wp2_with fail
 refine(readNumber_any y3 _ (by omega)).mono ?_
 rintro e w4 ⟨he,rfl⟩
 rw[hy3] at he
 obtain⟨b,β1,hb,h1,rfl⟩:∃b β1,b=numV (c3 s.data.toList).2.1∧β1=(num (c3 s.data.toList).2.1).isSome∧e=.returned (.tuple #[.int .i64 b,.bool β1]):=⟨_,_,rfl,rfl,he⟩
 have HB:=hid hb
 have H1:=hid h1
 clear hb h1 he hx3 hy3
 go_wp2_with fail
 refine(readList_any y2 _ _ (by omega) ((hm3.ext ((Ext.refl _).alloc _)).ext ((Ext.refl _).alloc _))).mono ?_
 rintro e w5 ⟨E5,v,he,hv⟩
 rw[HY2.out,HT2.out] at he hv
 obtain⟨X,hX⟩:∃X,X=(lst (c2 s.data.toList).2.2 (c2 s.data.toList).2.1).getD []:=⟨_,rfl⟩
 rw[←hX] at hv
 obtain⟨vo,vc,rfl⟩:∃vo vc,v=.slice vo X.length vc:=by obtain⟨vo,vc,h,_⟩:=hv;exact⟨vo,vc,h⟩
 have HX:=hid hX
 clear hX
 obtain⟨β2,h2,rfl⟩:∃β2,β2=(lst (c2 s.data.toList).2.2 (c2 s.data.toList).2.1).isSome∧e=.returned (.tuple #[.slice vo X.length vc,.bool β2]):=⟨_,rfl,he⟩
 have H2:=hid h2
 clear he h2
 have bF:=((Box4.made w3 (.int .i64 a) (.int .i64 b) (.slice none 0 0) (.slice none 0 0) 56).alloc (.cells #[.bool β0,.bool β1,.bool false,.bool false] 91)).ext E5
 have bO:=(Box4.made' (w:=w3.alloc (.cells #[.int .i64 a,.int .i64 b,.slice none 0 0,.slice none 0 0] 56)) (n:=w3.heap.size+1) (by simp) (.bool β0) (.bool β1) (.bool false) (.bool false) 91).ext E5
 have bR:=(((Box4.made w (.int .i64 0) (.int .i64 0) (.slice none 0 0) (.slice none 0 0) 56).ext (E1.trans (E2.trans E3))).ext (((Ext.refl _).alloc _).alloc _)).ext E5
 have EW:Ext w w5:=((((Ext.refl w).alloc _).trans (E1.trans (E2.trans E3))).trans (((Ext.refl _).alloc _).alloc _)).trans E5
 have hlt3:w.heap.size<w3.heap.size:=by have:=(E1.trans (E2.trans E3)).size;simp at this;omega
 have hm5:=(((hm3.ext ((Ext.refl _).alloc (.cells #[.int .i64 a,.int .i64 b,.slice none 0 0,.slice none 0 0] 56))).ext ((Ext.refl _).alloc (.cells #[.bool β0,.bool β1,.bool false,.bool false] 91))).ext E5)
 have lF:=bF.1
 have lO:=bO.1
 have BF:=bF
 have BO:=bO
 obtain⟨-,F0,F1,F2,F3,G0,G1,G2,G3⟩:=bF
 obtain⟨-,O0,O1,O2,O3,P0,P1,P2,P3⟩:=bO
 have ES:Ext w ((w5.setCell ⟨w3.heap.size,2,none⟩ (.slice vo X.length vc)).setCell ⟨w3.heap.size+1,2,none⟩ (.bool β2)):=(EW.setCell (show w.heap.size≤w3.heap.size by omega) _).setCell (show w.heap.size≤w3.heap.size+1 by omega) _
 have hv2:=((hv.setCell (p:=⟨w3.heap.size,2,none⟩) (by simp;omega) (.slice vo X.length vc)).setCell (p:=⟨w3.heap.size+1,2,none⟩) (by simp) (.bool β2)).mono (show w3.heap.size+2≤_ by simp)
 go_wp2_with fail
 refine(readList_any y1 _ _ (by omega) (hm.ext ES)).mono ?_
 rintro e w6 ⟨E6,nv,he,hn⟩
 rw[HY1.out,HT1.out] at he hn
 obtain⟨Y,hY⟩:∃Y,Y=(lst (c1 s.data.toList).2.2 (c1 s.data.toList).2.1).getD []:=⟨_,rfl⟩
 rw[←hY] at hn
 obtain⟨no,nc,rfl⟩:∃no nc,nv=.slice no Y.length nc:=by obtain⟨vo,vc,h,_⟩:=hn;exact⟨vo,vc,h⟩
 have HYY:=hid hY
 clear hY
 obtain⟨β3,h3,rfl⟩:∃β3,β3=(lst (c1 s.data.toList).2.2 (c1 s.data.toList).2.1).isSome∧e=.returned (.tuple #[.slice no Y.length nc,.bool β3]):=⟨_,rfl,he⟩
 have H3:=hid h3
 clear he h3
 have bF6:=((BF.set2 (.slice vo X.length vc)).other (p:=⟨w3.heap.size+1,2,none⟩) (by simp) (.bool β2)).ext E6
 have bO6:=((BO.other (p:=⟨w3.heap.size,2,none⟩) (by simp) (.slice vo X.length vc)).set2 (.bool β2)).ext E6
 have bR6:=((bR.other (p:=⟨w3.heap.size,2,none⟩) (by simp;omega) (.slice vo X.length vc)).other (p:=⟨w3.heap.size+1,2,none⟩) (by simp;omega) (.bool β2)).ext E6
 have hv6:=hv2.ext E6
 have hn6:=hn.mono (show w3.heap.size+2≤_ by have:=BO.1;simp;omega)
 have EW6:=ES.trans E6
 clear F0 F1 F2 F3 G0 G1 G2 G3 O0 O1 O2 O3 P0 P1 P2 P3 BF BO lF lO bR hv2 hv hn E5 E6 ES
 have bF8:=bF6
 have bO8:=bO6
 have bR8:=bR6
 obtain⟨lR,R0,R1,R2,R3,S0,S1,S2,S3⟩:=bR6
 obtain⟨lF,F0,F1,F2,F3,G0,G1,G2,G3⟩:=bF6
 obtain⟨lO,O0,O1,O2,O3,P0,P1,P2,P3⟩:=bO6
 have n1:w.heap.size≠w3.heap.size:=by omega
 have n2:w.heap.size≠w3.heap.size+1:=by omega
 have BF7:=((bF8.set3 (.slice no Y.length nc)).other (p:=⟨w3.heap.size+1,3,none⟩) (by simp) (.bool β3))
 have BO7:=((bO8.other (p:=⟨w3.heap.size,3,none⟩) (by simp) (.slice no Y.length nc)).set3 (.bool β3))
 have BR7:=((bR8.other (p:=⟨w3.heap.size,3,none⟩) (by simp;omega) (.slice no Y.length nc)).other (p:=⟨w3.heap.size+1,3,none⟩) (by simp;omega) (.bool β3))
 have EW7:=(EW6.setCell (p:=⟨w3.heap.size,3,none⟩) (show w.heap.size≤w3.heap.size by omega) (.slice no Y.length nc)).setCell (p:=⟨w3.heap.size+1,3,none⟩) (show w.heap.size≤w3.heap.size+1 by omega) (.bool β3)
 have hv7:=(hv6.setCell (p:=⟨w3.heap.size,3,none⟩) (by simp) (.slice no Y.length nc)).setCell (p:=⟨w3.heap.size+1,3,none⟩) (by simp) (.bool β3)
 have hn7:=(hn6.setCell (p:=⟨w3.heap.size,3,none⟩) (by simp) (.slice no Y.length nc)).setCell (p:=⟨w3.heap.size+1,3,none⟩) (by simp) (.bool β3)
 go_wp2_with fail
 clear F0 F1 F2 F3 G0 G1 G2 G3 O0 O1 O2 O3 P0 P1 P2 P3 R0 R1 R2 R3 S0 S1 S2 S3 lF lO lR bF8 bO8 bR8
 generalize (w6.setCell ⟨w3.heap.size,3,none⟩ (.slice no Y.length nc)).setCell ⟨w3.heap.size+1,3,none⟩ (.bool β3)=w7 at *
 obtain⟨lR,R0,R1,R2,R3,S0,S1,S2,S3⟩:=BR7
 obtain⟨lF,F0,F1,F2,F3,G0,G1,G2,G3⟩:=BF7
 obtain⟨lO,O0,O1,O2,O3,P0,P1,P2,P3⟩:=BO7
 have q4:=eq4 β0 β1 β2 β3
 go_region
 go_wp2
 have hβ:(rl s.data.toList).isSome=(β0 && β1 && β2 && β3):=by rw[rl_isSome,H0.out,H1.out,H2.out,H3.out]
 have T0:=World.cell?_setCell_same w7 ⟨w.heap.size,0,none⟩ (.int .i64 a) R0
 refine bodyPost_ret (v:=.tuple #[.agg #[.int .i64 a,.int .i64 b,.slice vo X.length vc,.slice no Y.length nc],.bool (β0 && β1 && β2 && β3)]) (by simp[results,Tryz.results13,go_sem,R0,R1,R2,R3]) rfl ⟨?_,a,b,X,Y,_,_,by rw[hβ],?_,?_,fun f hf=>rl_some HA.out HB.out HX.out HYY.out hf⟩
 ·exact((((EW7.setCell (Nat.le_refl _) _).setCell (Nat.le_refl _) _).setCell (Nat.le_refl _) _).setCell (Nat.le_refl _) _).drew
 ·have hl:∀i,(⟨w.heap.size,i,none⟩:Addr).block<w3.heap.size+2:=fun i=>by simp;omega
  exact(((((hv7.setCell (hl 0) _).setCell (hl 1) _).setCell (hl 2) _).setCell (hl 3) _).ext (Ext.refl _).drew).mono (by omega)
 ·have hl:∀i,(⟨w.heap.size,i,none⟩:Addr).block<w3.heap.size+2:=fun i=>by simp;omega
  exact(((((hn7.setCell (hl 0) _).setCell (hl 1) _).setCell (hl 2) _).setCell (hl 3) _).ext (Ext.refl _).drew).mono (by omega)
end Go.Proofs.YtkfapjenckhmkaaGreatDoor.Zg
namespace Go.Proofs.YtkfapjenckhmkaaGreatDoor.Zg
open Go.RowKit Stz
def FC (B:Nat) (w:World):List Fl→List Value→Prop
 | [],C=>C=[]
 | f::fs,C=>∃v n C',C=.int .i64 f.fr::.int .i64 f.to::v::n::C'∧LB B w f.via v∧LB B w f.nt n∧FC B w fs C'
theorem FC.length {B:Nat} {w:World}:∀{fs:List Fl} {C:List Value},FC B w fs C→C.length=fs.length*4
 | [],C,h=>by cases h;rfl
 | f::fs,C,h=>by
  obtain⟨v,n,C',rfl,_,_,h⟩:=h
  have:=FC.length h
  simp;omega
theorem FC.snoc {B:Nat} {w:World} {f:Fl} {v n:Value} (hv:LB B w f.via v) (hn:LB B w f.nt n):∀{fs:List Fl} {C:List Value},FC B w fs C→FC B w (fs++[f]) (C++[.int .i64 f.fr,.int .i64 f.to,v,n])
 | [],C,h=>by cases h;exact⟨v,n,[],rfl,hv,hn,rfl⟩
 | g::fs,C,h=>by
  obtain⟨v',n',C',rfl,h1,h2,h3⟩:=h
  exact⟨v',n',_,rfl,h1,h2,FC.snoc hv hn h3⟩
theorem FC.map {B B':Nat} {w w':World} (H:∀xs v,LB B w xs v→LB B' w' xs v):∀{fs:List Fl} {C:List Value},FC B w fs C→FC B' w' fs C
 | [],C,h=>h
 | f::fs,C,h=>by
  obtain⟨v,n,C',rfl,h1,h2,h3⟩:=h
  exact⟨v,n,C',rfl,H _ _ h1,H _ _ h2,FC.map H h3⟩
theorem FC.one {B:Nat} {w:World}:∀{fs:List Fl} {C:List Value},FC B w fs C→∀u∈C,u.oneCell'=true
 | [],C,h=>by cases h;intro u hu;cases hu
 | f::fs,C,h=>by
  obtain⟨v,n,C',rfl,⟨_,_,rfl,_⟩,⟨_,_,rfl,_⟩,h3⟩:=h
  intro u hu
  simp only[List.mem_cons] at hu
  rcases hu with rfl | rfl | rfl | rfl | hu
  ·rfl
  ·rfl
  ·rfl
  ·rfl
  ·exact FC.one h3 u hu
def FlowsAt (w:World) (ao:Option Addr) (fs:List Fl):Prop:=
 fs=[]∨∃b off,ao=some ⟨b,off,none⟩∧b<w.heap.size∧∀k (h:k<fs.length),∃v n,w.cell? ⟨b,off+k*4,none⟩=some (.int .i64 (fs[k]).fr)∧w.cell? ⟨b,off+k*4+1,none⟩=some (.int .i64 (fs[k]).to)∧w.cell? ⟨b,off+k*4+2,none⟩=some v∧w.cell? ⟨b,off+k*4+3,none⟩=some n∧FV w (fs[k]).via v∧FV w (fs[k]).nt n
theorem FlowsAt.ext {w w':World} {ao:Option Addr} {fs:List Fl} (h:FlowsAt w ao fs) (k:Ext w w'):FlowsAt w' ao fs:=by
 rcases h with h | ⟨b,off,h1,h2,h3⟩
 ·exact Or.inl h
 ·refine Or.inr ⟨b,off,h1,Nat.lt_of_lt_of_le h2 k.size,fun i hi=>?_⟩
  obtain⟨v,n,c0,c1,c2,c3,hv,hn⟩:=h3 i hi
  exact⟨v,n,(k.cells.1 _ _ h2).trans c0,(k.cells.1 _ _ h2).trans c1,(k.cells.1 _ _ h2).trans c2,(k.cells.1 _ _ h2).trans c3,hv.ext k,hn.ext k⟩
theorem FC.get {B:Nat} {w:World}:∀{fs:List Fl} {C:List Value},FC B w fs C→∀k (h:k<fs.length),∃v n,C[k*4]? =some (.int .i64 (fs[k]).fr)∧C[k*4+1]? =some (.int .i64 (fs[k]).to)∧C[k*4+2]? =some v∧C[k*4+3]? =some n∧LB B w (fs[k]).via v∧LB B w (fs[k]).nt n
 | f::fs,C,hc,0,_=>by
  obtain⟨v,n,C',rfl,h1,h2,h3⟩:=hc
  exact⟨v,n,rfl,rfl,rfl,rfl,h1,h2⟩
 | f::fs,C,hc,k+1,h=>by
  obtain⟨v,n,C',rfl,h1,h2,h3⟩:=hc
  obtain⟨v',n',c0,c1,c2,c3,hv,hn⟩:=FC.get h3 k (by simpa using h)
  rw[show(k+1)*4=k*4+4 by omega]
  exact⟨v',n',by simpa using c0,by simpa using c1,by simpa using c2,by simpa using c3,hv,hn⟩
theorem flows_own {w:World} {base B g n cap:Nat} {fs:List Fl} {C:List Value} (h:w.ownsRow base 56 4 (.slice (some ⟨g,0,none⟩) n cap) n C) (hC:FC B w fs C):FlowsAt w (some ⟨g,0,none⟩) fs:=by
 refine Or.inr ⟨g,0,rfl,(h.lt g rfl).2,fun k hk=>?_⟩
 obtain⟨v,n',c0,c1,c2,c3,hv,hn⟩:=hC.get k hk
 have hl:=hC.length
 have hl2:=h.1
 rw[Nat.zero_add]
 exact⟨v,n',(h.cellAt _ (by omega)).trans c0,(h.cellAt _ (by omega)).trans c1,(h.cellAt _ (by omega)).trans c2,(h.cellAt _ (by omega)).trans c3,hv.fv,hn.fv⟩
theorem Tryz.info38:(Tryz.prog.info? 56).map (fun i=>(i.zero,i.size,i.bytes))=some (some (.agg #[.int .i64 0,.int .i64 0,.slice none 0 0,.slice none 0 0]),4,64):=by kernel_rfl
theorem pre_pre (a b:List Fl) (x:Except Nat (List Fl)):pre a (pre b x)=pre (a++b) x:=by cases x <;> simp[pre]
theorem par_nil (n at':Nat):par n at' []=.ok []:=by cases n <;> simp[par]
theorem par_bad {n at':Nat} {r:Bs} (h:r≠[]) (hn:r.length≤n) (hp:pstep r=none):par n at' r=.error at':=by
 cases n with
 | zero=>exact absurd (List.eq_nil_of_length_eq_zero (by omega)) h
 | succ n=>simp[par,h,hp]
theorem par_good {n at':Nat} {r rest:Bs} {f:Fl} (h:r≠[]) (hp:pstep r=some (f,rest)):par (n+1) at' r=pre [f] (par n (at'+(Lib.cut r [10]).1.length+1) rest):=by
 simp only[par,h,hp,if_false]
 cases par n (at'+(Lib.cut r [10]).1.length+1) rest <;> rfl
end Go.Proofs.YtkfapjenckhmkaaGreatDoor.Zg
namespace Go.Proofs.YtkfapjenckhmkaaGreatDoor.Zg
open Go.RowKit Stz
theorem pstep_none_of {r:Bs} (h:(rl (Lib.cut r [10]).1).isSome=false∨(Lib.cut r [10]).2.2=false):pstep r=none:=by
 unfold pstep
 rcases h with h | h
 ·cases h2:rl (Lib.cut r [10]).1 with
  | none=>split <;> rfl
  | some f=>rw[h2] at h;cases h
 ·rw[h];rfl
theorem pstep_some_of {r:Bs} {f:Fl} (h:rl (Lib.cut r [10]).1=some f) (h2:(Lib.cut r [10]).2.2=true):pstep r=some (f,(Lib.cut r [10]).2.1)∧(Lib.cut r [10]).2.1=r.drop ((Lib.cut r [10]).1.length+1):=by
 refine⟨by unfold pstep;rw[h2,h];rfl,?_⟩
 have:=cut_true h2
 generalize Lib.cut r [10]=c at this
 rw[this]
 simp
theorem own_ext {w w':World} {base:Nat} {e:TypeId} {size:Nat} {v:Value} {n:Nat} {xs:List Value} (h:w.ownsRow base e size v n xs) (k:Ext w w'):w'.ownsRow base e size v n xs:=by
 refine⟨h.1,?_⟩
 rcases h.2 with h2 | ⟨g,cap,cur,h1,h2,h3,h4⟩
 ·exact Or.inl h2
 ·exact Or.inr ⟨g,cap,cur,h1,h2,(Below.block k g (Array.getElem?_eq_some_iff.1 h3).1).trans h3,h4⟩
theorem own_no_ints {w:World} {base:Nat} {v:Value} {n:Nat} {xs:List Value} (h:w.ownsRow base 56 4 v n xs):∀b,v.ownBlock=some b→¬IB w b:=by
 rintro b hb ⟨c,z,hc⟩
 rcases h.2 with⟨rfl,_⟩ | ⟨g,cap,cur,rfl,h2,h3,h4⟩
 ·cases hb
 ·simp only[Value.ownBlock,Option.some.injEq] at hb
  subst hb
  rw[h3] at hc
  simp at hc
theorem cells4 {W:World} {n:Nat} (h:W.heap.size=n) (v0 v1 v2 v3:Value) (T:TypeId) (i:Nat) (u:Value) (hu:[v0,v1,v2,v3][i]? =some u):(W.alloc (.cells #[v0,v1,v2,v3] T)).cell? ((⟨n,0,none⟩:Addr).add i)=some u:=by
 subst h
 match i,hu with
 | 0,hu=>simp at hu;subst hu;simp[Addr.add]
 | 1,hu=>simp at hu;subst hu;simp[Addr.add]
 | 2,hu=>simp at hu;subst hu;simp[Addr.add]
 | 3,hu=>simp at hu;subst hu;simp[Addr.add]
 | (i+4),hu=>simp at hu
set_option maxHeartbeats 1000000 in
theorem Parse_much (s:ByteArray) (w:World) (hs:2000<s.size) (hx:s.size≤9223372036854775807):
 Calls Tryz.prog 5 #[.string s] w fun e w'=>e=.returned (.tuple #[.slice none 0 0,.agg #[.int .i64 4,.int .i64 0]])∧Ext w w':=by
 go_enter Tryz.func5,Tryz.ntmps5
 go_wp2
 exact bodyPost_ret (v:=.tuple #[.slice none 0 0,.agg #[.int .i64 4,.int .i64 0]]) (by simp[results,Tryz.results5,go_sem]) rfl ⟨rfl,(Ext.refl w).alloc _⟩
def ParseOut (w':World) (e:Ending):Except Nat (List Fl)→Prop
 | .error p=>e=.returned (.tuple #[.slice none 0 0,.agg #[.int .i64 2,.int .i64 p]])
 | .ok fs=>∃ao cap,e=.returned (.tuple #[.slice ao fs.length cap,.agg #[.int .i64 0,.int .i64 0]])∧FlowsAt w' ao fs∧fs.length≤cap∧fs.length≤2000
theorem fault_kept {w wr:World} {a b:Value} {T:TypeId} (h:Below (w.heap.size+1) (w.alloc (.cells #[a,b] T)) wr):wr.cell? ⟨w.heap.size,0,none⟩=some a∧wr.cell? ⟨w.heap.size,1,none⟩=some b∧wr.frozen? ⟨w.heap.size,0,none⟩=false∧wr.frozen? ⟨w.heap.size,1,none⟩=false∧w.heap.size<wr.heap.size:=by
 have k:w.heap.size<w.heap.size+1:=by omega
 refine⟨(h.cell (p:=⟨w.heap.size,0,none⟩) k).trans (by simp),(h.cell (p:=⟨w.heap.size,1,none⟩) k).trans (by simp),(h.frozen (p:=⟨w.heap.size,0,none⟩) k).trans (by simp),(h.frozen (p:=⟨w.heap.size,1,none⟩) k).trans (by simp),?_⟩
 have:=Below.size h
 simp at this
 omega
theorem drop_ne {s:ByteArray} {k:Nat} (h:k<s.size):s.data.toList.drop k≠[]:=by
 intro e
 have:=congrArg List.length e
 rw[List.length_drop, ←Lib.size_eq] at this
 simp at this
 omega
set_option maxHeartbeats 2000000 in
set_option maxRecDepth 100000 in
theorem Parse_text (s:ByteArray) (w:World) (hs:s.size≤2000) (hm:MaxAt w):
 Calls Tryz.prog 5 #[.string s] w fun e w'=>Ext w w'∧ParseOut w' e (parse s.data.toList):=by
 obtain⟨i3,hi3,hz0,hz1,hz2⟩:=info_parts Tryz.info38
 have hl:s.data.toList.length=s.size:=(Lib.size_eq s).symm
 go_enter Tryz.func5,Tryz.ntmps5
 go_wp2
 go_loopw [4,5] (fun lv av wr=>∃(k n:Nat) (acc:List Fl) (C:List Value),k≤s.size∧av=.int .i64 k∧acc.length≤k∧s.size - k≤n∧parse s.data.toList=pre acc (par n k (s.data.toList.drop k))∧
  wr.ownsRow (w.heap.size+1) 56 4 lv acc.length C∧FC (w.heap.size+1) wr acc C∧Below (w.heap.size+1) (w.alloc (.cells #[.int .i64 0,.int .i64 0] 29)) wr) (fun _ av _=>s.size - (intOf av).toNat)
 case atStart=>
  refine⟨0,s.size,[],[],Nat.zero_le _,rfl,Nat.le_refl _,by omega,?_,World.ownsRow_nil _ _ _ _,rfl,Below.refl _ _⟩
  rw[List.drop_zero,parse,hl]
  cases par s.size 0 s.data.toList <;> simp[pre]
 case round=>
  obtain⟨k,n,acc,C,hk,rfl,hacc,hn,hpar,hown,hfc,hbel⟩:=hrel
  obtain⟨z0,z1,y0,y1,hsz⟩:=fault_kept hbel
  have hEw:Ext w wr:=Below.trans ((Ext.refl w).alloc _) (hbel.mono (by omega))
  have HP:=hid hpar
  clear hpar
  by_cases hlt:k<s.size
  ·have i1:(k:Int)<(s.size:Int):=by omega
   have hne:=hid (drop_ne hlt)
   go_wp2_with fail
   have hxl:(s.extract k s.size).data.toList=s.data.toList.drop k:=Lib.extract_to_end s k
   have hxs:(s.extract k s.size).size≤2000:=by rw[Lib.size_eq,hxl,List.length_drop];omega
   refine(cut_parts (s.extract k s.size) _ _ (by omega) (hm.ext hEw)).mono ?_
   rintro e w1 ⟨x,y,he,hx,hy,lx,ly,E1⟩
   rw[hxl] at he hx hy
   have hb:(Lib.cut (s.data.toList.drop k) (ByteArray.mk #[10]).data.toList)=Lib.cut (s.data.toList.drop k) [10]:=rfl
   rw[hb] at he hx hy
   obtain⟨t,ht,rfl⟩:∃t,t=(Lib.cut (s.data.toList.drop k) [10]).2.2∧e=.returned (.tuple #[.string x,.string y,.bool t]):=⟨_,rfl,he⟩
   have HT:=hid ht
   have HX:=hid hx
   have hE1:=hEw.trans E1
   clear he hb ht hx hy
   go_wp2_with fail
   refine(readLine_any x _ (by omega) (hm.ext hE1)).mono ?_
   rintro e w2 ⟨E2,a,b,X,Y,v,n',he,hv,hn',hf⟩
   rw[HX.out] at he hf
   obtain⟨β,hβ,rfl⟩:∃β,β=(rl (Lib.cut (s.data.toList.drop k) [10]).1).isSome∧e=.returned (.tuple #[.agg #[.int .i64 a,.int .i64 b,v,n'],.bool β]):=⟨_,rfl,he⟩
   have HB:=hid hβ
   have HF:=hid hf
   clear he hβ hf
   have hwr:=wr.heap.size
   have hv2:=hv.mono (show w.heap.size+1≤w1.heap.size by have:=E1.size;omega)
   have hn2:=hn'.mono (show w.heap.size+1≤w1.heap.size by have:=E1.size;omega)
   obtain⟨vo,vc,rfl⟩:∃vo vc,v=.slice vo X.length vc:=by obtain⟨vo,vc,h,_⟩:=hv;exact⟨vo,vc,h⟩
   obtain⟨no,nc,rfl⟩:∃no nc,n'=.slice no Y.length nc:=by obtain⟨vo,vc,h,_⟩:=hn';exact⟨vo,vc,h⟩
   have hbel2:Below (w.heap.size+1) (w.alloc (.cells #[.int .i64 0,.int .i64 0] 29)) w2:=(hbel.trans (Below.mono E1 (by omega))).trans (Below.mono E2 (by have:=E1.size;omega))
   obtain⟨z0',z1',y0',y1',hsz'⟩:=fault_kept hbel2
   have hE2:=hE1.trans E2
   clear z0 z1 y0 y1
   cases β
   ·go_wp2
    have hp:pstep (s.data.toList.drop k)=none:=pstep_none_of (Or.inl HB.out.symm)
    have hq:parse s.data.toList=.error k:=by rw[HP.out,par_bad hne.out (by rw[List.length_drop];omega) hp];rfl
    refine bodyPost_ret (v:=.tuple #[.slice none 0 0,.agg #[.int .i64 2,.int .i64 k]]) (by simp[results,Tryz.results5,go_sem,z0',z1',World.cell?_alloc_lt,hsz']) rfl ⟨?_,by rw[hq];rfl⟩
    exact((hE2.setCell (Nat.le_refl _) _).setCell (Nat.le_refl _) _).alloc _
   ·cases t
    ·go_wp2
     have hp:pstep (s.data.toList.drop k)=none:=pstep_none_of (Or.inr HT.out.symm)
     have hq:parse s.data.toList=.error k:=by rw[HP.out,par_bad hne.out (by rw[List.length_drop];omega) hp];rfl
     refine bodyPost_ret (v:=.tuple #[.slice none 0 0,.agg #[.int .i64 2,.int .i64 k]]) (by simp[results,Tryz.results5,go_sem,z0',z1',World.cell?_alloc_lt,hsz']) rfl ⟨?_,by rw[hq];rfl⟩
     exact((hE2.setCell (Nat.le_refl _) _).setCell (Nat.le_refl _) _).alloc _
    ·obtain⟨f,hrl⟩:∃f,rl (Lib.cut (s.data.toList.drop k) [10]).1=some f:=Option.isSome_iff_exists.1 HB.out.symm
     obtain rfl:=HF.out f hrl
     obtain⟨hp,hrest⟩:=pstep_some_of hrl HT.out.symm
     have HPP:=hid hp
     have HRR:=hid hrest
     clear hrl hp hrest
     have hxlen:x.size=(Lib.cut (s.data.toList.drop k) [10]).1.length:=by rw[Lib.size_eq,HX.out]
     have hclen:=hid (cut_true HT.out.symm)
     have hown2:=own_ext (own_ext hown E1) E2
     have hfc2:FC (w.heap.size+1) w2 acc C:=hfc.map fun _ _ h=>(h.ext E1).ext E2
     have hclx:x.size+1+k≤s.size:=by
      have h1:=congrArg List.length hclen.out
      simp only[List.length_append,List.length_drop,List.length_cons,List.length_nil] at h1
      rw[←hxlen] at h1
      omega
     go_wp2_with (first | (at_builtin;refine wpList_append_own _ rfl _ _ 26 rfl (w.heap.size+1) 56 i3 (.agg #[.int .i64 0,.int .i64 0,.slice none 0 0,.slice none 0 0]) 4 64 Tryz.underlying26 hi3 hz0 hz1 hz2 rfl (by decide) _ _ _ rfl ((hown2.alloc _).alloc _) ⟨w2.heap.size+1,0,none⟩ 1 1 [.int .i64 a,.int .i64 b,.slice vo X.length vc,.slice no Y.length nc] rfl rfl ?c1 ?c2 ?c3 ?c4 ?c5 ?_) | go_in)
     case c1=>exact cells4 (by simp) _ _ _ _ _
     case c2=>intro u hu;simp only[List.mem_cons,List.not_mem_nil,or_false] at hu;rcases hu with rfl | rfl | rfl | rfl <;> rfl
     case c3=>unfold maxLen;omega
     case c4=>omega
     case c5=>simp;omega
     ·intro v' w5 hown5 hg5 _
      have hnb:=own_no_ints ((hown2.alloc (.cells #[.int .i64 a,.int .i64 b,.slice vo X.length vc,.slice no Y.length nc] 56)).alloc (.cells #[.int .i64 a,.int .i64 b,.slice vo X.length vc,.slice no Y.length nc] 56))
      have hkeep:∀xs u,LB (w.heap.size+1) w2 xs u→LB (w.heap.size+1) w5 xs u:=fun xs u h=>((h.ext ((Ext.refl _).alloc _)).ext ((Ext.refl _).alloc _)).grown hg5 hnb
      have hbel5:Below (w.heap.size+1) (w.alloc (.cells #[.int .i64 0,.int .i64 0] 29)) w5:=Below.grown ((hbel2.alloc (by omega) _).alloc (by simp;omega) _) hg5 (by simp;omega) (fun j hj=>(hown2.lt j hj).1)
      have HN:=hid hnb
      clear hnb
      go_wp2
      obtain⟨n,rfl⟩:∃m,n=m+1:=⟨n - 1,by omega⟩
      rw[←hxlen]
      refine⟨⟨k+(x.size+1),n,acc++[⟨a,b,X,Y⟩],C++[.int .i64 a,.int .i64 b,.slice vo X.length vc,.slice no Y.length nc],by omega,by congr 1,by simp;omega,by omega,?_,?_,FC.snoc (hkeep _ _ hv2) (hkeep _ _ hn2) (hfc2.map hkeep),hbel5⟩,?_⟩
      ·rw[HP.out,par_good hne.out HPP.out,pre_pre,HRR.out,List.drop_drop, ←hxlen]
       congr 2
      ·simpa using hown5
      ·simp only[intOf];omega
  ·have hd:s.data.toList.drop k=[]:=List.drop_eq_nil_of_le (by omega)
   have hq:parse s.data.toList=.ok acc:=by rw[HP.out,hd,par_nil];simp[pre]
   have HQ:=hid hq
   clear hq hd
   have hownW:=ownsRow_setCell_below (ownsRow_setCell_below hown (a:=⟨w.heap.size,0,none⟩) (Nat.lt_succ_self _) (.int .i64 0)) (a:=⟨w.heap.size,1,none⟩) (Nat.lt_succ_self _) (.int .i64 0)
   have hfcW:FC (w.heap.size+1) ((wr.setCell ⟨w.heap.size,0,none⟩ (.int .i64 0)).setCell ⟨w.heap.size,1,none⟩ (.int .i64 0)) acc C:=hfc.map fun _ _ h=>(h.setCell (p:=⟨w.heap.size,0,none⟩) (Nat.lt_succ_self _) _).setCell (p:=⟨w.heap.size,1,none⟩) (Nat.lt_succ_self _) _
   have hEW:=(hEw.setCell (p:=⟨w.heap.size,0,none⟩) (Nat.le_refl _) (.int .i64 0)).setCell (p:=⟨w.heap.size,1,none⟩) (Nat.le_refl _) (.int .i64 0)
   rcases hown.2 with⟨rfl,h0⟩ | ⟨g,gc,cur,rfl,_,_,hgc,_⟩
   ·have h0':acc=[]:=List.eq_nil_of_length_eq_zero h0
    subst h0'
    go_wp2
    refine bodyPost_ret (v:=.tuple #[.slice none 0 0,.agg #[.int .i64 0,.int .i64 0]]) (by simp[results,Tryz.results5,go_sem,z0,z1]) rfl ⟨hEW,?_⟩
    rw[HQ.out]
    exact⟨none,0,rfl,Or.inl rfl,Nat.le_refl _,by simp⟩
   ·go_wp2
    refine bodyPost_ret (v:=.tuple #[.slice (some ⟨g,0,none⟩) acc.length gc,.agg #[.int .i64 0,.int .i64 0]]) (by simp[results,Tryz.results5,go_sem,z0,z1]) rfl ⟨hEW,?_⟩
    rw[HQ.out]
    exact⟨some ⟨g,0,none⟩,gc,rfl,flows_own hownW hfcW,hgc,by omega⟩
end Go.Proofs.YtkfapjenckhmkaaGreatDoor.Zg
namespace Go.Proofs.YtkfapjenckhmkaaGreatDoor
open Go.RowKit Go.Deep
def toF (f:Stz.Fl):Stf.Fl:=⟨f.fr,f.to,f.via,f.nt⟩
theorem zlist {w:World} {ao:Option Addr} {ps:List Int} (h:Zg.ListAt w ao ps):ListAt w ao ps:=h
theorem zfv {w:World} {xs:List Int} {v:Value} (h:Zg.FV w xs v):Fw.FV w xs v:=h
theorem zflows {w:World} {ao:Option Addr} {fs:List Stz.Fl} (h:Zg.FlowsAt w ao fs):Fw.FlowsAt w ao (fs.map toF):=by
 rcases h with rfl | ⟨b,off,h1,h2,h3⟩
 ·exact Or.inl rfl
 ·refine Or.inr ⟨b,off,h1,h2,fun k hk=>?_⟩
  have hk':k<fs.length:=by simpa using hk
  obtain⟨v,n,c0,c1,c2,c3,f1,f2⟩:=h3 k hk'
  have e:(fs.map toF)[k]=toF fs[k]:=by simp
  rw[e]
  exact⟨v,n,c0,c1,c2,c3,zfv f1,zfv f2⟩
def PrsOut (w':World) (e:Ending):Prop:=
 (∃c p:Int,c≠0∧e=.returned (.tuple #[.slice none 0 0,.agg #[.int .i64 c,.int .i64 p]]))∨
 (∃(fs:List Stf.Fl) (ao:Option Addr) (cap:Nat),e=.returned (.tuple #[.slice ao fs.length cap,.agg #[.int .i64 0,.int .i64 0]])∧Fw.FlowsAt w' ao fs∧fs.length≤cap∧fs.length≤2000∧∀f∈fs,f.via.length≤2001∧f.nt.length≤2001)
theorem prs_any (s:ByteArray) (w:World) (hx:s.size≤9223372036854775807) (hm:Zg.MaxAt w):
 Calls Tryz.prog 5 #[.string s] w fun e w'=>Ext w w'∧PrsOut w' e:=by
 have hl:=Lib.size_eq s
 by_cases h:2000<s.size
 ·refine(Zg.Parse_much s w h hx).mono ?_
  rintro e w' ⟨rfl,hE⟩
  exact⟨hE,Or.inl ⟨4,0,by decide,rfl⟩⟩
 ·refine(Zg.Parse_text s w (by omega) hm).mono ?_
  rintro e w' ⟨hE,ho⟩
  refine⟨hE,?_⟩
  cases hp:Stz.parse s.data.toList with
  | error p=>
   rw[hp] at ho
   exact Or.inl ⟨2,p,by decide,ho⟩
  | ok fs=>
   rw[hp] at ho
   obtain⟨ao,cap,he,hf,hc,hn⟩:=ho
   refine Or.inr ⟨fs.map toF,ao,cap,by rw[List.length_map];exact he,zflows hf,by rw[List.length_map];exact hc,by rw[List.length_map];exact hn,fun f hf'=>?_⟩
   obtain⟨g,hg,rfl⟩:=List.mem_map.1 hf'
   have:=Stz.par_lens _ hp (Nat.le_refl _) g hg
   show g.via.length≤2001∧g.nt.length≤2001
   omega
end Go.Proofs.YtkfapjenckhmkaaGreatDoor
