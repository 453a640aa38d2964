import Derived.Test.YthkpbefnkmmaiaaGreate02
import Derived.Deep.AppendSrc
set_option maxRecDepth 100000
set_option maxHeartbeats 2000000
namespace Go.Proofs.YthkpbefnkmmaiaaGreat
open Go.Proofs.Tryz
namespace Fw
open Go.RowKit Go.Maps Stf
variable {w:World}
theorem ext_box{w1:World}{o:Obj}(E:Ext (w.alloc o) w1):Below (w.heap.size+1) (w.alloc o) w1:=by
 have h:(w.alloc o).heap.size=w.heap.size+1:=by simp
 rw[<-h];exact E
variable {a:Int}
theorem q9m{b n:Int}{L:List Int}(h:Zx a b n L=0):∀j,j<L.length->ewl a b n L j=0:=by
 unfold Zx at h
 cases hf:Zp (ewl a b n L) L.length with
 | none=>
  rw[Zp,List.find?_eq_none] at hf
  intro j hj
  have:=hf j (by simpa using hj)
  simpa using this
 | some k=>
  rw[hf] at h
  rw[Zp] at hf
  have:=List.find?_some hf
  simp at this
  exact absurd h this
theorem z0m(a b n:Int)(X Y:List Int)(v nv:Value)(w:World)(hv:FV w X v)(hn:FV w Y nv)(hI:I64 n)(hX:X.length<=4611686018427387904)(hY:Y.length<=4611686018427387904):
 Calls prog 108 #[.agg #[.int .i64 a,.int .i64 b,v,nv],.int .i64 n] w fun e w'=>e=.returned (.int .i64 (Q6 ⟨a,b,X,Y⟩ n))/\Ext w w':=by
 obtain⟨vo,vc,rfl,hvl,_⟩:=hv
 obtain⟨no,nc,rfl,hnl,_⟩:=hn
 cases h1:swB a n
 ·have hw:Q6 ⟨a,b,X,Y⟩ n=6:=by simp[Q6,h1]
  rw[hw]
  go_enter func108,ntmps108
  go_wp2_with (go_at_call 120;refine(Qv _ _ _).mono ?_;rintro e w1 ⟨rfl,rfl⟩;rw[h1])
  go_ret
  exact⟨rfl,(Ext.refl _).alloc _⟩
 ·cases h2:swB b n
  ·have hw:Q6 ⟨a,b,X,Y⟩ n=6:=by simp[Q6,h2]
   rw[hw]
   go_enter func108,ntmps108
   go_wp2_with fail
   refine(Qv _ _ _).mono ?_;rintro e w1 ⟨rfl,rfl⟩;rw[h1]
   go_wp2_with fail
   refine(Qv _ _ _).mono ?_;rintro e w1 ⟨rfl,rfl⟩;rw[h2]
   go_wp2
   go_ret
   exact⟨rfl,(Ext.refl _).alloc _⟩
  ·cases h3:(a == b)
   ·have h3':a≠b:=by simpa using h3
    obtain⟨r1,hr1⟩:=Qy (Zx a b n X)
    obtain⟨r2,hr2⟩:=Qy (Zx a b n Y)
    have hw:Q6 ⟨a,b,X,Y⟩ n=if r1≠0 then r1 else if r2≠0 then r2 else if Y.any (fun s=>decide (s∈X)) then 8 else 0:=by simp[Q6,h1,h2,h3',hr1,hr2]
    have HW:=hid hw
    have HR1:=hid hr1
    have HR2:=hid hr2
    clear hw hr1 hr2 h3'
    go_enter func108,ntmps108
    go_wp2_with fail
    refine(Qv _ _ _).mono ?_;rintro e w1 ⟨rfl,rfl⟩;rw[h1]
    go_wp2_with fail
    refine(Qv _ _ _).mono ?_;rintro e w1 ⟨rfl,rfl⟩;rw[h2]
    go_wp2_with fail
    refine(q5b a b n _ _ vo vc X.length X _ rfl (hvl.ext ((Ext.refl _).alloc _)) hI hX).mono ?_
    rintro e w1 ⟨E1,ho⟩
    obtain⟨c0,c1,c2,c3,hs1,hE1⟩:=z2q (ext_box E1)
    rw[<-HR1.out] at ho
    rcases ho with⟨hz,m,rfl,hset⟩ | ⟨hz,rfl⟩
    ·subst hz
     go_wp2_with fail
     refine(q5b a b n _ _ no nc Y.length Y _ rfl (hnl.ext hE1) hI hY).mono ?_
     rintro e w2 ⟨E2,ho⟩
     obtain⟨d0,d1,d2,d3,hs2,hE2⟩:=z2q ((ext_box E1).trans (Below.mono E2 (by omega)))
     rw[<-HR2.out] at ho
     have hset2:=hset.ext E2
     clear c0 c1 c2 c3 hset
     rcases ho with⟨hz2,m2,rfl,hset3⟩ | ⟨hz,rfl⟩
     ·subst hz2
      have hY0:=q9m HR2.out.symm
      have HY:=hid hY0
      clear hset3 hY0
      go_wp2
      go_loopw [55] (fun iv wr=>∃k:Nat,k<=Y.length/\iv=.int .i64 k/\(∀j,j<k->Y.getD j 0∉X)/\Ext w2 wr) (fun iv _=>Y.length - (intOf iv).toNat)
      case atStart=>exact⟨0,Zu _,rfl,fun j hj=>by omega,Ext.refl _⟩
      case round=>
       obtain⟨k,hk,rfl,hpre,hext⟩:=hrel
       by_cases hlt:k<Y.length
       ·obtain⟨bk,off,rfl,hbk,Q2⟩:∃bk off,no=some ⟨bk,off,none⟩/\bk<w.heap.size/\Q9 w bk off Y:=by
         rcases hnl with rfl | h
         ·simp at hlt
         ·exact h
        have ce:=((hE2.trans hext).cells.1 _ _ hbk).trans (Q2 k hlt)
        have hbr:bk<wr.heap.size:=by have:=(hE2.trans hext).size;omega
        have hsw:=(q4c (HY.out k hlt)).1
        obtain⟨x,hxx⟩:=Qy (Y.getD k 0)
        rw[<-hxx] at ce hsw
        have HX:=hid hxx
        have HP:=hid hpre
        have i1:(k:Int)<(Y.length:Int):=by omega
        have hxi:=i64_sw hI hsw
        have hrun:=(hset2.ext hext).look hxi
        clear hxx hpre Q2 hsw
        by_cases hmem:x∈X
        ·rw[dtt hmem] at hrun
         have hany:Y.any (fun s=>decide (s∈X))=true:=by
          rw[List.any_eq_true]
          refine⟨x,?_,dtt hmem⟩
          rw[HX.out]
          simp[hlt]
         have HA:=hid hany
         clear hmem hany
         go_wp2
         go_ret
         exact⟨by rw[HW.out,HA.out];rfl,(hE2.trans hext).alloc _⟩
        ·rw[dff hmem] at hrun
         have HM:=hid hmem
         clear hmem
         go_wp2
         refine⟨⟨k+1,by omega,by go_num,fun j hj=>?_,hext.alloc _⟩,by simp[intOf];omega⟩
         by_cases e:j=k
         ·subst e;rw[<-HX.out];exact HM.out
         ·exact HP.out j (by omega)
       ·have hany:Y.any (fun s=>decide (s∈X))=false:=by
         rw[List.any_eq_false]
         intro y hy
         obtain⟨i,hi,rfl⟩:=List.getElem_of_mem hy
         have:=hpre i (by omega)
         simpa[hi] using this
        have HA:=hid hany
        clear hany hpre
        go_wp2
        go_ret
        exact⟨by rw[HW.out,HA.out];rfl,hE2.trans hext⟩
     ·have hz':(r2 != 0)=true:=by simpa using hz
      go_wp2
      go_ret
      exact⟨by rw[HW.out];simp[hz],hE2⟩
    ·have hz':(r1 != 0)=true:=by simpa using hz
     go_wp2
     go_ret
     exact⟨by rw[HW.out,if_pos hz];rfl,hE1⟩
   ·have h3':a=b:=by simpa using h3
    have hw:Q6 ⟨a,b,X,Y⟩ n=8:=by simp[Q6,h2,h3']
    have HW:=hid hw
    clear hw h3'
    go_enter func108,ntmps108
    go_wp2_with fail
    refine(Qv _ _ _).mono ?_;rintro e w1 ⟨rfl,rfl⟩;rw[h1]
    go_wp2_with fail
    refine(Qv _ _ _).mono ?_;rintro e w1 ⟨rfl,rfl⟩;rw[h2]
    go_wp2
    go_ret
    exact⟨by rw[HW.out];rfl,(Ext.refl _).alloc _⟩
def f0:Fl:=⟨0,0,[],[]⟩
def Sm (fs:List Fl):Prop:=∀k (h:k<fs.length),(fs[k]).via.length<=4611686018427387904/\(fs[k]).nt.length<=4611686018427387904
variable {fs:List Fl} {k:Nat}
theorem q1o{n:Int}(hl:¬12<fs.length)(hk:k<fs.length)(h:∀j,j<k->Q6 (fs.getD j f0) n=0)(hb:Q6 (fs.getD k f0) n≠0):Qp fs n=(Q6 (fs.getD k f0) n,(k:Int)):=by
 rw[Qp,if_neg hl]
 have:=q3a (e:=fun k=>Q6 (fs.getD k ⟨0,0,[],[]⟩) n) hk h hb
 rw[this];rfl
theorem q4q{n:Int}(hl:¬12<fs.length)(h:∀j,j<fs.length->Q6 (fs.getD j f0) n=0):Qp fs n=(0,0):=by
 rw[Qp,if_neg hl]
 have:=q3b (e:=fun k=>Q6 (fs.getD k ⟨0,0,[],[]⟩) n) h
 rw[this]
theorem Qk.get{ao:Option Addr}(h:Qk w ao fs)(hk:k<fs.length):∃b off vo vc no nc a t X Y,ao=some ⟨b,off,none⟩/\b<w.heap.size/\fs.getD k f0=⟨a,t,X,Y⟩/\
 w.cell? ⟨b,off+k*4,none⟩=some (.int .i64 a)/\w.cell? ⟨b,off+k*4+1,none⟩=some (.int .i64 t)/\w.cell? ⟨b,off+k*4+2,none⟩=some (.slice vo X.length vc)/\w.cell? ⟨b,off+k*4+3,none⟩=some (.slice no Y.length nc)/\FV w X (.slice vo X.length vc)/\FV w Y (.slice no Y.length nc):=by
 rcases h with rfl | ⟨b,off,h1,h2,h3⟩
 ·simp at hk
 ·obtain⟨v,n,c0,c1,c2,c3,hv,hn⟩:=h3 k hk
  have hg:fs.getD k f0=fs[k]:=by simp[hk]
  have hv':=hv
  have hn':=hn
  obtain⟨vo,vc,rfl,_⟩:=hv
  obtain⟨no,nc,rfl,_⟩:=hn
  exact⟨b,off,vo,vc,no,nc,(fs[k]).fr,(fs[k]).to,(fs[k]).via,(fs[k]).nt,h1,h2,hg,c0,c1,c2,c3,hv',hn'⟩
theorem Sm.get(h:Sm fs)(hk:k<fs.length){t:Int}{X Y:List Int}(e:fs.getD k f0=⟨a,t,X,Y⟩):X.length<=4611686018427387904/\Y.length<=4611686018427387904:=by
 have hg:fs.getD k f0=fs[k]:=by simp[hk]
 have:=h k hk
 rw[<-hg,e] at this
 exact this
theorem q6p(ao:Option Addr)(len cap:Nat)(n:Int)(w:World)(h:12<len)(hl:len<=9223372036854775807):
 Calls prog 81 #[.slice ao len cap,.int .i64 n] w fun e w'=>e=.returned (.agg #[.int .i64 5,.int .i64 0])/\Ext w w':=by
 go_enter func81,ntmps81
 go_wp2
 exact bodyPost_ret (v:=.agg #[.int .i64 5,.int .i64 0]) (by simp[results,results81,go_sem]) rfl ⟨rfl,(Ext.refl w).alloc _⟩
theorem q8u(ao:Option Addr)(len cap:Nat)(n:Int)(fs:List Fl)(w:World)(hlen:fs.length=len)(hf:Qk w ao fs)(hI:I64 n)(hS:Sm fs)(h12:¬12<len):
 Calls prog 81 #[.slice ao len cap,.int .i64 n] w fun e w'=>e=.returned (.agg #[.int .i64 (Qp fs n).1,.int .i64 (Qp fs n).2])/\Ext w w':=by
 have hl12:¬12<fs.length:=by omega
 go_enter func81,ntmps81
 go_wp2
 go_loopw [14] (fun iv wr=>∃k:Nat,k<=len/\iv=.int .i64 k/\(∀j,j<k->Q6 (fs.getD j f0) n=0)/\Below (w.heap.size+1) (w.alloc (.cells #[.int .i64 0,.int .i64 0] 43)) wr) (fun iv _=>len - (intOf iv).toNat)
 case atStart=>exact⟨0,Zu _,rfl,fun j hj=>by omega,Below.refl _ _⟩
 case round=>
  obtain⟨k,hk,rfl,hpre,hbel⟩:=hrel
  obtain⟨z0,z1,y0,y1,hsz⟩:=Ze hbel
  have hEw:Ext w wr:=Below.trans ((Ext.refl w).alloc _) (hbel.mono (by omega))
  have HP:=hid hpre
  clear hpre
  by_cases hlt:k<len
  ·obtain⟨b,off,vo,vc,no,nc,a,t,X,Y,rfl,hb,hg,c0,c1,c2,c3,hv,hn⟩:=(hf.ext hEw).get (k:=k) (by omega)
   have hsm:=hS.get (k:=k) (by omega) hg
   have i1:(k:Int)<(len:Int):=by omega
   have HG:=hid hg
   clear hg
   obtain⟨r,hr⟩:=Qy (Q6 ⟨a,t,X,Y⟩ n)
   have HR:=hid hr
   go_wp2_with fail
   refine(z0m a t n X Y _ _ _ (hv.ext ((Ext.refl _).alloc _)) (hn.ext ((Ext.refl _).alloc _)) hI hsm.1 hsm.2).mono ?_
   rintro e w1 ⟨he,E1⟩
   rw[<-hr] at he
   subst he
   clear hr
   have hbel1:Below (w.heap.size+1) (w.alloc (.cells #[.int .i64 0,.int .i64 0] 43)) w1:=(hbel.alloc (by omega) _).trans (Below.mono E1 (by simp;omega))
   obtain⟨z0',z1',y0',y1',hsz'⟩:=Ze hbel1
   have hE1:Ext w w1:=(hEw.alloc _).trans E1
   clear z0 z1 y0 y1
   by_cases h0:r=0
   ·subst h0
    go_wp2
    refine⟨⟨k+1,by omega,by go_num,fun j hj=>?_,hbel1⟩,by simp[intOf];omega⟩
    by_cases e:j=k
    ·subst e;rw[HG.out, <-HR.out]
    ·exact HP.out j (by omega)
   ·have h0':(r != 0)=true:=by simpa using h0
    go_wp2
    have hfin:Qp fs n=(r,(k:Int)):=by rw[q1o hl12 (by omega) HP.out (by rw[HG.out, <-HR.out];exact h0),HG.out, <-HR.out]
    refine bodyPost_ret (v:=.agg #[.int .i64 r,.int .i64 k]) (by simp[results,results81,go_sem,z0',z1']) rfl ⟨by rw[hfin],?_⟩
    exact(hE1.setCell (Ql _) _).setCell (Ql _) _
  ·have hfin:Qp fs n=(0,0):=q4q hl12 (fun j hj=>HP.out j (by omega))
   have HF:=hid hfin
   clear hfin
   go_wp2
   refine bodyPost_ret (v:=.agg #[.int .i64 0,.int .i64 0]) (by simp[results,results81,go_sem,z0,z1]) rfl ⟨by rw[HF.out],?_⟩
   exact(hEw.setCell (Ql _) _).setCell (Ql _) _
theorem Zb(ao:Option Addr)(len cap:Nat)(n:Int)(fs:List Fl)(w:World)(hlen:fs.length=len)(hf:Qk w ao fs)(hI:I64 n)(hS:Sm fs)(hl:len<=9223372036854775807):
 Calls prog 81 #[.slice ao len cap,.int .i64 n] w fun e w'=>e=.returned (.agg #[.int .i64 (Qp fs n).1,.int .i64 (Qp fs n).2])/\Ext w w':=by
 by_cases h:12<len
 ·have e:Qp fs n=(5,0):=by rw[Qp,if_pos (by omega)]
  rw[e]
  exact q6p ao len cap n w h hl
 ·exact q8u ao len cap n fs w hlen hf hI hS h
end Fw
section
open Go.ChangeShapes Go.WideShapes Go.ChangeAt Go.RowKit Go.Deep Go.Joins Stw
theorem Tryz.cells26:prog.cellsOf 30=1:=by kernel_rfl
section
variable {H:Type} {enc:TypeId×Value->H} {W:World}
theorem q4r{e:TypeId}{d:DataW H}:∀{l:List (DataW H)},d∈l->∀m∈d.weights prog e,m∈DataW.weightsAll prog e l
 | [],h,_,_=>by cases h
 | x::r,h,m,hm=>by
  rw[DataW.weightsAll,List.mem_append]
  rcases List.mem_cons.1 h with rfl | h
  ·exact Or.inl hm
  ·exact Or.inr (q4r h m hm)
theorem cells4_inv{w:World}{a:Addr}{cs:List Value}{x y z u:Value}(h:w.cells? 0 a 4=some cs)(e:cs=[x,y,z,u]):w.cell? a=some x/\w.cell? (a.add 1)=some y/\w.cell? (a.add 2)=some z/\w.cell? (a.add 3)=some u:=by
 obtain⟨_,_,hc⟩:=World.cells?_some h
 subst e
 exact⟨by simpa[Addr.add] using hc 0 (by omega),hc 1 (by omega),hc 2 (by omega),hc 3 (by omega)⟩
theorem four_of{cs:List Value}(h:cs.length=4):∃c0 c1 c2 c3,cs=[c0,c1,c2,c3]:=by
 match cs,h with
 | [c0,c1,c2,c3],_=>exact⟨c0,c1,c2,c3,rfl⟩
theorem open_flow4{fuel:Nat}{cs:List Value}{x:DataW H×List MemPlace}(h:DataW.trod enc prog W 0 (fun _=>true) true fuel 74 cs=some x)(hw:∀m∈x.1.weights prog 74,m<=reachBytes):
 ∃(f:Stf.Fl) (v n:Value),cs=[.int .i64 f.fr,.int .i64 f.to,v,n]/\Fw.FV W f.via v/\Fw.FV W f.nt n/\f.via.length<=4611686018427387904/\f.nt.length<=4611686018427387904:=by
 obtain⟨y0,y1,y2,y3,n',rfl,hlen,t0,t1,t2,t3⟩:=trod_struct4 underlying74 h
 rw[Tryz.cells28] at hlen
 obtain⟨c0,c1,c2,c3,rfl⟩:∃c0 c1 c2 c3,cs=[c0,c1,c2,c3]:=four_of hlen
 obtain⟨a0,e0,_,w0⟩:=DataW.trod_int underlying3 t0
 obtain⟨a1,e1,_,w1⟩:=DataW.trod_int underlying3 t1
 obtain⟨vo,vl,vc,X,e2,hX,hvl,hvi,hvb,hvc,_⟩:=z4j underlying30 t2 (fun m hm=>hw m (by simp[DataW.weights,DataW.weightsEach,underlying74];exact Or.inr (Or.inr (Or.inl hm))))
 obtain⟨no,nl,nc,Y,e3,hY,hnl,hni,hnb,hnc,_⟩:=z4j underlying30 t3 (fun m hm=>hw m (by simp[DataW.weights,DataW.weightsEach,underlying74];exact Or.inr (Or.inr (Or.inr hm))))
 simp[Tryz.cells3,Tryz.cells26] at e0 e1 e2 e3
 subst e0 e1 e2 e3 hX hY
 exact⟨⟨a0,a1,X,Y⟩,_,_,rfl,⟨vo,vc,rfl,hvl,hvc⟩,⟨no,nc,rfl,hnl,hnc⟩,by simp only;omega,by simp only;omega⟩
theorem open_flows{fuel:Nat}{cs:List Value}{x:DataW H×List MemPlace}(h:DataW.trod enc prog W 0 (fun _=>true) true fuel 26 cs=some x)(hw:∀m∈x.1.weights prog 26,m<=reachBytes):
 ∃(ao:Option Addr) (len cap:Nat) (fs:List Stf.Fl),cs=[.slice ao len cap]/\fs.length=len/\Fw.Qk W ao fs/\len<=9223372036854775807/\Fw.Sm fs:=by
 rcases open_slice underlying26 h with⟨hcs,_⟩ | ⟨a,len,cap,m,n,D,Pl,hcs,_,hl,hm,hmm,hx,hel⟩
 ·exact⟨none,0,0,[],hcs,rfl,Or.inl rfl,by omega,fun k hk=>by simp at hk⟩
 ·have hmc:m=cap:=by simpa using hmm
  have hwD:∀i,i<len->∀m∈(D i).weights prog 74,m<=reachBytes:=fun i hi m hm=>hw m (by
   rw[hx]
   simp only[DataW.weights,underlying26]
   refine List.mem_cons_of_mem _ (List.mem_append_left _ (q4r (List.mem_map.2 ⟨i,by simpa using hi,rfl⟩) m hm)))
  have hfam:∀i,i<len->∃q:(Int×Int×List Int×List Int)×Value×Value,(W.cell? (a.add (i*4))=some (.int .i64 q.1.1)/\W.cell? ((a.add (i*4)).add 1)=some (.int .i64 q.1.2.1)/\W.cell? ((a.add (i*4)).add 2)=some q.2.1/\W.cell? ((a.add (i*4)).add 3)=some q.2.2)/\
   Fw.FV W q.1.2.2.1 q.2.1/\Fw.FV W q.1.2.2.2 q.2.2/\q.1.2.2.1.length<=4611686018427387904/\q.1.2.2.2.length<=4611686018427387904:=by
   intro i hi
   obtain⟨cs',hcell,htr⟩:=hel i (by omega)
   rw[Tryz.cells28] at hcell
   obtain⟨f,v,nv,hc,h1,h2,h3,h4⟩:=open_flow4 htr (hwD i hi)
   exact⟨((f.fr,f.to,f.via,f.nt),v,nv),cells4_inv hcell hc,h1,h2,h3,h4⟩
  have:Inhabited ((Int×Int×List Int×List Int)×Value×Value):=⟨((0,0,[],[]),.int .i64 0,.int .i64 0)⟩
  obtain⟨F,hF⟩:=choose_lt hfam
  have hget:∀k (h:k<((List.range len).map (fun i=>(⟨(F i).1.1,(F i).1.2.1,(F i).1.2.2.1,(F i).1.2.2.2⟩:Stf.Fl))).length),((List.range len).map (fun i=>(⟨(F i).1.1,(F i).1.2.1,(F i).1.2.2.1,(F i).1.2.2.2⟩:Stf.Fl)))[k]=⟨(F k).1.1,(F k).1.2.1,(F k).1.2.2.1,(F k).1.2.2.2⟩:=fun k h=>by simp
  refine⟨some a,len,cap,(List.range len).map (fun i=>⟨(F i).1.1,(F i).1.2.1,(F i).1.2.2.1,(F i).1.2.2.2⟩),hcs,by simp,?_,by unfold maxLen at hm;omega,fun k hk=>?_⟩
  ·by_cases h0:len=0
   ·exact Or.inl (by simp[h0])
   ·obtain⟨b,off,spot⟩:=a
    have hc:=(hF 0 (by omega)).1.1
    have hspot:spot=none:=by simpa[Addr.add] using World.cell?_spot hc
    subst hspot
    refine Or.inr ⟨b,off,rfl,by have:=z2p hc;simpa[Addr.add] using this,fun k hk=>?_⟩
    have hk':k<len:=by simpa using hk
    obtain⟨⟨g0,g1,g2,g3⟩,hv,hn,_⟩:=hF k hk'
    have e0:(⟨b,off,none⟩:Addr).add (k*4)=⟨b,off+k*4,none⟩:=by
     unfold Addr.add
     split
     ·simp_all
     ·rfl
    rw[e0] at g0 g1 g2 g3
    rw[hget k hk]
    exact⟨_,_,g0,by simpa[Addr.add] using g1,by simpa[Addr.add] using g2,by simpa[Addr.add] using g3,hv,hn⟩
  ·have hk':k<len:=by simpa using hk
   rw[hget k hk]
   exact(hF k hk').2.2.2
end
end
namespace Rm
open Go.RowKit Go.Deep
structure Rw (w:World) (e:TypeId) (size:Nat) (v:Value) (n:Nat) (xs:List Value):Prop where
 len:xs.length=n*size
 alt:(v=.slice none 0 0/\n=0)\/∃g off cap cur,v=.slice (some ⟨g,off,none⟩) n cap/\w.heap[g]? =some (.cells cur e (0,0))/\n<=cap/\cap<=maxLen/\off+cap*size<=cur.size/\∀j,j<n*size->cur[off+j]? =xs[j]?
theorem Rw.nil(w:World)(e:TypeId)(size:Nat):Rw w e size (.slice none 0 0) 0 []:=⟨by simp,Or.inl ⟨rfl,rfl⟩⟩
theorem Rw.form{w:World}{e:TypeId}{size:Nat}{v:Value}{n:Nat}{xs:List Value}(h:Rw w e size v n xs):∃ao cap,v=.slice ao n cap:=by
 rcases h.alt with⟨rfl,rfl⟩ | ⟨g,off,cap,_,rfl,_⟩
 ·exact⟨_,_,rfl⟩
 ·exact⟨_,_,rfl⟩
theorem Rw.lt{w:World}{e:TypeId}{size:Nat}{v:Value}{n:Nat}{xs:List Value}(h:Rw w e size v n xs):∀k,v.ownBlock=some k->k<w.heap.size:=fun k hk=>by
 rcases h.alt with⟨rfl,_⟩ | ⟨g,off,cap,cur,rfl,hg,_⟩
 ·simp[Value.ownBlock] at hk
 ·simp[Value.ownBlock] at hk
  subst hk
  exact(asi.1 hg).1
theorem Rw.Qh{w w':World}{e:TypeId}{size:Nat}{v:Value}{n:Nat}{xs:List Value}(h:Rw w e size v n xs)(hb:∀k,v.ownBlock=some k->w'.heap[k]? =w.heap[k]?):Rw w' e size v n xs:=by
 refine⟨h.len,h.alt.imp id ?_⟩
 rintro⟨g,off,cap,cur,rfl,hg,h1⟩
 exact⟨g,off,cap,cur,rfl,(hb g rfl).trans hg,h1⟩
theorem Rw.cells{w:World}{e:TypeId}{size:Nat}{v:Value}{n:Nat}{xs:List Value}(h:Rw w e size v n xs)(hn:0<n):∃g off cap,v=.slice (some ⟨g,off,none⟩) n cap/\g<w.heap.size/\n<=cap/\(∀i,w.frozen? ⟨g,i,none⟩=false)/\∀j,j<n*size->w.cell? ⟨g,off+j,none⟩=xs[j]?:=by
 rcases h.alt with⟨_,h0⟩ | ⟨g,off,cap,cur,rfl,hg,h1,h2,h3,h4⟩
 ·omega
 ·refine⟨g,off,cap,rfl,(asi.1 hg).1,h1,fun i=>by simp[World.frozen?,hg],fun j hj=>?_⟩
  rw[cell_of_row w g (off+j) cur e (0,0) hg];exact h4 j hj
theorem Rw.set{w:World}{e:TypeId}{size:Nat}{g off n cap:Nat}{xs:List Value}(h:Rw w e size (.slice (some ⟨g,off,none⟩) n cap) n xs)(i:Nat)(hi:i<n*size)(u:Value):Rw (w.setCell ⟨g,off+i,none⟩ u) e size (.slice (some ⟨g,off,none⟩) n cap) n (xs.set i u):=by
 refine⟨by rw[List.length_set];exact h.len,Or.inr ?_⟩
 rcases h.alt with⟨h0,_⟩ | ⟨g',off',cap',cur,h0,hg,h1,h2,h3,h4⟩
 ·cases h0
 ·cases h0
  refine⟨g,off,cap,cur.setIfInBounds (off+i) u,rfl,?_,h1,h2,by simpa using h3,fun j hj=>?_⟩
  ·simp[World.setCell,Array.getElem?_modify,hg]
  ·rw[Array.getElem?_setIfInBounds,List.getElem?_set]
   have hc:n*size<=cap*size:=Nat.mul_le_mul_right _ h1
   have hl:=h.len
   by_cases e:i=j
   ·subst e;rw[if_pos rfl,if_pos rfl,if_pos (by omega),if_pos (by omega)]
   ·rw[if_neg (by omega),if_neg e];exact h4 j hj
theorem q4h{b k:Nat}(hk:k≠b):∀{vs:List Value} {o:Nat} {w:World},(w.setCells b o vs).heap[k]? =w.heap[k]?
 | [],_,_=>rfl
 | v::r,o,w=>by rw[World.setCells,q4h hk];exact Zm _ _ _ _ (by simpa using hk)
theorem q4i{b:Nat}:∀{vs:List Value} {o:Nat} {w:World},(w.setCells b o vs).os=w.os/\(w.setCells b o vs).tape=w.tape/\(w.setCells b o vs).output=w.output/\(w.setCells b o vs).heap.size=w.heap.size
 | [],_,_=>⟨rfl,rfl,rfl,rfl⟩
 | v::r,o,w=>by
  obtain⟨h1,h2,h3,h4⟩:=q4i (b:=b) (vs:=r) (o:=o+1) (w:=w.setCell ⟨b,o,none⟩ v)
  rw[World.setCells]
  exact⟨h1,h2,h3,by rw[h4];simp⟩
theorem q4j{b:Nat}{e:TypeId}:∀{vs:List Value} {o:Nat} {w:World} {cur:Array Value},w.heap[b]? =some (.cells cur e (0,0))->∃cur',(w.setCells b o vs).heap[b]? =some (.cells cur' e (0,0))/\cur'.size=cur.size/\(∀i,i<o\/o+vs.length<=i->cur'[i]? =cur[i]?)/\(∀j,j<vs.length->o+j<cur.size->cur'[o+j]? =vs[j]?)
 | [],o,w,cur,h=>⟨cur,h,rfl,fun _ _=>rfl,fun j hj=>by simp at hj⟩
 | v::r,o,w,cur,h=>by
  have h':(w.setCell ⟨b,o,none⟩ v).heap[b]? =some (.cells (cur.setIfInBounds o v) e (0,0)):=by simp[World.setCell,Array.getElem?_modify,h]
  obtain⟨cur',h1,h2,h3,h4⟩:=q4j (vs:=r) (o:=o+1) h'
  refine⟨cur',by rw[World.setCells];exact h1,by rw[h2];simp,fun i hi=>?_,fun j hj hs=>?_⟩
  ·simp only[List.length_cons] at hi
   rw[h3 i (by omega),Array.getElem?_setIfInBounds,if_neg (by omega)]
  ·cases j with
   | zero=>rw[h3 (o+0) (by omega),Array.getElem?_setIfInBounds,if_pos (by omega),if_pos (by omega)];rfl
   | succ j=>
    have:=h4 j (by simpa using hj) (by simp;omega)
    rw[show o+(j+1)=o+1+j by omega,this];rfl
section
variable {P:Program}
theorem z1c(w:World)(t ty e:TypeId)(i:TypeInfo)(z:Value)(size bytes:Nat)(ht:P.underlying t=some (.slice e))(hi:P.info? e=some i)(hz:i.zero=some z)(hsize:i.size=size)(hby:i.bytes=bytes)(hzs:z.cells.size=size)(hsz:0<size)(v:Value)(n:Nat)(xs:List Value)(h:Rw w e size v n xs)(a:Addr)(m c:Nat)(news:List Value)(hl:news.length=m*size)(hnews:∀j u,news[j]? =some u->w.cell? (a.add j)=some u)(h1:∀u∈news,u.oneCell'=true)(hm:0<m)(h63:n+m<=maxLen)(hbytes:(n+m)*bytes<=140737488355328):
 ∃g off cap w',(Builtin.append_ #[t,t] ty #[v,.slice (some a) m c]).run P w=.ok (.slice (some ⟨g,off,none⟩) (n+m) cap) w'/\Rw w' e size (.slice (some ⟨g,off,none⟩) (n+m) cap) (n+m) (xs++news)/\w.grownBy w' v.ownBlock/\(v.ownBlock=some g\/g=w.heap.size):=by
 subst hsize
 subst hby
 have hlen:(xs++news).length=(n+m)*i.size:=by rw[lap,h.len,hl,Nat.add_mul]
 have grown:∀(old:Nat),old<n+m->∀(row:Option Nat) (C:Array Value),C.toList=xs++news->
  Rw (w.drew.alloc (.cells (C++Builtin.zeroCells z.cells (grownCap w (n+m) old e - (n+m))) e)) e i.size (.slice (some ⟨w.heap.size,0,none⟩) (n+m) (grownCap w (n+m) old e)) (n+m) (xs++news)/\
  w.grownBy (w.drew.alloc (.cells (C++Builtin.zeroCells z.cells (grownCap w (n+m) old e - (n+m))) e)) row:=by
  intro old ho row C hC
  have hge:=grownCap_ge w (n+m) old e
  have hcm:grownCap w (n+m) old e<=maxLen:=grownCap_le_maxLen w (n+m) old e h63
  have hCs:C.size=(n+m)*i.size:=by rw[<-Array.length_toList,hC,hlen]
  refine⟨⟨hlen,Or.inr ⟨w.heap.size,0,_,_,rfl,blk_alloc_new w.drew _,hge,hcm,?_,fun j hj=>?_⟩⟩,⟨rfl,rfl,rfl,by simp,fun k hk _=>bal w.drew _ k hk⟩⟩
  ·simp only[Array.size_append,size_zeroCells,hzs,hCs, <-Nat.add_mul]
   rw[show n+m+(grownCap w (n+m) old e - (n+m))=grownCap w (n+m) old e by omega]
   omega
  ·rw[Nat.zero_add,Array.getElem?_append_left (by omega), <-hC]
   simp
 rcases h.alt with⟨rfl,rfl⟩ | ⟨g,off,cap,cur,rfl,hg,hnc,hcm,hcs,hcur⟩
 ·have hx:xs=[]:=List.eq_nil_of_length_eq_zero (by simpa using h.len)
  subst hx
  have hr:=run_append_nil (P:=P) w t ty e i z ht hi hz a m c news hl hnews hm (by unfold maxLen at h63;omega) (by have hb:=hbytes;simp only[Nat.zero_add] at hb;omega)
  have hgr:=grown 0 (by omega) (Value.ownBlock (.slice none 0 0)) news.toArray (by simp)
  simp only[Nat.zero_add] at hgr ⊢
  exact⟨w.heap.size,0,_,_,hr,hgr.1,hgr.2,Or.inr rfl⟩
 ·by_cases hroom:n+m<=cap
  ·have hfit:(n+m)*i.size<=cap*i.size:=Nat.mul_le_mul_right _ hroom
   rw[Nat.add_mul] at hfit
   have hfz:∀k,w.frozen? ⟨g,k,none⟩=false:=fun k=>by simp[World.frozen?,hg]
   have hr:=run_append_room_cells (P:=P) w t ty e i ht hi g off n cap a m c news hl hnews h1 hroom (fun j hj=>by
    rw[cell_of_row w g _ cur e (0,0) hg,Array.getElem?_eq_getElem (by omega)];rfl) (fun j _=>hfz _)
   obtain⟨cur',c1,c2,c3,c4⟩:=q4j (vs:=news) (o:=off+n*i.size) hg
   obtain⟨f1,f2,f3,f4⟩:=q4i (b:=g) (vs:=news) (o:=off+n*i.size) (w:=w)
   refine⟨g,off,cap,_,hr,⟨hlen,Or.inr ⟨g,off,cap,cur',rfl,c1,hroom,hcm,by omega,fun j hj=>?_⟩⟩,⟨f1,f2,f3,Nat.le_of_eq f4.symm,fun k _ hk=>q4h (fun e=>hk (by simp[Value.ownBlock,e]))⟩,Or.inl rfl⟩
   have hxl:=h.len
   rw[Nat.add_mul] at hj
   by_cases hjo:j<n*i.size
   ·rw[List.getElem?_append_left (by omega),c3 _ (by omega),hcur j hjo]
   ·rw[List.getElem?_append_right (by omega),hxl]
    have:=c4 (j - n*i.size) (by omega) (by omega)
    rw[show off+n*i.size+(j - n*i.size)=off+j by omega] at this
    exact this
  ·have holds:∀j u,xs[j]? =some u->w.cell? ((⟨g,off,none⟩:Addr).add j)=some u:=fun j u hu=>by
    have hj:j<xs.length:=(List.getElem?_eq_some_iff.1 hu).1
    have hadd:(⟨g,off,none⟩:Addr).add j=⟨g,off+j,none⟩:=by unfold Addr.add;split <;> simp_all
    rw[hadd,cell_of_row w g _ cur e (0,0) hg,hcur j (by rw[<-h.len];exact hj)]
    exact hu
   have hr:=run_append_grow (P:=P) w t ty e i z ht hi hz ⟨g,off,none⟩ n cap xs h.len holds a m c news hl hnews (by omega) (by unfold maxLen at h63;omega) (growslice_fits (by omega) hbytes)
   have hgr:=grown cap (by omega) (Value.ownBlock (.slice (some ⟨g,off,none⟩) n cap)) (xs.toArray++news.toArray) (by simp)
   exact⟨w.heap.size,0,_,_,hr,hgr.1,hgr.2,Or.inr rfl⟩
theorem q6q(w:World){o:Oper}{a:Act}{K:Act->World->Prop}{Q:Exit->Act->World->Prop}(s x:Operand)(t:TypeId)(ho:o.op=.call {callee:=.builtin .append,args:=#[s,x],argTypes:=#[t,t]})(e:TypeId)(i:TypeInfo)(z:Value)(size bytes:Nat)(ht:P.underlying t=some (.slice e))(hi:P.info? e=some i)(hz:i.zero=some z)(hsize:i.size=size)(hby:i.bytes=bytes)(hzs:z.cells.size=size)(hsz:0<size)(v:Value)(n:Nat)(xs:List Value)(hs:a.eval s=v)(h:Rw w e size v n xs)(ad:Addr)(c:Nat)(news:List Value)(hx:a.eval x=.slice (some ad) 1 c)(hl:news.length=size)(hnews:∀j u,news[j]? =some u->w.cell? (ad.add j)=some u)(h1:∀u∈news,u.oneCell'=true)(h63:n+1<=maxLen)(hbytes:(n+1)*bytes<=140737488355328)(hK:∀g off cap w',Rw w' e size (.slice (some ⟨g,off,none⟩) (n+1) cap) (n+1) (xs++news)->w.grownBy w' v.ownBlock->(v.ownBlock=some g\/g=w.heap.size)->K (a.put o.dst (.slice (some ⟨g,off,none⟩) (n+1) cap)) w'):o.wp P a w K Q:=by
 obtain⟨g,off,cap,w',hr,h2,h3,h4⟩:=z1c (P:=P) w t o.type e i z size bytes ht hi hz hsize hby hzs hsz v n xs h ad 1 c news (by rw[Nat.one_mul];exact hl) hnews h1 (by omega) h63 hbytes
 unfold Oper.wp execOp
 simp only[ho,resolve,invoke,builtin,Sem.run_bind,Sem.run_pure,Result.andThen_ok,List.map_toArray,List.map_cons,List.map_nil,hs,hx,hr]
 exact hK g off cap w' h2 h3 h4
theorem Zy(w:World){ops:Array Oper}{rest:List Oper}{o:Oper}{a:Act}{Q:Exit->Act->World->Prop}(hgd:o.guard=none)(s x:Operand)(t:TypeId)(ho:o.op=.call {callee:=.builtin .append,args:=#[s,x],argTypes:=#[t,t]})(e:TypeId)(i:TypeInfo)(z:Value)(size bytes:Nat)(ht:P.underlying t=some (.slice e))(hi:P.info? e=some i)(hz:i.zero=some z)(hsize:i.size=size)(hby:i.bytes=bytes)(hzs:z.cells.size=size)(hsz:0<size)(v:Value)(n:Nat)(xs:List Value)(hs:a.eval s=v)(h:Rw w e size v n xs)(ad:Addr)(c:Nat)(news:List Value)(hx:a.eval x=.slice (some ad) 1 c)(hl:news.length=size)(hnews:∀j u,news[j]? =some u->w.cell? (ad.add j)=some u)(h1:∀u∈news,u.oneCell'=true)(h63:n+1<=maxLen)(hbytes:(n+1)*bytes<=140737488355328)(hK:∀g off cap w',Rw w' e size (.slice (some ⟨g,off,none⟩) (n+1) cap) (n+1) (xs++news)->w.grownBy w' v.ownBlock->(v.ownBlock=some g\/g=w.heap.size)->wpList P ops Q rest (a.put o.dst (.slice (some ⟨g,off,none⟩) (n+1) cap)) w'):wpList P ops Q (o::rest) a w:=
 wpList_plain hgd fun _ hK'=>q6q w s x t ho e i z size bytes ht hi hz hsize hby hzs hsz v n xs hs h ad c news hx hl hnews h1 h63 hbytes fun g off cap w' h2 h3 h4=>hK' _ _ (hK g off cap w' h2 h3 h4)
theorem Q4(w:World){ops:Array Oper}{o:Oper}{a:Act}{K:Act->World->Prop}{Q:Exit->Act->World->Prop}{E:Prop}(hgd:o.guard=none)(s x:Operand)(t:TypeId)(ho:o.op=.call {callee:=.builtin .append,args:=#[s,x],argTypes:=#[t,t]})(e:TypeId)(i:TypeInfo)(z:Value)(size bytes:Nat)(ht:P.underlying t=some (.slice e))(hi:P.info? e=some i)(hz:i.zero=some z)(hsize:i.size=size)(hby:i.bytes=bytes)(hzs:z.cells.size=size)(hsz:0<size)(v:Value)(n:Nat)(xs:List Value)(hs:a.eval s=v)(h:Rw w e size v n xs)(ad:Addr)(c:Nat)(news:List Value)(hx:a.eval x=.slice (some ad) 1 c)(hl:news.length=size)(hnews:∀j u,news[j]? =some u->w.cell? (ad.add j)=some u)(h1:∀u∈news,u.oneCell'=true)(h63:n+1<=maxLen)(hbytes:(n+1)*bytes<=140737488355328)(hK:∀g off cap w',Rw w' e size (.slice (some ⟨g,off,none⟩) (n+1) cap) (n+1) (xs++news)->w.grownBy w' v.ownBlock->(v.ownBlock=some g\/g=w.heap.size)->K (a.put o.dst (.slice (some ⟨g,off,none⟩) (n+1) cap)) w'):
 if Region.wanted o (yielded ops a.tmps)=true then Oper.wp P o a w K Q else E:=by
 have hw:Region.wanted o (yielded ops a.tmps)=true:=by simp[Region.wanted,hgd]
 rw[if_pos hw]
 exact q6q w s x t ho e i z size bytes ht hi hz hsize hby hzs hsz v n xs hs h ad c news hx hl hnews h1 h63 hbytes hK
end
theorem Rw.tail{w:World}{e:TypeId}{size:Nat}{g off n cap:Nat}{xs:List Value}(h:Rw w e size (.slice (some ⟨g,off,none⟩) (n+1) cap) (n+1) xs):
 (1<cap->Rw w e size (.slice (some ⟨g,off+size,none⟩) n (cap - 1)) n (xs.drop size))/\(cap<=1->n=0/\cap=1/\Rw w e size (.slice (some ⟨g,off,none⟩) 0 0) 0 (xs.drop size)):=by
 have hl:=h.len
 rw[Nat.add_mul,Nat.one_mul] at hl
 rcases h.alt with⟨h0,_⟩ | ⟨g',off',cap',cur,h0,hg,h1,h2,h3,h4⟩
 ·cases h0
 ·cases h0
  refine⟨fun hc=>⟨by rw[List.length_drop];omega,Or.inr ⟨g,off+size,cap - 1,cur,rfl,hg,by omega,by omega,?_,fun j hj=>?_⟩⟩,fun hc=>⟨by omega,by omega,⟨?_,Or.inr ⟨g,off,0,cur,rfl,hg,Ql _,Zu _,by omega,fun j hj=>by omega⟩⟩⟩⟩
  ·obtain⟨k,rfl⟩:∃k,cap=k+1:=⟨cap - 1,by omega⟩
   rw[Nat.add_mul,Nat.one_mul] at h3
   rw[Nat.add_sub_cancel];omega
  ·have:=h4 (size+j) (by rw[Nat.add_mul,Nat.one_mul];omega)
   rw[List.getElem?_drop,show off+size+j=off+(size+j) by omega];exact this
  ·have:n=0:=by omega
   subst this
   rw[List.length_drop];omega
end Rm
end Go.Proofs.YthkpbefnkmmaiaaGreat
