import Derived.Test.YthkpbefnkmmaiaaGreate37
import Derived.Test.YthkpbefnkmmaiaaGreate38
set_option maxRecDepth 100000
set_option maxHeartbeats 4000000
namespace Go.Proofs.YthkpbefnkmmaiaaGreat
open Go.Proofs.Tryz
section
open Go.RowKit Go.Maps Stw Go.Deep Stp
theorem all_ok{nn:Nat}{ls:List Lk}{ao:Option Addr}{len cap:Nat}{tx:Int}(hlen:ls.length=len)(hx:len<=9223372036854775807)(hr:q1z (nn:Int) ls):∀k,AllOk nn ls ao len cap tx k
 | 0=>by
  intro p b off pc w hpk hnd hrg
  have hbd:=hr.bounds
  have h:=z1v 8 p hnd (fun x hx=>by have:=hrg x hx;omega)
  omega
 | k+1=>all_step hlen hx hr (all_ok hlen hx hr k)
theorem z5w{C:Int->Int->Int}{n:Nat}{tx:Int}:∀{k:Nat} {p q:List Int},q∈all C n tx k p->q.length<=p.length+k
 | 0,_,_,h=>by cases h
 | k+1,p,q,h=>by
  unfold all at h
  split at h
  ·simp at h;subst h;omega
  ·simp only[List.mem_flatMap] at h
   obtain⟨s,_,h⟩:=h
   split at h
   ·have:=z5w h
    simp at this
    omega
   ·cases h
variable {W:World}
theorem cell_one{n:Nat}(h:W.heap.size=n)(v:Value)(T:TypeId):(W.alloc (.cells #[v] T)).cell? ⟨n,0+0,none⟩=some v:=by subst h;simp
variable {ls:List Lk} {fr tx:Int} {via nt p:List Int}
theorem rstep_no{n:Int}{b:Option (List Int)}(h:svB n ls fr tx via nt p=false):q4s n ls fr tx via nt b p=b:=by
 unfold q4s;rw[if_neg (by rw[h];simp)]
theorem z6w{n:Int}(h:svB n ls fr tx via nt p=true):q4s n ls fr tx via nt none p=some p:=by
 unfold q4s;rw[if_pos h]
variable {q:List Int}
theorem z3x{n:Int}(h:svB n ls fr tx via nt q=true)(hc:Stp.pc (cost ls) q<Stp.pc (cost ls) p):q4s n ls fr tx via nt (some p) q=some q:=by
 unfold q4s;rw[if_pos h];simp only[if_pos hc]
theorem rstep_keep{n:Int}(h:svB n ls fr tx via nt q=true)(hc:Stp.pc (cost ls) p<=Stp.pc (cost ls) q):q4s n ls fr tx via nt (some p) q=some p:=by
 unfold q4s;rw[if_pos h];simp only[if_neg (show ¬Stp.pc (cost ls) q<Stp.pc (cost ls) p by omega)]
def BP (B:Nat) (w:World) (v:Value):Option (List Int)->Prop
 | none=>v=.slice none 0 0
 | some p=>∃b off c,v=.slice (some ⟨b,off,none⟩) p.length c/\B<=b/\b<w.heap.size/\Q9 w b off p/\p.length<=c
variable {w w':World}
theorem BP.ext{B:Nat}{v:Value}{o:Option (List Int)}(h:BP B w v o)(k:Ext w w'):BP B w' v o:=by
 cases o with
 | none=>exact h
 | some p=>
  obtain⟨b,off,c,h1,h0,h2,h3,h4⟩:=h
  exact⟨b,off,c,h1,h0,Q5 h2 k.size,fun i hi=>(k.cells.1 _ _ h2).trans (h3 i hi),h4⟩
theorem foldl_take{α β:Type}(f:β->α->β)(b:β)(l:List α)(i:Nat)(x:α)(h:l[i]? =some x):(l.take (i+1)).foldl f b=f ((l.take i).foldl f b) x:=by
 have hi:=(List.getElem?_eq_some_iff.1 h).1
 rw[List.take_succ_eq_append_getElem hi,List.foldl_append]
 have:l[i]=x:=(List.getElem?_eq_some_iff.1 h).2
 rw[this];rfl
theorem z0u{n:Int}(h:svB n ls fr tx via nt p=true):q3k n ls p=true:=by
 simp only[svB,Bool.and_eq_true] at h
 exact h.1.1.1
def FindNew (w w':World) (e:Ending) (r:Int×List Int):Prop:=∃go gc,e=.returned (.tuple #[.slice go r.2.length gc,.int .i64 r.1])/\FN w.heap.size w' r.2 (.slice go r.2.length gc)/\Ext w w'
theorem fn_nil(B:Nat)(w:World):FN B w [] (.slice none ([]:List Int).length 0):=⟨none,0,rfl,Or.inl rfl,Ql _⟩
theorem z7c(n:Int)(ao:Option Addr)(len cap:Nat)(ls:List Lk)(f:Stf.Fl)(vo no:Option Addr)(vc nc:Nat)(w:World)(hlen:ls.length=len)(hl:Zg w ao ls)(hx:len<=9223372036854775807)(hcap:len<=cap)(hv:Qj w vo f.via)(hvl:f.via.length<=4611686018427387904)(hvc:f.via.length<=vc)(hn:Qj w no f.nt)(hnl:f.nt.length<=4611686018427387904)(hnc:f.nt.length<=nc):
  Calls prog 78 #[.agg #[.int .i64 n,.slice ao len cap],.agg #[.int .i64 f.fr,.int .i64 f.to,.slice vo f.via.length vc,.slice no f.nt.length nc]] w fun e w'=>FindNew w w' e (fnd n ls f):=by
  obtain⟨fr,tx,via,nt⟩:=f
  simp only at hv hvl hvc hn hnl hnc ⊢
  by_cases hr:(Qc n ls).1=0
  ·have hright:=Zo hr
   have hbd:=hright.bounds
   obtain⟨nn,rfl⟩:=Int.eq_ofNat_of_zero_le (show 0<=n by omega)
   have hw0:=hright.Qc
   have HW:=Qa hw0
   obtain⟨r,hr2⟩:=Qy (Stf.Q6 ⟨fr,tx,via,nt⟩ nn)
   have HF:Hid (fnd nn ls ⟨fr,tx,via,nt⟩=if Stf.Q6 ⟨fr,tx,via,nt⟩ nn≠0 then(Stf.Q6 ⟨fr,tx,via,nt⟩ nn,[]) else match find (cost ls) fr tx via nt with
    | none=>(9,[])
    | some (p,_)=>(0,p)):=by unfold fnd;rw[if_neg (by rw[hw0];simp)];exact Qa rfl
   rw[<-hr2] at HF
   have HR2:=Qa hr2
   clear hr hw0 hr2
   go_enter func78,ntmps78
   go_wp2_with fail
   refine(Q3 nn ao len cap ls _ hlen (hl.ext (((Ext.refl w).alloc _).alloc _)) hx hcap).mono ?_
   rintro e w1 ⟨he,E1⟩
   rw[HW.out] at he
   subst he
   have hEw1:Ext w w1:=(((Ext.refl w).alloc _).alloc _).trans E1
   have hs1:w.heap.size+1<w1.heap.size:=by have:=E1.size;simp at this;omega
   have hs0:w.heap.size<w1.heap.size:=by omega
   obtain⟨q1,g1⟩:=E1.cells
   have a0:w1.cell? ⟨w.heap.size,0,none⟩=some (.int .i64 nn):=(q1 _ _ (by simp;omega)).trans (by simp)
   have a1:w1.cell? ⟨w.heap.size,1,none⟩=some (.slice ao len cap):=(q1 _ _ (by simp;omega)).trans (by simp)
   have b0:w1.cell? ⟨w.heap.size+1,0,none⟩=some (.int .i64 fr):=(q1 _ _ (by simp)).trans (by simp)
   have b1:w1.cell? ⟨w.heap.size+1,1,none⟩=some (.int .i64 tx):=(q1 _ _ (by simp)).trans (by simp)
   have b2:w1.cell? ⟨w.heap.size+1,2,none⟩=some (.slice vo via.length vc):=(q1 _ _ (by simp)).trans (by simp)
   have b3:w1.cell? ⟨w.heap.size+1,3,none⟩=some (.slice no nt.length nc):=(q1 _ _ (by simp)).trans (by simp)
   clear q1 g1
   go_wp2_with fail
   refine(Fw.q2b _ 1 1 nn [⟨fr,tx,via,nt⟩] _ rfl (flows_one (b:=w1.heap.size+1) (by simp) ⟨vo,vc,rfl,hv.ext (hEw1.alloc _),hvc⟩ ⟨no,nc,rfl,hn.ext (hEw1.alloc _),hnc⟩) (sm_one hvl hnl) (by omega)).mono ?_
   rintro e w2 ⟨he,E2⟩
   rw[wflows_one, <-HR2.out] at he
   subst he
   have hEw2:Ext w1 w2:=(((Ext.refl w1).alloc _).alloc _).trans E2
   have hs2:w.heap.size+1<w2.heap.size:=by have:=hEw2.size;omega
   have hs02:w.heap.size<w2.heap.size:=by omega
   by_cases h0:r=0
   ·subst h0
    have hF:=q5g HR2.out.symm
    have HRF:=Qa hF
    have HB:Hid (∀W,Ext w2 W->(cl W w.heap.size 0 (.int .i64 nn)/\cl W w.heap.size 1 (.slice ao len cap))/\cl W (w.heap.size+1) 0 (.int .i64 fr)/\cl W (w.heap.size+1) 1 (.int .i64 tx)/\cl W (w.heap.size+1) 2 (.slice vo via.length vc)/\cl W (w.heap.size+1) 3 (.slice no nt.length nc)):=fun W h=>by
     have hq:=(hEw2.trans h).cells.1
     exact⟨⟨(hq _ _ hs0).trans a0,(hq _ _ hs0).trans a1⟩,(hq _ _ hs1).trans b0,(hq _ _ hs1).trans b1,(hq _ _ hs1).trans b2,(hq _ _ hs1).trans b3⟩
    obtain⟨⟨d0,d1⟩,f0,f1,f2,f3⟩:=HB.out w2 (Ext.refl _)
    clear a0 a1 b0 b1 b2 b3 hF
    have HRf:=Qa (@ref_find _ _ _ tx via _ hright HRF.out.fr (fun h=>(HRF.out.nt _ h).2.2.1 rfl))
    have hW2:Ext w w2:=hEw1.trans hEw2
    have heql:∀(w:World) (a:Option Addr) (n c:Nat),(binOp .eql 30 (.slice a n c) (.slice none 0 0)).run prog w=.ok (.bool a.isNone) w:=fun w a n c=>Lib.run_eql_slice_nil w _ _ a n c 0 0 underlying30
    have HP1:Hid (Q9 ((w2.alloc (.cells #[.int .i64 0,.int .i64 0] 43)).alloc (.cells #[.int .i64 fr] 3)) (w2.heap.size+1) 0 [fr]):=fun i hi=>by
     have:i=0:=by simp at hi;omega
     subst this
     exact cell_one (by simp) _ _
    go_wp2_with fail
    refine(all_ok hlen hx hright 8 [fr] (w2.heap.size+1) 0 1 _ (by simp) (by simp) (fun y hy=>by simp at hy;subst hy;exact HRF.out.fr) (by simp) (by simp) HP1.out (by simp) (hl.ext ((hW2.alloc _).alloc _))).mono ?_
    rintro e w3 ⟨ro,rcap,vs,rfl,E3,hrow,hrc,hpv⟩
    obtain⟨ps,hps⟩:=Qy (all (cost ls) nn tx 8 [fr])
    have HSh:Hid (∀q∈ps,q.length<=9):=fun q hq=>by rw[hps] at hq;have:=z5w hq;simpa using this
    have hpl8:ps.length<=16777216:=by rw[hps];have:(all (cost ls) nn tx 8 [fr]).length<=8 ^ 8:=z8h (by omega) 8 [fr];simpa using this
    rw[<-hps] at hpv HRf
    clear hps d0 d1 f0 f1 f2 f3
    have hvl2:=hpv.len
    have hW3:Ext w2 w3:=(((Ext.refl w2).alloc _).alloc _).trans E3
    go_wp2
    go_loopw [8,40] (fun bv iv wr=>∃(i:Nat) (bst:Option (List Int)) (bw:Value),bw=bv/\i<=vs.length/\iv=.int .i64 i/\bst=(ps.take i).foldl (q4s nn ls fr tx via nt) none/\BP w.heap.size wr bw bst/\(∀q,bst=some q->svB nn ls fr tx via nt q=true)/\Ext w3 wr) (fun _ iv _=>vs.length - (intOf iv).toNat)
    case atStart=>exact⟨0,none,_,rfl,Zu _,rfl,rfl,rfl,fun q hq=>(by cases hq),Ext.refl _⟩
    case round=>
     obtain⟨i,bst,bw,hbw,hi,rfl,hbst,hBP,hbs,hext⟩:=hrel
     subst hbw
     obtain⟨wo,rfl⟩:∃wo:World,wo=wr:=⟨_,rfl⟩
     have hWo:Ext w wo:=(hW2.trans hW3).trans hext
     obtain⟨⟨d0,d1⟩,f0,f1,f2,f3⟩:=HB.out wo (hW3.trans hext)
     have HBst:=Qa hbst
     have HBS:=Qa hbs
     clear hbst hbs
     by_cases hlt:i<vs.length
     ·obtain⟨v,hv1,hpvi⟩:=hpv.get (i:=i) (by omega)
      obtain⟨rg,roff,rfl,hrg,hrc2⟩:∃rg roff,ro=some ⟨rg,roff,none⟩/\rg<w3.heap.size/\∀(i:Nat) (v:Value),vs[i]? =some v->w3.cell? ⟨rg,roff+i,none⟩=some v:=by
       rcases hrow with⟨h,_⟩ | h
       ·subst h;simp at hlt
       ·exact h
      have cv:=(hext.cells.1 _ _ hrg).trans (hrc2 i v hv1)
      have hpi:ps[i]? =some (ps.getD i []):=by rw[Zt,List.getElem?_eq_getElem (by omega:i<ps.length)];rfl
      have HT:=Qa (foldl_take (q4s nn ls fr tx via nt) none ps i _ hpi)
      have hq9:=HSh.out (ps.getD i []) (List.mem_of_getElem? hpi)
      obtain⟨q,hq⟩:=Qy (ps.getD i [])
      rw[<-hq] at hpvi HT hq9
      clear hq hpi hrc2
      obtain⟨bq,oq,cq,rfl,hQq,hbq,hatq,hcq⟩:=hpvi
      have hBq:w.heap.size<=bq:=by
       simp only[World.size_alloc] at hQq
       rcases hQq with h | h <;> omega
      clear hQq
      have hrgo:rg<wo.heap.size:=Q5 hrg hext.size
      have hqo:Qj wo (some ⟨bq,oq,none⟩) q:=Or.inr ⟨bq,oq,rfl,Q5 hbq hext.size,fun j hj=>(hext.cells.1 _ _ hbq).trans (hatq j hj)⟩
      have i1:(i:Int)<(vs.length:Int):=by omega
      cases hsv:svB nn ls fr tx via nt q
      ·have HSV:=Qa hsv
       clear hsv
       go_wp2_with fail
       refine(z0k nn ao len cap ls fr tx via nt vo no vc nc q _ q.length cq _ hlen (hl.ext hWo) hx HW.out (hv.ext hWo) hvl (hn.ext hWo) hnl rfl (by omega) hqo).mono ?_
       rintro e w4 ⟨he,E4⟩
       rw[HSV.out] at he
       subst he
       go_wp2
       go_roundw
       case rel=>exact⟨i+1,bst,bw,rfl,by omega,by go_num,by rw[HT.out, <-HBst.out];exact(rstep_no HSV.out).symm,hBP.ext E4,HBS.out,hext.trans E4⟩
       case measure=>simp[intOf];omega
      ·have HSV:=Qa hsv
       have HLq:Hid (lengthOf nn ls q=(Stp.pc (cost ls) q,true)):=by rw[q6m hright,if_pos (z0u hsv)];exact Qa rfl
       clear hsv
       go_wp2_with fail
       refine(z0k nn ao len cap ls fr tx via nt vo no vc nc q _ q.length cq _ hlen (hl.ext hWo) hx HW.out (hv.ext hWo) hvl (hn.ext hWo) hnl rfl (by omega) hqo).mono ?_
       rintro e w4 ⟨he,E4⟩
       rw[HSV.out] at he
       subst he
       have hW4:=hWo.trans E4
       obtain⟨⟨d0',d1'⟩,_,_,_,_⟩:=HB.out w4 ((hW3.trans hext).trans E4)
       clear d0 d1 f0 f1 f2 f3
       go_wp2_with fail
       refine(q1l nn ao _ len cap q.length cq ls q _ hlen (hl.ext hW4) hx HW.out rfl (by omega) (hqo.ext E4)).mono ?_
       rintro e w5 ⟨he,E5⟩
       rw[HLq.out] at he
       subst he
       have hW5:=hW4.trans E5
       obtain⟨⟨d0,d1⟩,_,_,_,_⟩:=HB.out w5 (((hW3.trans hext).trans E4).trans E5)
       clear d0' d1'
       have hqn:BP w.heap.size w5 (.slice (some ⟨bq,oq,none⟩) q.length cq) (some q):=⟨bq,oq,cq,rfl,hBq,by have:=(hext.trans (E4.trans E5)).size;omega,fun j hj=>((hext.trans (E4.trans E5)).cells.1 _ _ hbq).trans (hatq j hj),hcq⟩
       cases bst with
       | none=>
        have hbn:bw=.slice none 0 0:=hBP
        subst hbn
        go_wp2_with fail
        refine(q1l nn ao none len cap 0 0 ls [] _ hlen (hl.ext hW5) hx HW.out rfl (by omega) (Or.inl rfl)).mono ?_
        rintro e w6 ⟨he,E6⟩
        subst he
        go_wp2
        go_roundw
        case rel=>exact⟨i+1,some q,_,rfl,by omega,by go_num,by rw[HT.out, <-HBst.out];exact(z6w HSV.out).symm,hqn.ext E6,fun q' h=>by cases h;exact HSV.out,((hext.trans E4).trans E5).trans E6⟩
        case measure=>simp[intOf];omega
       | some p=>
        have hsvp:=HBS.out p rfl
        have HLp:Hid (lengthOf nn ls p=(Stp.pc (cost ls) p,true)):=by rw[q6m hright,if_pos (z0u hsvp)];exact Qa rfl
        have hp8:=q8a (pth_of hright (z0u hsvp))
        clear hsvp
        obtain⟨bp,op,cp,rfl,hBp,hbp,hatp,hcp⟩:=hBP.ext (E4.trans E5)
        obtain⟨x,hx1⟩:=Qy (Stp.pc (cost ls) q)
        obtain⟨y,hy1⟩:=Qy (Stp.pc (cost ls) p)
        rw[<-hy1] at HLp
        have HX:=Qa hx1
        have HY:=Qa hy1
        rw[<-hx1]
        clear hx1 hy1
        go_wp2_with fail
        refine(q1l nn ao _ len cap p.length cp ls p _ hlen (hl.ext hW5) hx HW.out rfl (by omega) (Or.inr ⟨bp,op,rfl,hbp,hatp⟩)).mono ?_
        rintro e w6 ⟨he,E6⟩
        rw[HLp.out] at he
        subst he
        have hpn:BP w.heap.size w6 (.slice (some ⟨bp,op,none⟩) p.length cp) (some p):=BP.ext (w:=w5) ⟨bp,op,cp,rfl,hBp,hbp,hatp,hcp⟩ E6
        by_cases hxy:x<y
        ·have HXY:Hid (Stp.pc (cost ls) q<Stp.pc (cost ls) p):=by rw[<-HX.out, <-HY.out];exact Qa hxy
         go_wp2
         go_roundw
         case rel=>exact⟨i+1,some q,_,rfl,by omega,by go_num,by rw[HT.out, <-HBst.out];exact(z3x HSV.out HXY.out).symm,hqn.ext E6,fun q' h=>by cases h;exact HSV.out,((hext.trans E4).trans E5).trans E6⟩
         case measure=>simp[intOf];omega
        ·have HXY:Hid (Stp.pc (cost ls) p<=Stp.pc (cost ls) q):=by rw[<-HX.out, <-HY.out];exact Qa (by omega)
         go_wp2
         go_roundw
         case rel=>exact⟨i+1,some p,_,rfl,by omega,by go_num,by rw[HT.out, <-HBst.out];exact(rstep_keep HSV.out HXY.out).symm,hpn,HBS.out,((hext.trans E4).trans E5).trans E6⟩
         case measure=>simp[intOf];omega
     ·have hall:ps.take i=ps:=List.take_of_length_le (by omega)
      have HRes:Hid (bst=(find (cost ls) fr tx via nt).map Prod.fst):=by rw[HBst.out,hall];exact HRf.out
      clear hall d0 d1 f0 f1 f2 f3
      cases bst with
      | none=>
       have hbn:bw=.slice none 0 0:=hBP
       subst hbn
       have HF2:Hid (fnd nn ls ⟨fr,tx,via,nt⟩=(9,[])):=by
        rw[HF.out,if_neg (by simp)]
        have:=HRes.out
        cases hfi:find (cost ls) fr tx via nt with
        | none=>exact Qa rfl
        | some y=>rw[hfi] at this;cases this
       go_wp2
       go_ret2
       refine⟨none,0,?_,?_,hWo⟩
       ·rw[HF2.out];rfl
       ·rw[HF2.out];exact fn_nil _ _
      | some p=>
       have HF2:Hid (fnd nn ls ⟨fr,tx,via,nt⟩=(0,p)):=by
        rw[HF.out,if_neg (by simp)]
        have:=HRes.out
        cases hfi:find (cost ls) fr tx via nt with
        | none=>rw[hfi] at this;cases this
        | some y=>rw[hfi] at this;injection this with this;rw[this];exact Qa rfl
       obtain⟨bp,op,cp,rfl,hBp,hbp,hatp,hcp⟩:=hBP
       go_wp2
       go_ret2
       refine⟨some ⟨bp,op,none⟩,cp,?_,?_,hWo⟩
       ·rw[HF2.out];rfl
       ·rw[HF2.out];exact⟨_,_,rfl,Or.inr ⟨bp,op,rfl,hBp,hbp,hatp⟩,hcp⟩
   ·have h0':(r != 0)=true:=by simpa using h0
    go_wp2
    go_region
    go_wp2
    go_ret2
    have HF2:fnd nn ls ⟨fr,tx,via,nt⟩=(r,[]):=by rw[HF.out,if_pos h0]
    refine⟨none,0,?_,?_,((hEw1.trans hEw2).alloc _).drew⟩
    ·rw[HF2];rfl
    ·rw[HF2];exact fn_nil _ _
  ·have hr':((Qc n ls).1 == 0)=false:=by simpa using hr
   have HF:Hid (fnd n ls ⟨fr,tx,via,nt⟩=((Qc n ls).1,[])):=by unfold fnd;rw[if_pos hr];exact Qa rfl
   clear hr
   go_enter func78,ntmps78
   go_wp2_with fail
   refine(Q3 n ao len cap ls _ hlen (hl.ext (((Ext.refl w).alloc _).alloc _)) hx hcap).mono ?_
   rintro e w1 ⟨rfl,E1⟩
   go_wp2
   go_region
   go_wp2
   go_ret2
   refine⟨none,0,?_,?_,(((((Ext.refl w).alloc _).alloc _).trans E1).alloc _).drew⟩
   ·rw[HF.out];rfl
   ·rw[HF.out];exact fn_nil _ _
theorem z3y(ao:Option Addr)(len cap:Nat)(n:Int)(fs:List Stf.Fl)(w:World)(hlen:fs.length=len)(hf:Fw.Qk w ao fs)(hS:Fw.Sm fs)(hl:len<=9223372036854775807):
 Calls prog 77 #[.slice ao len cap,.int .i64 n] w fun e w'=>e=.returned (.agg #[.int .i64 (Stf.Qp fs n).1,.int .i64 (Stf.Qp fs n).2])/\Ext w w':=by
 by_cases h:12<len
 ·have e:Stf.Qp fs n=(5,0):=by rw[Stf.Qp,if_pos (by omega)]
  rw[e]
  exact Fw.q0x ao len cap n w h hl
 ·exact Fw.q2b ao len cap n fs w hlen hf hS h
theorem pths_new{P k:Nat}{qv:Value}{V:List Value}{ps:List (List Int)}(hown:W.ownsRow (P+1) 104 1 qv k V)(hl:LQs W (fun b=>P+1<=b/\qv.ownBlock≠some b/\True) ps V):
 ∃qo qc,qv=.slice qo ps.length qc/\∀U:World,W.heap.size<=U.heap.size->(∀b,P+1<=b->b<W.heap.size->U.heap[b]? =W.heap[b]?)->q0i U qo ps:=by
 obtain⟨qo,qc,h3,_⟩:=q5h hown hl
 refine⟨qo,qc,h3,fun U hs hU=>?_⟩
 have hown':U.ownsRow (P+1) 104 1 qv k V:=by
  refine⟨hown.1,?_⟩
  rcases hown.2 with h2 | ⟨g,cap,cur,h1,h2,h3,h4⟩
  ·exact Or.inl h2
  ·exact Or.inr ⟨g,cap,cur,h1,h2,(hU g h2 (asi.1 h3).1).trans h3,h4⟩
 obtain⟨qo',qc',k3,k4⟩:=q5h hown' (hl.mono (Q':=fun _=>True) (fun b hb hlt=>⟨trivial,Q5 hlt hs,hU b hb.1 hlt⟩))
 rw[h3] at k3
 cases k3
 exact k4
def PlanRef (w w':World) (e:Ending) (n version:Int) (ls:List Lk) (fs:List Stf.Fl) (lo:Option Addr):Prop:=
 ∃(pv:Int) (fo:Option Addr) (fl fc:Nat) (qo:Option Addr) (ql qc:Nat),e=.returned (.tuple #[.agg #[.int .i64 pv,.slice fo fl fc,.slice qo ql qc],.agg #[.int .i64 (plnF n version ls fs).1,.int .i64 (plnF n version ls fs).2]])/\Ext w w'/\
  (((plnF n version ls fs).1≠0/\pv=0/\fl=0/\ql=0)\/((plnF n version ls fs).1=0/\pv=version/\fo=lo/\fl=fs.length/\ql=(Qs n ls fs).length/\∀U:World,w'.heap.size<=U.heap.size->(∀b,w.heap.size<=b->b<w'.heap.size->U.heap[b]? =w'.heap[b]?)->q0i U qo (Qs n ls fs)))
theorem q3i{n version:Int}{fs:List Stf.Fl}{lo:Option Addr}{r:Int×Int}(h:plnF n version ls fs=r)(hr:r.1≠0)(hE:Ext w w'):PlanRef w w' (.returned (.tuple #[.agg #[.int .i64 0,.slice none 0 0,.slice none 0 0],.agg #[.int .i64 r.1,.int .i64 r.2]])) n version ls fs lo:=
 ⟨0,none,0,0,none,0,0,by rw[h],hE,Or.inl ⟨by rw[h];exact hr,rfl,rfl,rfl⟩⟩
theorem z7a(n version:Int)(ao:Option Addr)(len cap:Nat)(ls:List Lk)(lo:Option Addr)(ll lc:Nat)(fs:List Stf.Fl)(w:World)(hlen:ls.length=len)(hl:Zg w ao ls)(hx:len<=9223372036854775807)(hcap:len<=cap)(hll:fs.length=ll)(hf:Fw.Qk w lo fs)(hS:Fw.Sm fs)(hlx:ll<=9223372036854775807):
  Calls prog 51 #[.agg #[.int .i64 n,.slice ao len cap],.int .i64 version,.slice lo ll lc] w fun e w'=>PlanRef w w' e n version ls fs lo:=by
  go_enter func51,ntmps51
  go_wp2_with fail
  refine(Q3 n ao len cap ls _ hlen (hl.ext ((((Ext.refl w).alloc _).alloc _).alloc _)) hx hcap).mono ?_
  rintro e w1 ⟨rfl,E1⟩
  have hw1:Ext w w1:=((((Ext.refl w).alloc _).alloc _).alloc _).trans E1
  have hpb:=(PB.start w n ao len cap).ext E1
  have HPB:=Qa hpb
  obtain⟨s1,n0,n1,p0,p1,p2,f0,f1,z1,z2⟩:=hpb
  have s0:w.heap.size+1<w1.heap.size:=by omega
  have s00:w.heap.size<w1.heap.size:=by omega
  by_cases hr:(Qc n ls).1=0
  ·have hright:=Zo hr
   have HW:=Qa hr
   rw[hright.Qc]
   clear hr
   by_cases hv:version<1\/1000<version
   ·have HP:=Qa (q6i (fs:=fs) HW.out hv)
    rcases hv with hv | hv
    ·go_wp2
     refine bodyPost_ret_by (q0o results51 rfl rfl (((q1j (by omega) HPB.out.c5).alloc (by simp;omega) (by simp;omega) _))) rfl (q3i HP.out (by simp) ?_)
     exact((((((hw1).setCell (by simp) _).setCell (by simp) _).setCell (by simp) _).setCell (by simp;omega) _).setCell (by simp;omega) _).alloc _
    ·go_wp2
     refine bodyPost_ret_by (q0o results51 rfl rfl (((q1j (by omega) HPB.out.c5).alloc (by simp;omega) (by simp;omega) _))) rfl (q3i HP.out (by simp) ?_)
     exact((((((hw1).setCell (by simp) _).setCell (by simp) _).setCell (by simp) _).setCell (by simp;omega) _).setCell (by simp;omega) _).alloc _
   ·have hv1:¬version<1:=fun h=>hv (Or.inl h)
    have hv2:¬1000<version:=fun h=>hv (Or.inr h)
    have HV:=Qa hv
    clear hv
    go_wp2_with fail
    refine(z3y lo ll lc n fs _ hll (hf.ext (hw1.alloc _)) hS hlx).mono ?_
    rintro e w2 ⟨rfl,E2⟩
    have E2':Ext w1 w2:=((Ext.refl w1).alloc _).trans E2
    have hw2:Ext w w2:=hw1.trans E2'
    have hpb2:=HPB.out.ext E2'
    have HPB2:=Qa hpb2
    clear n0 n1 p0 p1 p2 f0 f1 z1 z2 HPB
    obtain⟨s2,n0,n1,p0,p1,p2,f0,f1,z1,z2⟩:=hpb2
    have s02:w.heap.size+1<w2.heap.size:=by omega
    have s002:w.heap.size<w2.heap.size:=by omega
    by_cases hwf:(Stf.Qp fs n).1=0
    ·have HWF:=Qa hwf
     have h12:=q6a hwf
     obtain⟨i0,hi,hz0,hz1,hz2⟩:=info_parts infoP
     have hw9:Ext w (w2.alloc (.cells #[.int .i64 (Stf.Qp fs n).1,.int .i64 (Stf.Qp fs n).2] 43)):=hw2.alloc _
     have hp9:=HPB2.out.ext ((Ext.refl w2).alloc (.cells #[.int .i64 (Stf.Qp fs n).1,.int .i64 (Stf.Qp fs n).2] 43))
     obtain⟨w9,hw9d⟩:=Qy (w2.alloc (.cells #[.int .i64 (Stf.Qp fs n).1,.int .i64 (Stf.Qp fs n).2] 43))
     rw[<-hw9d] at hw9 hp9
     have HP9:=Qa hp9
     have HSz:Hid (w9.heap.size=w2.heap.size+1):=by rw[hw9d];exact Qa (by simp)
     have HD9:=Qa hw9d
     clear hp9 hw9d
     have hwf':((Stf.Qp fs n).1 != 0)=false:=by simpa using hwf
     clear hwf
     go_wp2
     go_loopw [44] (fun iv wr=>∃(k:Nat) (qv:Value) (V:List Value),k<=ll/\iv=.int .i64 k/\(∀j,j<k->(fnd n ls (fs.getD j Fw.f0)).1=0)/\wr.rowIs (w2.heap.size+1) 29 3 (pF (.int .i64 version) (.slice lo ll lc) qv)/\wr.ownsRow (w2.heap.size+1+1) 104 1 qv k V/\LQs wr (fun b=>w2.heap.size+1+1<=b/\qv.ownBlock≠some b/\True) ((Qs n ls fs).take k) V/\Below (w2.heap.size+1) w9 wr) (fun iv _=>ll - (intOf iv).toNat)
     case atStart=>
      rw[<-HD9.out]
      refine⟨0,.slice none 0 0,[],Zu _,rfl,fun j hj=>by omega,plan_row HSz.out _ _ _,World.ownsRow_nil _ _ _ _,trivial,(Below.refl _ _).alloc (by rw[HSz.out];exact Ql _) _⟩
     case round=>
      clear n0 n1 p0 p1 p2 f0 f1 z1 z2
      obtain⟨k,qv,V,hk,rfl,hpre,hrow,hown,hlq,hbel⟩:=hrel
      have hszr:w2.heap.size+1<=wr.heap.size:=by have:=hbel.size;have:=HSz.out;omega
      have hpr:=HP9.out.below hbel (by have:=HSz.out;omega)
      have hEr:Ext w wr:=Below.trans hw9 (hbel.mono (by omega))
      have hPr:=hrow.lt
      have HPr:=Qa hpr
      have HPre:=Qa hpre
      clear hpre
      obtain⟨sr,n0,n1,p0,p1,p2,f0,f1,z1,z2⟩:=hpr
      have sr0:w.heap.size+1<wr.heap.size:=by omega
      have sr00:w.heap.size<wr.heap.size:=by omega
      by_cases hlt:k<ll
      ·obtain⟨b,off,vo,vc,no,nc,a,t,X,Y,rfl,hb,hg,c0,c1,c2,c3,⟨_,_,e1,hv,hvc⟩,⟨_,_,e2,hn,hnc⟩⟩:=(hf.ext hEr).get (k:=k) (by omega)
       cases e1
       cases e2
       have hsm:=hS.get (k:=k) (by omega) hg
       have HG:=Qa hg
       have i1:(k:Int)<(ll:Int):=by omega
       clear hg
       go_wp2_with fail
       refine(z7c n ao len cap ls ⟨a,t,X,Y⟩ vo no vc nc _ hlen (hl.ext (hEr.alloc _)) hx hcap (hv.ext ((Ext.refl wr).alloc _)) hsm.1 hvc (hn.ext ((Ext.refl wr).alloc _)) hsm.2 hnc).mono ?_
       rintro e w3 ⟨go,gc,rfl,hfn,E3⟩
       have E3':Ext wr w3:=((Ext.refl wr).alloc _).trans E3
       have hE3:=hEr.trans E3'
       have hP3:=HPr.out.ext E3'
       have HP3:=Qa hP3
       clear n0 n1 p0 p1 p2 f0 f1 z1 z2 c0 c1 c2 c3
       obtain⟨s3,n0,n1,p0,p1,p2,f0,f1,z1,z2⟩:=hP3
       have s03:w.heap.size+1<w3.heap.size:=by omega
       obtain⟨r,hr⟩:=Qy (fnd n ls ⟨a,t,X,Y⟩)
       rw[<-hr] at hfn ⊢
       have HR:=Qa hr
       clear hr
       by_cases h0:r.1=0
       ·have hrow3:=hrow.of_block (Below.block E3' _ hPr)
        have hown3:=z1s hown E3'
        have hlq3:LQs w3 (fun b=>w2.heap.size+1+1<=b/\qv.ownBlock≠some b/\True) ((Qs n ls fs).take k) V:=hlq.mono (fun b hb hlt=>⟨hb,Q5 hlt E3'.size,Below.block E3' b hlt⟩)
        have hfn3:LQ w3 (fun b=>w2.heap.size+1+1<=b/\qv.ownBlock≠some b/\True) r.2 (.slice go r.2.length gc):=hfn.lq.mono (fun b hb hlt=>⟨⟨by simp at hb;omega,fun e=>by have:=(hown.lt b e).2;simp at hb;omega,trivial⟩,hlt,rfl⟩)
        have hbel3:Below (w2.heap.size+1) w9 w3:=q0n hbel E3' hszr
        have q2:=hrow3.cell (i:=2) (by omega)
        have qz:=hrow3.frozen 2
        have q2':w3.cell? ⟨w2.heap.size+1,2,none⟩=some qv:=q2
        have s93:=hrow3.lt
        clear q2 hrow hown hlq hbel hfn
        rw[h0]
        go_wp2_with (first | (at_builtin;refine wpList_append_lies _ rfl _ _ 27 rfl (w2.heap.size+1+1) 104 i0 (.slice none 0 0) 1 24 underlying27 hi hz0 hz1 hz2 rfl (by decide) _ _ _ rfl (hown3.alloc _) ⟨w3.heap.size,0,none⟩ 1 1 [.slice go r.2.length gc] rfl rfl (news1' rfl _ _) (one1s _ _ _) (by decide) (by unfold maxLen;omega) (by omega) (by simp;omega) _ rfl ?_) | go_in)
        intro g gcap w4 hown4 hg4 hat4 hlt4
        have hb4P:w4.heap[w2.heap.size+1]? =w3.heap[w2.heap.size+1]?:=(hg4.block _ (by simp;omega) (fun e=>by have:=(hown3.lt _ e.symm).1;omega)).trans (bal _ _ _ s93)
        have q4:w4.cell? ⟨w2.heap.size+1,2,none⟩=some qv:=(cob (a:=⟨w2.heap.size+1,2,none⟩) hb4P).trans q2'
        have q4z:w4.frozen? ⟨w2.heap.size+1,2,none⟩=false:=(World.frozen?_of_block (a:=⟨w2.heap.size+1,2,none⟩) hb4P).trans qz
        have HP4:=Qa (plan_push hrow3 hown3 hlq3 hfn3 hbel3 hown4 hg4 (hat4.imp id (fun h=>by simpa using h)))
        clear hrow3 hown3 hlq3 hfn3 hbel3 hown4 hg4 hat4
        go_wp2
        go_roundw
        case rel=>
         obtain⟨m1,m2,m3,m4⟩:=HP4.out
         refine⟨k+1,_,_,by omega,by go_num,fun j hj=>?_,m1,m2,?_,m4⟩
         ·by_cases e:j=k
          ·subst e;rw[HG.out, <-HR.out,h0]
          ·exact HPre.out j (by omega)
         ·rw[z4f (by omega),HG.out, <-HR.out];exact m3
        case measure=>simp[intOf];omega
       ·have HP:=Qa (plnF_bad (version:=version) HW.out HV.out HWF.out (k:=k) (by omega) HPre.out (by rw[HG.out, <-HR.out];exact h0))
        have h0':(r.1 != 0)=true:=by simpa using h0
        have HH:=Qa h0
        clear h0
        go_wp2
        refine bodyPost_ret_by (q0o results51 rfl rfl (q1j (by omega) HP3.out.c5)) rfl ?_
        have hq:=q3i (lo:=some ⟨b,off,none⟩) (w:=w) (w':=((((((w3.setCell ⟨w.heap.size+1,0,none⟩ (.int .i64 0)).setCell ⟨w.heap.size+1,1,none⟩ (.slice none 0 0)).setCell ⟨w.heap.size+1,2,none⟩ (.slice none 0 0)).setCell ⟨w.heap.size+1+1,0,none⟩ (.int .i64 r.1)).setCell ⟨w.heap.size+1+1,1,none⟩ (.int .i64 k)))) (r:=(r.1,(k:Int))) (by rw[HP.out,HG.out, <-HR.out]) HH.out ((((((hE3).setCell (by simp) _).setCell (by simp) _).setCell (by simp) _).setCell (by simp;omega) _).setCell (by simp;omega) _)
        exact hq
      ·have hkl:k=fs.length:=by omega
       have HP:=Qa (z4g (version:=version) HW.out HV.out HWF.out (fun j hj=>HPre.out j (by omega)))
       have ht:(Qs n ls fs).take k=Qs n ls fs:=List.take_of_length_le (by simp[Qs];omega)
       rw[ht] at hlq
       obtain⟨qo,qc,rfl,hpt⟩:=pths_new hown hlq
       have HT:=Qa hpt
       have q0:wr.cell? ⟨w2.heap.size+1,0,none⟩=some (.int .i64 version):=hrow.cell (i:=0) (by omega)
       have q1:wr.cell? ⟨w2.heap.size+1,1,none⟩=some (.slice lo ll lc):=hrow.cell (i:=1) (by omega)
       have q2:wr.cell? ⟨w2.heap.size+1,2,none⟩=some (.slice qo (Qs n ls fs).length qc):=hrow.cell (i:=2) (by omega)
       have i1:¬(k:Int)<(ll:Int):=by omega
       have HK:=Qa hkl
       clear hpt hrow hown hlq hbel ht hkl
       go_wp2
       refine bodyPost_ret_by (q0o results51 rfl rfl (q1j (by omega) HPr.out.c5)) rfl ?_
       have hE5:Ext w (((((wr.setCell ⟨w.heap.size+1,0,none⟩ (.int .i64 version)).setCell ⟨w.heap.size+1,1,none⟩ (.slice lo ll lc)).setCell ⟨w.heap.size+1,2,none⟩ (.slice qo (Qs n ls fs).length qc)).setCell ⟨w.heap.size+1+1,0,none⟩ (.int .i64 0)).setCell ⟨w.heap.size+1+1,1,none⟩ (.int .i64 0)):=
        ((((hEr.setCell (by simp) _).setCell (by simp) _).setCell (by simp) _).setCell (by simp;omega) _).setCell (by simp;omega) _
       refine⟨version,lo,ll,lc,qo,_,qc,by rw[HP.out],hE5,Or.inr ⟨by rw[HP.out],rfl,rfl,hll.symm,rfl,fun U hs hU=>HT.out U (by simpa using hs) (fun b hb hlt=>(hU b (by omega) (by simpa using hlt)).trans ?_)⟩⟩
       rw[Zm _ _ _ _ (by simp;omega),Zm _ _ _ _ (by simp;omega),Zm _ _ _ _ (by simp;omega),Zm _ _ _ _ (by simp;omega),Zm _ _ _ _ (by simp;omega)]
    ·have HP:=Qa (q3z (version:=version) HW.out HV.out hwf)
     have hwf':((Stf.Qp fs n).1 != 0)=true:=by simpa using hwf
     have HWF:=Qa hwf
     clear hwf
     go_wp2
     go_region
     go_wp2
     refine bodyPost_ret_by (q0o results51 rfl rfl (((q1j (by omega) HPB2.out.c5).alloc (by simp;omega) (by simp;omega) _).drew)) rfl (q3i HP.out HWF.out ?_)
     exact(((((((hw2).setCell (by simp) _).setCell (by simp) _).setCell (by simp) _).setCell (by simp;omega) _).setCell (by simp;omega) _).alloc _).drew
  ·have HP:=Qa (q3y (version:=version) (fs:=fs) hr)
   have hr':((Qc n ls).1 != 0)=true:=by simpa using hr
   have HR:=Qa hr
   clear hr
   go_wp2
   go_region
   go_wp2
   refine bodyPost_ret_by (q0o results51 rfl rfl (((q1j (by omega) HPB.out.c5).alloc (by simp;omega) (by simp;omega) _).drew)) rfl (q3i HP.out HR.out ?_)
   exact(((((((hw1).setCell (by simp) _).setCell (by simp) _).setCell (by simp) _).setCell (by simp;omega) _).setCell (by simp;omega) _).alloc _).drew
end
end Go.Proofs.YthkpbefnkmmaiaaGreat
