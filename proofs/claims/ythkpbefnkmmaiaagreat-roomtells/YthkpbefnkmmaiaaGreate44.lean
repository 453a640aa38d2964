import Derived.Test.YthkpbefnkmmaiaaGreate43
import Derived.Deep.CutBlock
set_option maxRecDepth 100000
set_option maxHeartbeats 8000000
namespace Go.Proofs.YthkpbefnkmmaiaaGreat
open Go.Proofs.Tryz
namespace Tb
open Go.RowKit Go.Deep Rul Go.Sort
theorem q4w(ao:Option Addr)(len cap:Nat)(rs:List Ru)(v:Int)(w:World)(hlen:rs.length=len)(hf:Zl w ao rs)(hl:len*24<=140737488351232):
 Calls prog 58 #[.slice ao len cap,.int .i64 v] w fun e w'=>∃v',e=.returned v'/\RO w' w.heap.size v' (drp rs v)/\Ext w w':=by
 obtain⟨i3,hi3,hz0,hz1,hz2⟩:=infoR'
 go_enter func58,ntmps58
 go_wp2
 go_loopw [5,10] (fun ov iv wd=>∃k:Nat,k<=len/\iv=.int .i64 k/\Hid (RO wd w.heap.size ov (drp (rs.take k) v))/\Ext w wd) (fun _ iv _=>len - (intOf iv).toNat)
 case atStart=>exact⟨0,Zu _,rfl,RO.nil _ _,Ext.refl w⟩
 case round=>
  obtain⟨k,hk,rfl,HO,hE⟩:=hrel
  by_cases hlt:k<len
  ·obtain⟨g,off,rfl,hg,hcs⟩:=(hf.ext hE).get (k:=k) (by omega)
   have i1:(k:Int)<(len:Int):=by omega
   have HST:Hid _:=drp_step (v:=v) (rs:=rs) (k:=k) (by omega)
   obtain⟨c0,c1,c2⟩:=hcs k (by omega)
   obtain⟨r,hr⟩:∃r,rs.getD k r0=r:=⟨_,rfl⟩
   rw[hr] at c0 c1 c2 HST
   clear hr hcs
   by_cases h1:r.1=v
   ·have HO2:Hid (RO (wr.alloc (.cells #[.int .i64 r.1,.int .i64 r.2.1,.int .i64 r.2.2] 132)) w.heap.size u5 (drp (rs.take (k+1)) v)):=by
     show RO _ _ _ _
     rw[HST.out,if_pos h1];exact HO.out.ext ((Ext.refl _).alloc _)
    have b1:(r.1 != v)=false:=by simpa using h1
    clear h1 HST
    go_wp2
    exact⟨⟨k+1,by omega,by go_num,HO2,hE.alloc _⟩,by simp[intOf];omega⟩
   ·have b1:(r.1 != v)=true:=by simpa using h1
    have hE0:=HO.out.ext (((Ext.refl wr).alloc (.cells #[.int .i64 r.1,.int .i64 r.2.1,.int .i64 r.2.2] 132)).alloc (.cells #[.int .i64 r.1,.int .i64 r.2.1,.int .i64 r.2.2] 132))
    have hdl:(drp (rs.take k) v).length<=k:=ltr (drp_le _ _) (by simp;omega)
    have hEs:=hE.size
    go_wp2_with (first | (at_builtin;refine wpList_append_own _ rfl _ _ 61 rfl w.heap.size 132 i3 (.agg #[.int .i64 0,.int .i64 0,.int .i64 0]) 3 24 underlying61 hi3 hz0 hz1 hz2 rfl (by decide) _ _ _ rfl hE0 ⟨wr.heap.size+1,0,none⟩ 1 1 [.int .i64 r.1,.int .i64 r.2.1,.int .i64 r.2.2] rfl rfl ?c1 ?c2 ?c3 ?c4 ?c5 ?_) | go_in)
    case c1=>exact cells3n (by simp) _ _ _ _
    case c2=>intro u hu;simp only[List.mem_cons,List.not_mem_nil,or_false] at hu;rcases hu with rfl | rfl | rfl <;> rfl
    case c3=>unfold maxLen;omega
    case c4=>omega
    case c5=>simp;omega
    ·intro v' w5 hown5 hg5 _
     have hE5:Ext w w5:=Below.grown ((hE.alloc _).alloc _) hg5 (by simp;omega) (fun j hj=>(HO.out.block j hj).1)
     have HO2:Hid (RO w5 w.heap.size v' (drp (rs.take (k+1)) v)):=by
      show RO _ _ _ _
      rw[HST.out,if_neg h1]
      unfold RO
      rw[q2j]
      simpa[rcs] using hown5
     clear hown5 hg5 hE0 HST h1
     go_wp2
     exact⟨⟨k+1,by omega,by go_num,HO2,hE5⟩,by simp[intOf];omega⟩
  ·have i1:¬(k:Int)<(len:Int):=by omega
   have hO:=HO.out
   rw[List.take_of_length_le (by omega)] at hO
   go_wp2
   go_ret
   exact⟨_,rfl,hO,hE⟩
def pre (r:Ru) (o:List Ru):Nat:=(o.takeWhile (fun x=>!lt r x)).length
def insD (r:Ru) (o:List Ru):List Ru:=if 0<pre r o/\o.getD (pre r o - 1) r0=r then o else o.take (pre r o)++[r]++o.drop (pre r o)
theorem take_pre(r:Ru)(o:List Ru):o.take (pre r o)=o.takeWhile (fun x=>!lt r x):=by
 have e:=List.takeWhile_append_dropWhile (p:=fun x=>!lt r x) (l:=o)
 conv=>lhs;rw[<-e]
 rw[pre,List.take_left']
 rw[e]
theorem dd_head:∀(l:List Ru),(dd l).head? =l.head?
 | []=>rfl
 | [a]=>rfl
 | a::b::l=>by
  rw[dd]
  split
  ·rename_i h;subst h;rw[dd_head (a::l)];rfl
  ·rfl
theorem z2k:∀(A B:List Ru),(∀a,A.getLast? =some a->B.head?≠some a)->dd (A++B)=dd A++dd B
 | [],B,_=>rfl
 | [a],[],_=>rfl
 | [a],b::B,h=>by
  have hab:¬a=b:=fun e=>h a rfl (by rw[e];rfl)
  show dd (a::b::B)=[a]++dd (b::B)
  rw[dd,if_neg hab];rfl
 | a::c::A,B,h=>by
  have ih:=z2k (c::A) B (fun x hx=>h x (by rw[List.getLast?_cons_cons];exact hx))
  show dd (a::c::(A++B))=_
  rw[dd,dd,show c::(A++B)=(c::A)++B from rfl,ih]
  split <;> rfl
theorem tw_all{r:Ru}:∀{A B:List Ru},(∀x∈A,lt r x=false)->(∀x,B.head? =some x->lt r x=true)->(A++B).takeWhile (fun x=>!lt r x)=A
 | [],[],_,_=>rfl
 | [],b::B,_,h=>by simp[h b rfl]
 | a::A,B,h,h2=>by
  rw[List.cons_append,List.takeWhile_cons,if_pos (by simp[h a (by simp)]),tw_all (fun x hx=>h x (by simp[hx])) h2]
theorem mem_last{A:List Ru}{a:Ru}(h:A.getLast? =some a):a∈A:=List.mem_of_getLast? h
variable {r:Ru}
theorem dd_ins{Z:List Ru}(hZ:Srt Z):dd (ins r Z)=insD r (dd Z):=by
 obtain⟨A,hA⟩:=Qy (Z.takeWhile (fun x=>!lt r x))
 obtain⟨B,hB⟩:=Qy (Z.dropWhile (fun x=>!lt r x))
 have e:A++B=Z:=by rw[hA,hB];exact List.takeWhile_append_dropWhile
 have h1:∀x∈A,lt r x=false:=fun x hx=>by rw[hA] at hx;exact z6f x hx
 have h2:∀x∈B,lt r x=true:=fun x hx=>by rw[hB] at hx;exact z7q hZ x hx
 have hh:∀x,B.head? =some x->lt r x=true:=fun x hx=>h2 x (List.mem_of_head? hx)
 have s1:dd Z=dd A++dd B:=by
  rw[<-e]
  exact z2k A B (fun a ha hb=>by have:=h1 a (mem_last ha);rw[hh a hb] at this;cases this)
 have s2:dd (A++r::B)=dd (A++[r])++dd B:=by
  rw[show A++r::B=(A++[r])++B by simp]
  refine z2k _ B (fun a ha hb=>?_)
  have har:a=r:=by simpa using ha.symm
  have:=hh a hb
  rw[har,swo.irrefl] at this
  cases this
 have htw:(dd Z).takeWhile (fun x=>!lt r x)=dd A:=by
  rw[s1]
  exact tw_all (fun x hx=>h1 x ((z5e _ _).1 hx)) (fun x hx=>hh x (by rw[<-dd_head];exact hx))
 have hpre:pre r (dd Z)=(dd A).length:=by rw[pre,htw]
 have ht:(dd Z).take (pre r (dd Z))=dd A:=by rw[take_pre,htw]
 have hd:(dd Z).drop (pre r (dd Z))=dd B:=by rw[hpre,s1,List.drop_left'];rfl
 have hins:ins r Z=A++r::B:=by rw[ins, <-hA, <-hB]
 rw[hins,s2,z7r,insD,ht,hd]
 have hlast:(0<pre r (dd Z)/\(dd Z).getD (pre r (dd Z) - 1) r0=r)↔A.getLast? =some r:=by
  rw[hpre, <-z7s A]
  cases hl:(dd A).getLast? with
  | none=>
   have:dd A=[]:=List.getLast?_eq_none_iff.1 hl
   simp[this]
  | some x=>
   have hne:dd A≠[]:=fun h=>by rw[h] at hl;simp at hl
   have hpos:0<(dd A).length:=List.length_pos_iff.2 hne
   have hx:(dd Z).getD ((dd A).length - 1) r0=x:=by
    rw[s1,Zt,List.getElem?_append_left (by omega), <-List.getLast?_eq_getElem?,hl];rfl
   rw[hx]
   constructor
   ·rintro⟨_,h⟩;rw[h]
   ·intro h;cases h;exact⟨hpos,rfl⟩
 by_cases hc:A.getLast? =some r
 ·rw[if_pos hc,if_pos (hlast.2 hc),s1]
 ·rw[if_neg hc,if_neg (fun h=>hc (hlast.1 h)),List.append_assoc]
theorem dd_ris:∀{l:List Ru},Ris l->dd l=l
 | [],_=>rfl
 | [a],_=>rfl
 | a::b::l,h=>by
  have h':=List.pairwise_cons.1 h
  have hab:¬a=b:=fun e=>by have:=h'.1 b (by simp);rw[e,swo.irrefl] at this;cases this
  rw[dd,if_neg hab,dd_ris h'.2]
theorem sst_snoc(x:List Ru)(r:Ru):sst (x++[r])=ins r (sst x):=by rw[sst,List.foldl_append];rfl
variable {l:List Ru} {k:Nat}
theorem addD_step{more:List Ru}(hk:k<more.length):dd (sst (l++more.take (k+1)))=insD (more.getD k r0) (dd (sst (l++more.take k))):=by
 have e:more.getD k r0=more[k]:=by simp[hk]
 rw[List.take_succ_eq_append_getElem hk, <-List.append_assoc,sst_snoc,dd_ins (q6r _).1,e]
theorem addD_zero(h:Ris l):dd (sst (l++([]:List Ru)))=l:=by
 rw[List.append_nil, <-sst_of h.srt (Sm.refl l),dd_ris h]
theorem SlOk.take{w:World}{ao:Option Addr}{len cap:Nat}{rs:List Ru}(h:SlOk w ao len cap rs){k:Nat}(hk:k<=len):SlOk w ao k cap (rs.take k):=by
 refine⟨by rw[List.length_take,h.hlen];omega,?_,fun e=>⟨by have:=(h.hnil e).1;omega,(h.hnil e).2⟩⟩
 rcases h.Q2 with h0 | ⟨g,off,h1,h2,h3⟩
 ·exact Or.inl (by rw[h0];simp)
 ·refine Or.inr ⟨g,off,h1,h2,fun j hj=>?_⟩
  have hj':j<k/\j<rs.length:=by rw[List.length_take] at hj;omega
  have e:(rs.take k).getD j (0,0,0)=rs.getD j (0,0,0):=by simp[List.getElem?_take_of_lt hj'.1]
  rw[e];exact h3 j hj'.2
theorem SlOk.drop{w:World}{g off len cap:Nat}{rs:List Ru}(h:SlOk w (some ⟨g,off,none⟩) len cap rs){k:Nat}(_:k<=len):SlOk w (some ⟨g,off+k*3,none⟩) (len - k) (cap - k) (rs.drop k):=by
 refine⟨by rw[List.length_drop,h.hlen],?_,fun e=>by cases e⟩
 rcases h.Q2 with h0 | ⟨g',off',h1,h2,h3⟩
 ·exact Or.inl (by rw[h0];simp)
 ·cases h1
  refine Or.inr ⟨g,off+k*3,rfl,h2,fun j hj=>?_⟩
  have hj':j<rs.length - k:=by simpa using hj
  have e:(rs.drop k).getD j (0,0,0)=rs.getD (k+j) (0,0,0):=by simp
  rw[e,show off+k*3+j*3=off+(k+j)*3 by omega]
  exact h3 (k+j) (by omega)
theorem pre_of{o:List Ru}(hk:k<=o.length)(h1:∀t,t<k->lt r (o.getD t r0)=false)(h2:k=o.length\/lt r (o.getD k r0)=true):pre r o=k:=by
 have e:o.takeWhile (fun x=>!lt r x)=o.take k:=by
  conv=>lhs;rw[<-List.take_append_drop k o]
  refine tw_all (fun x hx=>?_) (fun x hx=>?_)
  ·obtain⟨i,hi,rfl⟩:=List.getElem_of_mem hx
   have hi':i<k/\i<o.length:=by rw[List.length_take] at hi;omega
   have:=h1 i hi'.1
   simpa[hi'.2] using this
  ·rcases h2 with h2 | h2
   ·rw[List.drop_eq_nil_of_le (by omega)] at hx;cases hx
   ·have hkl:k<o.length:=by
     rcases Nat.lt_or_ge k o.length with h | h
     ·exact h
     ·rw[List.drop_eq_nil_of_le h] at hx;cases hx
    rw[List.drop_eq_getElem_cons hkl] at hx
    have hx':o[k]=x:=by injection hx
    rw[<-hx']
    simpa[hkl] using h2
 rw[pre,e,List.length_take];omega
theorem refAdd_cap(ao bo:Option Addr)(la ca lb cb:Nat)(ra rb:List Ru)(w:World)(ha:SlOk w ao la ca ra)(hb:SlOk w bo lb cb rb)(hla:la<=9223372036854775807)(hlb:lb*24<=140737488351232)(hca:la<=ca)(hcx:ca<=9223372036854775807):
 Calls prog 57 #[.slice ao la ca,.slice bo lb cb] w fun e w'=>∃vo vc,e=.returned (.tuple #[.slice vo (add ra rb).1.length vc,.int .i64 (add ra rb).2])/\SlOk w' vo (add ra rb).1.length vc (add ra rb).1/\((add ra rb).1.length<=vc/\vc<=9223372036854775807)/\((vo=ao/\(add ra rb).1=ra)\/NwA w.heap.size vo)/\Ext w w':=by
 obtain⟨x,hx⟩:=Qy ((Rul.Qc ra).1)
 go_enter func57,ntmps57
 go_wp2_with fail
 refine(Q3 ao la ca ra _ ha.hlen ha.Q2 hla).mono ?_
 rintro e w1 ⟨he,E1⟩
 obtain⟨xat,rfl⟩:∃xat,e=.returned (.agg #[.int .i64 x,.int .i64 xat]):=⟨_,by rw[hx];exact he⟩
 clear he
 by_cases h0:x=0
 ·have ht:tab ra:=by unfold tab;rw[<-hx,h0]
  have HT:Hid (tab ra):=ht
  have hl16:=(q0j.1 ht).1
  have hlen:=ha.hlen
  have hO0:dd (sst (ra++rb.take 0))=ra:=by rw[List.take_zero];exact addD_zero (q0j.1 ht).2.2
  have HO0:Hid _:=hO0
  clear ht hx hO0
  subst h0
  obtain⟨W,hW⟩:=Qy (w1.alloc (.cells #[.int .i64 0,.int .i64 xat] 43))
  have hEW:Ext w W:=by rw[hW];exact E1.alloc _
  have hlenb:=hb.hlen
  go_wp2
  rw[<-hW]
  clear hW
  go_loopg [7,24] lb (fun gg ov iv wd=>∃(i:Nat) (vo:Option Addr) (vc:Nat) (O:List Ru),lb - i<=gg/\i<=lb/\iv=.int .i64 i/\ov=.slice vo O.length vc/\O.length<=vc/\vc<=9223372036854775807/\Hid (O=dd (sst (ra++rb.take i)))/\Hid ((vo=ao/\O=ra)\/NwA w.heap.size vo)/\SlOk wd vo O.length vc O/\Ext W wd)
  case atStart=>exact⟨0,ao,ca,ra,by omega,Zu _,rfl,by rw[hlen],by omega,hcx,HO0.out.symm,Or.inl ⟨rfl,rfl⟩,by rw[hlen];exact ha.ext hEW,Ext.refl W⟩
  case round=>
   obtain⟨i,vo,vc,O,hgg,hi,rfl,rfl,hOc,hvx,HO,HNW,okO,hE⟩:=hrel
   have hOl:O.length<=16+i:=by
    rw[HO.out]
    refine ltr (z5f _) ?_
    rw[q6b,lap,List.length_take];omega
   by_cases hil:i<lb
   ·have i1:(i:Int)<(lb:Int):=by omega
    obtain⟨g,off,rfl,hg,hcs⟩:=((hb.ext (hEW.trans hE)).Q2).get (k:=i) (by omega)
    obtain⟨c0,c1,c2⟩:=hcs i (by omega)
    obtain⟨r,hr⟩:∃r,rb.getD i r0=r:=⟨_,rfl⟩
    rw[hr] at c0 c1 c2
    have hstep:=addD_step (l:=ra) (more:=rb) (k:=i) (by omega)
    rw[hr, <-HO.out] at hstep
    have HS:Hid _:=hstep
    clear hr hcs hstep
    obtain⟨B,hB⟩:=Qy (wr.alloc (.cells #[.int .i64 r.1,.int .i64 r.2.1,.int .i64 r.2.2] 132))
    have hEB:Ext wr B:=by rw[hB];exact(Ext.refl wr).alloc _
    have hsB:wr.heap.size<B.heap.size:=by rw[hB];simp
    have r0':B.cell? ⟨wr.heap.size,0,none⟩=some (.int .i64 r.1):=by rw[hB];simp
    have r1':B.cell? ⟨wr.heap.size,1,none⟩=some (.int .i64 r.2.1):=by rw[hB];simp
    have r2':B.cell? ⟨wr.heap.size,2,none⟩=some (.int .i64 r.2.2):=by rw[hB];simp
    obtain⟨bx,hbx⟩:=Qy (wr.heap.size)
    go_upto_block 2 with fail
    rw[<-hB]
    rw[<-hbx] at r0' r1' r2' hsB ⊢
    have okB:=okO.ext hEB
    have hEB2:=hE.trans hEB
    clear hB hbx c0 c1 c2 okO hE hEB
    have HR:Hid (∀X,Ext B X->cl X bx 0 (.int .i64 r.1)/\cl X bx 1 (.int .i64 r.2.1)/\cl X bx 2 (.int .i64 r.2.2)):=fun X hX=>⟨(hX.cells.1 _ _ hsB).trans r0',(hX.cells.1 _ _ hsB).trans r1',(hX.cells.1 _ _ hsB).trans r2'⟩
    clear r0' r1' r2'
    go_cut [10] (fun kv wc=>kv=.int .i64 (pre r O:Nat)/\Ext B wc)
    case first=>as_aux_lemma=>
     go_wp2_with fail
     go_loopw [10] (fun kv wd=>∃k:Nat,k<=O.length/\kv=.int .i64 k/\Hid (∀t,t<k->lt r (O.getD t r0)=false)/\Ext B wd) (fun kv _=>O.length - (intOf kv).toNat)
     case atStart=>exact⟨0,Zu _,rfl,fun t h=>absurd h (by omega),Ext.refl B⟩
     case round=>
      obtain⟨k,hk,rfl,HK,hE⟩:=hrel
      by_cases hkl:k<O.length
      ·have i2:(k:Int)<(O.length:Int):=by omega
       obtain⟨g',off',rfl,hg',hcs'⟩:=((okB.ext hE).Q2).get (k:=k) hkl
       obtain⟨d0,d1,d2⟩:=hcs' k hkl
       obtain⟨y,hy⟩:∃y,O.getD k r0=y:=⟨_,rfl⟩
       rw[hy] at d0 d1 d2
       obtain⟨q0,q1,q2⟩:=HR.out wr hE
       have HQ:Hid _:=z2t r y wr
       have x0':=clr q0
       have x1':=clr q1
       have x2':=clr q2
       have y0':=clr d0
       have y1':=clr d1
       have y2':=clr d2
       have HY:Hid _:=hy
       clear q0 q1 q2 d0 d1 d2 hcs' hy
       cases hl:lt r y with
       | false=>
        rw[hl] at HQ
        have HK2:Hid (∀t,t<k+1->lt r (O.getD t r0)=false):=fun t ht=>by
         by_cases e:t=k
         ·subst e;rw[HY.out];exact hl
         ·exact HK.out t (by omega)
        clear hl
        go_wp2_with fail
        refine qb ?_
        repeat(go_big_quiet_step (with_reducible exact HQ.out _ _))
        refine qn fun dq oq=>?_
        clear x0' x1' x2' y0' y1' y2' HQ
        go_wp2
        exact⟨⟨k+1,by omega,by go_num,HK2,hE.trans (brg wr dq oq)⟩,by simp[intOf];omega⟩
       | true=>
        rw[hl] at HQ
        have HP:Hid (pre r O=k):=pre_of hk HK.out (Or.inr (by rw[HY.out];exact hl))
        clear hl
        go_wp2_with fail
        refine qb ?_
        repeat(go_big_quiet_step (with_reducible exact HQ.out _ _))
        refine qn fun dq oq=>?_
        clear x0' x1' x2' y0' y1' y2' HQ
        go_wp2
        go_meet
        case rel=>exact⟨by rw[HP.out],hE.trans (brg wr dq oq)⟩
      ·have HP:Hid (pre r O=k):=pre_of hk HK.out (Or.inl (by omega))
       have i2:decide ((k:Int)<(O.length:Int))=false:=dff (by omega)
       have i3:¬(k:Int)<(O.length:Int):=by omega
       go_wp2_with fail
       refine qb ?_
       repeat(go_big_quiet_step (fail))
       refine qn fun dq oq=>?_
       go_wp2
       go_meet
       case rel=>exact⟨by rw[HP.out],hE.trans (brg wr dq oq)⟩
    case rest=>as_aux_lemma=>
     obtain⟨rfl,hE⟩:=hcut
     obtain⟨k,hkp⟩:∃k,pre r O=k:=⟨_,rfl⟩
     have hkl:k<=O.length:=by rw[<-hkp,pre];exact(List.takeWhile_prefix _).length_le
     rw[hkp]
     have HP:Hid (pre r O=k):=hkp
     clear hkp
     obtain⟨wb,hwb⟩:=Qy (wc)
     subst hwb
     have w0:IntKind.i64.wrap ((k:Int) - 1)=(k:Int) - 1:=by rw[IntKind.wrap_i64];omega
     go_upto_block 4 with fail
     go_cut [11] (fun sv wc=>∃sb:Bool,sv=.bool sb/\Hid ((sb=true->0<k)/\(0<k->O.getD (k - 1) r0=r->sb=true))/\Ext B wc)
     case first=>as_aux_lemma=>
      go_wp2_with fail
      go_loopw [11,12] (fun sv jv wd=>∃(jn:Nat) (sb:Bool),jn<=k/\sv=.bool sb/\jv=.int .i64 ((jn:Int) - 1)/\Hid ((sb=true->0<k)/\(jn<k->O.getD (k - 1) r0=r->sb=true))/\Ext B wd) (fun _ jv _=>(intOf jv+1).toNat)
      case atStart=>exact⟨k,false,Ql _,rfl,rfl,⟨(fun h=>by cases h),fun h=>absurd h (Nat.lt_irrefl _)⟩,hE⟩
      case round=>
       clear hE
       obtain⟨jn,sb,hjk,rfl,rfl,HSB,hE⟩:=hrel
       by_cases hj0:jn=0
       ·subst hj0
        have i2:decide ((-1:Int)>=0)=false:=by decide
        rw[show((0:Nat):Int) - 1= -1 by omega]
        go_wp2_with fail
        refine qb ?_
        repeat(go_big_quiet_step (fail))
        refine qn fun dq oq=>?_
        go_wp2
        go_meet
        case rel=>exact⟨sb,rfl,⟨HSB.out.1,fun h0=>HSB.out.2 h0⟩,hE.trans (brg wr dq oq)⟩
       ·obtain⟨j,rfl⟩:∃j,jn=j+1:=⟨jn - 1,by omega⟩
        rw[show((j+1:Nat):Int) - 1=(j:Int) by omega]
        have hjl:j<O.length:=by omega
        have i2:(j:Int)<(O.length:Int):=by omega
        obtain⟨g',off',rfl,hg',hcs'⟩:=((okB.ext hE).Q2).get (k:=j) hjl
        obtain⟨d0,d1,d2⟩:=hcs' j hjl
        obtain⟨y,hy⟩:∃y,O.getD j r0=y:=⟨_,rfl⟩
        rw[hy] at d0 d1 d2
        obtain⟨q0,q1,q2⟩:=HR.out wr hE
        have HQ:Hid _:=z2t y r wr
        have x0':=clr q0
        have x1':=clr q1
        have x2':=clr q2
        have y0':=clr d0
        have y1':=clr d1
        have y2':=clr d2
        have HY:Hid _:=hy
        clear q0 q1 q2 d0 d1 d2 hcs' hy hj0
        cases hl:lt y r with
        | true=>
         rw[hl] at HQ
         have HS2:Hid (0<k->O.getD (k - 1) r0=r->sb=true):=fun h0 h1=>by
          by_cases e:j+1<k
          ·exact HSB.out.2 e h1
          ·rw[show k - 1=j by omega,HY.out] at h1
           rw[h1,swo.irrefl] at hl
           cases hl
         clear hl
         go_wp2_with fail
         refine qb ?_
         repeat(go_big_quiet_step (with_reducible exact HQ.out _ _))
         refine qn fun dq oq=>?_
         clear x0' x1' x2' y0' y1' y2' HQ
         go_wp2
         go_meet
         case rel=>exact⟨sb,rfl,⟨HSB.out.1,HS2.out⟩,hE.trans (brg wr dq oq)⟩
        | false=>
         rw[hl] at HQ
         clear hl
         go_wp2_with fail
         refine qb ?_
         repeat(go_big_quiet_step (with_reducible exact HQ.out _ _))
         refine qn fun dq oq=>?_
         have EQ:=brg wr dq oq
         have hE2:=hE.trans EQ
         clear x0' x1' x2' y0' y1' y2' HQ
         generalize grow (redrawn wr dq) oq=wq at hE2 EQ ⊢
         obtain⟨g2,off2,eg,_,hcs2⟩:=((okB.ext hE2).Q2).get (k:=j) hjl
         cases eg
         obtain⟨d0,d1,d2⟩:=hcs2 j hjl
         rw[HY.out] at d0 d1 d2
         obtain⟨q0,q1,q2⟩:=HR.out wq hE2
         clear hcs2 EQ
         have w1:IntKind.i64.wrap ((j:Int) - 1)=(j:Int) - 1:=by rw[IntKind.wrap_i64];omega
         cases sb with
         | true=>
          go_wp2_with fail
          go_region
          go_wp2
          exact⟨⟨j,true,by omega,rfl,by go_num,⟨fun _=>by omega,fun _ _=>rfl⟩,hE2.drew⟩,by simp[intOf]⟩
         | false=>
          by_cases hyr:y=r
          ·subst hyr
           go_wp2_with fail
           go_region
           go_wp2
           exact⟨⟨j,true,by omega,rfl,by go_num,⟨fun _=>by omega,fun _ _=>rfl⟩,hE2.drew⟩,by simp[intOf]⟩
          ·have HS2:Hid ((false=true->0<k)/\(j<k->O.getD (k - 1) r0=r->false=true)):=⟨(fun h=>by cases h),fun _ h1=>by
            by_cases e:j+1<k
            ·exact HSB.out.2 e h1
            ·rw[show k - 1=j by omega,HY.out] at h1
             exact absurd h1 hyr⟩
           rcases q7b hyr with e1 | ⟨e1,e2⟩ | ⟨e1,e2,e3⟩
           all_goals(
            clear hyr
            go_wp2_with fail
            go_region
            go_wp2
            exact⟨⟨j,false,by omega,rfl,by go_num,HS2,hE2.drew⟩,by simp[intOf]⟩)
     case rest=>as_aux_lemma=>
      obtain⟨sb,rfl,HSB,hE3⟩:=hcut
      obtain⟨wd0,hwd0⟩:=Qy (wc)
      subst hwd0
      go_upto_region 16 with fail
      go_cut [76] (fun v wc=>v=.bool (decide (0<k/\O.getD (k - 1) r0=r))/\Ext B wc)
      case first=>as_aux_lemma=>
       cases sb with
       | false=>
        have hc:decide (0<k/\O.getD (k - 1) r0=r)=false:=dff (fun h=>by have:=HSB.out.2 h.1 h.2;cases this)
        have HC:Hid _:=hc
        clear hc
        go_region
        go_wp2
        go_meet
        case rel=>exact⟨by rw[HC.out],hE3.drew⟩
       | true=>
        have hk0:0<k:=HSB.out.1 rfl
        obtain⟨k',rfl⟩:∃k',k=k'+1:=⟨k - 1,by omega⟩
        have i2:(k':Int)<(O.length:Int):=by omega
        obtain⟨g',off',rfl,hg',hcs'⟩:=((okB.ext hE3).Q2).get (k:=k') (by omega)
        obtain⟨d0,d1,d2⟩:=hcs' k' (by omega)
        obtain⟨y,hy⟩:∃y,O.getD k' r0=y:=⟨_,rfl⟩
        rw[hy] at d0 d1 d2
        obtain⟨q0,q1,q2⟩:=HR.out _ hE3
        have HY:Hid _:=hy
        clear hcs' hy
        by_cases hyr:y=r
        ·subst hyr
         have hc:decide (0<k'+1/\O.getD (k'+1 - 1) r0=y)=true:=dtt ⟨hk0,HY.out⟩
         have HC:Hid _:=hc
         clear hc
         go_region
         go_wp2
         go_meet
         case rel=>exact⟨by rw[HC.out],hE3.drew⟩
        ·have hc:decide (0<k'+1/\O.getD (k'+1 - 1) r0=r)=false:=dff (fun h=>hyr (HY.out.symm.trans h.2))
         have HC:Hid _:=hc
         clear hc
         rcases q7b hyr with e1 | ⟨e1,e2⟩ | ⟨e1,e2,e3⟩
         all_goals(
          clear hyr
          go_region
          go_wp2
          go_meet
          case rel=>exact⟨by rw[HC.out],hE3.drew⟩)
      case rest=>as_aux_lemma=>
       clear hE3 HSB hE
       obtain⟨rfl,hE⟩:=hcut
       by_cases hcond:0<k/\O.getD (k - 1) r0=r
       ·have hO2:O=dd (sst (ra++rb.take (i+1))):=by rw[HS.out,insD,HP.out,if_pos hcond]
        have HO2:Hid _:=hO2
        have hc:decide (0<k/\O.getD (k - 1) r0=r)=true:=dtt hcond
        rw[hc]
        clear hO2 hc hcond
        go_wp2
        go_roundg (lb - (i+1))
        case measure=>omega
        case rel=>exact⟨i+1,vo,vc,O,by omega,by omega,by go_num,rfl,hOc,hvx,HO2,HNW,okB.ext hE,hEB2.trans hE⟩
       ·have hO2:O.take k++[r]++O.drop k=dd (sst (ra++rb.take (i+1))):=by rw[HS.out,insD,HP.out,if_neg hcond]
        have HO2:Hid _:=hO2
        have hc:decide (0<k/\O.getD (k - 1) r0=r)=false:=dff hcond
        rw[hc]
        clear hO2 hc hcond
        obtain⟨X,hX⟩:=Qy (wc)
        subst hX
        obtain⟨q0,q1,q2⟩:=HR.out X hE
        have hbxX:bx<X.heap.size:=World.block_lt_of_cell? X _ q0
        have okX:Hid _:=okB.ext hE
        have okT:Hid _:=okX.out.take hkl
        have HO3:Hid ([]++O.take k++[r]++O.drop k=dd (sst (ra++rb.take (i+1)))):=HO2.out
        have hnl:(O.take k).length=k:=by rw[List.length_take];omega
        have okNew:Hid (∀Y:World,SlOk (Y.alloc (.cells #[.int .i64 r.1,.int .i64 r.2.1,.int .i64 r.2.2] 132)) (some ⟨Y.heap.size,0,none⟩) 1 1 [r]):=fun Y=>
         ⟨rfl,Or.inr ⟨_,0,rfl,by simp,fun k hk=>by
          have hk0:k=0:=by simpa using hk
          subst hk0
          simp⟩,fun h=>by cases h⟩
        have roA:Hid (RO (X.alloc (.cells #[] 132)).drew X.heap.size (.slice (some ⟨X.heap.size,0,none⟩) 0 0) []):=q9w (Ql _) (heap_alloc_new X _)
        have roB:Hid (RO ((X.alloc (.cells #[] 132)).alloc (.cells #[.int .i64 r.1,.int .i64 r.2.1,.int .i64 r.2.2] 132)).drew X.heap.size (.slice (some ⟨X.heap.size,0,none⟩) 0 0) []):=RO.ext roA.out ((Ext.refl (X.alloc (.cells #[] 132)).drew).alloc _)
        have roC:Hid (RO ((X.alloc (.cells #[.int .i64 r.1,.int .i64 r.2.1,.int .i64 r.2.2] 132)).alloc (.cells #[] 132)).drew X.heap.size (.slice (some ⟨X.heap.size+1,0,none⟩) 0 0) []):=q9w (by omega) (by
         have:=heap_alloc_new (X.alloc (.cells #[.int .i64 r.1,.int .i64 r.2.1,.int .i64 r.2.2] 132)) (.cells #[] 132)
         rwa [World.size_alloc] at this)
        have okOf:∀(Y:World) (b:Nat),Y.heap[b]? =some (.cells #[.int .i64 r.1,.int .i64 r.2.1,.int .i64 r.2.2] 132)->SlOk Y (some ⟨b,0,none⟩) 1 1 [r]:=fun Y b hY=>
         ⟨rfl,Or.inr ⟨b,0,rfl,(asi.1 hY).1,fun k hk=>by
          have hk0:k=0:=by simpa using hk
          subst hk0
          simp[World.cell?,hY]⟩,fun h=>by cases h⟩
        have okrB:Hid (∀Y:World,((X.alloc (.cells #[] 132)).alloc (.cells #[.int .i64 r.1,.int .i64 r.2.1,.int .i64 r.2.2] 132)).drew.grownBy Y (some X.heap.size)->SlOk Y (some ⟨X.heap.size+1,0,none⟩) 1 1 [r]):=fun Y hY=>okOf Y _ (by
         rw[hY.block (X.heap.size+1) (by simp) (by simp)]
         have:=heap_alloc_new (X.alloc (.cells #[] 132)) (.cells #[.int .i64 r.1,.int .i64 r.2.1,.int .i64 r.2.2] 132)
         rw[World.size_alloc] at this
         exact this)
        have okrC:Hid (∀Y:World,((X.alloc (.cells #[.int .i64 r.1,.int .i64 r.2.1,.int .i64 r.2.2] 132)).alloc (.cells #[] 132)).drew.grownBy Y (some (X.heap.size+1))->SlOk Y (some ⟨X.heap.size,0,none⟩) 1 1 [r]):=fun Y hY=>okOf Y _ (by
         rw[hY.block X.heap.size (by simp;omega) (by simp)]
         exact(Below.heap_alloc _ _ _ (by simp)).trans (heap_alloc_new X _))
        clear okOf
        have HLL:Hid (k+(O.length - k+1)=([]++O.take k++[r]++O.drop k).length):=by show _=_;simp;omega
        have hkc:(k:Int)<=(vc:Int):=by omega
        have hkO:(k:Int)<=(O.length:Int):=by omega
        have hOv:(O.length:Int)<=(vc:Int):=by omega
        by_cases hpos:0<O.length
        ·obtain⟨g',off',rfl,_,_⟩:=okX.out.Q2.get hpos
         by_cases hvk:vc=k
         focus
          have okD:Hid (∀c',SlOk X (some ⟨g',off',none⟩) 0 c' (O.drop k)):=fun c'=>⟨by rw[List.length_drop];omega,Or.inl (List.drop_eq_nil_of_le (by omega)),fun h=>by cases h⟩
          have hvk':=hvk.symm
          subst hvk'
         rotate_left
         focus
          have okD:Hid _:=okX.out.drop hkl
         rotate_left
         all_goals(
          go_wp2_with fail
          go_region_held3 (fun W=>cl W bx 0 (.int .i64 r.1)/\cl W bx 1 (.int .i64 r.2.1)/\cl W bx 2 (.int .i64 r.2.2))
           (first | exact HR.out _ hE.drew | exact HR.out _ (hE.alloc _).drew | exact HR.out _ ((hE.alloc _).alloc _).drew | exact HR.out _ (hE.trans mk3) | exact HR.out _ ((hE.trans mk3).alloc _) | exact HR.out _ (hE.trans mk4) | exact HR.out _ (hE.trans mk5))
           (first
           | (have _t:=mkB
              refine Qt (base:=X.heap.size) (rs:=[]++O.take k) (rb:=[r]) rfl (.tmp 81) (.tmp 83) rfl rfl rfl ?_ ?_ ?_ ?_ ?_
              ·exact hO3
              ·exact okR3
              ·exact mk3.size
              ·first | (simp;done) | (simp;omega)
              intro v4 w4 hO4 hg4
              have mk4:Ext X w4:=Below.grown mk3 hg4 mk3.size (fun j hj=>(RO.block hO3 j hj).1)
              clear hO3 hg4)
           | (have _t:=mkA
              refine Qt (base:=X.heap.size) (rs:=[]++O.take k) (rb:=[r]) rfl (.tmp 81) (.tmp 83) rfl rfl rfl ?_ ?_ ?_ ?_ ?_
              ·exact RO.ext hO3 ((Ext.refl w3).alloc _)
              ·exact okNew.out w3
              ·have:=mk3.size;simp;omega
              ·first | (simp;done) | (simp;omega)
              intro v4 w4 hO4 hg4
              have mk4:Ext X w4:=Below.grown (mk3.alloc _) hg4 (by have:=mk3.size;simp;omega) (fun j hj=>(RO.block hO3 j hj).1)
              clear hO3 hg4)
           | (refine Qt (W:=(X.alloc (.cells #[] 132)).drew) (base:=X.heap.size) (rs:=[]) (rb:=O.take k) rfl (.tmp 77) (.tmp 80) rfl rfl rfl ?_ ?_ ?_ ?_ ?_
              ·exact roA.out
              ·exact okT.out.ext ((Ext.refl X).alloc _).drew
              ·simp
              ·first | (simp;done) | (simp;omega)
              intro v3 w3 hO3 hg3
              have mk3:Ext X w3:=Below.grown ((Ext.refl X).alloc _).drew hg3 (by simp) (fun j hj=>(RO.block roA.out j hj).1)
              have mkA:True:=trivial
              clear hg3)
           | (refine Qt (W:=((X.alloc (.cells #[] 132)).alloc (.cells #[.int .i64 r.1,.int .i64 r.2.1,.int .i64 r.2.2] 132)).drew) (base:=X.heap.size) (rs:=[]) (rb:=O.take k) rfl (.tmp 77) (.tmp 80) rfl rfl rfl ?_ ?_ ?_ ?_ ?_
              ·exact roB.out
              ·exact okT.out.ext (((Ext.refl X).alloc _).alloc _).drew
              ·first | (simp;done) | (simp;omega)
              ·first | (simp;done) | (simp;omega)
              intro v3 w3 hO3 hg3
              have mk3:Ext X w3:=Below.grown (((Ext.refl X).alloc _).alloc _).drew hg3 (by simp;omega) (fun j hj=>(RO.block roB.out j hj).1)
              have okR3:SlOk w3 (some ⟨X.heap.size+1,0,none⟩) 1 1 [r]:=okrB.out w3 hg3
              have mkB:True:=trivial
              clear hg3)
           | (refine Qt (W:=((X.alloc (.cells #[.int .i64 r.1,.int .i64 r.2.1,.int .i64 r.2.2] 132)).alloc (.cells #[] 132)).drew) (base:=X.heap.size) (rs:=[]) (rb:=O.take k) rfl (.tmp 77) (.tmp 80) rfl rfl rfl ?_ ?_ ?_ ?_ ?_
              ·exact roC.out
              ·exact okT.out.ext (((Ext.refl X).alloc _).alloc _).drew
              ·first | (simp;done) | (simp;omega)
              ·first | (simp;done) | (simp;omega)
              intro v3 w3 hO3 hg3
              have mk3:Ext X w3:=Below.grown (((Ext.refl X).alloc _).alloc _).drew hg3 (by simp;omega) (fun j hj=>(RO.block roC.out j hj).1)
              have okR3:SlOk w3 (some ⟨X.heap.size,0,none⟩) 1 1 [r]:=okrC.out w3 hg3
              have mkB:True:=trivial
              clear hg3)
           | (have _t:=mk4
              refine Qt (base:=X.heap.size) (rs:=[]++O.take k++[r]) (rb:=O.drop k) rfl (.tmp 84) (.tmp 87) rfl rfl rfl ?_ ?_ ?_ ?_ ?_
              ·exact hO4
              ·first | exact(okD.out _).ext mk4 | exact okD.out.ext mk4
              ·exact mk4.size
              ·first | (simp;done) | (simp;omega)
              intro v5 w5 hO5 hg5
              have mk5:Ext X w5:=Below.grown mk4 hg5 mk4.size (fun j hj=>(RO.block hO4 j hj).1)
              obtain⟨ao5,c5,rfl,hat5,hnil5,hle5,hmx5⟩:=RO.form hO5
              have nw5:NwA X.heap.size ao5:=q2u hO5
              have okF:SlOk w5 ao5 ([]++O.take k++[r]++O.drop k).length c5 ([]++O.take k++[r]++O.drop k):=⟨rfl,hat5,fun h=>⟨by rw[(hnil5 h).1];rfl,(hnil5 h).2⟩⟩
              clear hO5 hg5 hat5 hnil5 hO4))
          all_goals(
           go_wp2
           go_roundg (lb - (i+1))
           case measure=>omega
           case rel=>exact⟨i+1,ao5,c5,_,by omega,by omega,by go_num,(by have hq:=HLL.out;rw[<-hq];first | done | (congr 1;omega)),hle5,by unfold maxLen at hmx5;omega,HO3,Or.inr (nw5.mono (hEW.trans (hEB2.trans hE)).size),okF,(hEB2.trans hE).trans mk5⟩))
        ·have hOe:O=[]:=List.eq_nil_of_length_eq_zero (by omega)
         subst hOe
         have hk0:k=0:=by simpa using hkl
         subst hk0
         have HO4:Hid ([]++[]++[r]++[]=dd (sst (ra++rb.take (i+1)))):=HO3.out
         have okE:Hid (∀(Y:World) (a':Addr) (c':Nat),SlOk Y (some a') 0 c' []):=fun Y a' c'=>⟨rfl,Or.inl rfl,fun h=>by cases h⟩
         have okN:Hid (∀(Y:World),SlOk Y none 0 0 []):=fun Y=>⟨rfl,Or.inl rfl,fun _=>⟨rfl,rfl⟩⟩
         cases vo
         focus
          have hv0:vc=0:=(okX.out.hnil rfl).2
          subst hv0
         all_goals(
          clear HLL HO2 HO3
          go_wp2_with fail
          go_region_held3 (fun W=>cl W bx 0 (.int .i64 r.1)/\cl W bx 1 (.int .i64 r.2.1)/\cl W bx 2 (.int .i64 r.2.2))
           (first | exact HR.out _ hE.drew | exact HR.out _ (hE.alloc _).drew | exact HR.out _ ((hE.alloc _).alloc _).drew | exact HR.out _ (hE.trans mk3) | exact HR.out _ ((hE.trans mk3).alloc _) | exact HR.out _ (hE.trans mk4) | exact HR.out _ (hE.trans mk5))
           (first
           | (have _t:=mkB
              refine Qt (base:=X.heap.size) (rs:=[]++[]) (rb:=[r]) rfl (.tmp 81) (.tmp 83) rfl rfl rfl ?_ ?_ ?_ ?_ ?_
              ·exact hO3
              ·exact okR3
              ·exact mk3.size
              ·first | (simp;done) | (simp;omega)
              intro v4 w4 hO4 hg4
              have mk4:Ext X w4:=Below.grown mk3 hg4 mk3.size (fun j hj=>(RO.block hO3 j hj).1)
              clear hO3 hg4)
           | (have _t:=mkA
              refine Qt (base:=X.heap.size) (rs:=[]++[]) (rb:=[r]) rfl (.tmp 81) (.tmp 83) rfl rfl rfl ?_ ?_ ?_ ?_ ?_
              ·exact RO.ext hO3 ((Ext.refl w3).alloc _)
              ·exact okNew.out w3
              ·have:=mk3.size;simp;omega
              ·first | (simp;done) | (simp;omega)
              intro v4 w4 hO4 hg4
              have mk4:Ext X w4:=Below.grown (mk3.alloc _) hg4 (by have:=mk3.size;simp;omega) (fun j hj=>(RO.block hO3 j hj).1)
              clear hO3 hg4)
           | (refine Qt (W:=(X.alloc (.cells #[] 132)).drew) (base:=X.heap.size) (rs:=[]) (rb:=[]) rfl (.tmp 77) (.tmp 80) rfl rfl rfl ?_ ?_ ?_ ?_ ?_
              ·exact roA.out
              ·first | with_reducible exact okN.out _ | exact okE.out _ _ _
              ·simp
              ·first | (simp;done) | (simp;omega)
              intro v3 w3 hO3 hg3
              have mk3:Ext X w3:=Below.grown ((Ext.refl X).alloc _).drew hg3 (by simp) (fun j hj=>(RO.block roA.out j hj).1)
              have mkA:True:=trivial
              clear hg3)
           | (refine Qt (W:=((X.alloc (.cells #[] 132)).alloc (.cells #[.int .i64 r.1,.int .i64 r.2.1,.int .i64 r.2.2] 132)).drew) (base:=X.heap.size) (rs:=[]) (rb:=[]) rfl (.tmp 77) (.tmp 80) rfl rfl rfl ?_ ?_ ?_ ?_ ?_
              ·exact roB.out
              ·first | with_reducible exact okN.out _ | exact okE.out _ _ _
              ·first | (simp;done) | (simp;omega)
              ·first | (simp;done) | (simp;omega)
              intro v3 w3 hO3 hg3
              have mk3:Ext X w3:=Below.grown (((Ext.refl X).alloc _).alloc _).drew hg3 (by simp;omega) (fun j hj=>(RO.block roB.out j hj).1)
              have okR3:SlOk w3 (some ⟨X.heap.size+1,0,none⟩) 1 1 [r]:=okrB.out w3 hg3
              have mkB:True:=trivial
              clear hg3)
           | (refine Qt (W:=((X.alloc (.cells #[.int .i64 r.1,.int .i64 r.2.1,.int .i64 r.2.2] 132)).alloc (.cells #[] 132)).drew) (base:=X.heap.size) (rs:=[]) (rb:=[]) rfl (.tmp 77) (.tmp 80) rfl rfl rfl ?_ ?_ ?_ ?_ ?_
              ·exact roC.out
              ·first | with_reducible exact okN.out _ | exact okE.out _ _ _
              ·first | (simp;done) | (simp;omega)
              ·first | (simp;done) | (simp;omega)
              intro v3 w3 hO3 hg3
              have mk3:Ext X w3:=Below.grown (((Ext.refl X).alloc _).alloc _).drew hg3 (by simp;omega) (fun j hj=>(RO.block roC.out j hj).1)
              have okR3:SlOk w3 (some ⟨X.heap.size,0,none⟩) 1 1 [r]:=okrC.out w3 hg3
              have mkB:True:=trivial
              clear hg3)
           | (have _t:=mk4
              refine Qt (base:=X.heap.size) (rs:=[]++[]++[r]) (rb:=[]) rfl (.tmp 84) (.tmp 87) rfl rfl rfl ?_ ?_ ?_ ?_ ?_
              ·exact hO4
              ·first | with_reducible exact okN.out _ | exact okE.out _ _ _
              ·exact mk4.size
              ·first | (simp;done) | (simp;omega)
              intro v5 w5 hO5 hg5
              have mk5:Ext X w5:=Below.grown mk4 hg5 mk4.size (fun j hj=>(RO.block hO4 j hj).1)
              obtain⟨ao5,c5,rfl,hat5,hnil5,hle5,hmx5⟩:=RO.form hO5
              have nw5:NwA X.heap.size ao5:=q2u hO5
              have okF:SlOk w5 ao5 ([]++[]++[r]++[]).length c5 ([]++[]++[r]++[]):=⟨rfl,hat5,fun h=>⟨by rw[(hnil5 h).1];rfl,(hnil5 h).2⟩⟩
              clear hO5 hg5 hat5 hnil5 hO4))
          all_goals(
           go_wp2
           go_roundg (lb - (i+1))
           case measure=>omega
           case rel=>exact⟨i+1,ao5,c5,_,by omega,by omega,by go_num,by rfl,hle5,by unfold maxLen at hmx5;omega,HO4,Or.inr (nw5.mono (hEW.trans (hEB2.trans hE)).size),okF,(hEB2.trans hE).trans mk5⟩))
   ·have hil2:i=lb:=by omega
    have i1:¬(i:Int)<(lb:Int):=by omega
    have hOz:O=dd (sst (ra++rb)):=by rw[HO.out,hil2,List.take_of_length_le (by omega)]
    have HZ:Hid _:=hOz
    clear hOz hil2
    have hEo:=hEW.trans hE
    go_wp2_with fail
    refine(Q3 vo O.length vc O _ rfl okO.Q2 (by omega)).mono ?_
    rintro e w5 ⟨he,E5⟩
    obtain⟨y,hy⟩:=Qy ((Rul.Qc O).1)
    obtain⟨yat,rfl⟩:∃yat,e=.returned (.agg #[.int .i64 y,.int .i64 yat]):=⟨_,by rw[hy];exact he⟩
    clear he
    have h1:(Rul.Qc ra).1=0:=HT.out
    by_cases h3:y=0
    ·have hadd:add ra rb=(O,0):=by unfold add;rw[if_neg (by rw[h1];simp), <-HZ.out,if_neg (by rw[<-hy,h3];simp)]
     have HA:Hid _:=hadd
     clear hadd hy h1
     subst h3
     go_wp2
     go_ret2
     rw[HA.out]
     exact⟨vo,vc,rfl,okO.ext (E5.alloc _),⟨hOc,hvx⟩,HNW.out,(hEo.trans E5).alloc _⟩
    ·have hadd:add ra rb=([],y):=by unfold add;rw[if_neg (by rw[h1];simp), <-HZ.out,if_pos (by rw[<-hy];exact h3), <-hy]
     have HA:Hid _:=hadd
     have h0':(y != 0)=true:=by simpa using h3
     clear hadd hy h3 h1
     go_wp2
     go_region
     go_wp2
     go_ret2
     rw[HA.out]
     exact⟨none,0,rfl,⟨rfl,Or.inl rfl,fun _=>⟨rfl,rfl⟩⟩,⟨Ql _,by omega⟩,Or.inr (NwA.none _),((hEo.trans E5).alloc _).drew⟩
 ·have hadd:add ra rb=([],x):=by unfold add;rw[if_pos (by rw[<-hx];exact h0), <-hx]
  have HA:Hid _:=hadd
  have h0':(x != 0)=true:=by simpa using h0
  clear hadd hx h0
  go_wp2
  go_region
  go_wp2
  go_ret2
  rw[HA.out]
  exact⟨none,0,rfl,⟨rfl,Or.inl rfl,fun _=>⟨rfl,rfl⟩⟩,⟨Ql _,by omega⟩,Or.inr (NwA.none _),(E1.alloc _).drew⟩
end Tb
end Go.Proofs.YthkpbefnkmmaiaaGreat
