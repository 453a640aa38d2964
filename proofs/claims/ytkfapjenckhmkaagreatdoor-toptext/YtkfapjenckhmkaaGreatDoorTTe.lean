/- Flows in words: texts, line by line. -/
import Derived.Lib.Split
import Derived.Lib.SplitLaws
import Derived.Lib.ItoaMem
import Derived.Lib.ItoaLen
namespace Stz
open Go.Lib
abbrev Bs:=List UInt8
structure Fl where
 fr:Int
 to:Int
 via:List Int
 nt:List Int
def tup (f:Fl):Int×Int×List Int×List Int:=(f.fr,f.to,f.via,f.nt)
theorem tup_inj {f g:Fl} (h:tup f=tup g):f=g:=by
 cases f;cases g
 simp only[tup,Prod.mk.injEq] at h
 obtain⟨h1,h2,h3,h4⟩:=h
 subst h1 h2 h3 h4
 rfl
def sameF (fs gs:List Fl):Bool:=decide (fs.map tup=gs.map tup)
theorem map_inj:∀{fs gs:List Fl},fs.map tup=gs.map tup→fs=gs
 | [],[],_=>rfl
 | [],_::_,h=>by cases h
 | _::_,[],h=>by cases h
 | f::fs,g::gs,h=>by
  simp only[List.map_cons,List.cons.injEq] at h
  rw[tup_inj h.1,map_inj h.2]
theorem sameF_true {fs gs:List Fl} (h:fs=gs):sameF fs gs=true:=decide_eq_true (by rw[h])
theorem sameF_false {fs gs:List Fl} (h:fs≠gs):sameF fs gs=false:=decide_eq_false (fun e=>h (map_inj e))
def dig (c:UInt8):Bool:=decide (48≤c.toNat∧c.toNat≤57)
def dstep (x:Nat) (c:UInt8):Nat:=10*x+(c.toNat - 48)
def dval (x:Nat) (l:Bs):Nat:=l.foldl dstep x
theorem dval_nil (x:Nat):dval x []=x:=rfl
theorem dval_cons (x:Nat) (c:UInt8) (l:Bs):dval x (c::l)=dval (dstep x c) l:=List.foldl_cons
theorem dval_snoc (c:UInt8) (l:Bs) (x:Nat):dval x (l++[c])=dstep (dval x l) c:=by unfold dval;rw[List.foldl_append];rfl
theorem dval_lt (l:Bs):∀x:Nat,l.all dig=true→dval x l<(x+1)*10 ^ l.length:=by
 induction l with
 | nil=>intro x _;rw[dval_nil,List.length_nil,Nat.pow_zero];omega
 | cons c l ih=>
  intro x h
  rw[List.all_cons,Bool.and_eq_true] at h
  have h1:48≤c.toNat∧c.toNat≤57:=of_decide_eq_true h.1
  have ih:=ih (dstep x c) h.2
  have:(dstep x c+1)*10 ^ l.length≤(10*(x+1))*10 ^ l.length:=Nat.mul_le_mul_right _ (by unfold dstep;omega)
  rw[dval_cons,List.length_cons,Nat.pow_succ]
  refine Nat.lt_of_lt_of_le ih (Nat.le_trans this (Nat.le_of_eq ?_))
  rw[Nat.mul_comm 10 (x+1),Nat.mul_assoc,Nat.mul_comm 10]
def badNum (l:Bs):Bool:=decide (l.length<1∨4<l.length∨(1<l.length∧l.head? =some 48))
def num (l:Bs):Option Int:=if badNum l=true∨l.all dig=false then none else some (dval 0 l:Nat)
def numV (l:Bs):Int:=(num l).getD 0
def hdc (c:UInt8):List Bs→List Bs
 | p::r=>(c::p)::r
 | []=>[[c]]
def sp:Bs→List Bs
 | []=>[[]]
 | c::l=>if c=44 then []::sp l else hdc c (sp l)
theorem hdc_ne (c:UInt8) (l:List Bs):hdc c l≠[]:=by cases l <;> simp[hdc]
theorem sp_ne (l:Bs):sp l≠[]:=by
 cases l with
 | nil=>simp[sp]
 | cons c l=>unfold sp;split
             ·simp
             ·exact hdc_ne _ _
theorem index_hit (l:Bs):index (44::l) [44]=0:=by simp[index]
theorem index_cons {c:UInt8} (h:c≠44) (l:Bs):index (c::l) [44]=if index l [44] == -1 then -1 else index l [44]+1:=by
 have:(44 == c)=false:=by simpa using fun e=>h e.symm
 rw[index];simp only[List.isPrefixOf,this,Bool.false_and,Bool.false_eq_true,if_false]
theorem splitK_hit (k:Nat) (l:Bs):splitK [44] 0 (k+1) (44::l)=[]::splitK [44] 0 k l:=by
 rw[splitK,index_hit];simp
theorem splitK_cons {c:UInt8} (h:c≠44) (k:Nat) (l:Bs):splitK [44] 0 k (c::l)=hdc c (splitK [44] 0 k l):=by
 cases k with
 | zero=>rfl
 | succ k=>
  have hge:=index_ge l [44]
  by_cases h0:index l [44]= -1
  ·have e1:index (c::l) [44]= -1:=by rw[index_cons h,h0];rfl
   rw[splitK,splitK,e1,h0];rfl
  ·have e0:(index l [44] == -1)=false:=by simpa using h0
   have e1:index (c::l) [44]=index l [44]+1:=by rw[index_cons h,e0];simp
   have e2:(index (c::l) [44] == -1)=false:=by rw[e1,beq_eq_false_iff_ne];omega
   rw[splitK,splitK,e2,e0,e1]
   have:(index l [44]+1).toNat=(index l [44]).toNat+1:=by omega
   rw[this]
   simp only[Bool.false_eq_true,if_false,List.length_cons,List.length_nil,Nat.add_zero,List.take_succ_cons,List.drop_succ_cons,hdc]
theorem split_sp:∀l:Bs,splitK [44] 0 (count l [44]) l=sp l
 | []=>by simp[count_one,sp,splitK]
 | c::l=>by
  have ih:=split_sp l
  by_cases h:c=44
  ·subst h
   rw[count_cons_eq,Nat.add_comm,splitK_hit,ih,sp,if_pos rfl]
  ·rw[count_cons_ne _ _ _ h,splitK_cons h,ih,sp,if_neg h]
def nums:List Bs→Option (List Int)
 | []=>some []
 | p::r=>match num p,nums r with
  | some x,some xs=>some (x::xs)
  | _,_=>none
theorem nums_cons (p:Bs) (r:List Bs):nums (p::r)=match num p,nums r with
 | some x,some xs=>some (x::xs)
 | _,_=>none:=by rw[nums]
theorem nums_none {p:Bs} (h:num p=none):∀{L:List Bs},p∈L→nums L=none
 | q::r,hm=>by
  rw[nums_cons]
  rcases List.mem_cons.1 hm with rfl | hm
  ·rw[h]
  ·rw[nums_none h hm];cases num q <;> rfl
theorem nums_snoc {p:Bs} {x:Int} (h:num p=some x):∀{L:List Bs} {xs:List Int},nums L=some xs→nums (L++[p])=some (xs++[x])
 | [],xs,hx=>by simp[nums] at hx;subst hx;simp[nums,h]
 | q::r,xs,hx=>by
  rw[nums_cons] at hx
  cases hq:num q with
  | none=>rw[hq] at hx;cases hx
  | some y=>
   cases hr:nums r with
   | none=>rw[hq,hr] at hx;cases hx
   | some ys=>
    rw[hq,hr] at hx
    cases hx
    rw[List.cons_append,nums_cons,hq,nums_snoc h hr];rfl
theorem nums_len:∀{L:List Bs} {xs:List Int},nums L=some xs→xs.length=L.length
 | [],xs,hx=>by simp[nums] at hx;subst hx;rfl
 | q::r,xs,hx=>by
  rw[nums_cons] at hx
  cases hq:num q with
  | none=>rw[hq] at hx;cases hx
  | some y=>
   cases hr:nums r with
   | none=>rw[hq,hr] at hx;cases hx
   | some ys=>
    rw[hq,hr] at hx
    cases hx
    simp[nums_len hr]
theorem hdc_mem {c:UInt8} {L:List Bs} {p:Bs} (h:p∈hdc c L):(∃q∈L,p=c::q)∨p∈L∨p=[c]:=by
 cases L with
 | nil=>simp[hdc] at h;exact Or.inr (Or.inr h)
 | cons q r=>
  simp only[hdc,List.mem_cons] at h
  rcases h with h | h
  ·exact Or.inl ⟨q,by simp,h⟩
  ·exact Or.inr (Or.inl (by simp[h]))
theorem sp_len:∀{l p:Bs},p∈sp l→p.length≤l.length
 | [],p,h=>by simp[sp] at h;simp[h]
 | c::l,p,h=>by
  rw[sp] at h
  split at h
  ·rcases List.mem_cons.1 h with rfl | h
   ·simp
   ·have:=sp_len h;simp;omega
  ·rcases hdc_mem h with⟨q,hq,rfl⟩ | h | rfl
   ·have:=sp_len hq;simp;omega
   ·have:=sp_len h;simp;omega
   ·simp
theorem sp_count:∀l:Bs,(sp l).length≤l.length+1
 | []=>by simp[sp]
 | c::l=>by
  have:=sp_count l
  rw[sp]
  split
  ·simp;omega
  ·cases hs:sp l with
   | nil=>simp[hdc]
   | cons q r=>rw[hs] at this;simp[hdc] at this ⊢;omega
def lst (there:Bool) (s:Bs):Option (List Int):=if there then nums (sp s) else some []
def wNot:Bs:=[32,110,111,116,32]
def wVia:Bs:=[32,118,105,97,32]
def c1 (l:Bs):=cut l wNot
def c2 (l:Bs):=cut (c1 l).1 wVia
def c3 (l:Bs):=cut (c2 l).1 [62]
def rl (l:Bs):Option Fl:=
 match num (c3 l).1,num (c3 l).2.1,lst (c2 l).2.2 (c2 l).2.1,lst (c1 l).2.2 (c1 l).2.1 with
 | some a,some b,some v,some n=>some ⟨a,b,v,n⟩
 | _,_,_,_=>none
def pstep (r:Bs):Option (Fl×Bs):=if(cut r [10]).2.2 then(rl (cut r [10]).1).map (·,(cut r [10]).2.1) else none
def par:Nat→Nat→Bs→Except Nat (List Fl)
 | 0,_,_=>.ok []
 | n+1,at',r=>if r=[] then .ok [] else match pstep r with
  | none=>.error at'
  | some (f,rest)=>match par n (at'+(cut r [10]).1.length+1) rest with
   | .ok l=>.ok (f::l)
   | .error p=>.error p
def pre (acc:List Fl):Except Nat (List Fl)→Except Nat (List Fl)
 | .ok l=>.ok (acc++l)
 | .error p=>.error p
def parse (s:Bs):Except Nat (List Fl):=par s.length 0 s
theorem cut_true {s sep:Bs} (h:(cut s sep).2.2=true):s=(cut s sep).1++sep++(cut s sep).2.1:=by
 unfold cut at h ⊢
 split at h
 ·rename_i h0
  rw[if_pos h0]
  rcases index_spec s sep with⟨h1,_⟩ | ⟨i,h1,h2,h3,_⟩
  ·omega
  ·rw[h1]
   simp only[Int.toNat_natCast]
   have h4:sep<+:s.drop i:=by simpa[occAt] using h3
   obtain⟨t,ht⟩:=h4
   have:s.drop (i+sep.length)=t:=by rw[←List.drop_drop, ←ht];simp
   rw[this,List.append_assoc,ht,List.take_append_drop]
 ·cases h
theorem cut_false {s sep:Bs} (h:(cut s sep).2.2=false):cut s sep=(s,[],false):=by
 unfold cut at h ⊢
 split at h
 ·cases h
 ·rename_i h0;rw[if_neg h0]
theorem cut_len (s sep:Bs):(cut s sep).1.length≤s.length:=by
 unfold cut;split
 ·simp;omega
 ·simp
theorem cut_len2 (s sep:Bs):(cut s sep).2.1.length≤s.length:=by
 unfold cut;split
 ·simp
 ·simp
end Stz
namespace Stz
def swB (s n:Int):Bool:=decide (0≤s∧s<n)
def ewl (a b n:Int) (L:List Int) (j:Nat):Int:=
 if swB (L.getD j 0) n=false then 6 else if L.getD j 0=a∨L.getD j 0=b then 8 else if L.getD j 0∈L.take j then 7 else 0
def first(e:Nat→Int) (len:Nat):Nat→Nat→Option Nat
 | 0,_=>none
 | m+1,k=>if len≤k then none else if e k≠0 then some k else first e len m (k+1)
def firstBad (e:Nat→Int) (len:Nat):Option Nat:=(List.range len).find? (fun k=>decide (e k≠0))
theorem firstBad_none {e:Nat→Int} {len:Nat} (h:∀k,k<len→e k=0):firstBad e len=none:=by
 rw[firstBad,List.find?_eq_none]
 intro x hx
 simp only[List.mem_range] at hx
 simp[h x hx]
theorem firstBad_some {e:Nat→Int} {len k:Nat} (hk:k<len) (h:∀j,j<k→e j=0) (hb:e k≠0):firstBad e len=some k:=by
 rw[firstBad,List.find?_range_eq_some]
 exact⟨by simpa using hb,by simpa using hk,fun j hj=>by simp[h j hj]⟩
def wlist (a b n:Int) (L:List Int):Int:=match firstBad (ewl a b n L) L.length with
 | some k=>ewl a b n L k
 | none=>0
def wflow (f:Fl) (n:Int):Int:=
 if swB f.fr n=false∨swB f.to n=false then 6 else if f.fr=f.to then 8 else if wlist f.fr f.to n f.via≠0 then wlist f.fr f.to n f.via
 else if wlist f.fr f.to n f.nt≠0 then wlist f.fr f.to n f.nt else if f.nt.any (fun s=>decide (s∈f.via)) then 8 else 0
def wflows (l:List Fl) (n:Int):Int×Int:=
 if 12<l.length then(5,0) else match firstBad (fun k=>wflow (l.getD k ⟨0,0,[],[]⟩) n) l.length with
  | some k=>(wflow (l.getD k ⟨0,0,[],[]⟩) n,k)
  | none=>(0,0)
theorem wlist_bad {a b n:Int} {L:List Int} {k:Nat} (hk:k<L.length) (h:∀j,j<k→ewl a b n L j=0) (hb:ewl a b n L k≠0):wlist a b n L=ewl a b n L k:=by
 rw[wlist,firstBad_some hk h hb]
theorem wlist_good {a b n:Int} {L:List Int} (h:∀j,j<L.length→ewl a b n L j=0):wlist a b n L=0:=by
 rw[wlist,firstBad_none h]
theorem ewl_zero {a b n:Int} {L:List Int} {j:Nat} (h:ewl a b n L j=0):swB (L.getD j 0) n=true∧L.getD j 0≠a∧L.getD j 0≠b∧L.getD j 0∉L.take j:=by
 unfold ewl at h
 split at h
 ·cases h
 ·rename_i h1
  split at h
  ·cases h
  ·rename_i h2
   split at h
   ·cases h
   ·rename_i h3
    exact⟨by simpa using h1,fun e=>h2 (Or.inl e),fun e=>h2 (Or.inr e),h3⟩
end Stz
namespace Stz
open Go.Lib
def txtR (L:List Int):Bs:=L.flatMap fun y=>44::itoa y
def txtL (word:Bs):List Int→Bs
 | []=>[]
 | x::r=>word++itoa x++txtR r
def lineB (f:Fl):Bs:=itoa f.fr++[62]++itoa f.to++txtL wVia f.via++txtL wNot f.nt
def lineT (f:Fl):Bs:=lineB f++[10]
def text (l:List Fl):Bs:=l.flatMap lineT
theorem txtL_one (word:Bs) (x:Int):txtL word [x]=word++itoa x:=by simp[txtL,txtR]
theorem txtL_snoc (word:Bs) (x y:Int) (r:List Int):txtL word (y::r++[x])=txtL word (y::r)++[44]++itoa x:=by simp[txtL,txtR]
theorem text_snoc (l:List Fl) (f:Fl):text (l++[f])=text l++lineT f:=by simp[text]
theorem txtR_len (L:List Int) (h:∀x∈L,(itoa x).length≤21):(txtR L).length≤L.length*22:=by
 induction L with
 | nil=>simp[txtR]
 | cons x r ih=>
  have h1:=h x (by simp)
  have h2:=ih (fun y hy=>h y (by simp[hy]))
  simp only[txtR,List.flatMap_cons,List.length_append,List.length_cons] at h2 ⊢
  omega
theorem txtL_len (word:Bs) (L:List Int) (hw:word.length≤5) (h:∀x∈L,(itoa x).length≤21):(txtL word L).length≤L.length*26:=by
 cases L with
 | nil=>simp[txtL]
 | cons x r=>
  have h1:=h x (by simp)
  have h2:=txtR_len r (fun y hy=>h y (by simp[hy]))
  simp only[txtL,List.length_append,List.length_cons]
  omega
end Stz
namespace Stz
open Go.Lib
def pres (s:Bs):Except (Int×Int) (List Fl):=if 2000<s.length then .error (4,0) else match parse s with
 | .error p=>.error (2,p)
 | .ok fs=>.ok fs
theorem pstep_inv {r:Bs} {f:Fl} {rest:Bs} (h:pstep r=some (f,rest)):∃line,r=line++[10]++rest∧rl line=some f∧(cut r [10]).1=line∧(cut r [10]).2.1=rest∧(cut r [10]).2.2=true:=by
 unfold pstep at h
 split at h
 ·rename_i ht
  cases hr:rl (cut r [10]).1 with
  | none=>rw[hr] at h;cases h
  | some g=>
   rw[hr] at h
   simp only[Option.map_some,Option.some.injEq,Prod.mk.injEq] at h
   obtain⟨rfl,rfl⟩:=h
   exact⟨_,cut_true ht,hr,rfl,rfl,ht⟩
 ·cases h
theorem idx_append (c:UInt8) (t:Bs):∀r:Bs,0≤index r [c]→index (r++t) [c]=index r [c]
 | [],h=>by simp[index] at h
 | b::l,h=>by
  have ih:=idx_append c t l
  have hge:=index_ge l [c]
  by_cases hb:c=b
  ·subst hb
   rw[List.cons_append,index,index];simp
  ·have e:(c == b)=false:=by simpa using hb
   rw[index] at h
   simp only[List.isPrefixOf,e,Bool.false_and,Bool.false_eq_true,if_false] at h
   have h0:index l [c]≠ -1:=by intro e0;rw[e0] at h;exact absurd h (by decide)
   have h1:=ih (by omega)
   rw[List.cons_append,index,index,h1]
   simp only[List.isPrefixOf,e,Bool.false_and,Bool.false_eq_true,if_false]
theorem cut_append {c:UInt8} {r:Bs} (t:Bs) (h:(cut r [c]).2.2=true):cut (r++t) [c]=((cut r [c]).1,(cut r [c]).2.1++t,true):=by
 have h0:0≤index r [c]:=by
  unfold cut at h
  split at h
  ·assumption
  ·cases h
 have h1:=idx_append c t r h0
 have h2:=index_room r [c] h0
 simp only[List.length_cons,List.length_nil] at h2
 unfold cut
 rw[h1,if_pos h0]
 simp only[h0,if_true,List.length_cons,List.length_nil]
 rw[List.take_append_of_le_length (by omega),List.drop_append_of_le_length (by omega)]
theorem pstep_append {r:Bs} {f:Fl} {rest:Bs} (t:Bs) (h:pstep r=some (f,rest)):pstep (r++t)=some (f,rest++t):=by
 obtain⟨line,_,hr,h1,h2,h3⟩:=pstep_inv h
 unfold pstep
 rw[cut_append t h3,h1,h2]
 simp[hr]
theorem par_succ (n a:Nat) (r:Bs):par (n+1) a r=if r=[] then .ok [] else match pstep r with
 | none=>.error a
 | some (f,rest)=>match par n (a+(cut r [10]).1.length+1) rest with
  | .ok l=>.ok (f::l)
  | .error p=>.error p:=rfl
theorem par_ok_inv {n a:Nat} {r:Bs} {l:List Fl} (h:par (n+1) a r=.ok l) (hr:r≠[]):∃f rest l',pstep r=some (f,rest)∧l=f::l'∧par n (a+(cut r [10]).1.length+1) rest=.ok l':=by
 rw[par_succ,if_neg hr] at h
 cases hp:pstep r with
 | none=>rw[hp] at h;cases h
 | some q=>
  obtain⟨f,rest⟩:=q
  rw[hp] at h
  simp only at h
  cases hq:par n (a+(cut r [10]).1.length+1) rest with
  | error p=>rw[hq] at h;cases h
  | ok l'=>rw[hq] at h;cases h;exact⟨f,rest,l',rfl,rfl,hq⟩
theorem pstep_lt {r:Bs} {f:Fl} {rest:Bs} (h:pstep r=some (f,rest)):rest.length<r.length:=by
 obtain⟨line,h1,_⟩:=pstep_inv h
 rw[h1];simp;omega
theorem par_two:∀(n:Nat) {a:Nat} {r t:Bs} {l b:List Fl},par n a r=.ok l→r.length≤n→(∀N a',t.length≤N→par N a' t=.ok b)→∀N a',(r++t).length≤N→par N a' (r++t)=.ok (l++b)
 | 0,a,r,t,l,b,h,hn,ht,N,a',hN=>by
  have:r=[]:=List.eq_nil_of_length_eq_zero (by omega)
  subst this
  cases h
  exact ht N a' (by simpa using hN)
 | n+1,a,r,t,l,b,h,hn,ht,N,a',hN=>by
  by_cases hr:r=[]
  ·subst hr
   rw[par_succ,if_pos rfl] at h
   cases h
   exact ht N a' (by simpa using hN)
  ·obtain⟨f,rest,l',h1,rfl,h2⟩:=par_ok_inv h hr
   have hlt:=pstep_lt h1
   have hl:r.length≠0:=fun e=>hr (List.eq_nil_of_length_eq_zero e)
   rw[List.length_append] at hN
   obtain⟨N,rfl⟩:∃M,N=M+1:=⟨N - 1,by omega⟩
   have ih:=par_two n h2 (by omega) ht N (a'+(cut (r++t) [10]).1.length+1) (by rw[List.length_append];omega)
   rw[par_succ,if_neg (by simp[hr]),pstep_append t h1]
   simp only[ih,List.cons_append]
theorem par_any {n a:Nat} {r:Bs} {l:List Fl} (h:par n a r=.ok l) (hn:r.length≤n):∀N a',r.length≤N→par N a' r=.ok l:=by
 have:=par_two n (t:=[]) (b:=[]) h hn (fun N a' _=>by cases N <;> simp[par])
 simpa using this
theorem pres_ok {s:Bs} {a:List Fl} (h:pres s=.ok a):s.length≤2000∧parse s=.ok a:=by
 unfold pres at h
 split at h
 ·cases h
 ·rename_i h0
  refine⟨by omega,?_⟩
  cases hp:parse s with
  | error p=>rw[hp] at h;cases h
  | ok fs=>rw[hp] at h;cases h;rfl
theorem pres_mk {s:Bs} {a:List Fl} (h0:s.length≤2000) (h:parse s=.ok a):pres s=.ok a:=by
 unfold pres;rw[if_neg (by omega),h]
theorem pres_append {s t:Bs} {a b:List Fl} (hs:pres s=.ok a) (ht:pres t=.ok b) (hl:s.length+t.length≤2000):pres (s++t)=.ok (a++b):=by
 obtain⟨s1,s2⟩:=pres_ok hs
 obtain⟨t1,t2⟩:=pres_ok ht
 refine pres_mk (by rw[List.length_append];exact hl) ?_
 exact par_two _ s2 (Nat.le_refl _) (par_any t2 (Nat.le_refl _)) _ _ (Nat.le_refl _)
theorem lst_len {there:Bool} {s:Bs} {xs:List Int} (h:lst there s=some xs):xs.length≤s.length+1:=by
 unfold lst at h
 split at h
 ·have h1:=nums_len h
  have h2:=sp_count s
  omega
 ·cases h;simp
theorem rl_len {l:Bs} {f:Fl} (h:rl l=some f):f.via.length≤l.length+1∧f.nt.length≤l.length+1:=by
 unfold rl at h
 split at h
 ·rename_i a b v n e1 e2 e3 e4
  cases h
  have h1:=lst_len e3
  have h2:=lst_len e4
  have k1:=cut_len2 (c1 l).1 wVia
  have k2:=cut_len2 l wNot
  have k3:=cut_len l wNot
  unfold c2 at h1
  unfold c1 at h1 h2 k1
  refine⟨?_,?_⟩
  ·show v.length≤_
   omega
  ·show n.length≤_
   omega
 ·cases h
theorem par_lens:∀(n:Nat) {a:Nat} {r:Bs} {l:List Fl},par n a r=.ok l→r.length≤n→∀f∈l,f.via.length≤r.length+1∧f.nt.length≤r.length+1
 | 0,a,r,l,h,hn=>by cases h;intro f hf;cases hf
 | n+1,a,r,l,h,hn=>by
  by_cases hr:r=[]
  ·subst hr
   rw[par_succ,if_pos rfl] at h
   cases h
   intro f hf;cases hf
  ·obtain⟨g,rest,l',h1,rfl,h2⟩:=par_ok_inv h hr
   have hlt:=pstep_lt h1
   intro f hf
   rcases List.mem_cons.1 hf with rfl | hf
   ·obtain⟨line,e1,e2,_⟩:=pstep_inv h1
    have:=rl_len e2
    have e3:=congrArg List.length e1
    simp only[List.length_append,List.length_cons,List.length_nil] at e3
    omega
   ·have:=par_lens n h2 (by omega) f hf
    omega
end Stz
