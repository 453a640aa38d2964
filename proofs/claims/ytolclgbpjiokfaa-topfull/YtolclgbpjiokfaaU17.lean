/- What the law RuleCount answers, for every net, flows and number: true; nothing that was there is changed. -/
import Derived.Test.YtolclgbpjiokfaaU07
import Derived.Test.YtolclgbpjiokfaaU11
import Derived.Test.YtolclgbpjiokfaaU09
import Derived.Test.YtolclgbpjiokfaaU16
namespace Rul
open Go.Sort
theorem swp_sm {d:Array Ru} {j x y:Nat} (hl:lt d[j+1]! d[j]! =true) (hx:x≤j) (hy:j+2≤y) (hs:y≤d.size):Sm (seg (swp d (j+1) j) x y) (seg d x y):=by
 have e:∀D:Array Ru,seg D x y=seg D x j++([D[j]!]++[D[j+1]!])++seg D (j+2) y:=fun D=>by
  rw[seg_append D hx (by omega),seg_append D (a:=j) (m:=j+2) (by omega) hy,seg_append D (a:=j) (m:=j+1) (b:=j+2) (by omega) (by omega),seg_one,seg_one];simp
 rw[e,e d,swp_right _ _ _ (by omega),swp_left _ _ _ (by omega) (by omega)]
 rw[seg_congr (d:=d) (d':=swp d (j+1) j) (a:=x) (b:=j) fun i _ _=>swp_other _ _ _ _ (by omega) (by omega),seg_congr (d:=d) (d':=swp d (j+1) j) (a:=j+2) (b:=y) fun i _ _=>swp_other _ _ _ _ (by omega) (by omega)]
 refine((Sm.refl _).app (Sm.swap fun a ha b hb=>?_)).app (Sm.refl _)
 rw[List.mem_singleton] at ha hb
 subst ha hb
 exact lt_ne_key hl
theorem insInner_sm {a x y:Nat} (hx:x≤a):∀(j:Nat) (d:Array Ru),j<y→y≤d.size→Sm (seg (insInner lt a j d) x y) (seg d x y)
 | 0,d,_,_=>Sm.refl _
 | j+1,d,hj,hs=>by
  rw[insInner]
  split
  ·rename_i h
   simp at h
   exact(insInner_sm hx j _ (by omega) (by rw[size_swp];exact hs)).trans (swp_sm h.2 (by omega) (by omega) hs)
  ·exact Sm.refl _
theorem insInner_size {a:Nat}:∀(j:Nat) (d:Array Ru),(insInner lt a j d).size=d.size
 | 0,d=>rfl
 | j+1,d=>by
  rw[insInner]
  split
  ·rw[insInner_size j,size_swp]
  ·rfl
theorem insOuter_sm {a b:Nat}:∀(g i:Nat) (d:Array Ru),b - i≤g→a≤i→b≤d.size→Sm (seg (insOuter lt a b i d) a b) (seg d a b)
 | 0,i,d,hg,_,_=>by rw[insOuter,if_neg (by omega)];exact Sm.refl _
 | g+1,i,d,hg,ha,hb=>by
  rw[insOuter]
  split
  ·exact(insOuter_sm g (i+1) _ (by omega) (by omega) (by rw[insInner_size];exact hb)).trans (insInner_sm (Nat.le_refl _) i d (by omega) hb)
  ·exact Sm.refl _
theorem ins_mrg {a b:Nat} {d:Array Ru} (hab:a≤b) (hb:b≤d.size):Mrg a b d (insertionSort lt d a b):=by
 obtain⟨h1,h2⟩:=insertionSort_holds swo d a b hab hb
 exact⟨⟨h1.1,h1.2.1⟩,h2,insOuter_sm _ _ d (Nat.le_refl _) (by omega) hb⟩
theorem dvd_step {c s a:Nat} (h1:c ∣ s) (h2:c ∣ a) (h:s<a):s+c≤a:=by
 have:=Nat.le_of_dvd (by omega) (Nat.dvd_sub h2 h1)
 omega
def Bl (c n:Nat) (d:Array Ru):Prop:=∀s,c ∣ s→SortedIn lt s (min (s+c) n) d
structure Bm (c n a:Nat) (d:Array Ru):Prop where
 at_:2*c ∣ a
 an:a≤n
 left:∀s,2*c ∣ s→s<a→SortedIn lt s (s+2*c) d
 right:∀s,c ∣ s→a≤s→SortedIn lt s (min (s+c) n) d
theorem Bl.start {c n:Nat} {d:Array Ru} (h:Bl c n d):Bm c n 0 d:=⟨Nat.dvd_zero _,Nat.zero_le _,fun s _ hs=>by omega,fun s h1 _=>h s h1⟩
theorem Bm.one {c n a:Nat} {d:Array Ru} (h:Bm c n a d) (hn:a+c≤n):SortedIn lt a (a+c) d:=by
 have:=h.right a (Nat.dvd_trans (Nat.dvd_mul_left c 2) h.at_) (Nat.le_refl _)
 rwa [Nat.min_eq_left hn] at this
theorem Bm.two {c n a:Nat} {d:Array Ru} (h:Bm c n a d):SortedIn lt (a+c) (min (a+2*c) n) d:=by
 have:=h.right (a+c) (Nat.dvd_add (Nat.dvd_trans (Nat.dvd_mul_left c 2) h.at_) (Nat.dvd_refl _)) (by omega)
 rwa [show a+c+c=a+2*c by omega] at this
theorem Bm.step {c n a:Nat} {d d':Array Ru} (h:Bm c n a d) (hn:a+2*c≤n) (m:Mrg a (a+2*c) d d'):Bm c n (a+2*c) d':=by
 refine⟨Nat.dvd_add h.at_ (Nat.dvd_refl _),hn,fun s h1 h2=>?_,fun s h1 h2=>m.1.sorted_right h2 (h.right s h1 (by omega))⟩
 by_cases e:s<a
 ·exact m.1.sorted_left (dvd_step h1 h.at_ e) (h.left s h1 e)
 ·have:s=a:=by
   by_cases e2:a<s
   ·have:=dvd_step h.at_ h1 e2;omega
   ·omega
  subst this
  exact m.2.1
theorem Bm.fin {c n a:Nat} {d d':Array Ru} (h:Bm c n a d) (hn:n<a+2*c) (m:Mrg a n d d'):Bl (2*c) n d':=fun s hs=>by
 by_cases e:s<a
 ·have:=dvd_step hs h.at_ e
  rw[Nat.min_eq_left (by have:=h.an;omega)]
  exact m.1.sorted_left this (h.left s hs e)
 ·by_cases e2:a<s
  ·have:=dvd_step h.at_ hs e2
   intro i j h1 h2 h3
   omega
  ·have:s=a:=by omega
   subst this
   rw[Nat.min_eq_right (by omega)]
   exact m.2.1
theorem Bm.fin' {c n a:Nat} {d:Array Ru} (h:Bm c n a d) (hc:0<c) (hn:n≤a+c):Bl (2*c) n d:=by
 refine h.fin (by omega) (Mrg.same ?_)
 have:=h.right a (Nat.dvd_trans (Nat.dvd_mul_left c 2) h.at_) (Nat.le_refl _)
 rwa [Nat.min_eq_right hn] at this
theorem Bl.all {c n:Nat} {d:Array Ru} (h:Bl c n d) (hn:n≤c):SortedIn lt 0 n d:=by
 have:=h 0 (Nat.dvd_zero _)
 rwa [Nat.zero_add,Nat.min_eq_right hn] at this
structure B0 (c a:Nat) (d:Array Ru):Prop where
 at_:c ∣ a
 left:∀s,c ∣ s→s<a→SortedIn lt s (s+c) d
theorem B0.start (c:Nat) (d:Array Ru):B0 c 0 d:=⟨Nat.dvd_zero _,fun s _ h=>by omega⟩
theorem B0.step {c a:Nat} {d d':Array Ru} (h:B0 c a d) (m:Mrg a (a+c) d d'):B0 c (a+c) d':=by
 refine⟨Nat.dvd_add h.at_ (Nat.dvd_refl _),fun s h1 h2=>?_⟩
 by_cases e:s<a
 ·exact m.1.sorted_left (dvd_step h1 h.at_ e) (h.left s h1 e)
 ·have:s=a:=by
   by_cases e2:a<s
   ·have:=dvd_step h.at_ h1 e2;omega
   ·omega
  subst this
  exact m.2.1
theorem B0.fin {c n a:Nat} {d d':Array Ru} (h:B0 c a d) (han:a≤n) (hn:n<a+c) (m:Mrg a n d d'):Bl c n d':=fun s hs=>by
 by_cases e:s<a
 ·have:=dvd_step hs h.at_ e
  rw[Nat.min_eq_left (by omega)]
  exact m.1.sorted_left this (h.left s hs e)
 ·by_cases e2:a<s
  ·have:=dvd_step h.at_ hs e2
   intro i j h1 h2 h3
   omega
  ·have:s=a:=by omega
   subst this
   rw[Nat.min_eq_right (by omega)]
   exact m.2.1
def ins (r:Ru) (l:List Ru):List Ru:=l.takeWhile (fun x=>!lt r x)++r::l.dropWhile (fun x=>!lt r x)
theorem drop_lt {r:Ru}:∀{l:List Ru},Srt l→∀x∈l.dropWhile (fun x=>!lt r x),lt r x=true
 | [],_,x,hx=>by simp at hx
 | a::l,h,x,hx=>by
  have h':=List.pairwise_cons.1 h
  rw[List.dropWhile_cons] at hx
  split at hx
  ·exact drop_lt h'.2 x hx
  ·rename_i hn
   simp at hn
   rcases List.mem_cons.1 hx with rfl | hx
   ·exact hn
   ·exact lt_of_lt_le hn (h'.1 x hx)
theorem take_le {r:Ru}:∀{l:List Ru},∀x∈l.takeWhile (fun x=>!lt r x),lt r x=false
 | [],x,hx=>by simp at hx
 | a::l,x,hx=>by
  rw[List.takeWhile_cons] at hx
  split at hx
  ·rename_i hn
   simp at hn
   rcases List.mem_cons.1 hx with rfl | hx
   ·exact hn
   ·exact take_le x hx
  ·simp at hx
theorem ins_ok {r:Ru} {l:List Ru} (h:Srt l):Srt (ins r l)∧Sm (ins r l) (l++[r]):=by
 have e:=List.takeWhile_append_dropWhile (p:=fun x=>!lt r x) (l:=l)
 have:=ins_back (y:=r) (X1:=l.takeWhile (fun x=>!lt r x)) (X2:=l.dropWhile (fun x=>!lt r x)) (by rw[e];exact h) take_le (drop_lt h)
 rw[e] at this
 exact this
def sst (l:List Ru):List Ru:=l.foldl (fun o r=>ins r o) []
theorem foldl_ok:∀(l o:List Ru),Srt o→Srt (l.foldl (fun o r=>ins r o) o)∧Sm (l.foldl (fun o r=>ins r o) o) (o++l)
 | [],o,h=>by simpa using⟨h,Sm.refl o⟩
 | r::l,o,h=>by
  have h1:=ins_ok (r:=r) h
  have h2:=foldl_ok l _ h1.1
  refine⟨h2.1,h2.2.trans ?_⟩
  simpa using h1.2.app (Sm.refl l)
theorem sst_ok (l:List Ru):Srt (sst l)∧Sm (sst l) l:=by have:=foldl_ok l [] List.Pairwise.nil;rwa [List.nil_append] at this
theorem ins_len (r:Ru) (l:List Ru):(ins r l).length=l.length+1:=by
 have e:=congrArg List.length (List.takeWhile_append_dropWhile (p:=fun x=>!lt r x) (l:=l))
 rw[List.length_append] at e
 rw[ins,List.length_append,List.length_cons];omega
theorem foldl_len:∀(l o:List Ru),(l.foldl (fun o r=>ins r o) o).length=o.length+l.length
 | [],o=>rfl
 | r::l,o=>by rw[List.foldl_cons,foldl_len l,ins_len,List.length_cons];omega
theorem sst_len (l:List Ru):(sst l).length=l.length:=by rw[sst,foldl_len];simp
theorem sst_of {l y:List Ru} (h:Srt y) (s:Sm y l):y=sst l:=srt_unique h (sst_ok l).1 (s.trans (sst_ok l).2.symm)
def dd:List Ru→List Ru
 | []=>[]
 | [a]=>[a]
 | a::b::l=>if a=b then dd (b::l) else a::dd (b::l)
theorem dd_mem:∀(l:List Ru) (r:Ru),r∈dd l↔r∈l
 | [],r=>Iff.rfl
 | [a],r=>Iff.rfl
 | a::b::l,r=>by
  rw[dd]
  split
  ·rename_i h;subst h;rw[dd_mem (a::l) r];simp
  ·rw[List.mem_cons,dd_mem (b::l) r,List.mem_cons (a:=r) (b:=a)]
theorem dd_len:∀(l:List Ru),(dd l).length≤l.length
 | []=>Nat.le_refl _
 | [a]=>Nat.le_refl _
 | a::b::l=>by
  rw[dd]
  split
  ·have:=dd_len (b::l);simp at this ⊢;omega
  ·have:=dd_len (b::l);simp at this ⊢;omega
theorem dd_snoc:∀(l:List Ru) (r:Ru),dd (l++[r])=if l.getLast? =some r then dd l else dd l++[r]
 | [],r=>by simp[dd]
 | [a],r=>by
  simp only[List.cons_append,List.nil_append,dd,List.getLast?_singleton,Option.some.injEq]
  split <;> simp_all
 | a::b::l,r=>by
  have ih:=dd_snoc (b::l) r
  rw[show a::b::l++[r]=a::b::(l++[r]) from rfl,dd,dd,show b::(l++[r])=(b::l)++[r] from rfl,ih,List.getLast?_cons_cons]
  by_cases e:a=b <;> by_cases e2:(b::l).getLast? =some r <;> simp[e,e2]
theorem dd_last:∀(l:List Ru),(dd l).getLast? =l.getLast?
 | []=>rfl
 | [a]=>rfl
 | a::b::l=>by
  rw[dd]
  split
  ·rename_i h;subst h;rw[dd_last (a::l),List.getLast?_cons_cons]
  ·have:=dd_last (b::l)
   rw[List.getLast?_cons_cons, ←this,List.getLast?_cons]
   cases h:(dd (b::l)).getLast? with
   | some x=>rfl
   | none=>rw[h] at this;simp[List.getLast?_cons] at this
theorem dd_pair:∀{l:List Ru},Srt l→(∀a∈l,∀b∈l,key a=key b→a=b)→(dd l).Pairwise (fun a b=>lt a b=true)
 | [],_,_=>List.Pairwise.nil
 | [a],_,_=>by simp[dd]
 | a::b::l,h,hu=>by
  have h':=List.pairwise_cons.1 h
  have ih:=dd_pair h'.2 (fun x hx y hy=>hu x (List.mem_cons_of_mem _ hx) y (List.mem_cons_of_mem _ hy))
  rw[dd]
  split
  ·exact ih
  ·rename_i hab
   refine List.pairwise_cons.2 ⟨fun x hx=>?_,ih⟩
   have hx':=(dd_mem _ _).1 hx
   have hlt:lt a b=true:=by
    cases e:lt a b with
    | true=>rfl
    | false=>exact absurd (hu a (by simp) b (by simp) (key_of_not e (h'.1 b (by simp)))) hab
   rcases List.mem_cons.1 hx' with rfl | hx'
   ·exact hlt
   ·exact lt_of_lt_le hlt ((List.pairwise_cons.1 h'.2).1 x hx')
def Ris (l:List Ru):Prop:=l.Pairwise (fun a b=>lt a b=true)
theorem Ris.srt {l:List Ru} (h:Ris l):Srt l:=List.Pairwise.imp (fun h=>lt_asymm h) h
theorem Ris.uniq:∀{l:List Ru},Ris l→∀a∈l,∀b∈l,key a=key b→a=b
 | [],_,a,ha,_,_,_=>by simp at ha
 | x::l,h,a,ha,b,hb,hk=>by
  have h':=List.pairwise_cons.1 h
  rcases List.mem_cons.1 ha with ha1 | ha1 <;> rcases List.mem_cons.1 hb with hb1 | hb1
  ·rw[ha1,hb1]
  ·subst ha1;exact absurd hk (lt_ne_key (h'.1 _ hb1))
  ·subst hb1;exact absurd hk.symm (lt_ne_key (h'.1 _ ha1))
  ·exact Ris.uniq h'.2 a ha1 b hb1 hk
theorem ris_fl:∀{l:List Ru},Ris l→∀r∈l,fl (key r) l=[r]
 | [],_,r,hr=>by simp at hr
 | x::l,h,r,hr=>by
  have h':=List.pairwise_cons.1 h
  have hno:∀y∈l,key y≠key x:=fun y hy e=>lt_ne_key (h'.1 y hy) e.symm
  rcases List.mem_cons.1 hr with rfl | hr
  ·have:fl (key r) l=[]:=List.eq_nil_iff_forall_not_mem.2 fun y hy=>hno y (mem_fl.1 hy).1 (mem_fl.1 hy).2
   simp only[fl] at this ⊢
   simp[this]
  ·have hne:key x≠key r:=fun e=>hno r hr e.symm
   have:=ris_fl h'.2 r hr
   simp only[fl] at this ⊢
   simp[hne,this]
theorem ris_eq {x y:List Ru} (hx:Ris x) (hy:Ris y) (h:∀r,r∈x↔r∈y):x=y:=by
 refine srt_unique hx.srt hy.srt fun k=>?_
 rcases e:fl k x with _ | ⟨r,l⟩
 ·symm
  refine List.eq_nil_iff_forall_not_mem.2 fun b hb=>?_
  have hb':=mem_fl.1 hb
  have:b∈fl k x:=mem_fl.2 ⟨(h b).2 hb'.1,hb'.2⟩
  rw[e] at this
  simp at this
 ·have hr:=mem_fl.1 (show r∈fl k x by rw[e];simp)
  rw[←e, ←hr.2,ris_fl hx r hr.1,ris_fl hy r ((h r).1 hr.1)]
def inR (r:Ru):Bool:=decide (1≤r.1∧r.1≤1000∧0≤r.2.1∧r.2.1<12∧0≤r.2.2∧r.2.2<8)
def wr:Nat→Option Ru→List Ru→Int×Int
 | _,_,[]=>(0,0)
 | i,p,r::l=>if inR r=false then(3,i) else if p.any (fun q=>!lt q r) then(2,i) else wr (i+1) (some r) l
def wrong (l:List Ru):Int×Int:=if 16<l.length then(10,0) else wr 0 none l
def tab (l:List Ru):Prop:=(wrong l).1=0
theorem wr_zero:∀{i:Nat} {p:Option Ru} {l:List Ru},(wr i p l).1=0→wr i p l=(0,0)∧(∀r∈l,inR r=true)∧Ris l∧∀q,p=some q→∀r∈l,lt q r=true
 | i,p,[],_=>⟨rfl,by simp,List.Pairwise.nil,by simp⟩
 | i,p,r::l,h=>by
  rw[wr] at h ⊢
  split at h
  ·simp at h
  ·rename_i h1
   split at h
   ·simp at h
   ·rename_i h2
    rw[if_neg h1,if_neg h2]
    obtain⟨a1,a2,a3,a4⟩:=wr_zero h
    have a4':=a4 r rfl
    refine⟨a1,fun x hx=>?_,List.pairwise_cons.2 ⟨a4',a3⟩,fun q hq x hx=>?_⟩
    ·rcases List.mem_cons.1 hx with rfl | hx
     ·simpa using h1
     ·exact a2 x hx
    ·subst hq
     have hqr:lt q r=true:=by simpa using h2
     rcases List.mem_cons.1 hx with rfl | hx
     ·exact hqr
     ·exact swo.trans _ _ _ hqr (a4' x hx)
theorem wr_ok:∀{i:Nat} {p:Option Ru} {l:List Ru},(∀r∈l,inR r=true)→Ris l→(∀q,p=some q→∀r∈l,lt q r=true)→wr i p l=(0,0)
 | i,p,[],_,_,_=>rfl
 | i,p,r::l,h1,h2,h3=>by
  have h2':=List.pairwise_cons.1 h2
  rw[wr,if_neg (by simp[h1 r (by simp)]),if_neg ?_]
  ·exact wr_ok (fun x hx=>h1 x (by simp[hx])) h2'.2 (fun q hq x hx=>by cases hq;exact h2'.1 x hx)
  ·cases p with
   | none=>simp
   | some q=>simp[h3 q rfl r (by simp)]
theorem tab_iff {l:List Ru}:tab l↔l.length≤16∧(∀r∈l,inR r=true)∧Ris l:=by
 unfold tab wrong
 split
 ·rename_i h;constructor
  ·intro h;simp at h
  ·intro h';omega
 ·rename_i h
  constructor
  ·intro h'
   obtain⟨_,a,b,_⟩:=wr_zero h'
   exact⟨by omega,a,b⟩
  ·intro h'
   rw[wr_ok h'.2.1 h'.2.2 (by simp)]
theorem tab_wrong {l:List Ru} (h:tab l):wrong l=(0,0):=by
 unfold tab wrong at h;unfold wrong
 split at h
 ·simp at h
 ·rename_i h2
  rw[if_neg h2]
  exact(wr_zero h).1
def add (l more:List Ru):List Ru×Int:=
 if(wrong l).1≠0 then([],(wrong l).1) else if(wrong (dd (sst (l++more)))).1≠0 then([],(wrong (dd (sst (l++more)))).1) else(dd (sst (l++more)),0)
def drp (l:List Ru) (v:Int):List Ru:=l.filter (fun r=>decide (r.1≠v))
def nxt (v f:Int):List Ru→Int×Bool
 | []=>(0,false)
 | r::l=>if r.1=v∧r.2.1=f then(r.2.2,true) else nxt v f l
theorem nxt_mem {v f:Int}:∀{l:List Ru},(nxt v f l).2=true→(v,f,(nxt v f l).1)∈l
 | [],h=>by simp[nxt] at h
 | (a,b,c)::l,h=>by
  rw[nxt] at h ⊢
  split at h
  ·rename_i e
   simp at e
   obtain⟨rfl,rfl⟩:=e
   simp
  ·rename_i e
   rw[if_neg e]
   exact List.mem_cons_of_mem _ (nxt_mem h)
theorem nxt_none {v f:Int}:∀{l:List Ru},(nxt v f l).2=false→nxt v f l=(0,false)∧∀n,(v,f,n)∉l
 | [],_=>⟨rfl,by simp⟩
 | r::l,h=>by
  rw[nxt] at h ⊢
  split at h
  ·simp at h
  ·rename_i e
   rw[if_neg e]
   obtain⟨h1,h2⟩:=nxt_none h
   refine⟨h1,fun n hn=>?_⟩
   rcases List.mem_cons.1 hn with rfl | hn
   ·exact e ⟨rfl,rfl⟩
   ·exact h2 n hn
theorem nxt_of {v f n:Int} {l:List Ru} (hu:∀a∈l,∀b∈l,key a=key b→a=b) (h:(v,f,n)∈l):nxt v f l=(n,true):=by
 cases e:(nxt v f l).2 with
 | false=>exact absurd h ((nxt_none e).2 n)
 | true=>
  have:=hu _ (nxt_mem e) _ h rfl
  injection this with _ this
  injection this with _ this
  rw[←this, ←e]
theorem nxt_same {v f:Int} {l m:List Ru} (hl:∀a∈l,∀b∈l,key a=key b→a=b) (h:∀n,(v,f,n)∈l↔(v,f,n)∈m):nxt v f l=nxt v f m:=by
 cases e:(nxt v f m).2 with
 | true=>rw[nxt_of hl ((h _).2 (nxt_mem e)), ←e]
 | false=>
  rw[(nxt_none e).1]
  cases e2:(nxt v f l).2 with
  | false=>exact(nxt_none e2).1
  | true=>exact absurd ((h _).1 (nxt_mem e2)) ((nxt_none e).2 _)
theorem add_mem {l more:List Ru} {r:Ru}:r∈dd (sst (l++more))↔r∈l∨r∈more:=by
 rw[dd_mem, ←List.mem_append]
 exact⟨(sst_ok _).2.mem,(sst_ok _).2.symm.mem⟩
theorem add_zero {l more:List Ru} (h:(add l more).2=0):tab l∧tab (add l more).1∧(add l more).1=dd (sst (l++more)):=by
 unfold add at h ⊢
 split at h
 ·rename_i h1;exact absurd h h1
 ·rename_i h1
  rw[if_neg h1]
  split at h
  ·rename_i h2;exact absurd h h2
  ·rename_i h2
   rw[if_neg h2]
   exact⟨by simpa[tab] using h1,by simpa[tab] using h2,rfl⟩
theorem add_fail {l more:List Ru} (h:(add l more).2≠0):(add l more).1=[]:=by
 unfold add at h ⊢
 split
 ·rfl
 ·rename_i h1
  rw[if_neg h1] at h
  split
  ·rfl
  ·rename_i h2
   rw[if_neg h2] at h
   exact absurd rfl h
theorem add_len {l more:List Ru}:(add l more).1.length≤l.length+more.length:=by
 by_cases h:(add l more).2=0
 ·rw[(add_zero h).2.2]
  refine Nat.le_trans (dd_len _) ?_
  rw[sst_len,List.length_append];exact Nat.le_refl _
 ·rw[add_fail h];simp
theorem add_again {l more:List Ru} (h:(add l more).2=0):add (add l more).1 more=((add l more).1,0):=by
 obtain⟨_,t2,e⟩:=add_zero h
 have hr:=tab_iff.1 t2
 have hm:∀r,r∈(add l more).1↔r∈l∨r∈more:=fun r=>by rw[e,add_mem]
 have key:dd (sst ((add l more).1++more))=(add l more).1:=by
  have hmem:∀r,r∈sst ((add l more).1++more)↔r∈(add l more).1:=fun r=>by
   rw[←dd_mem,add_mem,hm]
   constructor
   ·rintro(h | h)
    ·exact h
    ·exact Or.inr h
   ·exact Or.inl
  refine ris_eq (dd_pair (sst_ok _).1 fun a ha b hb=>hr.2.2.uniq a ((hmem a).1 ha) b ((hmem b).1 hb)) hr.2.2 fun r=>?_
  rw[dd_mem,hmem]
 have w0:(wrong (add l more).1).1=0:=t2
 rw[add,if_neg (by simp[w0]),key,if_neg (by simp[w0])]
theorem drp_mem {l:List Ru} {v:Int} {r:Ru}:r∈drp l v↔r∈l∧r.1≠v:=by simp[drp]
theorem drp_tab {l:List Ru} {v:Int} (h:tab l):tab (drp l v):=by
 obtain⟨h1,h2,h3⟩:=tab_iff.1 h
 exact tab_iff.2 ⟨Nat.le_trans (List.length_filter_le _ _) h1,fun r hr=>h2 r (drp_mem.1 hr).1,List.Pairwise.filter _ h3⟩
theorem drp_gone {l:List Ru} {v f:Int}:nxt v f (drp l v)=(0,false):=by
 cases e:(nxt v f (drp l v)).2 with
 | false=>exact(nxt_none e).1
 | true=>exact absurd rfl (drp_mem.1 (nxt_mem e)).2
theorem drp_other {l:List Ru} {v u f:Int} (h:tab l) (hv:u≠v):nxt u f (drp l v)=nxt u f l:=by
 refine nxt_same ((tab_iff.1 (drp_tab h)).2.2.uniq) fun n=>?_
 rw[drp_mem]
 exact⟨fun h=>h.1,fun h=>⟨h,hv⟩⟩
end Rul
namespace Go.Proofs.Ytolclgbpjiokfaa.Tb
open Go.RowKit Go.Maps Stw Go.Deep Rul Go.Sort
theorem nd_get {l:List Int} (h:l.Nodup) {i j:Nat} (hi:i<l.length) (hj:j<l.length) (e:l.getD i 0=l.getD j 0):i=j:=by
 have hi':l.getD i 0=l[i]:=by simp[List.getD_eq_getElem?_getD,hi]
 have hj':l.getD j 0=l[j]:=by simp[List.getD_eq_getElem?_getD,hj]
 rw[hi',hj'] at e
 have hp:=List.pairwise_iff_getElem.1 h
 rcases Nat.lt_trichotomy i j with hlt | heq | hlt
 ·exact absurd e (hp i j hi hj hlt)
 ·exact heq
 ·exact absurd e.symm (hp j i hj hi hlt)
theorem get_mem {l:List Int} {i:Nat} (hi:i<l.length):l.getD i 0∈l:=by
 have hi':l.getD i 0=l[i]:=by simp[List.getD_eq_getElem?_getD,hi]
 rw[hi'];exact List.getElem_mem hi
theorem mem_stk {v f s:Int} {path:List Int} {r:Ru}:∀{K:Nat},r∈stk v f s path K↔∃k,k<K∧path.getD k 0=s∧k+1<path.length∧r=(v,f,path.getD (k+1) 0)
 | 0=>by simp[stk]
 | K+1=>by
  rw[stk,List.mem_append,mem_stk (K:=K)]
  constructor
  ·rintro(⟨k,h1,h2⟩ | h)
   ·exact⟨k,by omega,h2⟩
   ·split at h
    ·rename_i hc
     exact⟨K,by omega,hc.1,hc.2,by simpa using h⟩
    ·simp at h
  ·rintro⟨k,h1,h2,h3,h4⟩
   by_cases e:k<K
   ·exact Or.inl ⟨k,e,h2,h3,h4⟩
   ·have:k=K:=by omega
    subst this
    exact Or.inr (by rw[if_pos ⟨h2,h3⟩];simp[h4])
theorem mem_rof {v s:Int} {ps:List (List Int)} {r:Ru}:∀{K:Nat},r∈rof v s ps K↔∃i:Nat,i<K∧∃k,k+1<(ps.getD i []).length∧(ps.getD i []).getD k 0=s∧r=(v,(i:Int),(ps.getD i []).getD (k+1) 0)
 | 0=>by simp[rof]
 | K+1=>by
  rw[rof,List.mem_append,mem_rof (K:=K),mem_stk]
  constructor
  ·rintro(⟨i,h1,h2⟩ | ⟨k,h1,h2,h3,h4⟩)
   ·exact⟨i,by omega,h2⟩
   ·exact⟨K,by omega,k,h3,h2,h4⟩
  ·rintro⟨i,h1,k,h2,h3,h4⟩
   by_cases e:i<K
   ·exact Or.inl ⟨i,e,k,h2,h3,h4⟩
   ·have:i=K:=by omega
    subst this
    exact Or.inr ⟨k,by omega,h3,h2,h4⟩
def GP (n:Nat) (ps:List (List Int)):Prop:=∀i,i<ps.length→ps.getD i []≠[]∧(ps.getD i []).Nodup∧∀x∈ps.getD i [],0≤x∧x<(n:Int)
theorem stk_one {v f s:Int} {path:List Int} (hn:path.Nodup):∀K,stk v f s path K=[]∨∃y,stk v f s path K=[(v,f,y)]
 | 0=>Or.inl rfl
 | K+1=>by
  rw[stk]
  by_cases hc:path.getD K 0=s∧K+1<path.length
  ·have h0:stk v f s path K=[]:=by
    refine List.eq_nil_iff_forall_not_mem.2 fun r hr=>?_
    obtain⟨k,h1,h2,h3,_⟩:=mem_stk.1 hr
    have:=nd_get hn (i:=k) (j:=K) (by omega) (by omega) (h2.trans hc.1.symm)
    omega
   rw[h0,if_pos hc]
   exact Or.inr ⟨_,rfl⟩
  ·rw[if_neg hc,List.append_nil]
   exact stk_one hn K
theorem rof_ris {n:Nat} {v s:Int} {ps:List (List Int)} (hg:GP n ps):∀K,K≤ps.length→Ris (rof v s ps K)
 | 0,_=>List.Pairwise.nil
 | K+1,hK=>by
  rw[rof]
  refine List.pairwise_append.2 ⟨rof_ris hg K (by omega),?_,fun a ha b hb=>?_⟩
  ·rcases stk_one (v:=v) (f:=K) (s:=s) (hg K (by omega)).2.1 (ps.getD K []).length with h | ⟨y,h⟩
   ·rw[h];exact List.Pairwise.nil
   ·rw[h];simp
  ·obtain⟨i,h1,k,_,_,rfl⟩:=mem_rof.1 ha
   obtain⟨k',_,_,_,rfl⟩:=mem_stk.1 hb
   rw[lt_true]
   exact Or.inr ⟨rfl,by simp only;omega⟩
theorem rof_short {n:Nat} {v s:Int} {ps:List (List Int)} (hg:GP n ps):∀K,K≤ps.length→(rof v s ps K).length≤K
 | 0,_=>Nat.le_refl _
 | K+1,hK=>by
  have h1:=rof_short (v:=v) (s:=s) hg K (by omega)
  rw[rof,List.length_append]
  rcases stk_one (v:=v) (f:=K) (s:=s) (hg K (by omega)).2.1 (ps.getD K []).length with h | ⟨y,h⟩ <;> rw[h] <;> simp <;> omega
theorem rof_tab {n:Nat} {v s:Int} {ps:List (List Int)} (hg:GP n ps) (hn:n≤8) (hp:ps.length≤12) (hv1:1≤v) (hv2:v≤1000):tab (rof v s ps ps.length):=by
 refine tab_iff.2 ⟨by have:=rof_short (v:=v) (s:=s) hg ps.length (Nat.le_refl _);omega,fun r hr=>?_,rof_ris hg _ (Nat.le_refl _)⟩
 obtain⟨i,h1,k,h2,_,rfl⟩:=mem_rof.1 hr
 have:=(hg i h1).2.2 _ (get_mem (i:=k+1) h2)
 simp only[inR,decide_eq_true_eq]
 omega
theorem nxt_path {n:Nat} {v:Int} {ps:List (List Int)} (hg:GP n ps) {i k:Nat} (hi:i<ps.length) (hk:k<(ps.getD i []).length):
 nxt v i (rof v ((ps.getD i []).getD k 0) ps ps.length)=if k+1<(ps.getD i []).length then((ps.getD i []).getD (k+1) 0,true) else(0,false):=by
 have hu:=(rof_ris (v:=v) (s:=(ps.getD i []).getD k 0) hg _ (Nat.le_refl _)).uniq
 by_cases hl:k+1<(ps.getD i []).length
 ·rw[if_pos hl]
  exact nxt_of hu (mem_rof.2 ⟨i,hi,k,hl,rfl,rfl⟩)
 ·rw[if_neg hl]
  cases e:(nxt v i (rof v ((ps.getD i []).getD k 0) ps ps.length)).2 with
  | false=>exact(nxt_none e).1
  | true=>
   exfalso
   obtain⟨i',h1,k',h2,h3,h4⟩:=mem_rof.1 (nxt_mem e)
   have hii:i'=i:=by
    have:=(Prod.ext_iff.1 (Prod.ext_iff.1 h4).2).1
    simp only at this
    omega
   subst hii
   have:=nd_get (hg i' hi).2.1 (i:=k') (j:=k) (by omega) hk h3
   omega
def sumS (ts:Nat→List Ru):Nat→Nat
 | 0=>0
 | s+1=>sumS ts s+(ts s).length
theorem sumS_append (a b:Nat→List Ru):∀n,sumS (fun s=>a s++b s) n=sumS a n+sumS b n
 | 0=>rfl
 | n+1=>by simp only[sumS,sumS_append a b n,List.length_append];omega
theorem sumS_ind {x:Ru} {c:Nat→Prop} [∀s,Decidable (c s)]:∀n,(∀s,c s→¬s<n)→sumS (fun s=>if c s then [x] else []) n=0
 | 0,_=>rfl
 | n+1,h=>by
  rw[sumS,sumS_ind n (fun s hs=>by have:=h s hs;omega),if_neg (fun hc=>h n hc (by omega))];rfl
theorem sumS_at {x:Ru} (t:Nat):∀n,t<n→sumS (fun s=>if s=t then [x] else []) n=1
 | 0,h=>by omega
 | n+1,h=>by
  rw[sumS]
  by_cases e:n=t
  ·subst e
   rw[sumS_ind n (fun s hs=>by omega)];simp
  ·rw[sumS_at t n (by omega),if_neg e];rfl
theorem sumS_congr {a b:Nat→List Ru}:∀n,(∀s,s<n→a s=b s)→sumS a n=sumS b n
 | 0,_=>rfl
 | n+1,h=>by rw[sumS,sumS,sumS_congr n (fun s hs=>h s (by omega)),h n (by omega)]
theorem sum_stk {n:Nat} {v f:Int} {path:List Int} (hr:∀x∈path,0≤x∧x<(n:Int)):∀K,K+1≤path.length→sumS (fun s=>stk v f s path K) n=K
 | 0,_=>by
  have:∀m,sumS (fun s=>stk v f (s:Int) path 0) m=0:=fun m=>by
   induction m with
   | zero=>rfl
   | succ m ih=>rw[sumS,ih];rfl
  exact this n
 | K+1,hK=>by
  have h1:=sum_stk hr (v:=v) (f:=f) K (by omega)
  have hx:=hr _ (get_mem (i:=K) (by omega))
  have h2:=sumS_append (fun s=>stk v f (s:Int) path K) (fun s=>if s=(path.getD K 0).toNat then [(v,f,path.getD (K+1) 0)] else []) n
  rw[h1,sumS_at _ n (by omega)] at h2
  refine Eq.trans ?_ h2
  refine sumS_congr n (fun s _=>?_)
  show stk v f s path (K+1)=stk v f s path K++_
  rw[stk]
  congr 1
  by_cases e:s=(path.getD K 0).toNat
  ·rw[if_pos e,if_pos ⟨by omega,by omega⟩]
  ·rw[if_neg e,if_neg (fun h=>e (by omega))]
def stp (ps:List (List Int)):Nat→Nat
 | 0=>0
 | k+1=>stp ps k+((ps.getD k []).length - 1)
theorem sum_rof {n:Nat} {v:Int} {ps:List (List Int)} (hg:GP n ps):∀K,K≤ps.length→sumS (fun s=>rof v s ps K) n=stp ps K
 | 0,_=>by
  have:∀m,sumS (fun s=>rof v (s:Int) ps 0) m=0:=fun m=>by
   induction m with
   | zero=>rfl
   | succ m ih=>rw[sumS,ih];rfl
  exact this n
 | K+1,hK=>by
  obtain⟨hne,_,hr⟩:=hg K (by omega)
  have h2:=sumS_append (fun s=>rof v (s:Int) ps K) (fun s=>stk v K (s:Int) (ps.getD K []) (ps.getD K []).length) n
  have hl:0<(ps.getD K []).length:=List.length_pos_iff.2 hne
  obtain⟨L,hL⟩:∃L,(ps.getD K []).length=L+1:=⟨(ps.getD K []).length - 1,by omega⟩
  have h3:=sum_stk (v:=v) (f:=K) hr L (by omega)
  have h4:sumS (fun s=>stk v K (s:Int) (ps.getD K []) (ps.getD K []).length) n=L:=by
   rw[←h3]
   refine sumS_congr n (fun s _=>?_)
   rw[hL,stk_last (by omega)]
  rw[stp, ←sum_rof hg K (by omega) (v:=v),show(ps.getD K []).length - 1=L by omega, ←h4]
  exact h2
end Go.Proofs.Ytolclgbpjiokfaa.Tb
namespace Go.Proofs.Ytolclgbpjiokfaa.Tb
open Go.RowKit Go.Maps Stw Go.Deep Rul Go.Sort Stp
theorem PthsAt.ps {w:World} {qo:Option Addr} {ps:List (List Int)} (h:PthsAt w qo ps):PsAt w qo ps:=by
 rcases h with h | ⟨g,off,h1,h2,h3⟩
 ·exact Or.inl h
 ·refine Or.inr ⟨g,off,h1,h2,fun k hk=>?_⟩
  obtain⟨v,k1,k2⟩:=h3 k hk
  obtain⟨o,c,rfl,k3,_⟩:=k2
  exact⟨o,c,k1,k3⟩
theorem fb_none {e:Nat→Int} {len:Nat} (h:Stf.firstBad e len=none):∀k,k<len→e k=0:=fun k hk=>by
 rw[Stf.firstBad,List.find?_eq_none] at h
 simpa using h k (List.mem_range.2 hk)
theorem fb_some {e:Nat→Int} {len k:Nat} (h:Stf.firstBad e len=some k):e k≠0:=by
 rw[Stf.firstBad] at h
 simpa using List.find?_some h
structure GoodPlan (n version:Int) (ls:List Lk) (fs:List Stf.Fl):Prop where
 n0:0≤n
 n8:n≤8
 v1:1≤version
 v2:version≤1000
 len:(plnP n ls fs).length=fs.length
 few:fs.length≤12
 gp:GP n.toNat (plnP n ls fs)
 short:∀i,((plnP n ls fs).getD i []).length≤8
 head:∀i,i<fs.length→((plnP n ls fs).getD i []).getD 0 0=(fs.getD i Fw.f0).fr
theorem plan_good {n version:Int} {ls:List Lk} {fs:List Stf.Fl} (h:(plnF n version ls fs).1=0):GoodPlan n version ls fs:=by
 have hw:(Stw.wrong n ls).1=0:=by
  by_cases e:(Stw.wrong n ls).1=0
  ·exact e
  ·rw[plnF_wrong e] at h;exact absurd h e
 have hr:=right_of hw
 have hv:¬(version<1∨1000<version):=fun e=>by rw[plnF_range hw e] at h;simp at h
 have hf:(Stf.wflows fs n).1=0:=by
  by_cases e:(Stf.wflows fs n).1=0
  ·exact e
  ·rw[plnF_flows hw hv e] at h;exact absurd h e
 have hall:∀k,k<fs.length→(fnd n ls (fs.getD k Fw.f0)).1=0:=by
  intro k hk
  unfold plnF at h
  rw[if_neg (by simp[hw]),if_neg hv,if_neg (by simp[hf])] at h
  cases e:Stf.firstBad (fun k=>(fnd n ls (fs.getD k Fw.f0)).1) fs.length with
  | none=>exact fb_none e k hk
  | some j=>
   rw[e] at h
   exact absurd h (fb_some (e:=fun k=>(fnd n ls (fs.getD k Fw.f0)).1) e)
 have hb:=hr.bounds
 have hget:∀i,i<fs.length→(plnP n ls fs).getD i []=(fnd n ls (fs.getD i Fw.f0)).2:=fun i hi=>by
  simp[plnP,List.getD_eq_getElem?_getD,hi]
 have hbest:∀i,i<fs.length→pathB n ls ((plnP n ls fs).getD i [])=true∧Pth (cost ls) (fs.getD i Fw.f0).fr (fs.getD i Fw.f0).to ((plnP n ls fs).getD i []):=fun i hi=>by
  rw[hget i hi]
  rcases fnd_cases (n:=n) (ls:=ls) (f:=fs.getD i Fw.f0) with h1 | h1 | ⟨_,hr',hF,hbst⟩
  ·exact absurd (hall i hi) h1.1
  ·have:=hall i hi;omega
  ·exact⟨hbst.1.toPth.path hr' hF.fr,hbst.1.toPth⟩
 have hlen:(plnP n ls fs).length=fs.length:=by simp[plnP]
 refine⟨by omega,by omega,by omega,by omega,hlen,wflows_len hf,fun i hi=>?_,fun i=>?_,fun i hi=>?_⟩
 ·obtain⟨hp,_⟩:=hbest i (by omega)
  obtain⟨p1,p2,p3,_⟩:=(pathB_iff hr).1 hp
  exact⟨p1,p3,fun x hx=>by have:=p2 x hx;omega⟩
 ·by_cases hi:i<fs.length
  ·exact pth_len (hbest i hi).2
  ·have:(plnP n ls fs).getD i []=[]:=by simp[List.getD_eq_getElem?_getD,List.getElem?_eq_none (show(plnP n ls fs).length≤i by omega)]
   rw[this];simp
 ·obtain⟨r,hr1⟩:=(hbest i hi).2.head
  rw[hr1];rfl
theorem tot_le {ps:List (List Int)} (h:∀i,(ps.getD i []).length≤8):∀K,tot ps K≤8*K
 | 0=>Nat.le_refl _
 | K+1=>by have:=tot_le h K;have:=h K;rw[tot];omega
end Go.Proofs.Ytolclgbpjiokfaa.Tb
