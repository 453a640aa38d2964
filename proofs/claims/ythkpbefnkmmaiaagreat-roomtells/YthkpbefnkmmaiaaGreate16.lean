import Derived.Test.YthkpbefnkmmaiaaGreate10
namespace Go.Proofs.YthkpbefnkmmaiaaGreat
open Go.Proofs.Tryz
section
open Go.RowKit Go.Maps Stw Go.Deep Stp
theorem scan_ne{f:Nat->Int}{c:Int}(hc:c≠0)(h:∀i,f i≠c):∀(m k:Nat),(scan f m k).1≠c
 | 0,_=>by simp only[scan];exact fun e=>hc e.symm
 | m+1,k=>by
  unfold scan
  split
  ·exact scan_ne hc h m (k+1)
  ·exact h k
variable {a b:Int}
theorem wlink_ne{n c:Int}:Zc n a b c≠9:=by
 unfold Zc
 repeat' split
 all_goals omega
variable {ls:List Lk}
theorem ewl_ne{n:Int}{k:Nat}:ewl n ls k≠9:=by
 unfold ewl
 split
 ·split <;> omega
 ·exact wlink_ne
theorem wrong_ne{n:Int}:(Qc n ls).1≠9:=by
 unfold Qc
 split
 ·simp
 ·exact scan_ne (by omega) (fun i=>ewl_ne) _ _
theorem wlist_ne{n:Int}{L:List Int}:Stf.Zx a b n L≠9:=by
 unfold Stf.Zx
 split
 ·unfold Stf.ewl
  repeat' split
  all_goals omega
 ·omega
variable {f:Stf.Fl}
theorem wflow_ne{n:Int}:Stf.Q6 f n≠9:=by
 unfold Stf.Q6
 repeat' split
 all_goals first | omega | exact wlist_ne
theorem fnd_cases{n:Int}:((fnd n ls f).1≠0/\(fnd n ls f).1≠9/\(fnd n ls f).2=[])\/((fnd n ls f).1=9/\(fnd n ls f).2=[]/\q1z n ls/\RightF n f/\∀q,¬Srv (cost ls) f.fr f.to f.via f.nt q)\/
 ((fnd n ls f).1=0/\q1z n ls/\RightF n f/\z6a (cost ls) f.fr f.to f.via f.nt (fnd n ls f).2 (pc (cost ls) (fnd n ls f).2)):=by
 unfold fnd
 by_cases hw:(Qc n ls).1=0
 ·have hr:=Zo hw
  have hb:=hr.bounds
  rw[if_neg (by simp[hw])]
  by_cases hf:Stf.Q6 f n=0
  ·rw[if_neg (by simp[hf])]
   have hF:=q5g hf
   have hC:∀x y,0<=cost ls x y:=fun x y=>(hr.cost x y).1
   have hfr:0<=f.fr/\f.fr<8:=by have:=hF.fr;omega
   have hnf:¬f.fr∈f.nt:=fun h=>(hF.nt _ h).2.2.1 rfl
   cases hfi:find (cost ls) f.fr f.to f.via f.nt with
   | none=>exact Or.inr (Or.inl ⟨rfl,rfl,hr,hF,z5a hC hfr hnf hfi⟩)
   | some y=>
    obtain⟨p,c⟩:=y
    have hbest:=q8p hC hfr hnf hfi
    refine Or.inr (Or.inr ⟨rfl,hr,hF,?_⟩)
    have:=hbest.2.1
    rw[<-this]
    exact hbest
  ·rw[if_pos hf]
   exact Or.inl ⟨hf,wflow_ne,rfl⟩
 ·rw[if_pos hw]
  exact Or.inl ⟨hw,wrong_ne,rfl⟩
end
end Go.Proofs.YthkpbefnkmmaiaaGreat
namespace Rul
open Go.Sort
variable {d:Array Ru}
theorem swp_sm{j x y:Nat}(hl:lt d[j+1]! d[j]! =true)(hx:x<=j)(hy:j+2<=y)(hs:y<=d.size):Sm (seg (swp d (j+1) j) x y) (seg d x y):=by
 have e:∀D:Array Ru,seg D x y=seg D x j++([D[j]!]++[D[j+1]!])++seg D (j+2) y:=fun D=>by
  rw[Qu D hx (by omega),Qu D (a:=j) (m:=j+2) (by omega) hy,Qu D (a:=j) (m:=j+1) (b:=j+2) (by omega) (by omega),q6d,q6d];simp
 rw[e,e d,swp_right _ _ _ (by omega),swp_left _ _ _ (by omega) (by omega)]
 rw[q2i (d:=d) (d':=swp d (j+1) j) (a:=x) (b:=j) fun i _ _=>swp_other _ _ _ _ (by omega) (by omega),q2i (d:=d) (d':=swp d (j+1) j) (a:=j+2) (b:=y) fun i _ _=>swp_other _ _ _ _ (by omega) (by omega)]
 refine((Sm.refl _).app (Sm.swap fun a ha b hb=>?_)).app (Sm.refl _)
 rw[List.mem_singleton] at ha hb
 subst ha hb
 exact q1v hl
theorem q8j{a x y:Nat}(hx:x<=a):∀(j:Nat) (d:Array Ru),j<y->y<=d.size->Sm (seg (insInner lt a j d) x y) (seg d x y)
 | 0,d,_,_=>Sm.refl _
 | j+1,d,hj,hs=>by
  rw[insInner]
  split
  ·rename_i h
   simp at h
   exact(q8j hx j _ (by omega) (by rw[size_swp];exact hs)).trans (swp_sm h.2 (by omega) (by omega) hs)
  ·exact Sm.refl _
theorem q5l{a:Nat}:∀(j:Nat) (d:Array Ru),(insInner lt a j d).size=d.size
 | 0,d=>rfl
 | j+1,d=>by
  rw[insInner]
  split
  ·rw[q5l j,size_swp]
  ·rfl
theorem q8i{a b:Nat}:∀(g i:Nat) (d:Array Ru),b - i<=g->a<=i->b<=d.size->Sm (seg (insOuter lt a b i d) a b) (seg d a b)
 | 0,i,d,hg,_,_=>by rw[insOuter,if_neg (by omega)];exact Sm.refl _
 | g+1,i,d,hg,ha,hb=>by
  rw[insOuter]
  split
  ·exact(q8i g (i+1) _ (by omega) (by omega) (by rw[q5l];exact hb)).trans (q8j (Ql _) i d (by omega) hb)
  ·exact Sm.refl _
variable {a:Nat}
theorem ins_mrg{b:Nat}(hab:a<=b)(hb:b<=d.size):Mrg a b d (insertionSort lt d a b):=by
 obtain⟨h1,h2⟩:=insertionSort_holds swo d a b hab hb
 exact⟨⟨h1.1,h1.2.1⟩,h2,q8i _ _ d (Ql _) (by omega) hb⟩
variable {c:Nat}
theorem q2e{s:Nat}(h1:c ∣ s)(h2:c ∣ a)(h:s<a):s+c<=a:=by
 have:=Nat.le_of_dvd (by omega) (Nat.dvd_sub h2 h1)
 omega
def Bl (c n:Nat) (d:Array Ru):Prop:=∀s,c ∣ s->SortedIn lt s (min (s+c) n) d
structure Bm (c n a:Nat) (d:Array Ru):Prop where
 at_:2*c ∣ a
 an:a<=n
 left:∀s,2*c ∣ s->s<a->SortedIn lt s (s+2*c) d
 right:∀s,c ∣ s->a<=s->SortedIn lt s (min (s+c) n) d
theorem Bl.start{n:Nat}(h:Bl c n d):Bm c n 0 d:=⟨Nat.dvd_zero _,Zu _,fun s _ hs=>by omega,fun s h1 _=>h s h1⟩
theorem Bm.one{n:Nat}(h:Bm c n a d)(hn:a+c<=n):SortedIn lt a (a+c) d:=by
 have:=h.right a (Nat.dvd_trans (Nat.dvd_mul_left c 2) h.at_) (Ql _)
 rwa [Nat.min_eq_left hn] at this
theorem Bm.two{n:Nat}(h:Bm c n a d):SortedIn lt (a+c) (min (a+2*c) n) d:=by
 have:=h.right (a+c) (Nat.dvd_add (Nat.dvd_trans (Nat.dvd_mul_left c 2) h.at_) (Nat.dvd_refl _)) (by omega)
 rwa [show a+c+c=a+2*c by omega] at this
variable {d':Array Ru}
theorem Bm.step{n:Nat}(h:Bm c n a d)(hn:a+2*c<=n)(m:Mrg a (a+2*c) d d'):Bm c n (a+2*c) d':=by
 refine⟨Nat.dvd_add h.at_ (Nat.dvd_refl _),hn,fun s h1 h2=>?_,fun s h1 h2=>m.1.q2a h2 (h.right s h1 (by omega))⟩
 by_cases e:s<a
 ·exact m.1.q1s (q2e h1 h.at_ e) (h.left s h1 e)
 ·have:s=a:=by
   by_cases e2:a<s
   ·have:=q2e h.at_ h1 e2;omega
   ·omega
  subst this
  exact m.2.1
theorem Bm.fin{n:Nat}(h:Bm c n a d)(hn:n<a+2*c)(m:Mrg a n d d'):Bl (2*c) n d':=fun s hs=>by
 by_cases e:s<a
 ·have:=q2e hs h.at_ e
  rw[Nat.min_eq_left (by have:=h.an;omega)]
  exact m.1.q1s this (h.left s hs e)
 ·by_cases e2:a<s
  ·have:=q2e h.at_ hs e2
   intro i j h1 h2 h3
   omega
  ·have:s=a:=by omega
   subst this
   rw[Nat.min_eq_right (by omega)]
   exact m.2.1
theorem Bm.fin'{n:Nat}(h:Bm c n a d)(hc:0<c)(hn:n<=a+c):Bl (2*c) n d:=by
 refine h.fin (by omega) (Mrg.same ?_)
 have:=h.right a (Nat.dvd_trans (Nat.dvd_mul_left c 2) h.at_) (Ql _)
 rwa [Nat.min_eq_right hn] at this
theorem Bl.all{n:Nat}(h:Bl c n d)(hn:n<=c):SortedIn lt 0 n d:=by
 have:=h 0 (Nat.dvd_zero _)
 rwa [Nat.zero_add,Nat.min_eq_right hn] at this
structure B0 (c a:Nat) (d:Array Ru):Prop where
 at_:c ∣ a
 left:∀s,c ∣ s->s<a->SortedIn lt s (s+c) d
theorem B0.start(c:Nat)(d:Array Ru):B0 c 0 d:=⟨Nat.dvd_zero _,fun s _ h=>by omega⟩
theorem B0.step(h:B0 c a d)(m:Mrg a (a+c) d d'):B0 c (a+c) d':=by
 refine⟨Nat.dvd_add h.at_ (Nat.dvd_refl _),fun s h1 h2=>?_⟩
 by_cases e:s<a
 ·exact m.1.q1s (q2e h1 h.at_ e) (h.left s h1 e)
 ·have:s=a:=by
   by_cases e2:a<s
   ·have:=q2e h.at_ h1 e2;omega
   ·omega
  subst this
  exact m.2.1
theorem B0.fin{n:Nat}(h:B0 c a d)(han:a<=n)(hn:n<a+c)(m:Mrg a n d d'):Bl c n d':=fun s hs=>by
 by_cases e:s<a
 ·have:=q2e hs h.at_ e
  rw[Nat.min_eq_left (by omega)]
  exact m.1.q1s this (h.left s hs e)
 ·by_cases e2:a<s
  ·have:=q2e h.at_ hs e2
   intro i j h1 h2 h3
   omega
  ·have:s=a:=by omega
   subst this
   rw[Nat.min_eq_right (by omega)]
   exact m.2.1
def ins (r:Ru) (l:List Ru):List Ru:=l.takeWhile (fun x=>!lt r x)++r::l.dropWhile (fun x=>!lt r x)
theorem z7q{r:Ru}:∀{l:List Ru},Srt l->∀x∈l.dropWhile (fun x=>!lt r x),lt r x=true
 | [],_,x,hx=>by simp at hx
 | a::l,h,x,hx=>by
  have h':=List.pairwise_cons.1 h
  rw[List.dropWhile_cons] at hx
  split at hx
  ·exact z7q h'.2 x hx
  ·rename_i hn
   simp at hn
   rcases List.mem_cons.1 hx with rfl | hx
   ·exact hn
   ·exact q2w hn (h'.1 x hx)
theorem z6f{r:Ru}:∀{l:List Ru},∀x∈l.takeWhile (fun x=>!lt r x),lt r x=false
 | [],x,hx=>by simp at hx
 | a::l,x,hx=>by
  rw[List.takeWhile_cons] at hx
  split at hx
  ·rename_i hn
   simp at hn
   rcases List.mem_cons.1 hx with rfl | hx
   ·exact hn
   ·exact z6f x hx
  ·simp at hx
variable {l:List Ru} {r:Ru}
theorem ins_ok(h:Srt l):Srt (ins r l)/\Sm (ins r l) (l++[r]):=by
 have e:=List.takeWhile_append_dropWhile (p:=fun x=>!lt r x) (l:=l)
 have:=ins_back (y:=r) (X1:=l.takeWhile (fun x=>!lt r x)) (X2:=l.dropWhile (fun x=>!lt r x)) (by rw[e];exact h) z6f (z7q h)
 rw[e] at this
 exact this
def sst (l:List Ru):List Ru:=l.foldl (fun o r=>ins r o) []
theorem foldl_ok:∀(l o:List Ru),Srt o->Srt (l.foldl (fun o r=>ins r o) o)/\Sm (l.foldl (fun o r=>ins r o) o) (o++l)
 | [],o,h=>by simpa using⟨h,Sm.refl o⟩
 | r::l,o,h=>by
  have h1:=ins_ok (r:=r) h
  have h2:=foldl_ok l _ h1.1
  refine⟨h2.1,h2.2.trans ?_⟩
  simpa using h1.2.app (Sm.refl l)
theorem q6r(l:List Ru):Srt (sst l)/\Sm (sst l) l:=by have:=foldl_ok l [] List.Pairwise.nil;rwa [List.nil_append] at this
theorem ins_len(r:Ru)(l:List Ru):(ins r l).length=l.length+1:=by
 have e:=congrArg List.length (List.takeWhile_append_dropWhile (p:=fun x=>!lt r x) (l:=l))
 rw[lap] at e
 rw[ins,lap,List.length_cons];omega
theorem z4y:∀(l o:List Ru),(l.foldl (fun o r=>ins r o) o).length=o.length+l.length
 | [],o=>rfl
 | r::l,o=>by rw[List.foldl_cons,z4y l,ins_len,List.length_cons];omega
theorem q6b(l:List Ru):(sst l).length=l.length:=by rw[sst,z4y];simp
variable {y:List Ru}
theorem sst_of(h:Srt y)(s:Sm y l):y=sst l:=q6c h (q6r l).1 (s.trans (q6r l).2.symm)
def dd:List Ru->List Ru
 | []=>[]
 | [a]=>[a]
 | a::b::l=>if a=b then dd (b::l) else a::dd (b::l)
theorem z5e:∀(l:List Ru) (r:Ru),r∈dd l↔r∈l
 | [],r=>Iff.rfl
 | [a],r=>Iff.rfl
 | a::b::l,r=>by
  rw[dd]
  split
  ·rename_i h;subst h;rw[z5e (a::l) r];simp
  ·rw[List.mem_cons,z5e (b::l) r,List.mem_cons (a:=r) (b:=a)]
theorem z5f:∀(l:List Ru),(dd l).length<=l.length
 | []=>Ql _
 | [a]=>Ql _
 | a::b::l=>by
  rw[dd]
  split
  ·have:=z5f (b::l);simp at this ⊢;omega
  ·have:=z5f (b::l);simp at this ⊢;omega
theorem z7r:∀(l:List Ru) (r:Ru),dd (l++[r])=if l.getLast? =some r then dd l else dd l++[r]
 | [],r=>by simp[dd]
 | [a],r=>by
  simp only[List.cons_append,List.nil_append,dd,List.getLast?_singleton,Option.some.injEq]
  split <;> simp_all
 | a::b::l,r=>by
  have ih:=z7r (b::l) r
  rw[show a::b::l++[r]=a::b::(l++[r]) from rfl,dd,dd,show b::(l++[r])=(b::l)++[r] from rfl,ih,List.getLast?_cons_cons]
  by_cases e:a=b <;> by_cases e2:(b::l).getLast? =some r <;> simp[e,e2]
theorem z7s:∀(l:List Ru),(dd l).getLast? =l.getLast?
 | []=>rfl
 | [a]=>rfl
 | a::b::l=>by
  rw[dd]
  split
  ·rename_i h;subst h;rw[z7s (a::l),List.getLast?_cons_cons]
  ·have:=z7s (b::l)
   rw[List.getLast?_cons_cons, <-this,List.getLast?_cons]
   cases h:(dd (b::l)).getLast? with
   | some x=>rfl
   | none=>rw[h] at this;simp[List.getLast?_cons] at this
theorem dd_pair:∀{l:List Ru},Srt l->(∀a∈l,∀b∈l,key a=key b->a=b)->(dd l).Pairwise (fun a b=>lt a b=true)
 | [],_,_=>List.Pairwise.nil
 | [a],_,_=>by simp[dd]
 | a::b::l,h,hu=>by
  have h':=List.pairwise_cons.1 h
  have ih:=dd_pair h'.2 (fun x hx y hy=>hu x (List.mem_cons_of_mem _ hx) y (List.mem_cons_of_mem _ hy))
  rw[dd]
  split
  ·exact ih
  ·rename_i hab
   refine List.pairwise_cons.2 ⟨fun x hx=>?_,ih⟩
   have hx':=(z5e _ _).1 hx
   have hlt:lt a b=true:=by
    cases e:lt a b with
    | true=>rfl
    | false=>exact absurd (hu a (by simp) b (by simp) (z0b e (h'.1 b (by simp)))) hab
   rcases List.mem_cons.1 hx' with rfl | hx'
   ·exact hlt
   ·exact q2w hlt ((List.pairwise_cons.1 h'.2).1 x hx')
def Ris (l:List Ru):Prop:=l.Pairwise (fun a b=>lt a b=true)
theorem Ris.srt(h:Ris l):Srt l:=List.Pairwise.imp (fun h=>lt_asymm h) h
theorem Ris.uniq:∀{l:List Ru},Ris l->∀a∈l,∀b∈l,key a=key b->a=b
 | [],_,a,ha,_,_,_=>by simp at ha
 | x::l,h,a,ha,b,hb,hk=>by
  have h':=List.pairwise_cons.1 h
  rcases List.mem_cons.1 ha with ha1 | ha1 <;> rcases List.mem_cons.1 hb with hb1 | hb1
  ·rw[ha1,hb1]
  ·subst ha1;exact absurd hk (q1v (h'.1 _ hb1))
  ·subst hb1;exact absurd hk.symm (q1v (h'.1 _ ha1))
  ·exact Ris.uniq h'.2 a ha1 b hb1 hk
theorem ris_fl:∀{l:List Ru},Ris l->∀r∈l,fl (key r) l=[r]
 | [],_,r,hr=>by simp at hr
 | x::l,h,r,hr=>by
  have h':=List.pairwise_cons.1 h
  have hno:∀y∈l,key y≠key x:=fun y hy e=>q1v (h'.1 y hy) e.symm
  rcases List.mem_cons.1 hr with rfl | hr
  ·have:fl (key r) l=[]:=List.eq_nil_iff_forall_not_mem.2 fun y hy=>hno y (q3p.1 hy).1 (q3p.1 hy).2
   simp only[fl] at this ⊢
   simp[this]
  ·have hne:key x≠key r:=fun e=>hno r hr e.symm
   have:=ris_fl h'.2 r hr
   simp only[fl] at this ⊢
   simp[hne,this]
theorem ris_eq{x:List Ru}(hx:Ris x)(hy:Ris y)(h:∀r,r∈x↔r∈y):x=y:=by
 refine q6c hx.srt hy.srt fun k=>?_
 rcases e:fl k x with _ | ⟨r,l⟩
 ·symm
  refine List.eq_nil_iff_forall_not_mem.2 fun b hb=>?_
  have hb':=q3p.1 hb
  have:b∈fl k x:=q3p.2 ⟨(h b).2 hb'.1,hb'.2⟩
  rw[e] at this
  simp at this
 ·have hr:=q3p.1 (show r∈fl k x by rw[e];simp)
  rw[<-e, <-hr.2,ris_fl hx r hr.1,ris_fl hy r ((h r).1 hr.1)]
def inR (r:Ru):Bool:=decide (1<=r.1/\r.1<=1000/\0<=r.2.1/\r.2.1<12/\0<=r.2.2/\r.2.2<8)
def wr:Nat->Option Ru->List Ru->Int×Int
 | _,_,[]=>(0,0)
 | i,p,r::l=>if inR r=false then(3,i) else if p.any (fun q=>!lt q r) then(2,i) else wr (i+1) (some r) l
def Qc (l:List Ru):Int×Int:=if 16<l.length then(10,0) else wr 0 none l
def tab (l:List Ru):Prop:=(Qc l).1=0
theorem wr_zero:∀{i:Nat} {p:Option Ru} {l:List Ru},(wr i p l).1=0->wr i p l=(0,0)/\(∀r∈l,inR r=true)/\Ris l/\∀q,p=some q->∀r∈l,lt q r=true
 | i,p,[],_=>⟨rfl,by simp,List.Pairwise.nil,by simp⟩
 | i,p,r::l,h=>by
  rw[wr] at h ⊢
  split at h
  ·simp at h
  ·rename_i h1
   split at h
   ·simp at h
   ·rename_i h2
    rw[if_neg h1,if_neg h2]
    obtain⟨a1,a2,a3,a4⟩:=wr_zero h
    have a4':=a4 r rfl
    refine⟨a1,fun x hx=>?_,List.pairwise_cons.2 ⟨a4',a3⟩,fun q hq x hx=>?_⟩
    ·rcases List.mem_cons.1 hx with rfl | hx
     ·simpa using h1
     ·exact a2 x hx
    ·subst hq
     have hqr:lt q r=true:=by simpa using h2
     rcases List.mem_cons.1 hx with rfl | hx
     ·exact hqr
     ·exact swo.trans _ _ _ hqr (a4' x hx)
theorem wr_ok:∀{i:Nat} {p:Option Ru} {l:List Ru},(∀r∈l,inR r=true)->Ris l->(∀q,p=some q->∀r∈l,lt q r=true)->wr i p l=(0,0)
 | i,p,[],_,_,_=>rfl
 | i,p,r::l,h1,h2,h3=>by
  have h2':=List.pairwise_cons.1 h2
  rw[wr,if_neg (by simp[h1 r (by simp)]),if_neg ?_]
  ·exact wr_ok (fun x hx=>h1 x (by simp[hx])) h2'.2 (fun q hq x hx=>by cases hq;exact h2'.1 x hx)
  ·cases p with
   | none=>simp
   | some q=>simp[h3 q rfl r (by simp)]
theorem q0j{l:List Ru}:tab l↔l.length<=16/\(∀r∈l,inR r=true)/\Ris l:=by
 unfold tab Qc
 split
 ·rename_i h;constructor
  ·intro h;simp at h
  ·intro h';omega
 ·rename_i h
  constructor
  ·intro h'
   obtain⟨_,a,b,_⟩:=wr_zero h'
   exact⟨by omega,a,b⟩
  ·intro h'
   rw[wr_ok h'.2.1 h'.2.2 (by simp)]
def add (l more:List Ru):List Ru×Int:=
 if(Qc l).1≠0 then([],(Qc l).1) else if(Qc (dd (sst (l++more)))).1≠0 then([],(Qc (dd (sst (l++more)))).1) else(dd (sst (l++more)),0)
def drp (l:List Ru) (v:Int):List Ru:=l.filter (fun r=>decide (r.1≠v))
def Qd (v f:Int):List Ru->Int×Bool
 | []=>(0,false)
 | r::l=>if r.1=v/\r.2.1=f then(r.2.2,true) else Qd v f l
theorem nxt_mem{v f:Int}:∀{l:List Ru},(Qd v f l).2=true->(v,f,(Qd v f l).1)∈l
 | [],h=>by simp[Qd] at h
 | (a,b,c)::l,h=>by
  rw[Qd] at h ⊢
  split at h
  ·rename_i e
   simp at e
   obtain⟨rfl,rfl⟩:=e
   simp
  ·rename_i e
   rw[if_neg e]
   exact List.mem_cons_of_mem _ (nxt_mem h)
theorem add_mem{more:List Ru}:r∈dd (sst (l++more))↔r∈l\/r∈more:=by
 rw[z5e, <-List.mem_append]
 exact⟨(q6r _).2.mem,(q6r _).2.symm.mem⟩
theorem add_zero{more:List Ru}(h:(add l more).2=0):tab l/\tab (add l more).1/\(add l more).1=dd (sst (l++more)):=by
 unfold add at h ⊢
 split at h
 ·rename_i h1;exact absurd h h1
 ·rename_i h1
  rw[if_neg h1]
  split at h
  ·rename_i h2;exact absurd h h2
  ·rename_i h2
   rw[if_neg h2]
   exact⟨by simpa[tab] using h1,by simpa[tab] using h2,rfl⟩
theorem drp_mem{v:Int}:r∈drp l v↔r∈l/\r.1≠v:=by simp[drp]
end Rul
namespace Go.Proofs.YthkpbefnkmmaiaaGreat
open Go.Proofs.Tryz
namespace Tb
open Go.RowKit Go.Maps Stw Go.Deep Rul Go.Sort
variable {l:List Int} {i:Nat}
theorem nd_get(h:l.Nodup){j:Nat}(hi:i<l.length)(hj:j<l.length)(e:l.getD i 0=l.getD j 0):i=j:=by
 have hi':l.getD i 0=l[i]:=by simp[hi]
 have hj':l.getD j 0=l[j]:=by simp[hj]
 rw[hi',hj'] at e
 have hp:=List.pairwise_iff_getElem.1 h
 rcases Nat.lt_trichotomy i j with hlt | heq | hlt
 ·exact absurd e (hp i j hi hj hlt)
 ·exact heq
 ·exact absurd e.symm (hp j i hj hi hlt)
theorem get_mem(hi:i<l.length):l.getD i 0∈l:=by
 have hi':l.getD i 0=l[i]:=by simp[hi]
 rw[hi'];exact List.getElem_mem hi
theorem z1z{v f s:Int}{path:List Int}{r:Ru}:∀{K:Nat},r∈stk v f s path K↔∃k,k<K/\path.getD k 0=s/\k+1<path.length/\r=(v,f,path.getD (k+1) 0)
 | 0=>by simp[stk]
 | K+1=>by
  rw[stk,List.mem_append,z1z (K:=K)]
  constructor
  ·rintro(⟨k,h1,h2⟩ | h)
   ·exact⟨k,by omega,h2⟩
   ·split at h
    ·rename_i hc
     exact⟨K,by omega,hc.1,hc.2,by simpa using h⟩
    ·simp at h
  ·rintro⟨k,h1,h2,h3,h4⟩
   by_cases e:k<K
   ·exact Or.inl ⟨k,e,h2,h3,h4⟩
   ·have:k=K:=by omega
    subst this
    exact Or.inr (by rw[if_pos ⟨h2,h3⟩];simp[h4])
theorem q6l{v s:Int}{ps:List (List Int)}{r:Ru}:∀{K:Nat},r∈rof v s ps K↔∃i:Nat,i<K/\∃k,k+1<(ps.getD i []).length/\(ps.getD i []).getD k 0=s/\r=(v,(i:Int),(ps.getD i []).getD (k+1) 0)
 | 0=>by simp[rof]
 | K+1=>by
  rw[rof,List.mem_append,q6l (K:=K),z1z]
  constructor
  ·rintro(⟨i,h1,h2⟩ | ⟨k,h1,h2,h3,h4⟩)
   ·exact⟨i,by omega,h2⟩
   ·exact⟨K,by omega,k,h3,h2,h4⟩
  ·rintro⟨i,h1,k,h2,h3,h4⟩
   by_cases e:i<K
   ·exact Or.inl ⟨i,e,k,h2,h3,h4⟩
   ·have:i=K:=by omega
    subst this
    exact Or.inr ⟨k,by omega,h3,h2,h4⟩
def GP (n:Nat) (ps:List (List Int)):Prop:=∀i,i<ps.length->ps.getD i []≠[]/\(ps.getD i []).Nodup/\∀x∈ps.getD i [],0<=x/\x<(n:Int)
theorem z6i{v f s:Int}{path:List Int}(hn:path.Nodup):∀K,stk v f s path K=[]\/∃y,stk v f s path K=[(v,f,y)]
 | 0=>Or.inl rfl
 | K+1=>by
  rw[stk]
  by_cases hc:path.getD K 0=s/\K+1<path.length
  ·have h0:stk v f s path K=[]:=by
    refine List.eq_nil_iff_forall_not_mem.2 fun r hr=>?_
    obtain⟨k,h1,h2,h3,_⟩:=z1z.1 hr
    have:=nd_get hn (i:=k) (j:=K) (by omega) (by omega) (h2.trans hc.1.symm)
    omega
   rw[h0,if_pos hc]
   exact Or.inr ⟨_,rfl⟩
  ·rw[if_neg hc,List.append_nil]
   exact z6i hn K
theorem rof_ris{n:Nat}{v s:Int}{ps:List (List Int)}(hg:GP n ps):∀K,K<=ps.length->Ris (rof v s ps K)
 | 0,_=>List.Pairwise.nil
 | K+1,hK=>by
  rw[rof]
  refine List.pairwise_append.2 ⟨rof_ris hg K (by omega),?_,fun a ha b hb=>?_⟩
  ·rcases z6i (v:=v) (f:=K) (s:=s) (hg K (by omega)).2.1 (ps.getD K []).length with h | ⟨y,h⟩
   ·rw[h];exact List.Pairwise.nil
   ·rw[h];simp
  ·obtain⟨i,h1,k,_,_,rfl⟩:=q6l.1 ha
   obtain⟨k',_,_,_,rfl⟩:=z1z.1 hb
   rw[q2v]
   exact Or.inr ⟨rfl,by simp only;omega⟩
theorem q7v{n:Nat}{v s:Int}{ps:List (List Int)}(hg:GP n ps):∀K,K<=ps.length->(rof v s ps K).length<=K
 | 0,_=>Ql _
 | K+1,hK=>by
  have h1:=q7v (v:=v) (s:=s) hg K (by omega)
  rw[rof,lap]
  rcases z6i (v:=v) (f:=K) (s:=s) (hg K (by omega)).2.1 (ps.getD K []).length with h | ⟨y,h⟩ <;> rw[h] <;> simp <;> omega
theorem rof_tab{n:Nat}{v s:Int}{ps:List (List Int)}(hg:GP n ps)(hn:n<=8)(hp:ps.length<=12)(hv1:1<=v)(hv2:v<=1000):tab (rof v s ps ps.length):=by
 refine q0j.2 ⟨by have:=q7v (v:=v) (s:=s) hg ps.length (Ql _);omega,fun r hr=>?_,rof_ris hg _ (Ql _)⟩
 obtain⟨i,h1,k,h2,_,rfl⟩:=q6l.1 hr
 have:=(hg i h1).2.2 _ (get_mem (i:=k+1) h2)
 simp only[inR,decide_eq_true_eq]
 omega
end Tb
namespace Tb
open Go.RowKit Go.Maps Stw Go.Deep Rul Go.Sort Stp
theorem q0i.ps{w:World}{qo:Option Addr}{ps:List (List Int)}(h:q0i w qo ps):PsAt w qo ps:=by
 rcases h with h | ⟨g,off,h1,h2,h3⟩
 ·exact Or.inl h
 ·refine Or.inr ⟨g,off,h1,h2,fun k hk=>?_⟩
  obtain⟨v,k1,k2⟩:=h3 k hk
  obtain⟨o,c,rfl,k3,_⟩:=k2
  exact⟨o,c,k1,k3⟩
variable {e:Nat->Int}
theorem fb_none{len:Nat}(h:Stf.Zp e len=none):∀k,k<len->e k=0:=fun k hk=>by
 rw[Stf.Zp,List.find?_eq_none] at h
 simpa using h k (List.mem_range.2 hk)
theorem fb_some{len k:Nat}(h:Stf.Zp e len=some k):e k≠0:=by
 rw[Stf.Zp] at h
 simpa using List.find?_some h
structure GoodPlan (n version:Int) (ls:List Lk) (fs:List Stf.Fl):Prop where
 n0:0<=n
 n8:n<=8
 v1:1<=version
 v2:version<=1000
 len:(Qs n ls fs).length=fs.length
 few:fs.length<=12
 gp:GP n.toNat (Qs n ls fs)
 short:∀i,((Qs n ls fs).getD i []).length<=8
 head:∀i,i<fs.length->((Qs n ls fs).getD i []).getD 0 0=(fs.getD i Fw.f0).fr
theorem q1u{n version:Int}{ls:List Lk}{fs:List Stf.Fl}(h:(plnF n version ls fs).1=0):GoodPlan n version ls fs:=by
 have hw:(Stw.Qc n ls).1=0:=by
  by_cases e:(Stw.Qc n ls).1=0
  ·exact e
  ·rw[q3y e] at h;exact absurd h e
 have hr:=Zo hw
 have hv:¬(version<1\/1000<version):=fun e=>by rw[q6i hw e] at h;simp at h
 have hf:(Stf.Qp fs n).1=0:=by
  by_cases e:(Stf.Qp fs n).1=0
  ·exact e
  ·rw[q3z hw hv e] at h;exact absurd h e
 have hall:∀k,k<fs.length->(fnd n ls (fs.getD k Fw.f0)).1=0:=by
  intro k hk
  unfold plnF at h
  rw[if_neg (by simp[hw]),if_neg hv,if_neg (by simp[hf])] at h
  cases e:Stf.Zp (fun k=>(fnd n ls (fs.getD k Fw.f0)).1) fs.length with
  | none=>exact fb_none e k hk
  | some j=>
   rw[e] at h
   exact absurd h (fb_some (e:=fun k=>(fnd n ls (fs.getD k Fw.f0)).1) e)
 have hb:=hr.bounds
 have hget:∀i,i<fs.length->(Qs n ls fs).getD i []=(fnd n ls (fs.getD i Fw.f0)).2:=fun i hi=>by
  simp[Qs,hi]
 have hbest:∀i,i<fs.length->q3k n ls ((Qs n ls fs).getD i [])=true/\Pth (cost ls) (fs.getD i Fw.f0).fr (fs.getD i Fw.f0).to ((Qs n ls fs).getD i []):=fun i hi=>by
  rw[hget i hi]
  rcases fnd_cases (n:=n) (ls:=ls) (f:=fs.getD i Fw.f0) with h1 | h1 | ⟨_,hr',hF,hbst⟩
  ·exact absurd (hall i hi) h1.1
  ·have:=hall i hi;omega
  ·exact⟨hbst.1.toPth.path hr' hF.fr,hbst.1.toPth⟩
 have hlen:(Qs n ls fs).length=fs.length:=by simp[Qs]
 refine⟨by omega,by omega,by omega,by omega,hlen,q6a hf,fun i hi=>?_,fun i=>?_,fun i hi=>?_⟩
 ·obtain⟨hp,_⟩:=hbest i (by omega)
  obtain⟨p1,p2,p3,_⟩:=(q2k hr).1 hp
  exact⟨p1,p3,fun x hx=>by have:=p2 x hx;omega⟩
 ·by_cases hi:i<fs.length
  ·exact q8a (hbest i hi).2
  ·have:(Qs n ls fs).getD i []=[]:=by simp[List.getElem?_eq_none (show(Qs n ls fs).length<=i by omega)]
   rw[this];simp
 ·obtain⟨r,hr1⟩:=(hbest i hi).2.head
  rw[hr1];rfl
end Tb
end Go.Proofs.YthkpbefnkmmaiaaGreat
