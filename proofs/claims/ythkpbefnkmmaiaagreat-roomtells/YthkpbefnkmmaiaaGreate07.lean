import Derived.Sort.LotA
import Derived.Test.YthkpbefnkmmaiaaGreate02
namespace Rul
abbrev Ru:=Int×Int×Int
end Rul
namespace Rul
open Go.Sort
def lt (a b:Ru):Bool:=decide (a.1<b.1\/a.1=b.1/\a.2.1<b.2.1)
def key (a:Ru):Int×Int:=(a.1,a.2.1)
theorem q2v{a b:Ru}:lt a b=true↔(a.1<b.1\/a.1=b.1/\a.2.1<b.2.1):=by simp[lt]
theorem q2c{a b:Ru}:lt a b=false↔¬(a.1<b.1\/a.1=b.1/\a.2.1<b.2.1):=by simp[lt]
theorem swo:SWO lt where
 irrefl x:=by rw[q2c];omega
 trans x y z h1 h2:=by rw[q2v] at *;omega
 ntrans x y z h1 h2:=by rw[q2c] at *;omega
theorem lt_asymm{a b:Ru}(h:lt a b=true):lt b a=false:=by rw[q2v] at h;rw[q2c];omega
theorem q1v{a b:Ru}(h:lt a b=true):key a≠key b:=by
 rw[q2v] at h;intro e;simp[key] at e;omega
theorem z0b{a b:Ru}(h1:lt a b=false)(h2:lt b a=false):key a=key b:=by
 rw[q2c] at h1 h2;simp[key];omega
variable {c:Ru}
theorem q8f{a b:Ru}(h1:lt b a=false)(h2:lt b c=true):lt a c=true:=by rw[q2c] at h1;rw[q2v] at *;omega
theorem q2w{a b:Ru}(h1:lt a b=true)(h2:lt c b=false):lt a c=true:=by rw[q2c] at h2;rw[q2v] at *;omega
def fl (k:Int×Int) (l:List Ru):List Ru:=l.filter (fun r=>decide (key r=k))
def Sm (x y:List Ru):Prop:=∀k,fl k x=fl k y
theorem Sm.refl(x:List Ru):Sm x x:=fun _=>rfl
theorem Sm.symm{x y:List Ru}(h:Sm x y):Sm y x:=fun k=>(h k).symm
theorem Sm.trans{x y z:List Ru}(h:Sm x y)(g:Sm y z):Sm x z:=fun k=>(h k).trans (g k)
theorem q5q(k:Int×Int)(x y:List Ru):fl k (x++y)=fl k x++fl k y:=by simp[fl]
variable {y:List Ru}
theorem Sm.app{x x' y':List Ru}(h:Sm x x')(g:Sm y y'):Sm (x++y) (x'++y'):=fun k=>by rw[q5q,q5q,h k,g k]
variable {r:Ru}
theorem q3p{k:Int×Int}{l:List Ru}:r∈fl k l↔r∈l/\key r=k:=by simp[fl]
theorem Sm.mem{x:List Ru}(h:Sm x y)(hr:r∈x):r∈y:=by
 have:r∈fl (key r) x:=q3p.2 ⟨hr,rfl⟩
 rw[h] at this
 exact(q3p.1 this).1
theorem Sm.swap{x y:List Ru}(h:∀a∈x,∀b∈y,key a≠key b):Sm (x++y) (y++x):=fun k=>by
 rw[q5q,q5q]
 rcases hx:fl k x with _ | ⟨a,x'⟩
 ·simp
 ·have ha:a∈fl k x:=by rw[hx];simp
  have hy:fl k y=[]:=by
   refine List.eq_nil_iff_forall_not_mem.2 fun b hb=>?_
   have h1:=q3p.1 ha
   have h2:=q3p.1 hb
   exact h a h1.1 b h2.1 (h1.2.trans h2.2.symm)
  rw[hy];simp
def Srt (l:List Ru):Prop:=l.Pairwise (fun a b=>lt b a=false)
theorem q6c:∀{x y:List Ru},Srt x->Srt y->Sm x y->x=y
 | [],[],_,_,_=>rfl
 | [],b::y,_,_,h=>by
  have:=h.symm.mem (r:=b) (by simp)
  simp at this
 | a::x,[],_,_,h=>by
  have:=h.mem (r:=a) (by simp)
  simp at this
 | a::x,b::y,hx,hy,h=>by
  have hx':=List.pairwise_cons.1 hx
  have hy':=List.pairwise_cons.1 hy
  have ha:a∈b::y:=h.mem (by simp)
  have hb:b∈a::x:=h.symm.mem (by simp)
  have h1:lt a b=false:=by
   rcases List.mem_cons.1 ha with rfl | ha
   ·exact swo.irrefl _
   ·exact hy'.1 a ha
  have h2:lt b a=false:=by
   rcases List.mem_cons.1 hb with rfl | hb
   ·exact swo.irrefl _
   ·exact hx'.1 b hb
  have hk:=z0b h1 h2
  have e:=h (key a)
  simp only[fl,List.filter_cons,hk,decide_true,↓reduceIte] at e
  injection e with e1 e2
  subst e1
  have ht:Sm x y:=fun k=>by
   have:=h k
   simp only[fl,List.filter_cons] at this
   by_cases hk:key a=k
   ·simpa[hk,fl] using this
   ·simpa[hk,fl] using this
  rw[q6c hx'.2 hy'.2 ht]
theorem q1d{x y:List Ru}:Srt (x++y)↔Srt x/\Srt y/\∀a∈x,∀b∈y,lt b a=false:=List.pairwise_append
theorem sym_ok{X1 X2 Y1 Y2 Z1 Z2:List Ru}(hX:Srt (X1++X2))(hY:Srt (Y1++Y2))(h1:∀x∈X2,∀y∈Y1,lt y x=true)(h2:∀x∈X1,∀y∈Y2,lt y x=false)(g1:Srt Z1)(g2:Srt Z2)(s1:Sm Z1 (X1++Y1))(s2:Sm Z2 (X2++Y2)):Srt (Z1++Z2)/\Sm (Z1++Z2) ((X1++X2)++(Y1++Y2)):=by
  have hX':=q1d.1 hX
  have hY':=q1d.1 hY
  refine⟨q1d.2 ⟨g1,g2,fun a ha b hb=>?_⟩,(s1.app s2).trans ?_⟩
  ·rcases List.mem_append.1 (s1.mem ha) with ha | ha <;> rcases List.mem_append.1 (s2.mem hb) with hb | hb
   ·exact hX'.2.2 a ha b hb
   ·exact h2 a ha b hb
   ·exact lt_asymm (h1 b hb a ha)
   ·exact hY'.2.2 a ha b hb
  ·have:Sm (Y1++X2) (X2++Y1):=Sm.swap fun a ha b hb=>q1v (h1 b hb a ha)
   have:=((Sm.refl X1).app this).app (Sm.refl Y2)
   simpa using this
theorem ins_front{x:Ru}{Y1 Y2:List Ru}(hY:Srt (Y1++Y2))(h1:∀y∈Y1,lt y x=true)(h2:∀y∈Y2,lt y x=false):Srt (Y1++x::Y2)/\Sm (Y1++x::Y2) (x::(Y1++Y2)):=by
 have hY':=q1d.1 hY
 refine⟨q1d.2 ⟨hY'.1,List.pairwise_cons.2 ⟨h2,hY'.2.1⟩,fun a ha b hb=>?_⟩,?_⟩
 ·rcases List.mem_cons.1 hb with rfl | hb
  ·exact lt_asymm (h1 a ha)
  ·exact hY'.2.2 a ha b hb
 ·have:Sm (Y1++[x]) ([x]++Y1):=Sm.swap fun a ha b hb=>by
   rw[List.mem_singleton] at hb;subst hb;exact q1v (h1 a ha)
  simpa using this.app (Sm.refl Y2)
theorem ins_back{y:Ru}{X1 X2:List Ru}(hX:Srt (X1++X2))(h1:∀x∈X1,lt y x=false)(h2:∀x∈X2,lt y x=true):Srt (X1++y::X2)/\Sm (X1++y::X2) (X1++X2++[y]):=by
 have hX':=q1d.1 hX
 refine⟨q1d.2 ⟨hX'.1,List.pairwise_cons.2 ⟨fun b hb=>lt_asymm (h2 b hb),hX'.2.1⟩,fun a ha b hb=>?_⟩,?_⟩
 ·rcases List.mem_cons.1 hb with rfl | hb
  ·exact h1 a ha
  ·exact hX'.2.2 a ha b hb
 ·have:Sm ([y]++X2) (X2++[y]):=Sm.swap fun a ha b hb=>by
   rw[List.mem_singleton] at ha;subst ha;exact q1v (h2 b hb)
  simpa using(Sm.refl X1).app this
def seg (d:Array Ru) (a b:Nat):List Ru:=(List.range' a (b - a)).map (fun i=>d[i]!)
variable {a b:Nat} {d:Array Ru}
theorem q3o:r∈seg d a b↔∃i,a<=i/\i<b/\d[i]! =r:=by
 simp only[seg,List.mem_map,List.mem_range'_1]
 constructor
 ·rintro⟨i,hi,h⟩;exact⟨i,by omega,by omega,h⟩
 ·rintro⟨i,h1,h2,h⟩;exact⟨i,⟨by omega,by omega⟩,h⟩
variable {m:Nat}
theorem Qu(d:Array Ru)(h1:a<=m)(h2:m<=b):seg d a b=seg d a m++seg d m b:=by
 simp only[seg]
 rw[<-List.map_append]
 congr 1
 have:b - a=(m - a)+(b - m):=by omega
 rw[this, <-List.range'_append]
 congr 2;omega
theorem q6d(d:Array Ru)(a:Nat):seg d a (a+1)=[d[a]!]:=by simp[seg]
variable {d':Array Ru} {a' b':Nat}
theorem q1t(hn:b' - a'=b - a)(h:∀i,i<b - a->d'[a'+i]! =d[a+i]!):seg d' a' b'=seg d a b:=by
 simp only[seg]
 refine List.ext_getElem (by simp[hn]) fun i h1 h2=>?_
 simp at h1 h2 ⊢
 exact h i h2
theorem q2i(h:∀i,a<=i->i<b->d'[i]! =d[i]!):seg d' a b=seg d a b:=q1t rfl fun i hi=>h _ (by omega) (by omega)
theorem z6q(d:Array Ru):seg d 0 d.size=d.toList:=by
 refine List.ext_getElem (by simp[seg]) fun i h1 h2=>?_
 simp[seg] at h1 h2 ⊢
 rw[getElem!_pos d i h1]
theorem q0d:Srt (seg d a b)↔SortedIn lt a b d:=by
 unfold Srt seg
 rw[List.pairwise_map]
 constructor
 ·intro h i j h1 h2 h3
  have h':=List.pairwise_iff_getElem.1 h (i - a) (j - a) (by simp;omega) (by simp;omega) (by omega)
  simpa[show a+(i - a)=i by omega,show a+(j - a)=j by omega] using h'
 ·intro h
  refine List.pairwise_iff_getElem.2 fun i j h1 h2 h3=>?_
  simp at h1 h2 ⊢
  exact h _ _ (by omega) (by omega) (by omega)
def Out (a b:Nat) (d d':Array Ru):Prop:=d'.size=d.size/\∀i,i<a\/b<=i->d'[i]! =d[i]!
theorem Out.refl(a b:Nat)(d:Array Ru):Out a b d d:=⟨rfl,fun _ _=>rfl⟩
theorem Out.trans{a b:Nat}{d d' d'':Array Ru}(h:Out a b d d')(g:Out a b d' d''):Out a b d d'':=⟨g.1.trans h.1,fun i hi=>(g.2 i hi).trans (h.2 i hi)⟩
theorem Out.wide(h:Out a b d d')(h1:a'<=a)(h2:b<=b'):Out a' b' d d':=⟨h.1,fun i hi=>h.2 i (by omega)⟩
def Mrg (a b:Nat) (d d':Array Ru):Prop:=Out a b d d'/\SortedIn lt a b d'/\Sm (seg d' a b) (seg d a b)
theorem Out.q6z(h:Out a b d d'){x y:Nat}(hy:y<=a):seg d' x y=seg d x y:=q2i fun i _ hi=>h.2 i (by omega)
theorem Out.q5f(h:Out a b d d'){x y:Nat}(hx:b<=x):seg d' x y=seg d x y:=q2i fun i hi _=>h.2 i (by omega)
theorem Mrg.whole{n:Nat}(h:Mrg a b d d')(hab:a<=b)(hb:b<=n):Sm (seg d' 0 n) (seg d 0 n):=by
 rw[Qu d' (Zu a) (ltr hab hb),Qu d' hab hb,Qu d (Zu a) (ltr hab hb),Qu d hab hb,h.1.q6z (Ql _),h.1.q5f (Ql _)]
 exact(Sm.refl _).app (h.2.2.app (Sm.refl _))
theorem Out.q1s(h:Out a b d d'){x y:Nat}(hy:y<=a)(hs:SortedIn lt x y d):SortedIn lt x y d':=by
 rw[<-q0d,h.q6z hy,q0d];exact hs
theorem Out.q2a(h:Out a b d d'){x y:Nat}(hx:b<=x)(hs:SortedIn lt x y d):SortedIn lt x y d':=by
 rw[<-q0d,h.q5f hx,q0d];exact hs
variable {i:Nat}
theorem mrg_front(hb:a+1<=i)(hib:i<=b)(hs:SortedIn lt (a+1) b d)(h1:∀t,a+1<=t->t<i->lt d[t]! d[a]! =true)(h2:∀t,i<=t->t<b->lt d[t]! d[a]! =false)(hsz:d'.size=d.size)(g1:∀t,a<=t->t<i - 1->d'[t]! =d[t+1]!)(g2:d'[i - 1]! =d[a]!)(g3:∀t,t<a\/i<=t->d'[t]! =d[t]!):Mrg a b d d':=by
  have e1:seg d' a (i - 1)=seg d (a+1) i:=q1t (by omega) fun t ht=>by rw[g1 _ (by omega) (by omega)];congr 1;omega
  have e2:seg d' (i - 1) i=[d[a]!]:=by
   have:=q6d d' (i - 1)
   rwa [show i - 1+1=i by omega,g2] at this
  have e3:seg d' i b=seg d i b:=q2i fun t ht _=>g3 t (Or.inr ht)
  have hY:=q0d.2 hs
  rw[Qu d (m:=i) hb hib] at hY
  have:=ins_front (x:=d[a]!) hY (fun y hy=>by obtain⟨t,t1,t2,rfl⟩:=q3o.1 hy;exact h1 t t1 t2) (fun y hy=>by obtain⟨t,t1,t2,rfl⟩:=q3o.1 hy;exact h2 t t1 t2)
  have e:seg d' a b=seg d (a+1) i++d[a]!::seg d i b:=by
   rw[Qu d' (m:=i - 1) (by omega) (by omega),Qu d' (a:=i - 1) (m:=i) (by omega) hib,e1,e2,e3];simp
  have e':seg d a b=d[a]!::(seg d (a+1) i++seg d i b):=by
   rw[Qu d (m:=a+1) (by omega) (by omega),q6d,Qu d hb hib];simp
  exact⟨⟨hsz,fun t ht=>g3 t (by omega)⟩,by rw[<-q0d,e];exact this.1,by rw[e,e'];exact this.2⟩
theorem mrg_back(hb:a<=i)(him:i<=m)(hs:SortedIn lt a m d)(h1:∀t,a<=t->t<i->lt d[m]! d[t]! =false)(h2:∀t,i<=t->t<m->lt d[m]! d[t]! =true)(hsz:d'.size=d.size)(g1:∀t,i<t->t<=m->d'[t]! =d[t - 1]!)(g2:d'[i]! =d[m]!)(g3:∀t,t<i\/m<t->d'[t]! =d[t]!):Mrg a (m+1) d d':=by
  have e1:seg d' (i+1) (m+1)=seg d i m:=q1t (by omega) fun t ht=>by rw[g1 _ (by omega) (by omega)];congr 1;omega
  have e2:seg d' i (i+1)=[d[m]!]:=by rw[q6d,g2]
  have e3:seg d' a i=seg d a i:=q2i fun t _ ht=>g3 t (Or.inl ht)
  have hX:=q0d.2 hs
  rw[Qu d (m:=i) hb him] at hX
  have:=ins_back (y:=d[m]!) hX (fun y hy=>by obtain⟨t,t1,t2,rfl⟩:=q3o.1 hy;exact h1 t t1 t2) (fun y hy=>by obtain⟨t,t1,t2,rfl⟩:=q3o.1 hy;exact h2 t t1 t2)
  have e:seg d' a (m+1)=seg d a i++d[m]!::seg d i m:=by
   rw[Qu d' (m:=i) hb (by omega),Qu d' (a:=i) (m:=i+1) (by omega) (by omega),e1,e2,e3];simp
  have e':seg d a (m+1)=seg d a i++seg d i m++[d[m]!]:=by
   rw[Qu d (m:=m) (by omega) (by omega),q6d,Qu d hb him]
  exact⟨⟨hsz,fun t ht=>g3 t (by omega)⟩,by rw[<-q0d,e];exact this.1,by rw[e,e'];exact this.2⟩
structure Rot (a m b:Nat) (d d':Array Ru):Prop where
 out:Out a b d d'
 left:∀t,t<b - m->d'[a+t]! =d[m+t]!
 right:∀t,t<m - a->d'[a+(b - m)+t]! =d[a+t]!
theorem Rot.triv_left(d:Array Ru):Rot a a b d d:=⟨Out.refl _ _ _,fun _ _=>rfl,fun t ht=>by omega⟩
theorem Rot.triv_right(d:Array Ru):Rot a b b d d:=⟨Out.refl _ _ _,fun t ht=>by omega,fun t ht=>by congr 1;omega⟩
structure Swr (a b n:Nat) (d d':Array Ru):Prop where
 size:d'.size=d.size
 left:∀t,t<n->d'[a+t]! =d[b+t]!
 right:∀t,t<n->d'[b+t]! =d[a+t]!
 out:∀t,(t<a\/a+n<=t)->(t<b\/b+n<=t)->d'[t]! =d[t]!
theorem Swr.zero(a b:Nat)(d:Array Ru):Swr a b 0 d d:=⟨rfl,fun t h=>by omega,fun t h=>by omega,fun _ _ _=>rfl⟩
theorem Swr.succ{n:Nat}(h:Swr a b n d d')(hab:a+n<b)(hb:b+n<d.size):Swr a b (n+1) d (swp d' (a+n) (b+n)):=by
 have ha:a+n<d'.size:=by rw[h.size];omega
 have hb':b+n<d'.size:=by rw[h.size];omega
 refine⟨by rw[size_swp,h.size],fun t ht=>?_,fun t ht=>?_,fun t h1 h2=>?_⟩
 ·by_cases e:t=n
  ·subst e;rw[swp_left _ _ _ ha (by omega),h.out _ (by omega) (by omega)]
  ·rw[swp_other _ _ _ _ (by omega) (by omega)];exact h.left t (by omega)
 ·by_cases e:t=n
  ·subst e;rw[swp_right _ _ _ hb',h.out _ (by omega) (by omega)]
  ·rw[swp_other _ _ _ _ (by omega) (by omega)];exact h.right t (by omega)
 ·rw[swp_other _ _ _ _ (by omega) (by omega)];exact h.out t (by omega) (by omega)
structure Rtg (a m b i j:Nat) (d d':Array Ru):Prop where
 size:d'.size=d.size
 ia:a+i<=m
 jb:m+j<=b
 out:∀t,t<a\/b<=t->d'[t]! =d[t]!
 done:∀D:Array Ru,Rot (m - i) m (m+j) d' D->Rot a m b d D
theorem Rtg.start(h1:a<=m)(h2:m<=b):Rtg a m b (m - a) (b - m) d d:=
 ⟨rfl,by omega,by omega,fun _ _=>rfl,fun D h=>by rwa [show m - (m - a)=a by omega,show m+(b - m)=b by omega] at h⟩
variable {d1 d2:Array Ru} {j:Nat}
theorem Rtg.more(h:Rtg a m b i j d d1)(hij:j<i)(s:Swr (m - i) m j d1 d2):Rtg a m b (i - j) j d d2:=by
 have:=h.ia
 have:=h.jb
 refine⟨s.size.trans h.size,by omega,h.jb,fun t ht=>(s.out t (by omega) (by omega)).trans (h.out t ht),fun D hD=>h.done D ⟨⟨hD.out.1.trans s.size,fun t ht=>?_⟩,fun t ht=>?_,fun t ht=>?_⟩⟩
 ·rw[hD.out.2 t (by omega)];exact s.out t (by omega) (by omega)
 ·rw[hD.out.2 _ (by omega),s.left t (by omega)]
 ·by_cases e:t<j
  ·have:=hD.left t (by omega)
   rw[show m - (i - j)+t=m - i+(m+j - m)+t by omega] at this
   rw[this,s.right t e]
  ·have:=hD.right (t - j) (by omega)
   rw[show m - (i - j)+(m+j - m)+(t - j)=m - i+(m+j - m)+t by omega,show m - (i - j)+(t - j)=m - i+t by omega] at this
   rw[this,s.out _ (by omega) (by omega)]
theorem Rtg.less(h:Rtg a m b i j d d1)(hij:i<j)(s:Swr (m - i) (m+j - i) i d1 d2):Rtg a m b i (j - i) d d2:=by
 have:=h.ia
 have:=h.jb
 refine⟨s.size.trans h.size,h.ia,by omega,fun t ht=>(s.out t (by omega) (by omega)).trans (h.out t ht),fun D hD=>h.done D ⟨⟨hD.out.1.trans s.size,fun t ht=>?_⟩,fun t ht=>?_,fun t ht=>?_⟩⟩
 ·rw[hD.out.2 t (by omega)];exact s.out t (by omega) (by omega)
 ·by_cases e:t<j - i
  ·rw[hD.left t (by omega),s.out _ (by omega) (by omega)]
  ·have:=hD.right (t - (j - i)) (by omega)
   rw[show m - i+(m+(j - i) - m)+(t - (j - i))=m - i+t by omega] at this
   have e2:=s.left (t - (j - i)) (by omega)
   rw[this,e2];congr 1;omega
 ·rw[hD.out.2 _ (by omega)]
  have:=s.right t (by omega)
  rw[show m+j - i+t=m - i+(m+j - m)+t by omega] at this
  rw[this]
theorem Rtg.last(h:Rtg a m b i i d d1)(s:Swr (m - i) m i d1 d2):Rot a m b d d2:=by
 have:=h.ia
 have:=h.jb
 refine h.done d2 ⟨⟨s.size,fun t ht=>s.out t (by omega) (by omega)⟩,fun t ht=>s.left t (by omega),fun t ht=>?_⟩
 have:=s.right t (by omega)
 rw[show m+t=m - i+(m+i - m)+t by omega] at this
 exact this
variable {mid s:Nat}
theorem mrg_sym{d3:Array Ru}(ham:a<=m)(hmb:m<=b)(h1:a<=mid)(h2:mid<=b)(sX:SortedIn lt a m d)(sY:SortedIn lt m b d)(hlo:a<=s)(hlo':mid+m<=b+s)(hhi:s<=m)(hhi':s<=mid)(q1:a<s->mid+m<b+s->lt d[mid+m - s]! d[s - 1]! =false)(q2:s<m->s<mid->lt d[mid+m - 1 - s]! d[s]! =true)(hr:Rot s m (mid+m - s) d d1)(g1:Mrg a mid d1 d2)(g2:Mrg mid b d2 d3):Mrg a b d d3:=by
  have eX:=Qu d hlo hhi
  have eY:=Qu d (a:=m) (m:=mid+m - s) (b:=b) (by omega) (by omega)
  have hX:Srt (seg d a s++seg d s m):=by rw[<-eX,q0d];exact sX
  have hY:Srt (seg d m (mid+m - s)++seg d (mid+m - s) b):=by rw[<-eY,q0d];exact sY
  have f1:seg d1 a mid=seg d a s++seg d m (mid+m - s):=by
   rw[Qu d1 hlo hhi',hr.out.q6z (Ql _)]
   congr 1
   exact q1t (by omega) fun t ht=>hr.left t (by omega)
  have f2:seg d1 mid b=seg d s m++seg d (mid+m - s) b:=by
   rw[Qu d1 (a:=mid) (m:=mid+m - s) (by omega) (by omega),hr.out.q5f (Ql _)]
   congr 1
   refine q1t (by omega) fun t ht=>?_
   have:=hr.right t (by omega)
   rwa [show s+(mid+m - s - m)+t=mid+t by omega] at this
  have hle1:∀x∈seg d s m,∀y∈seg d m (mid+m - s),lt y x=true:=fun x hx y hy=>by
   obtain⟨i,i1,i2,rfl⟩:=q3o.1 hx
   obtain⟨j,j1,j2,rfl⟩:=q3o.1 hy
   have hq:=q2 (by omega) (by omega)
   have k1:lt d[i]! d[s]! =false:=by
    by_cases e:i=s
    ·subst e;exact swo.irrefl _
    ·exact sX _ _ (by omega) (by omega) (by omega)
   have k2:lt d[mid+m - 1 - s]! d[j]! =false:=by
    by_cases e:j=mid+m - 1 - s
    ·subst e;exact swo.irrefl _
    ·exact sY _ _ (by omega) (by omega) (by omega)
   exact q8f k2 (q2w hq k1)
  have hle2:∀x∈seg d a s,∀y∈seg d (mid+m - s) b,lt y x=false:=fun x hx y hy=>by
   obtain⟨i,i1,i2,rfl⟩:=q3o.1 hx
   obtain⟨j,j1,j2,rfl⟩:=q3o.1 hy
   have hq:=q1 (by omega) (by omega)
   have k1:lt d[s - 1]! d[i]! =false:=by
    by_cases e:i=s - 1
    ·subst e;exact swo.irrefl _
    ·exact sX _ _ (by omega) (by omega) (by omega)
   have k2:lt d[j]! d[mid+m - s]! =false:=by
    by_cases e:j=mid+m - s
    ·subst e;exact swo.irrefl _
    ·exact sY _ _ (by omega) (by omega) (by omega)
   exact swo.ntrans _ _ _ k2 (swo.ntrans _ _ _ hq k1)
  have z1:seg d3 a mid=seg d2 a mid:=g2.1.q6z (Ql _)
  have z2:seg d2 mid b=seg d1 mid b:=g1.1.q5f (Ql _)
  have r:=sym_ok hX hY hle1 hle2 (Z1:=seg d3 a mid) (Z2:=seg d3 mid b) (by rw[z1,q0d];exact g1.2.1) (q0d.2 g2.2.1) (by rw[z1, <-f1];exact g1.2.2) (by rw[<-f2, <-z2];exact g2.2.2)
  rw[<-eX, <-eY, <-Qu d ham hmb, <-Qu d3 h1 h2] at r
  exact⟨((hr.out.wide hlo (by omega)).trans (g1.1.wide (Ql _) h2)).trans (g2.1.wide h1 (Ql _)),q0d.1 r.1,r.2⟩
theorem rot_sorted(sX:SortedIn lt a m d)(sY:SortedIn lt m b d)(hlo':mid+m<=b+s)(hhi:s<=m)(hhi':s<=mid)(_:a<=s)(hr:Rot s m (mid+m - s) d d1):SortedIn lt a s d1/\SortedIn lt s mid d1/\SortedIn lt mid (mid+m - s) d1/\SortedIn lt (mid+m - s) b d1:=by
  have f1:seg d1 s mid=seg d m (mid+m - s):=q1t (by omega) fun t ht=>hr.left t (by omega)
  have f2:seg d1 mid (mid+m - s)=seg d s m:=by
   refine q1t (by omega) fun t ht=>?_
   have:=hr.right t (by omega)
   rwa [show s+(mid+m - s - m)+t=mid+t by omega] at this
  have s1:SortedIn lt a s d:=fun i j h1 h2 h3=>sX i j h1 h2 (by omega)
  have s2:SortedIn lt s m d:=fun i j h1 h2 h3=>sX i j (by omega) h2 h3
  have s3:SortedIn lt m (mid+m - s) d:=fun i j h1 h2 h3=>sY i j h1 h2 (by omega)
  have s4:SortedIn lt (mid+m - s) b d:=fun i j h1 h2 h3=>sY i j (by omega) h2 h3
  exact⟨hr.out.q1s (Ql _) s1,by rw[<-q0d,f1,q0d];exact s3,by rw[<-q0d,f2,q0d];exact s2,hr.out.q2a (Ql _) s4⟩
theorem Mrg.same(h:SortedIn lt a b d):Mrg a b d d:=⟨Out.refl _ _ _,h,Sm.refl _⟩
end Rul
namespace Go.Proofs.YthkpbefnkmmaiaaGreat
open Go.Proofs.Tryz
namespace Tb
open Go.RowKit Go.Deep Rul
abbrev r0:Ru:=(0,0,0)
theorem Gb.refl(w:World)(r:Option Nat):w.grownBy w r:=⟨rfl,rfl,rfl,Ql _,fun _ _ _=>rfl⟩
def Zl (w:World) (ao:Option Addr) (rs:List Ru):Prop:=
 rs=[]\/∃g off,ao=some ⟨g,off,none⟩/\g<w.heap.size/\∀k,k<rs.length->w.cell? ⟨g,off+k*3,none⟩=some (.int .i64 (rs.getD k (0,0,0)).1)/\w.cell? ⟨g,off+k*3+1,none⟩=some (.int .i64 (rs.getD k (0,0,0)).2.1)/\w.cell? ⟨g,off+k*3+2,none⟩=some (.int .i64 (rs.getD k (0,0,0)).2.2)
variable {w w':World} {ao:Option Addr}
theorem Zl.ext{rs:List Ru}(h:Zl w ao rs)(E:Ext w w'):Zl w' ao rs:=by
 rcases h with h | ⟨g,off,h1,h2,h3⟩
 ·exact Or.inl h
 ·exact Or.inr ⟨g,off,h1,Q5 h2 E.size,fun k hk=>by
   obtain⟨c0,c1,c2⟩:=h3 k hk
   exact⟨(E.cells.1 _ _ h2).trans c0,(E.cells.1 _ _ h2).trans c1,(E.cells.1 _ _ h2).trans c2⟩⟩
theorem Zl.get{rs:List Ru}(h:Zl w ao rs){k:Nat}(hk:k<rs.length):∃g off,ao=some ⟨g,off,none⟩/\g<w.heap.size/\∀k,k<rs.length->w.cell? ⟨g,off+k*3,none⟩=some (.int .i64 (rs.getD k (0,0,0)).1)/\w.cell? ⟨g,off+k*3+1,none⟩=some (.int .i64 (rs.getD k (0,0,0)).2.1)/\w.cell? ⟨g,off+k*3+2,none⟩=some (.int .i64 (rs.getD k (0,0,0)).2.2):=by
 rcases h with h | h
 ·rw[h] at hk;simp at hk
 ·exact h
def rcs (rs:List Ru):List Value:=rs.flatMap (fun r=>[.int .i64 r.1,.int .i64 r.2.1,.int .i64 r.2.2])
theorem rcs_cons(r:Ru)(rs:List Ru):rcs (r::rs)=[.int .i64 r.1,.int .i64 r.2.1,.int .i64 r.2.2]++rcs rs:=by simp[rcs]
theorem q6h:∀rs:List Ru,(rcs rs).length=rs.length*3
 | []=>rfl
 | r::rs=>by rw[rcs_cons,lap,q6h rs];simp;omega
theorem q2j(x y:List Ru):rcs (x++y)=rcs x++rcs y:=by simp[rcs]
theorem z1o(rs:List Ru):∀u∈rcs rs,u.oneCell'=true:=by
 intro u hu
 simp only[rcs,List.mem_flatMap,List.mem_cons,List.not_mem_nil,or_false] at hu
 obtain⟨l,_,rfl | rfl | rfl⟩:=hu <;> rfl
theorem rcs_at:∀(rs:List Ru) (k:Nat),k<rs.length->(rcs rs)[k*3]? =some (.int .i64 (rs.getD k r0).1)/\(rcs rs)[k*3+1]? =some (.int .i64 (rs.getD k r0).2.1)/\(rcs rs)[k*3+2]? =some (.int .i64 (rs.getD k r0).2.2)
 | [],k,h=>by simp at h
 | r::rs,0,_=>by simp[rcs]
 | r::rs,k+1,h=>by
  have ih:=rcs_at rs k (by simpa using h)
  rw[rcs_cons]
  simp only[List.getElem?_append,List.length_cons,List.length_nil,show ¬(k+1)*3<0+1+1+1 by omega,show ¬(k+1)*3+1<0+1+1+1 by omega,show ¬(k+1)*3+2<0+1+1+1 by omega,if_false,show(k+1)*3 - (0+1+1+1)=k*3 by omega,show(k+1)*3+1 - (0+1+1+1)=k*3+1 by omega,show(k+1)*3+2 - (0+1+1+1)=k*3+2 by omega]
  simpa using ih
theorem q7e(g off j:Nat):(⟨g,off,none⟩:Addr).add j=⟨g,off+j,none⟩:=by
 unfold Addr.add
 split
 ·simp_all
 ·rfl
variable {W:World} {g:Nat}
theorem rcs_cells{off:Nat}{rs:List Ru}(h:∀k,k<rs.length->W.cell? ⟨g,off+k*3,none⟩=some (.int .i64 (rs.getD k r0).1)/\W.cell? ⟨g,off+k*3+1,none⟩=some (.int .i64 (rs.getD k r0).2.1)/\W.cell? ⟨g,off+k*3+2,none⟩=some (.int .i64 (rs.getD k r0).2.2)):
 ∀j u,(rcs rs)[j]? =some u->W.cell? ((⟨g,off,none⟩:Addr).add j)=some u:=fun j u hu=>by
 have hj:j<rs.length*3:=by have:=(List.getElem?_eq_some_iff.1 hu).1;rwa [q6h] at this
 obtain⟨a0,a1,a2⟩:=rcs_at rs (j / 3) (by omega)
 obtain⟨c0,c1,c2⟩:=h (j / 3) (by omega)
 rw[q7e]
 rcases(show j % 3=0\/j % 3=1\/j % 3=2 by omega) with e | e | e
 ·rw[show j / 3*3=j by omega] at a0 c0;rw[c0, <-a0,hu]
 ·rw[show j / 3*3+1=j by omega] at a1;rw[show off+j / 3*3+1=off+j by omega] at c1;rw[c1, <-a1,hu]
 ·rw[show j / 3*3+2=j by omega] at a2;rw[show off+j / 3*3+2=off+j by omega] at c2;rw[c2, <-a2,hu]
def RO (w:World) (base:Nat) (v:Value) (rs:List Ru):Prop:=w.ownsRow base 132 3 v rs.length (rcs rs)
variable {base:Nat}
theorem RO.form{v:Value}{rs:List Ru}(h:RO w base v rs):∃ao cap,v=.slice ao rs.length cap/\Zl w ao rs/\(ao=none->rs=[]/\cap=0)/\rs.length<=cap/\cap<=maxLen:=by
 rcases h.2 with⟨hv,h0⟩ | ⟨g,cap,cur,hv,hb,hg,hn,hm,hc,ht⟩
 ·exact⟨none,0,by rw[h0];exact hv,Or.inl (List.eq_nil_of_length_eq_zero h0),fun _=>⟨List.eq_nil_of_length_eq_zero h0,rfl⟩,by omega,Zu _⟩
 ·refine⟨some ⟨g,0,none⟩,cap,hv,Or.inr ⟨g,0,rfl,(asi.1 hg).1,fun k hk=>?_⟩,(fun h=>by cases h),hn,hm⟩
  have hcell:∀j u,j<rs.length*3->(rcs rs)[j]? =some u->w.cell? ⟨g,0+j,none⟩=some u:=fun j u hj hu=>by
   rw[<-ht,List.getElem?_take_of_lt hj] at hu
   simp[World.cell?,hg]
   simpa using hu
  obtain⟨a0,a1,a2⟩:=rcs_at rs k hk
  exact⟨hcell _ _ (by omega) a0,hcell _ _ (by omega) a1,hcell _ _ (by omega) a2⟩
theorem RO.ext{v:Value}{rs:List Ru}(h:RO w base v rs)(k:Ext w w'):RO w' base v rs:=by
 refine⟨h.1,?_⟩
 rcases h.2 with h2 | ⟨g,cap,cur,h1,h2,h3,h4⟩
 ·exact Or.inl h2
 ·exact Or.inr ⟨g,cap,cur,h1,h2,(Below.block k g (asi.1 h3).1).trans h3,h4⟩
theorem RO.nil(w:World)(base:Nat):RO w base (.slice none 0 0) []:=World.ownsRow_nil _ _ _ _
theorem infoR:(prog.info? 132).map (fun i=>(i.zero,i.size,i.bytes))=some (some (.agg #[.int .i64 0,.int .i64 0,.int .i64 0]),3,24):=by kernel_rfl
theorem infoR':∃i,prog.info? 132=some i/\i.zero=some (.agg #[.int .i64 0,.int .i64 0,.int .i64 0])/\i.size=3/\i.bytes=24:=by
 have h:=infoR
 cases e:prog.info? 132 with
 | none=>rw[e] at h;simp at h
 | some i=>rw[e] at h;simp at h;exact⟨i,rfl,h.1,h.2.1,h.2.2⟩
theorem cells3n{n:Nat}(h:W.heap.size=n)(v0 v1 v2:Value)(T:TypeId)(i:Nat)(u:Value)(hu:[v0,v1,v2][i]? =some u):(W.alloc (.cells #[v0,v1,v2] T)).cell? ((⟨n,0,none⟩:Addr).add i)=some u:=by
 subst h
 rw[q7e]
 match i,hu with
 | 0,hu=>simp at hu;subst hu;simp
 | 1,hu=>simp at hu;subst hu;simp
 | 2,hu=>simp at hu;subst hu;simp
 | i+3,hu=>simp at hu
theorem RO.block{v:Value}{rs:List Ru}(h:RO w base v rs):∀k,v.ownBlock=some k->base<=k/\k<w.heap.size:=h.lt
structure SlOk (w:World) (ao:Option Addr) (len cap:Nat) (rs:List Ru):Prop where
 hlen:rs.length=len
 Q2:Zl w ao rs
 hnil:ao=none->len=0/\cap=0
theorem SlOk.ext{w w':World}{ao:Option Addr}{len cap:Nat}{rs:List Ru}(h:SlOk w ao len cap rs)(E:Ext w w'):SlOk w' ao len cap rs:=⟨h.hlen,h.Q2.ext E,h.hnil⟩
theorem SlOk.news{a:Addr}{len cap:Nat}{rs:List Ru}(h:SlOk w (some a) len cap rs):∀j u,(rcs rs)[j]? =some u->w.cell? (a.add j)=some u:=by
 rcases h.Q2 with h0 | ⟨g,off,h1,h2,h3⟩
 ·intro j u hu;rw[h0] at hu;simp[rcs] at hu
 ·cases h1
  exact rcs_cells h3
theorem RO.more{w5:World}{v v':Value}{rs ls:List Ru}(_:RO w base v rs)(h:w5.ownsRow base 132 3 v' (rs.length+ls.length) (rcs rs++rcs ls)):RO w5 base v' (rs++ls):=by
 unfold RO;rw[q2j,lap];exact h
theorem q9w(hb:base<=g)(h:W.heap[g]? =some (.cells #[] 132)):RO W base (.slice (some ⟨g,0,none⟩) 0 0) []:=
 ⟨by simp[rcs],Or.inr ⟨g,0,#[],rfl,hb,h,Ql _,Zu _,rfl,rfl⟩⟩
variable {rb:List Ru} {bo:Option Addr} {lb cb:Nat}
theorem z5v{v:Value}{rs:List Ru}(ho:RO W base v rs)(hb:SlOk W bo lb cb rb)(hbase:base<=W.heap.size)(hn:(rs.length+lb)*24<=140737488355328):
 ∃v' W',(∀ty,(Builtin.append_ #[61,61] ty #[v,.slice bo lb cb]).run prog W=.ok v' W')/\RO W' base v' (rs++rb)/\W.grownBy W' v.ownBlock:=by
 obtain⟨i3,hi3,hz0,hz1,hz2⟩:=infoR'
 cases bo with
 | none=>
  obtain⟨n1,n2⟩:=hb.hnil rfl
  have hrb:rb=[]:=List.eq_nil_of_length_eq_zero (hb.hlen.trans n1)
  rw[n1,n2]
  exact⟨v,W,fun ty=>run_append_owned_none (P:=prog) (w:=W) base 61 ty 132 i3 3 underlying61 hi3 v _ _ ho,by rw[hrb,List.append_nil];exact ho,Gb.refl _ _⟩
 | some ad=>
  have hlen:=hb.hlen
  obtain⟨v',W',hr,h2,h3,_⟩:=run_append_own (P:=prog) W base 61 61 132 i3 (.agg #[.int .i64 0,.int .i64 0,.int .i64 0]) 3 24 underlying61 hi3 hz0 hz1 hz2 rfl (by decide) v rs.length (rcs rs) ho ad lb cb (rcs rb) (by rw[q6h,hlen]) hb.news (z1o rb) (by unfold maxLen;omega) hn hbase
  refine⟨v',W',fun ty=>hr,?_,h3⟩
  exact ho.more (ls:=rb) (w5:=W') (v':=v') (by rw[hlen];exact h2)
theorem Qt{ops:Array Oper}{o:Oper}{a:Act}{K:Act->World->Prop}{Q:Exit->Act->World->Prop}{E:Prop}(hgd:o.guard=none)(s x:Operand)(ho:o.op=.call {callee:=.builtin .append,args:=#[s,x],argTypes:=#[61,61]}){v:Value}{rs:List Ru}(hs:a.eval s=v)(hx:a.eval x=.slice bo lb cb)(hro:RO W base v rs)(hb:SlOk W bo lb cb rb)(hbase:base<=W.heap.size)(hn:(rs.length+lb)*24<=140737488355328)(h:∀v' W',RO W' base v' (rs++rb)->W.grownBy W' v.ownBlock->K (a.put o.dst v') W'):
  if Region.wanted o (yielded ops a.tmps)=true then Oper.wp prog o a W K Q else E:=by
  have hw:Region.wanted o (yielded ops a.tmps)=true:=by simp[Region.wanted,hgd]
  rw[if_pos hw]
  obtain⟨v',W',hrun,h2,h3⟩:=z5v hro hb hbase hn
  unfold Oper.wp execOp
  simp only[ho,resolve,invoke,builtin,Sem.run_bind,Sem.run_pure,Result.andThen_ok,List.map_toArray,List.map_cons,List.map_nil,hs,hx,hrun]
  exact h v' W' h2 h3
end Tb
namespace Tb
open Go.RowKit Go.Maps Stw Go.Deep Rul Go.Sort
def stk (v f s:Int) (path:List Int):Nat->List Ru
 | 0=>[]
 | k+1=>stk v f s path k++(if path.getD k 0=s/\k+1<path.length then [(v,f,path.getD (k+1) 0)] else [])
def rof (v s:Int) (ps:List (List Int)):Nat->List Ru
 | 0=>[]
 | k+1=>rof v s ps k++stk v k s (ps.getD k []) (ps.getD k []).length
theorem stk_last{v f s:Int}{path:List Int}{k:Nat}(h:path.length<=k+1):stk v f s path (k+1)=stk v f s path k:=by rw[stk,if_neg (by omega),List.append_nil]
theorem z0v{v f s:Int}{path:List Int}:∀k,(stk v f s path k).length<=k
 | 0=>Ql _
 | k+1=>by
  have:=z0v (v:=v) (f:=f) (s:=s) (path:=path) k
  rw[stk,lap]
  split <;> simp <;> omega
def PsAt (w:World) (qo:Option Addr) (ps:List (List Int)):Prop:=ps=[]\/∃g off,qo=some ⟨g,off,none⟩/\g<w.heap.size/\∀k,k<ps.length->∃xo xc,w.cell? ⟨g,off+k,none⟩=some (.slice xo (ps.getD k []).length xc)/\Qj w xo (ps.getD k [])
theorem PsAt.ext{w w':World}{qo:Option Addr}{ps:List (List Int)}(h:PsAt w qo ps)(E:Ext w w'):PsAt w' qo ps:=by
 rcases h with h | ⟨g,off,h1,h2,h3⟩
 ·exact Or.inl h
 ·refine Or.inr ⟨g,off,h1,Q5 h2 E.size,fun k hk=>?_⟩
  obtain⟨xo,xc,c,l⟩:=h3 k hk
  exact⟨xo,xc,(E.cells.1 _ _ h2).trans c,l.ext E⟩
structure TB (w:World) (H n:Nat) (vs:Nat->Value) (ts:Nat->List Ru):Prop where
 row:w.rowIs H 61 n vs
 own:∀s,s<n->RO w (H+1) (vs s) (ts s)
 apart:∀s t,s<n->t<n->s≠t->∀g,(vs s).ownBlock=some g->(vs t).ownBlock≠some g
theorem TB.ext{w w':World}{H n:Nat}{vs:Nat->Value}{ts:Nat->List Ru}(h:TB w H n vs ts)(E:Ext w w'):TB w' H n vs ts:=
 ⟨h.row.of_block (Below.block E _ h.row.lt),fun s hs=>(h.own s hs).ext E,h.apart⟩
variable {w:World} {H:Nat} {vs:Nat->Value} {ts:Nat->List Ru}
theorem TB.congr{n:Nat}{ts':Nat->List Ru}(h:TB w H n vs ts)(e:∀s,s<n->ts s=ts' s):TB w H n vs ts':=
 ⟨h.row,fun s hs=>by rw[<-e s hs];exact h.own s hs,h.apart⟩
theorem RO.setBelow{base:Nat}{v:Value}{rs:List Ru}(h:RO w base v rs){a:Addr}(ha:a.block<base)(u:Value):RO (w.setCell a u) base v rs:=by
 refine⟨h.1,?_⟩
 rcases h.2 with h2 | ⟨g,cap,cur,h1,h2,h3,h4⟩
 ·exact Or.inl h2
 ·exact Or.inr ⟨g,cap,cur,h1,h2,(Zm _ _ _ _ (by omega)).trans h3,h4⟩
theorem TB.push{w':World}{n at_ g c:Nat}{o:Obj}{r:Ru}(h:TB w H n vs ts)(ha:at_<n)(hown:w'.ownsRow (H+1) 132 3 (.slice (some ⟨g,0,none⟩) ((ts at_).length+1) c) ((ts at_).length+1) (rcs (ts at_)++[.int .i64 r.1,.int .i64 r.2.1,.int .i64 r.2.2]))(hg:(w.alloc o).grownBy w' (vs at_).ownBlock)(Q2:(vs at_).ownBlock=some g\/g=w.heap.size+1):
  TB (w'.setCell ⟨H,at_,none⟩ (.slice (some ⟨g,0,none⟩) ((ts at_).length+1) c)) H n (fun s=>if s=at_ then .slice (some ⟨g,0,none⟩) ((ts at_).length+1) c else vs s) (fun s=>if s=at_ then ts s++[r] else ts s):=by
  have hH:=h.row.lt
  have hne:some H≠(vs at_).ownBlock:=fun e=>by have:=((h.own at_ ha).block H e.symm).1;omega
  have hHb:w'.heap[H]? =w.heap[H]?:=(hg.block H (by simp;omega) hne).trans (bal _ _ _ hH)
  refine⟨(h.row.of_block hHb).set at_ _,fun s hs=>?_,fun s t hs ht hst b hb=>?_⟩
  ·by_cases e:s=at_
   ·subst e
    simp only[↓reduceIte]
    refine RO.setBelow ?_ (by simp) _
    unfold RO
    rw[q2j,lap]
    simpa[rcs] using hown
   ·simp only[if_neg e]
    refine RO.setBelow ?_ (by simp) _
    have h1:=(h.own s hs).ext ((Ext.refl w).alloc o)
    refine World.ownsRow.kept h1 hg ?_
    cases hb:(vs s).ownBlock with
    | none=>exact Or.inl rfl
    | some b=>exact Or.inr (fun e2=>h.apart s at_ hs ha e b hb e2.symm)
  ·have hlt:∀q,q<n->∀b,(vs q).ownBlock=some b->b<w.heap.size:=fun q hq b hb=>((h.own q hq).block b hb).2
   by_cases e:s=at_
   ·subst e
    simp only[↓reduceIte,Value.ownBlock,Option.some.injEq] at hb
    subst hb
    simp only[if_neg (Ne.symm hst)]
    rcases Q2 with h1 | h1
    ·exact h.apart s t hs ht hst g h1
    ·intro h2;have:=hlt t ht _ h2;omega
   ·simp only[if_neg e] at hb
    by_cases e2:t=at_
    ·subst e2
     simp only[↓reduceIte,Value.ownBlock,ne_eq,Option.some.injEq]
     rcases Q2 with h1 | h1
     ·intro h2;subst h2;exact h.apart s t hs ht hst _ hb h1
     ·intro h2;have:=hlt s hs _ hb;omega
    ·simp only[if_neg e2]
     exact h.apart s t hs ht hst b hb
end Tb
end Go.Proofs.YthkpbefnkmmaiaaGreat
