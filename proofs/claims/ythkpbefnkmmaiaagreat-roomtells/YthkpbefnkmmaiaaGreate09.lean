import Derived.Test.YthkpbefnkmmaiaaGreate08
import Derived.Deep.DeepCutAuto
set_option maxRecDepth 100000
set_option maxHeartbeats 1000000
namespace Go.Proofs.YthkpbefnkmmaiaaGreat
open Go.Proofs.Tryz
namespace Wi
open Go.RowKit Go.Maps Go.Deep Tb Rul
def inB (x lo hi:Int):Bool:=decide (lo<=x/\x<=hi)
variable {x lo hi:Int}
theorem q5n:inB x lo hi=true↔lo<=x/\x<=hi:=by simp[inB]
theorem q0y:inB x lo hi=false↔¬(lo<=x/\x<=hi):=by simp[inB]
theorem q0b(x lo hi:Int)(w:World):
 Calls prog 90 #[.int .i64 x,.int .i64 lo,.int .i64 hi] w fun e w'=>e=.returned (.bool (inB x lo hi))/\w'=w:=by
 by_cases h1:lo<=x
 ·by_cases h2:x<=hi
  ·rw[q5n.2 ⟨h1,h2⟩]
   go_enter func90,ntmps90
   go_wp2
   go_ret
   exact⟨by first | rfl | simp,rfl⟩
  ·rw[q0y.2 (by omega)]
   go_enter func90,ntmps90
   go_wp2
   go_ret
   exact⟨by first | rfl | simp,rfl⟩
 ·rw[q0y.2 (by omega)]
  go_enter func90,ntmps90
  go_wp2
  go_ret
  exact⟨by first | rfl | simp,rfl⟩
def shE (v:Value):Option (DataW Unit×List MemPlace):=
 match v with
 | .agg cs=>match cs.toList with
  | [.int .i64 a,.int .i64 b]=>some (.agg [.lit (.int .i64 a),.lit (.int .i64 b)],[])
  | _=>none
 | _=>none
theorem z3t(a b:Int):shE (.agg #[.int .i64 a,.int .i64 b])=some (.agg [.lit (.int .i64 a),.lit (.int .i64 b)],[]):=rfl
variable {a b:Int}
theorem shE_inv{v:Value}{ps:List MemPlace}(h:shE v=some (.agg [.lit (.int .i64 a),.lit (.int .i64 b)],ps)):v=.agg #[.int .i64 a,.int .i64 b]:=by
 unfold shE at h
 split at h
 ·rename_i cs
  split at h
  ·rename_i a' b' hc
   simp only[Option.some.injEq,Prod.mk.injEq,DataW.agg.injEq,List.cons.injEq,DataW.lit.injEq,Lit.int.injEq,true_and,and_true] at h
   obtain⟨⟨rfl,rfl⟩,_⟩:=h
   have:cs=#[.int .i64 a',.int .i64 b']:=by apply Array.ext';simpa using hc
   rw[this]
  ·cases h
 ·cases h
def sh (a b:Int):DataW Unit:=.agg [.lit (.int .i64 a),.lit (.int .i64 b)]
def kd (k:Int):Lit:=.int .i64 k
def D3:DataW Unit:=(((DataW.map []).put (kd 1) (sh 16 2)).put (kd 2) (sh 12 1)).put (kd 3) (sh 0 0)
def most (k:Int):Int:=if k=1 then 16 else if k=2 then 12 else 0
def wide (k:Int):Int:=if k=1 then 2 else if k=2 then 1 else 0
def isK (k:Int):Bool:=decide (k=1\/k=2\/k=3)
theorem kd_ne(h:a≠b):kd a≠kd b:=fun e=>h (by simpa[kd] using e)
theorem kd_key(a:Int)(h:I64 a):WideAt.IsKeyLit (kd a):=(int_keyed underlying3).key (keyOf_int_mk underlying3 h)
theorem D3_at(k:Int):D3.atKey (kd k) (sh 0 0)=sh (most k) (wide k)/\Maps.has D3 (kd k)=isK k:=by
 have k1:=kd_key 1 (Zi (by omega) (by omega))
 have k2:=kd_key 2 (Zi (by omega) (by omega))
 have k3:=kd_key 3 (Zi (by omega) (by omega))
 have m0:IsMap (DataW.map []:DataW Unit):=isMap_empty
 unfold D3
 by_cases h3:k=3
 ·subst h3
  exact⟨atKey_put_same ((m0.put _ _).put _ _) k3 _ _,has_put_same ((m0.put _ _).put _ _) k3 _⟩
 ·rw[atKey_put_other (kd_ne h3),has_put_other (kd_ne h3)]
  by_cases h2:k=2
  ·subst h2
   exact⟨atKey_put_same (m0.put _ _) k2 _ _,has_put_same (m0.put _ _) k2 _⟩
  ·rw[atKey_put_other (kd_ne h2),has_put_other (kd_ne h2)]
   by_cases h1:k=1
   ·subst h1
    exact⟨atKey_put_same m0 k1 _ _,has_put_same m0 k1 _⟩
   ·rw[atKey_put_other (kd_ne h1),has_put_other (kd_ne h1)]
    refine⟨?_,?_⟩
    ·simp only[most,wide,if_neg h1,if_neg h2];rfl
    ·have:isK k=false:=by simp[isK,h1,h2,h3]
     rw[this];rfl
def Shp (w:World) (m:Nat):Prop:=w.ownsMap prog 3 shE m 3 D3
variable {w:World} {m:Nat}
theorem Shp.ext{w':World}(h:Shp w m)(k:Ext w w'):Shp w' m:=by
 have hlt:=World.ownsMap.lt h
 obtain⟨es,cl,hb,r⟩:=h
 exact⟨es,cl,by rw[<-hb];exact Below.block k m hlt,r⟩
theorem zeroSh(w:World):(zeroValue 172).run prog w=.ok (.agg #[.int .i64 0,.int .i64 0]) w:=by kernel_rfl
theorem Shp.look(h:Shp w m){k:Int}(hk:I64 k):
 (Instr.lookup 174 (.map (some m)) (.int .i64 k) true).run prog w=.ok (.tuple #[.agg #[.int .i64 (most k),.int .i64 (wide k)],.bool (isK k)]) w
 /\(Instr.lookup 174 (.map (some m)) (.int .i64 k) false).run prog w=.ok (.agg #[.int .i64 (most k),.int .i64 (wide k)]) w:=by
 have K:Keyed prog 3:=int_keyed underlying3
 have hkey:keyOf prog 3 (.int .i64 k)=some (kd k):=keyOf_int_mk underlying3 hk
 obtain⟨v,ps,r1,h1⟩:=World.ownsMap.look_ok h K underlying174 (zeroSh w) (z3t 0 0) hkey
 obtain⟨u,qs,r2,h2⟩:=World.ownsMap.lookup h K underlying174 (zeroSh w) (z3t 0 0) hkey
 obtain⟨e1,e2⟩:=D3_at k
 unfold sh at e1
 rw[e1] at h1 h2
 rw[e2] at r1
 rw[shE_inv h1] at r1
 rw[shE_inv h2] at r2
 exact⟨r1,r2⟩
theorem shapes_any(w:World):
 Calls prog 91 #[] w fun e w'=>∃m,e=.returned (.map (some m))/\Shp w' m/\Ext w w':=by
 have K:Keyed prog 3:=int_keyed underlying3
 have hkey:∀k:Int,I64 k->keyOf prog 3 (.int .i64 k)=some (kd k):=fun k hk=>keyOf_int_mk underlying3 hk
 have hmm:=@run_makeMap prog
 have o0:=World.ownsMap_made w prog 3 shE
 obtain⟨w1,r1,o1,g1⟩:=o0.update K underlying174 (by decide) (hkey 1 (Zi (by omega) (by omega))) (z3t 16 2)
 obtain⟨w2,r2,o2,g2⟩:=o1.update K underlying174 (by decide) (hkey 2 (Zi (by omega) (by omega))) (z3t 12 1)
 obtain⟨w3,r3,o3,g3⟩:=o2.update K underlying174 (by decide) (hkey 3 (Zi (by omega) (by omega))) (z3t 0 0)
 have E1:Ext w w1:=Below.grown ((Ext.refl w).alloc _) g1 (by simp) (fun j hj=>by cases hj;exact Ql _)
 have E2:Ext w w2:=Below.grown E1 g2 (Ext.size E1) (fun j hj=>by cases hj;exact Ql _)
 have E3:Ext w w3:=Below.grown E2 g3 (Ext.size E2) (fun j hj=>by cases hj;exact Ql _)
 have HS:Hid (Shp w3 w.heap.size):=o3
 clear o0 o1 o2 o3 g1 g2 g3 hkey
 go_enter func91,ntmps91
 go_wp2
 go_ret
 exact⟨_,rfl,HS.out,E3⟩
def wrR (v most:Int) (rs:List Ru):Int:=if most<(rs.length:Int) then 5 else if rs.any (Wir.badR v) then 3 else 0
def wrF (most:Int) (fs:List Int):Int:=if most<(fs.length:Int) then 5 else if Wir.badF (-1) fs then 3 else 0
variable {k:Nat} {f:Ru->Bool}
theorem z2s{rs:List Ru}(hk:k<rs.length):(rs.drop k).any f=(f (rs.getD k r0) || (rs.drop (k+1)).any f):=by
 have e:rs.getD k r0=rs[k]:=by simp[hk]
 rw[List.drop_eq_getElem_cons hk,List.any_cons,e]
theorem any_end{rs:List Ru}(hk:rs.length<=k):(rs.drop k).any f=false:=by rw[List.drop_eq_nil_of_le hk];rfl
variable {r:Ru}
theorem badR_ver{v:Int}(h:(r.1 != v)=true):Wir.badR v r=true:=by
 have:r.1≠v:=by simpa using h
 exact dtt (Or.inl this)
theorem badR_flow{v:Int}(h:inB r.2.1 0 11=false):Wir.badR v r=true:=by
 rw[q0y] at h
 exact dtt (Or.inr (by omega))
theorem badR_next{v:Int}(h:inB r.2.2 0 7=false):Wir.badR v r=true:=by
 rw[q0y] at h
 exact dtt (Or.inr (by omega))
theorem badR_ok{v:Int}(h:(r.1 != v)=false)(h1:inB r.2.1 0 11=true)(h2:inB r.2.2 0 7=true):Wir.badR v r=false:=by
 rw[q5n] at h1 h2
 have:r.1=v:=by simpa using h
 exact dff (by omega)
theorem z3d{v most:Int}{rs:List Ru}(hm:(rs.length:Int)<=most)(h:rs.any (Wir.badR v)=(rs.drop k).any (Wir.badR v))(hk:k<rs.length)(hb:Wir.badR v (rs.getD k r0)=true):wrR v most rs=3:=by
 rw[wrR,if_neg (by omega),if_pos];rw[h,z2s hk,hb];rfl
theorem wrR_zero{v most:Int}{rs:List Ru}(hm:(rs.length:Int)<=most)(h:rs.any (Wir.badR v)=(rs.drop k).any (Wir.badR v))(hk:rs.length<=k):wrR v most rs=0:=by
 rw[wrR,if_neg (by omega),if_neg];rw[h,any_end hk];simp
theorem q8z(ao:Option Addr)(len cap:Nat)(rs:List Ru)(v most:Int)(w:World)(hlen:rs.length=len)(hf:Zl w ao rs)(hl:len<=4611686018427387904):
 Calls prog 92 #[.slice ao len cap,.int .i64 v,.int .i64 most] w fun e w'=>e=.returned (.int .i64 (wrR v most rs))/\Ext w w':=by
 by_cases hm:most<(len:Int)
 ·rw[show wrR v most rs=5 by rw[wrR,if_pos (by omega)]]
  go_enter func92,ntmps92
  go_wp2
  go_ret
  exact⟨rfl,Ext.refl w⟩
 ·have hm':(rs.length:Int)<=most:=by omega
  have HM:Hid ((rs.length:Int)<=most):=hm'
  clear hm'
  go_enter func92,ntmps92
  go_wp2
  go_loopw [15] (fun iv wd=>∃k:Nat,k<=len/\iv=.int .i64 k/\Hid (rs.any (Wir.badR v)=(rs.drop k).any (Wir.badR v))/\Ext w wd) (fun iv _=>len - (intOf iv).toNat)
  case atStart=>exact⟨0,Zu _,rfl,by rw[List.drop_zero];exact rfl,Ext.refl w⟩
  case round=>
   obtain⟨k,hk,rfl,HW,hE⟩:=hrel
   by_cases hlt:k<len
   ·obtain⟨g,off,rfl,hg,hcs⟩:=(hf.ext hE).get (k:=k) (by omega)
    have i1:(k:Int)<(len:Int):=by omega
    have HST:Hid _:=z2s (f:=Wir.badR v) (rs:=rs) (k:=k) (by omega)
    have HT:Hid (Wir.badR v (rs.getD k r0)=true->wrR v most rs=3):=fun hb=>z3d HM.out HW.out (by omega) hb
    obtain⟨c0,c1,c2⟩:=hcs k (by omega)
    obtain⟨r,hr⟩:∃r,rs.getD k r0=r:=⟨_,rfl⟩
    rw[hr] at c0 c1 c2 HST HT
    clear hr hcs
    cases b1:(r.1 != v)
    ·cases b2:inB r.2.1 0 11
     ·have HF:Hid _:=HT.out (badR_flow b2)
      clear HST HT HW
      go_wp2_with (go_at_call 90;refine(q0b _ _ _ _).mono ?_;rintro e w1 ⟨rfl,rfl⟩)
      go_ret
      exact⟨by rw[HF.out];first | done | rfl,hE.alloc _⟩
     ·cases b3:inB r.2.2 0 7
      ·have HF:Hid _:=HT.out (badR_next b3)
       clear HST HT HW
       go_wp2_with (go_at_call 90;refine(q0b _ _ _ _).mono ?_;rintro e w1 ⟨rfl,rfl⟩)
       go_ret
       exact⟨by rw[HF.out];first | done | rfl,hE.alloc _⟩
      ·have HW2:Hid (rs.any (Wir.badR v)=(rs.drop (k+1)).any (Wir.badR v)):=by
        show _=_
        rw[HW.out,HST.out,badR_ok b1 b2 b3];rfl
       clear HST HT HW
       go_wp2_with (go_at_call 90;refine(q0b _ _ _ _).mono ?_;rintro e w1 ⟨rfl,rfl⟩)
       exact⟨⟨k+1,by omega,by go_num,HW2,hE.alloc _⟩,by simp[intOf];omega⟩
    ·have HF:Hid _:=HT.out (badR_ver b1)
     clear HST HT HW
     go_wp2
     go_ret
     exact⟨by rw[HF.out];first | done | rfl,hE.alloc _⟩
   ·have HF:Hid _:=wrR_zero HM.out HW.out (by omega:rs.length<=k)
    clear HW
    go_wp2
    go_ret
    exact⟨by rw[HF.out];first | done | rfl,hE⟩
def pvF (fs:List Int):Nat->Int
 | 0=> -1
 | k+1=>fs.getD k 0
variable {fs:List Int}
theorem z5s(hk:k<fs.length):Wir.badF (pvF fs k) (fs.drop k)=if fs.getD k 0<=pvF fs k\/11<fs.getD k 0 then true else Wir.badF (pvF fs (k+1)) (fs.drop (k+1)):=by
 have e:fs.getD k 0=fs[k]:=by simp[hk]
 rw[List.drop_eq_getElem_cons hk,Wir.badF,pvF,e]
theorem badF_end(hk:fs.length<=k):Wir.badF (pvF fs k) (fs.drop k)=false:=by rw[List.drop_eq_nil_of_le hk,Wir.badF]
theorem q9a(ao:Option Addr)(len cap:Nat)(fs:List Int)(most:Int)(w:World)(hlen:fs.length=len)(hf:Qj w ao fs)(hl:len<=4611686018427387904):
 Calls prog 93 #[.slice ao len cap,.int .i64 most] w fun e w'=>e=.returned (.int .i64 (wrF most fs))/\Ext w w':=by
 by_cases hm:most<(len:Int)
 ·rw[show wrF most fs=5 by rw[wrF,if_pos (by omega)]]
  go_enter func93,ntmps93
  go_wp2
  go_ret
  exact⟨rfl,Ext.refl w⟩
 ·have hm':(fs.length:Int)<=most:=by omega
  have HM:Hid ((fs.length:Int)<=most):=hm'
  clear hm'
  go_enter func93,ntmps93
  go_wp2
  go_loopw [13] (fun iv wd=>∃k:Nat,k<=len/\iv=.int .i64 k/\Hid (Wir.badF (-1) fs=Wir.badF (pvF fs k) (fs.drop k))/\Hid (0<k->0<=pvF fs k)/\Ext w wd) (fun iv _=>len - (intOf iv).toNat)
  case atStart=>exact⟨0,Zu _,rfl,by rw[List.drop_zero];exact rfl,(fun h=>absurd h (by omega)),Ext.refl w⟩
  case round=>
   obtain⟨k,hk,rfl,HW,HN,hE⟩:=hrel
   by_cases hlt:k<len
   ·obtain⟨g,off,rfl,hg,hcs⟩:=(hf.ext hE).get (k:=k) (by omega)
    have i1:(k:Int)<(len:Int):=by omega
    have HST:Hid _:=z5s (fs:=fs) (k:=k) (by omega)
    have HT:Hid ((fs.getD k 0<=pvF fs k\/11<fs.getD k 0)->wrF most fs=3):=fun hb=>by have:=HM.out;rw[wrF,if_neg (by omega),if_pos];rw[HW.out,HST.out,if_pos hb]
    have c0:=hcs k (by omega)
    have HNX:Hid (pvF fs (k+1)=fs.getD k 0):=rfl
    obtain⟨f,hfe⟩:∃f,fs.getD k 0=f:=⟨_,rfl⟩
    rw[hfe] at c0 HST HT HNX
    clear hfe
    cases b1:inB f 0 11
    ·have HF:Hid (wrF most fs=3):=HT.out (by
      rw[q0y] at b1
      cases k with
      | zero=>show f<= -1\/_;omega
      | succ k=>have:=HN.out (by omega);omega)
     clear HST HT HW hcs HNX HN
     go_wp2_with (go_at_call 90;refine(q0b _ _ _ _).mono ?_;rintro e w1 ⟨rfl,rfl⟩)
     go_ret
     exact⟨by rw[HF.out];first | done | rfl,hE⟩
    ·have hb:=q5n.1 b1
     have HB:Hid (0<=f/\f<=11):=hb
     clear hb
     have HN2:Hid (0<k+1->0<=pvF fs (k+1)):=fun _=>by rw[HNX.out];exact HB.out.1
     by_cases hk0:k=0
     ·subst hk0
      rw[Nat.add_zero] at c0
      have HW2:Hid (Wir.badF (-1) fs=Wir.badF (pvF fs 1) (fs.drop 1)):=HW.out.trans (HST.out.trans (if_neg (by have:=HB.out;show ¬(f<= -1\/_);omega)))
      clear HST HT HW hcs HNX HN
      go_wp2_with (go_at_call 90;refine(q0b _ _ _ _).mono ?_;rintro e w1 ⟨rfl,rfl⟩)
      exact⟨⟨1,by omega,by go_num,HW2,HN2,hE⟩,by simp[intOf];omega⟩
     ·obtain⟨j,rfl⟩:∃j,k=j+1:=⟨k - 1,by omega⟩
      have c1:=hcs j (by omega)
      have HP:Hid (pvF fs (j+1)=fs.getD j 0):=rfl
      obtain⟨q,hq⟩:∃q,fs.getD j 0=q:=⟨_,rfl⟩
      rw[hq] at c1 HP
      have i2:(j:Int)<(len:Int):=by omega
      have i0:(0:Int)<(j:Int)+1:=by omega
      by_cases hqf:f<=q
      ·have HF:Hid (wrF most fs=3):=HT.out (Or.inl (by rw[HP.out];exact hqf))
       clear HST HT HW hcs HNX HN HN2 HP hq
       go_wp2_with (go_at_call 90;refine(q0b _ _ _ _).mono ?_;rintro e w1 ⟨rfl,rfl⟩)
       go_ret
       exact⟨by rw[HF.out];first | done | rfl,hE⟩
      ·have HW2:Hid (Wir.badF (-1) fs=Wir.badF (pvF fs (j+1+1)) (fs.drop (j+1+1))):=HW.out.trans (HST.out.trans (if_neg (by have:=HB.out;rw[HP.out];omega)))
       clear HST HT HW hcs HNX HN HP hq
       go_wp2_with (go_at_call 90;refine(q0b _ _ _ _).mono ?_;rintro e w1 ⟨rfl,rfl⟩)
       exact⟨⟨j+1+1,by omega,by go_num,HW2,HN2,hE⟩,by simp[intOf];omega⟩
   ·have HF:Hid (wrF most fs=0):=by show wrF most fs=0;have:=HM.out;rw[wrF,if_neg (by omega),HW.out,badF_end (by omega)];rfl
    clear HW
    go_wp2
    go_ret
    exact⟨by rw[HF.out];first | done | rfl,hE⟩
def ovl (o:Wir.Od) (ro fo:Option Addr) (rc fc:Nat):Value:=.agg #[.int .i64 o.k,.int .i64 o.n,.int .i64 o.v,.slice ro o.rs.length rc,.slice fo o.fs.length fc]
structure OAt (w:World) (o:Wir.Od) (ro fo:Option Addr):Prop where
 hr:Zl w ro o.rs
 hf:Qj w fo o.fs
 hk:I64 o.k
 rl:o.rs.length<=4611686018427387904
 fl:o.fs.length<=4611686018427387904
theorem OAt.ext{w w':World}{o:Wir.Od}{ro fo:Option Addr}(h:OAt w o ro fo)(E:Ext w w'):OAt w' o ro fo:=⟨h.hr.ext E,h.hf.ext E,h.hk,h.rl,h.fl⟩
variable {o:Wir.Od}
theorem q4p(h:inB o.n 1 100000=false\/inB o.v 1 1000=false):Wir.Qc o=3:=by
 rw[q0y,q0y] at h
 rw[Wir.Qc,if_pos (by omega)]
theorem q9l(h1:inB o.n 1 100000=true)(h2:inB o.v 1 1000=true):Wir.Qc o=if o.k=1 then wrR o.v 16 o.rs else if o.k=2 then wrF 12 o.fs else if o.k=3 then 0 else 1:=by
 rw[q5n] at h1 h2
 rw[Wir.Qc,if_neg (by omega),wrR,wrF]
 by_cases k1:o.k=1
 ·rw[if_pos k1,if_pos k1]
  by_cases h:16<o.rs.length
  ·rw[if_pos h,if_pos (show(16:Int)<(o.rs.length:Int) by omega)]
  ·rw[if_neg h,if_neg (show ¬(16:Int)<(o.rs.length:Int) by omega)]
 ·rw[if_neg k1,if_neg k1]
  by_cases h:12<o.fs.length
  ·rw[if_pos h,if_pos (show(12:Int)<(o.fs.length:Int) by omega)]
  ·rw[if_neg h,if_neg (show ¬(12:Int)<(o.fs.length:Int) by omega)]
theorem set_two{w1:World}{b:Nat}{x y u:Value}(q:w1.cell? ⟨b,0,none⟩=some u):((w1.setCell ⟨b,0,none⟩ x).setCell ⟨b,1,none⟩ y).cell? ⟨b,0,none⟩=some x:=by
 rw[World.cell?_setCell_other _ _ _ _ (by simp),World.cell?_setCell_same _ _ _ q]
theorem Zb(o:Wir.Od)(ro fo:Option Addr)(rc fc:Nat)(w:World)(h:OAt w o ro fo):
 Calls prog 70 #[ovl o ro fo rc fc] w fun e w'=>e=.returned (.int .i64 (Wir.Qc o))/\Ext w w':=by
 obtain⟨k,n,v,rs,fs⟩:=o
 unfold ovl
 cases b1:inB n 1 100000
 ·have HF:Hid _:=q4p (o:=⟨k,n,v,rs,fs⟩) (Or.inl b1)
  go_enter func70,ntmps70
  go_wp2_with (go_at_call 90;refine(q0b _ _ _ _).mono ?_;rintro e w1 ⟨rfl,rfl⟩)
  go_ret
  exact⟨by rw[HF.out];first | done | rfl,(Ext.refl _).alloc _⟩
 ·cases b2:inB v 1 1000
  ·have HF:Hid _:=q4p (o:=⟨k,n,v,rs,fs⟩) (Or.inr b2)
   go_enter func70,ntmps70
   go_wp2_with (go_at_call 90;refine(q0b _ _ _ _).mono ?_;rintro e w1 ⟨rfl,rfl⟩)
   go_ret
   exact⟨by rw[HF.out];first | done | rfl,(Ext.refl _).alloc _⟩
  ·have HF:Hid _:=q9l (o:=⟨k,n,v,rs,fs⟩) b1 b2
   have hk:I64 k:=h.hk
   go_enter func70,ntmps70
   go_upto_region 3 with(go_at_call 90;refine(q0b _ _ _ _).mono ?_;rintro e w1 ⟨rfl,rfl⟩)
   obtain⟨B,hB⟩:=Qy (w.alloc (.cells #[.int .i64 k,.int .i64 n,.int .i64 v,.slice ro rs.length rc,.slice fo fs.length fc] 69))
   have HS:Hid (∀W,Ext B W->cl W w.heap.size 0 (.int .i64 k)/\cl W w.heap.size 2 (.int .i64 v)/\cl W w.heap.size 3 (.slice ro rs.length rc)/\cl W w.heap.size 4 (.slice fo fs.length fc)):=fun W hW=>by
    have hlt:w.heap.size<B.heap.size:=by rw[hB];simp
    refine⟨(hW.cells.1 _ _ hlt).trans ?_,(hW.cells.1 _ _ hlt).trans ?_,(hW.cells.1 _ _ hlt).trans ?_,(hW.cells.1 _ _ hlt).trans ?_⟩ <;> (rw[hB];simp)
   have hE0:Ext w B:=by rw[hB];exact(Ext.refl w).alloc _
   rw[<-hB]
   clear hB
   have hR0:=Ext.refl B
   go_cut [3,4] (fun pv tv wc=>∃bs:Nat,pv=.pointer (some ⟨bs,0,none⟩)/\tv=.bool (isK k)/\wc.cell? ⟨bs,0,none⟩=some (.int .i64 (most k))/\Ext B wc)
   case first=>as_aux_lemma=>
    go_region_held3 (fun W=>cl W w.heap.size 0 (.int .i64 k))
     (first | exact(HS.out _ hR0.drew).1 | exact(HS.out _ (hR0.alloc _).drew).1 | exact(HS.out _ mk).1 | exact(HS.out _ (mk.alloc _)).1 | exact(HS.out _ ((mk.setCell (Ql _) _).setCell (Ql _) _)).1 | exact(HS.out _ (((mk.alloc _).setCell mk.size _).setCell mk.size _)).1 | exact(HS.out _ (mk.alloc _)).1)
     (first
      | (go_at_call 91;refine(shapes_any _).mono ?_;rintro e w1 ⟨m,rfl,hS,E1⟩
         have mk:Ext B w1:=(by first | exact hR0.drew.trans E1 | exact(hR0.alloc _).drew.trans E1)
         have q0:=fun h=>E1.cells.1 B.heap.size 0 h
         have q1:=fun h=>E1.cells.1 B.heap.size 1 h
         have f0:=fun h=>E1.cells.2 B.heap.size 0 h
         have f1:=fun h=>E1.cells.2 B.heap.size 1 h
         simp at q0 q1 f0 f1
         have r1:=(hS.look hk).1;have r2:=((hS.ext ((Ext.refl _).alloc (.cells #[.int .i64 0,.int .i64 0] 172))).look hk).1))
    all_goals(
     go_wp2
     go_meet
     case rel=>exact⟨_,rfl,rfl,by first | (simp;done) | exact set_two q0,by first | exact mk.alloc _ | exact(mk.setCell (Ql _) _).setCell (Ql _) _ | exact((mk.alloc _).setCell mk.size _).setCell mk.size _⟩)
   case rest=>
    obtain⟨bs,rfl,rfl,hc0,hW⟩:=hcut
    have hE:=hE0.trans hW
    have hor:=h.hr.ext hE
    have hof:=h.hf.ext hE
    obtain⟨p0,p2,p3,p4⟩:=HS.out _ hW
    clear HS hk
    by_cases h1:k=1
    ·subst h1
     have HF1:Hid (Wir.Qc ⟨1,n,v,rs,fs⟩=wrR v 16 rs):=HF.out
     rw[show isK 1=true from rfl]
     rw[show most 1=16 from rfl] at hc0
     clear HF
     go_wp2_with fail
     refine(q8z ro rs.length rc rs v 16 _ rfl hor h.rl).mono ?_
     rintro e w2 ⟨rfl,E2⟩
     go_wp2
     go_ret
     exact⟨by rw[HF1.out];first | done | rfl,hE.trans E2⟩
    ·by_cases h2:k=2
     ·subst h2
      have HF1:Hid (Wir.Qc ⟨2,n,v,rs,fs⟩=wrF 12 fs):=HF.out
      rw[show isK 2=true from rfl]
      rw[show most 2=12 from rfl] at hc0
      clear HF h1
      go_wp2_with fail
      refine(q9a fo fs.length fc fs 12 _ rfl hof h.fl).mono ?_
      rintro e w2 ⟨rfl,E2⟩
      go_wp2
      go_ret
      exact⟨by rw[HF1.out];first | done | rfl,hE.trans E2⟩
     ·by_cases h3:k=3
      ·subst h3
       have HF1:Hid (Wir.Qc ⟨3,n,v,rs,fs⟩=0):=HF.out
       rw[show isK 3=true from rfl]
       clear HF h1 h2
       go_wp2
       go_ret
       exact⟨by rw[HF1.out];first | done | rfl,hE⟩
      ·have HF1:Hid (Wir.Qc ⟨k,n,v,rs,fs⟩=1):=HF.out.trans (by rw[if_neg h1,if_neg h2,if_neg h3])
       rw[show isK k=false by simp[isK,h1,h2,h3]]
       clear HF h1 h2 h3
       go_wp2
       go_ret
       exact⟨by rw[HF1.out];first | done | rfl,hE⟩
end Wi
end Go.Proofs.YthkpbefnkmmaiaaGreat
