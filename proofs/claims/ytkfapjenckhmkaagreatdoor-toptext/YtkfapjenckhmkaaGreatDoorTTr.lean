/- What the document's own Cost and Length answer, for every net and list; nothing that was there is changed. -/
import Derived.Test.YtkfapjenckhmkaaGreatDoorU01
import Derived.Test.YtkfapjenckhmkaaGreatDoorU02
import Derived.Lib.QuietBelow
namespace Go.Proofs.YtkfapjenckhmkaaGreatDoor
open Go.RowKit Go.Maps Stw Go.Sort
theorem jn_cases2 (y:Lk) (a b:Int):((a == y.a)=true∧(b == y.b)=true∧jn y a b=true)∨((a == y.a)=true∧(b == y.b)=false∧(a == y.b)=true∧(b == y.a)=true∧jn y a b=true)∨((a == y.a)=true∧(b == y.b)=false∧(a == y.b)=true∧(b == y.a)=false∧jn y a b=false)∨
 ((a == y.a)=true∧(b == y.b)=false∧(a == y.b)=false∧jn y a b=false)∨((a == y.a)=false∧(a == y.b)=true∧(b == y.a)=true∧jn y a b=true)∨((a == y.a)=false∧(a == y.b)=true∧(b == y.a)=false∧jn y a b=false)∨((a == y.a)=false∧(a == y.b)=false∧jn y a b=false):=by
 unfold jn
 rw[BEq.comm (a:=a) (b:=y.a),BEq.comm (a:=b) (b:=y.b),BEq.comm (a:=a) (b:=y.b),BEq.comm (a:=b) (b:=y.a)]
 cases (y.a == a) <;> cases (y.b == b) <;> cases (y.a == b) <;> cases (y.b == a) <;> simp
theorem cost_at:∀{ls:List Lk} {k:Nat} {a b:Int},k<ls.length→(∀j,j<k→jn (ls.getD j lk0) a b=false)→jn (ls.getD k lk0) a b=true→cost ls a b=(ls.getD k lk0).c
 | [],_,_,_,h,_,_=>by simp at h
 | l::r,0,a,b,_,_,h=>by
  have h':jn l a b=true:=h
  simp[cost,h']
 | l::r,k+1,a,b,hk,h0,h1=>by
  have h2:jn l a b=false:=h0 0 (by omega)
  simp only[cost,h2,Bool.false_eq_true,if_false]
  have:=cost_at (ls:=r) (k:=k) (a:=a) (b:=b) (by simpa using hk) (fun j hj=>h0 (j+1) (by omega)) h1
  simpa using this
theorem cost_not:∀{ls:List Lk} {a b:Int},(∀j,j<ls.length→jn (ls.getD j lk0) a b=false)→cost ls a b=0
 | [],_,_,_=>rfl
 | l::r,a,b,h0=>by
  have h2:jn l a b=false:=h0 0 (by simp)
  simp only[cost,h2,Bool.false_eq_true,if_false]
  exact cost_not (fun j hj=>h0 (j+1) (by simp;omega))
set_option maxHeartbeats 1000000 in
theorem refCost_none (n a b:Int) (ao:Option Addr) (cap:Nat) (w:World):
 Calls Tryz.prog 37 #[.agg #[.int .i64 n,.slice ao 0 cap],.int .i64 a,.int .i64 b] w fun e w'=>e=.returned (.int .i64 0)∧Ext w w':=by
 go_enter Tryz.func37,Tryz.ntmps37
 go_wp2
 refine wp_loop_rounds 1 ?_
 rw[rounds_succ]
 go_wp2
 go_ret
 exact⟨rfl,(Ext.refl w).alloc _⟩
set_option maxHeartbeats 2000000 in
theorem refCost_some (n a0 b0:Int) (b off len cap:Nat) (ls:List Lk) (w:World) (hlen:ls.length=len) (hl:LinksAt w b off ls) (hbl:b<w.heap.size) (hx:len≤9223372036854775807):
 Calls Tryz.prog 37 #[.agg #[.int .i64 n,.slice (some ⟨b,off,none⟩) len cap],.int .i64 a0,.int .i64 b0] w fun e w'=>e=.returned (.int .i64 (cost ls a0 b0))∧Ext w w':=by
 go_enter Tryz.func37,Tryz.ntmps37
 go_wp2
 go_loopw [12] (fun i wr=>∃k:Nat,k≤len∧i=.int .i64 k∧(∀j,j<k→jn (ls.getD j lk0) a0 b0=false)∧Ext w wr) (fun i _=>len - (intOf i).toNat)
 case atStart=>exact⟨0,Nat.zero_le _,rfl,fun j hj=>by omega,(Ext.refl w).alloc _⟩
 case round=>
  obtain⟨k,hk,rfl,hno,hext⟩:=hrel
  by_cases hlt:k<len
  ·obtain⟨m0,m1,m2⟩:=hl k (by omega)
   rw[←hext.cells.1 _ _ hbl] at m0 m1 m2
   have hjc:=jn_cases2 (ls.getD k lk0) a0 b0
   have hca:=cost_at (ls:=ls) (k:=k) (a:=a0) (b:=b0) (by omega) hno
   obtain⟨y,hy⟩:∃y,y=ls.getD k lk0:=⟨_,rfl⟩
   rw[←hy] at m0 m1 m2 hjc hca
   have HY:Hid (y=ls.getD k lk0):=hy
   have HCA:Hid (jn y a0 b0=true→cost ls a0 b0=y.c):=hca
   have HNO:Hid (∀j,j<k→jn (ls.getD j lk0) a0 b0=false):=hno
   clear hy hca hno
   have hbr:b<wr.heap.size:=by have:=hext.size;omega
   rcases hjc with⟨j1,j2,j3⟩ | ⟨j1,j2,j4,j5,j3⟩ | ⟨j1,j2,j4,j5,j3⟩ | ⟨j1,j2,j4,j3⟩ | ⟨j1,j4,j5,j3⟩ | ⟨j1,j4,j5,j3⟩ | ⟨j1,j4,j3⟩
   all_goals
    have HJ:Hid _:=j3
    clear j3
    go_wp2
    first
    | (go_ret
       exact⟨by rw[HCA.out HJ.out];rfl,hext.alloc _⟩)
    | (go_roundw
       (case rel=>
        refine⟨k+1,by omega,by go_num,fun j hj=>?_,hext.alloc _⟩
        by_cases e:j=k
        ·subst e;rw[←HY.out];exact HJ.out
        ·exact HNO.out j (by omega))
       (case measure=>simp[intOf];omega))
  ·go_wp2
   go_ret
   exact⟨by rw[cost_not (fun j hj=>hno j (by omega))];rfl,hext⟩
theorem refCost_any (n a0 b0:Int) (ao:Option Addr) (len cap:Nat) (ls:List Lk) (w:World) (hlen:ls.length=len) (hl:NetAt w ao ls) (hx:len≤9223372036854775807):
 Calls Tryz.prog 37 #[.agg #[.int .i64 n,.slice ao len cap],.int .i64 a0,.int .i64 b0] w fun e w'=>e=.returned (.int .i64 (cost ls a0 b0))∧Ext w w':=by
 rcases hl with rfl | ⟨b,off,rfl,hb,hl⟩
 ·subst hlen
  exact refCost_none n a0 b0 ao cap w
 ·exact refCost_some n a0 b0 b off len cap ls w hlen hl hb hx
end Go.Proofs.YtkfapjenckhmkaaGreatDoor
