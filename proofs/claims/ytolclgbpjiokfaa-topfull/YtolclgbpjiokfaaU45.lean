/- Play, where the net lies in the world of the call. -/
import Derived.Test.YtolclgbpjiokfaaU44
import Derived.Test.YtolclgbpjiokfaaU38
namespace Go.Proofs.Ytolclgbpjiokfaa.Rm
open Go.RowKit Go.Deep Stw Stp Tb Rul Ct
set_option maxRecDepth 100000 in
set_option maxHeartbeats 4000000 in
theorem Play_inN (N:Int) (ao:Option Addr) (len cap:Nat) (ls:List Lk) (lo:Option Addr) (lc:Nat) (ds:List Dd) (z w:World) (hz:Ext z w) (hlen:ls.length=len) (hl:NetAt w ao ls) (hx:len≤9223372036854775807) (hd:DosIn z w lo ds) (hS:DsSm ds) (hdl:ds.length≤9223372036854775807):
 Calls Try.prog 18 #[.agg #[.int .i64 N,.slice ao len cap],.slice lo ds.length lc] w fun e w'=>PlyAll z w (plyW N ls ds).1 (plyW N ls ds).2 (plyF N ls ds) e w':=by
 obtain⟨i0,hi0,hz00,hz01,hz02⟩:=info_parts infoEr
 have HA:=hidp (Pw_box w N (.slice ao len cap))
 have hE0:=Pw_ext w N (.slice ao len cap)
 go_enter Try.func18,Try.ntmps18
 go_wp2_with fail
 unfold Pw at HA hE0
 obtain⟨W1,hW1⟩:∃W1,W1=((w.alloc (.cells #[.int .i64 N,.slice ao len cap] 24)).alloc (.cells #[.int .i64 0,.int .i64 0,.slice none 0 0,.slice none 0 0,.int .i64 0,.slice none 0 0,.slice none 0 0,.int .i64 0,.slice none 0 0,.slice none 0 0,.slice none 0 0,.slice none 0 0,.slice none 0 0,.slice none 0 0] 40)).alloc (.cells #[.int .i64 0,.int .i64 0] 44):=⟨_,rfl⟩
 rw[←hW1] at HA hE0 ⊢
 clear hW1
 refine(Wrong_any N ao len cap ls W1 hlen (hl.ext hE0) hx).mono ?_
 rintro e w2 ⟨rfl,E2⟩
 have HA2:=hidp (HA.out.ext E2)
 have hl2:=HA2.out.lt
 have hE2:=hE0.trans E2
 have hl20:w.heap.size<w2.heap.size:=by omega
 have hl21:w.heap.size+1<w2.heap.size:=by omega
 have zw:=box_cell HA2.out.w
 have zf:=box_cell HA2.out.f
 have fw:=box_frozen HA2.out.w
 have ff:=box_frozen HA2.out.f
 have r0:=zw 0
 have r1:=zw 1
 have r2:=zw 2
 have r3:=zw 3
 have r4:=zw 4
 have r5:=zw 5
 have r6:=zw 6
 have r7:=zw 7
 have r8:=zw 8
 have r9:=zw 9
 have r10:=zw 10
 have r11:=zw 11
 have r12:=zw 12
 have r13:=zw 13
 have q0:=zf 0
 have q1:=zf 1
 simp only[List.getElem?_toArray,List.getElem?_cons_zero,List.getElem?_cons_succ] at r0 r1 r2 r3 r4 r5 r6 r7 r8 r9 r10 r11 r12 r13 q0 q1
 clear zw zf
 by_cases hr:(wrong N ls).1=0
 ·have hright:=right_of hr
  have hbd:=hright.bounds
  obtain⟨n,rfl⟩:=Int.eq_ofNat_of_zero_le (show 0≤N by omega)
  have hn8:n≤8:=by omega
  have HWR:=hidp hr
  rw[hright.wrong]
  clear hr hright hbd
  by_cases hm:200<ds.length
  ·have HF:Hid (plyF n ls ds=(5,0)):=by show _=_;unfold plyF;rw[if_neg (by simpa using HWR.out),if_pos hm]
   have HW:Hid (plyW n ls ds=(wd0,[])):=by show _=_;unfold plyW;rw[HF.out,if_pos (by decide)]
   have b0:(200:Int)<(ds.length:Int):=by omega
   clear hm
   go_wp2
   refine bodyPost_ret (v:=.tuple #[.agg #[.int .i64 0,.int .i64 0,.slice none 0 0,.slice none 0 0,.int .i64 0,.slice none 0 0,.slice none 0 0,.int .i64 0,.slice none 0 0,.slice none 0 0,.slice none 0 0,.slice none 0 0,.slice none 0 0,.slice none 0 0],.slice none 0 0,.agg #[.int .i64 5,.int .i64 0]]) (by simp[results,Try.results18,go_sem,r0,r1,r2,r3,r4,r5,r6,r7,r8,r9,r10,r11,r12,r13,q0,q1,hl2,hl21]) rfl ?_
   rw[HW.out,HF.out]
   refine⟨wa0,none,0,rfl,?_,fun U _ _ _=>⟨WoAt.zero U,Or.inl rfl⟩⟩
   refine Ext.alloc ?_ _
   iterate 16 refine Ext.setCell ?_ (by simp only;omega) _
   exact hE2
  ·have HF:=hidp (plyF_of (n:=(n:Int)) (ds:=ds) HWR.out (by omega))
   have b0:¬(200:Int)<(ds.length:Int):=by omega
   have n0:=HA2.out.n0
   have n1:=HA2.out.n1
   go_wp2_with fail
   refine(playedIn_any n ao len cap _ hn8).mono ?_
   rintro e w3 ⟨P,sb,ob,bb,rfl,hP1,hP2,hP3,hP4,hrow,hb1,hb2,hb3,E3⟩
   have hA3:=HA2.out.ext (((Ext.refl w2).alloc _).trans E3)
   have hE3:Ext w w3:=hE2.trans (((Ext.refl w2).alloc _).trans E3)
   have hPw:w.heap.size+1+1<P:=by simp at hP1;omega
   have HST:Hid (PlyJ z w w3 n len cap ao P sb ob bb (run n ls (ds.take 0)) (.slice none 0 0) w3):=⟨_,ca0,_,_,WSt.start1 (X:=z.heap.size) (Y:=w.heap.size+1+1) (Nat.le_refl _) (by have:=hz.size;omega) (by omega) hP2 hP3 hP4 hrow hb1 hb2 hb3 (hz.trans hE3),RwT.nil _ _ _ _ _,fun b h1 h2=>⟨tg1_in h1 h2 (by omega) hP2 hP3 hP4,rfl⟩⟩
   have HBW:=hidp hA3
   have HE3:=hidp hE3
   have hzs:=hz.size
   have hs3:=hE3.size
   have hl3:=hA3.lt
   have HDS:=hidp hd
   have HSM:=hidp hS
   have HNT:=hidp hl
   clear hA3 hE3 hrow hb1 hb2 hb3 E3 hP1 hd hS hl HA2 HA fw ff r0 r1 r2 r3 r4 r5 r6 r7 r8 r9 r10 r11 r12 r13 q0 q1 n0 n1 E2 hE2 hE0
   go_wp2
   go_loopw [9,28] (fun cv iv wd=>∃(k:Nat) (v:Value),k≤ds.length∧iv=.int .i64 k∧cv=v∧Hid (PlyJ z w w3 n len cap ao P sb ob bb (run n ls (ds.take k)) v wd)) (fun _ iv _=>ds.length - (intOf iv).toNat)
   case atStart=>exact⟨0,_,Nat.zero_le _,rfl,rfl,HST.out⟩
   case round=>
    obtain⟨k,v,hk,rfl,hcv,HI⟩:=hrel
    obtain rfl:=hcv.symm
    by_cases hlt:k<ds.length
    ·have i1:(k:Int)<(ds.length:Int):=by omega
     obtain⟨tg,a,kv,lv,hW,hC,hT⟩:=HI.out
     obtain⟨db,doff,fo,fc,rfl,hdb,c0,c1,c2,hfl⟩:=(HDS.out).get hlt
     have hwr:Ext w wr:=ext_fill hW.ext HE3.out (by have:=(Array.getElem?_eq_some_iff.1 ((hT (w.heap.size+1+1) (by omega) (by omega)).2.trans HBW.out.f)).1;omega) (fun b h1 h2=>(hT b h1 (by omega)).2) (hz.trans HE3.out)
     have hdb':db<wr.heap.size:=Nat.lt_of_lt_of_le hdb hwr.size
     have d0:=(hwr.cells.1 _ _ hdb).trans c0
     have d1:=(hwr.cells.1 _ _ hdb).trans c1
     have d2:=(hwr.cells.1 _ _ hdb).trans c2
     have hmem:ds.getD k dd0∈ds:=by rw[List.getD_eq_getElem?_getD,List.getElem?_eq_getElem hlt];exact List.getElem_mem _
     have hsm:=HSM.out _ hmem
     have HRT:Hid (run n ls (ds.take (k+1))=stepR n ls (run n ls (ds.take k)) (ds.getD k dd0)):=runR_take (n:=n) (ls:=ls) (q:=(wdN n,[])) hlt
     generalize ds.getD k dd0=d at d0 d1 d2 hfl hsm HRT
     obtain⟨dk,dn,dfs⟩:=d
     simp only at d0 d1 d2 hfl hsm
     have hinv:=run_inv (n:=n) (ls:=ls) (ds:=ds.take k) HWR.out (by rw[List.length_take];omega)
     have hcl:(run n ls (ds.take k)).2.length=k:=by rw[run_len,List.length_take];omega
     have HCL:=hidp hcl
     have HHP:Hid (∀V,Ext wr V→Calls Try.prog 39 #[.pointer (some ⟨P,0,none⟩),.agg #[.int .i64 dk,.int .i64 dn,.slice fo dfs.length fc]] V fun e w'=>MOut [.int .i64 (n:Int),.slice ao len cap] z P n tg V sb ob bb (hap n ls (run n ls (ds.take k)).1 ⟨dk,dn,dfs⟩) e w'):=fun V hV=>happen_anyN n len cap ls ao _ z P tg V _ a sb ob bb kv lv ⟨dk,dn,dfs⟩ fo fc (hW.toExt hV) hinv (by rw[List.length_take];omega) hlen (HNT.out.ext (hwr.trans hV)) hx hfl hsm.1 hsm.2
     clear hwr
     have HC:=hidp hC
     have HW0:=hidp hW
     have H8:=hidp hT
     clear hW hC hT hinv hsm hfl c0 c1 c2 hmem HI hcl
     generalize run n ls (ds.take k)=q at HC HW0 HHP HRT HCL
     obtain⟨QW,came⟩:=q
     go_wp2_with fail
     refine Calls.mono (HHP.out _ ((Ext.refl wr).alloc _)) ?_
     rintro e w5 ⟨rfl,tg5,a5,kv5,lv5,hW5,hK5⟩
     obtain⟨er,her⟩:∃er,er=(hap n ls (QW,came).1 ⟨dk,dn,dfs⟩).2:=⟨_,rfl⟩
     rw[←her]
     have HER:=hidp her
     have HW5:=hidp hW5
     have HKK:Hid (Kpt tg tg5 wr w5):=(Kpt.ext ((Ext.refl wr).alloc _)).trans hK5
     have HC5:=hidp (HC.out.keep HKK.out (Or.inr (Or.inl rfl)))
     have hcl:came.length=k:=HCL.out
     have EP:Ext w5 (w5.alloc (.cells #[.int .i64 er] 42)):=(Ext.refl w5).alloc _
     clear her hW5 hK5
     go_wp2_with (first | (at_builtin;refine wpList_append_rw _ rfl _ _ 41 rfl 42 i0 _ 1 8 Try.underlying41 hi0 hz00 hz01 hz02 rfl (by decide) _ came.length (came.map (Value.int .i64)) rfl (HC5.out.keep (KeepP.ext (S:=fun _=>True) EP) trivial).row ⟨w5.heap.size,0,none⟩ 1 [.int .i64 er] rfl rfl (news1 rfl (Ext.refl _)) (one1i _) (by unfold maxLen;omega) (by omega) ?_) | fail)
     intro g7 off7 cap7 w7 hr7 hg7 hat7
     obtain⟨tg7,hW7,hC7,hK7⟩:=WSt.pushE (HW5.out.toExt EP) (HC5.out.keep (KeepP.ext (S:=fun _=>True) EP) trivial) (by rw[hcl];exact hr7) hg7 (by simpa using hat7)
     have K8:KeepP (fun x=>x=8) tg tg7 wr w7:=(HKK.out.mono (fun x hx=>Or.inr (Or.inr hx))).trans ((KeepP.ext EP).trans (hK7.mono (fun x hx=>by omega)))
     have z8:∀b,z.heap.size≤b→b≤w.heap.size+1+1→tg7 b=8∧w7.heap[b]? =w3.heap[b]?:=fun b h1 h2=>by
      obtain⟨o,ho⟩:∃o,w3.heap[b]? =some o:=⟨_,Array.getElem?_eq_getElem (by omega)⟩
      exact keep8 ho (H8.out b h1 h2).1 (H8.out b h1 h2).2 K8
     have HST7:Hid (PlyJ z w w3 n len cap ao P sb ob bb (run n ls (ds.take (k+1))) (.slice (some ⟨g7,off7,none⟩) (k+1) cap7) w7):=by
      show PlyJ z w w3 n len cap ao P sb ob bb _ _ w7
      rw[HRT.out]
      refine⟨tg7,a5,kv5,lv5,hW7,?_,z8⟩
      show CamAt tg7 w7 (came++[(hap n ls (QW,came).1 ⟨dk,dn,dfs⟩).2]) _
      rw[←HER.out]
      rw[hcl] at hC7
      exact hC7
     clear hW7 hC7 hK7 K8 z8 hr7 hg7 hat7
     go_wp2
     refine⟨⟨k+1,_,by omega,by simp[go_sem],rfl,HST7.out⟩,?_⟩
     simp[intOf]
     omega
    ·have hke:k=ds.length:=by omega
     have i1:¬(k:Int)<(ds.length:Int):=by omega
     obtain⟨tg,a,kv,lv,hW,hC,hT⟩:=HI.out
     have hinv:=run_inv (n:=n) (ls:=ls) (ds:=ds.take k) HWR.out (by rw[List.length_take];omega)
     have HRE:Hid (plyW (n:Int) ls ds=run n ls (ds.take k)):=by
      show _=_
      rw[HF.out.2,hke,List.take_length]
      rfl
     obtain⟨ko,kc,lo2,lc2,hkv,hlv,hwo⟩:=hW.look hinv.lsw hinv.lod hinv.lbk
     have hlsw:=hinv.lsw
     have hlod:=hinv.lod
     have hlbk:=hinv.lbk
     clear hinv hwo
     generalize run n ls (ds.take k)=q at hW hC HRE hkv hlv hlsw hlod hlbk
     obtain⟨W,came⟩:=q
     simp only at hW hC hkv hlv hlsw hlod hlbk
     subst hkv hlv
     have p0:wr.cell? ⟨P,0,none⟩=some (.int .i64 W.co.st):=hW.row.cell (i:=0) (by simp)
     have p1:wr.cell? ⟨P,1,none⟩=some (.int .i64 W.co.now.v):=hW.row.cell (i:=1) (by simp)
     have p2:wr.cell? ⟨P,2,none⟩=some (.slice a.n.fo W.co.now.fs.length a.n.fc):=hW.row.cell (i:=2) (by simp)
     have p3:wr.cell? ⟨P,3,none⟩=some (.slice a.n.qo W.co.now.ps.length a.n.qc):=hW.row.cell (i:=3) (by simp)
     have p4:wr.cell? ⟨P,4,none⟩=some (.int .i64 W.co.nxt.v):=hW.row.cell (i:=4) (by simp)
     have p5:wr.cell? ⟨P,5,none⟩=some (.slice a.x.fo W.co.nxt.fs.length a.x.fc):=hW.row.cell (i:=5) (by simp)
     have p6:wr.cell? ⟨P,6,none⟩=some (.slice a.x.qo W.co.nxt.ps.length a.x.qc):=hW.row.cell (i:=6) (by simp)
     have p7:wr.cell? ⟨P,7,none⟩=some (.int .i64 W.co.num):=hW.row.cell (i:=7) (by simp)
     have p8:wr.cell? ⟨P,8,none⟩=some (.slice a.wo W.co.wts.length a.wc):=hW.row.cell (i:=8) (by simp)
     have p9:wr.cell? ⟨P,9,none⟩=some (.slice (some ⟨sb,0,none⟩) n n):=hW.row.cell (i:=9) (by simp)
     have p10:wr.cell? ⟨P,10,none⟩=some (.slice (some ⟨ob,0,none⟩) n n):=hW.row.cell (i:=10) (by simp)
     have p11:wr.cell? ⟨P,11,none⟩=some (.slice (some ⟨bb,0,none⟩) n n):=hW.row.cell (i:=11) (by simp)
     have p12:wr.cell? ⟨P,12,none⟩=some (.slice ko W.pk.length kc):=hW.row.cell (i:=12) (by simp)
     have p13:wr.cell? ⟨P,13,none⟩=some (.slice lo2 W.pn.length lc2):=hW.row.cell (i:=13) (by simp)
     have zw:=box_cell ((hT (w.heap.size+1) (by omega) (by omega)).2.trans HBW.out.w)
     have zf:=box_cell ((hT (w.heap.size+1+1) (by omega) (by omega)).2.trans HBW.out.f)
     have fw:=box_frozen ((hT (w.heap.size+1) (by omega) (by omega)).2.trans HBW.out.w)
     have ff:=box_frozen ((hT (w.heap.size+1+1) (by omega) (by omega)).2.trans HBW.out.f)
     have r0:=zw 0
     have r1:=zw 1
     have r2:=zw 2
     have r3:=zw 3
     have r4:=zw 4
     have r5:=zw 5
     have r6:=zw 6
     have r7:=zw 7
     have r8:=zw 8
     have r9:=zw 9
     have r10:=zw 10
     have r11:=zw 11
     have r12:=zw 12
     have r13:=zw 13
     have q0:=zf 0
     have q1:=zf 1
     simp only[List.getElem?_toArray,List.getElem?_cons_zero,List.getElem?_cons_succ] at r0 r1 r2 r3 r4 r5 r6 r7 r8 r9 r10 r11 r12 r13 q0 q1
     have HW:=hidp hW
     have HC:=hidp hC
     have HT:=hidp hT
     have hlw:w.heap.size+1+1<wr.heap.size:=(Array.getElem?_eq_some_iff.1 ((hT (w.heap.size+1+1) (by omega) (by omega)).2.trans HBW.out.f)).1
     have HX:=hidp (And.intro hlsw (And.intro hlod hlbk))
     clear zw zf hW hC hT hlsw hlod hlbk HI HST HDS HSM HNT
     go_wp2
     refine bodyPost_ret (v:=.tuple #[.agg #[.int .i64 W.co.st,.int .i64 W.co.now.v,.slice a.n.fo W.co.now.fs.length a.n.fc,.slice a.n.qo W.co.now.ps.length a.n.qc,.int .i64 W.co.nxt.v,.slice a.x.fo W.co.nxt.fs.length a.x.fc,.slice a.x.qo W.co.nxt.ps.length a.x.qc,.int .i64 W.co.num,.slice a.wo W.co.wts.length a.wc,.slice (some ⟨sb,0,none⟩) n n,.slice (some ⟨ob,0,none⟩) n n,.slice (some ⟨bb,0,none⟩) n n,.slice ko W.pk.length kc,.slice lo2 W.pn.length lc2],v,.agg #[.int .i64 0,.int .i64 0]]) (by simp[results,Try.results18,go_sem,r0,r1,r2,r3,r4,r5,r6,r7,r8,r9,r10,r11,r12,r13,q0,q1]) rfl ?_
     rw[HRE.out,HF.out.1]
     exact PlyAll.of (w3:=w3) HW.out HC.out (HT.out _ (by omega) (by omega)).1 (HT.out _ (by omega) (Nat.le_refl _)).1 (by omega) (by omega) hz HE3.out (fun b h1 h2=>HT.out b h1 (by omega)) (by omega) HX.out.1 HX.out.2.1 HX.out.2.2
 ·have HF:Hid (plyF N ls ds=wrong N ls):=by show _=_;unfold plyF;rw[if_pos hr]
  have HW:Hid (plyW N ls ds=(wd0,[])):=by show _=_;unfold plyW;rw[HF.out,if_pos hr]
  have b0:((wrong N ls).1 != 0)=true:=by simpa using hr
  clear hr
  go_wp2
  go_region
  go_wp2
  refine bodyPost_ret (v:=.tuple #[.agg #[.int .i64 0,.int .i64 0,.slice none 0 0,.slice none 0 0,.int .i64 0,.slice none 0 0,.slice none 0 0,.int .i64 0,.slice none 0 0,.slice none 0 0,.slice none 0 0,.slice none 0 0,.slice none 0 0,.slice none 0 0],.slice none 0 0,.agg #[.int .i64 (wrong N ls).1,.int .i64 (wrong N ls).2]]) (by simp[results,Try.results18,go_sem,r0,r1,r2,r3,r4,r5,r6,r7,r8,r9,r10,r11,r12,r13,q0,q1,hl2,hl21]) rfl ?_
  rw[HW.out,HF.out]
  refine⟨wa0,none,0,rfl,?_,fun U _ _ _=>⟨WoAt.zero U,Or.inl rfl⟩⟩
  refine Ext.drew (Ext.alloc ?_ _)
  iterate 16 refine Ext.setCell ?_ (by simp only;omega) _
  exact hE2
end Go.Proofs.Ytolclgbpjiokfaa.Rm
