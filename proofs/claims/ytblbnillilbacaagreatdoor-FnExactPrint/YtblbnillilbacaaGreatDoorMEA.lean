/-
 The specification's text of an expression, by its contract. No statement is proved here.
-/
import Derived.Test.YtblbnillilbacaaGreatDoorZ0
import Derived.Test.YtblbnillilbacaaGreatDoorMEAlso
import Derived.Deep.DeepCutAuto
import Derived.Deep.CutBlock
namespace Go.Proofs.YtblbnillilbacaaGreatDoor.By
open Go.RowKit
set_option linter.unusedVariables false
set_option linter.unusedSimpArgs false
set_option maxRecDepth 8000 in
set_option maxHeartbeats 32000000 in
theorem l5sayA (W0:World) (m:Nat) (IH0:SaC W0 m):SaQ W0 (m+1) (fun k=>k=0∨k=1∨k=2∨k=3∨k=5∨k=18):=by
 intro p kids alts a1 l1 c1 a2 l2 c2 a3 l3 c3 a4 l4 c4 a5 l5 c5 v zs w d hQ hm h ho hb hw hlen
 obtain ⟨TX,NF,-,GK,GA⟩:=exX_all ho
 have hoo:=ho
 simp only[okE,Bool.and_eq_true] at hoo
 obtain ⟨⟨⟨-,hoN⟩,hoK⟩,hoA⟩:=hoo
 have hbad:=okN_arms hoN
 obtain ⟨k,n,name,arg,lit⟩:=p
 simp only at *
 have HQ:Hid (k=0∨k=1∨k=2∨k=3∨k=5∨k=18):=hQ
 clear hQ
 obtain ⟨i0,hi,hz0,hz1,hz2⟩:=info_parts infoS
 have hk0:=NF.lo
 have hk1:=NF.hi
 have hnl:=NF.name
 have hal:=NF.arg
 have hll:=NF.lit
 simp only at hk0 hk1 hnl hal hll
 have hl1:name.length=l1:=h.1.1.1
 have hl2:arg.length=l2:=h.2.1.1.1
 have hl3:lit.length=l3:=h.2.2.1.1.1
 have hk4:=h.2.2.2.1.1
 have hk5:=h.2.2.2.2.1
 have hk4b:=h.2.2.2.1.2.1
 have hk5b:=h.2.2.2.2.2.1
 have hks:=exL_len false kids
 have hrs:=exL_len true alts
 have hB:=hb.size
 obtain ⟨ks,hksd⟩:∃ ks,exL false kids=ks:=⟨_,rfl⟩
 obtain ⟨rs,hrsd⟩:∃ rs,exL true alts=rs:=⟨_,rfl⟩
 have HX:Hid (exX ⟨k,n,name,arg,lit⟩ kids alts=saY ⟨k,n,name,arg,lit⟩ ks rs):=by show _=_;unfold exX;rw[hksd,hrsd]
 rw[HX.out] at hlen
 have HGP:Hid (gapB (saY ⟨k,n,name,arg,lit⟩ ks rs)=true):=by have:=TX.gap;rw[hksd,hrsd] at this;exact this
 have HKS:Hid (exL false kids=ks∧exL true alts=rs):=⟨hksd,hrsd⟩
 rw[hksd] at hks
 rw[hrsd] at hrs
 have g0:=World.grownBy_alloc w (.cells #[.int .i64 k,.int .i64 n,.slice a1 l1 c1,.slice a2 l2 c2,.slice a3 l3 c3,.slice a4 l4 c4,.slice a5 l5 c5] 36) none
 have b0:=heap_alloc_new w (.cells #[.int .i64 k,.int .i64 n,.slice a1 l1 c1,.slice a2 l2 c2,.slice a3 l3 c3,.slice a4 l4 c4,.slice a5 l5 c5] 36)
 have H0:Hid (SayG W0.heap.size w v v zs (w.alloc (.cells #[.int .i64 k,.int .i64 n,.slice a1 l1 c1,.slice a2 l2 c2,.slice a3 l3 c3,.slice a4 l4 c4,.slice a5 l5 c5] 36))):=(SayG.start hw hB).grown g0
 have AL:Hid (SayG W0.heap.size (w.alloc (.cells #[.int .i64 k,.int .i64 n,.slice a1 l1 c1,.slice a2 l2 c2,.slice a3 l3 c3,.slice a4 l4 c4,.slice a5 l5 c5] 36)) v v zs (w.alloc (.cells #[.int .i64 k,.int .i64 n,.slice a1 l1 c1,.slice a2 l2 c2,.slice a3 l3 c3,.slice a4 l4 c4,.slice a5 l5 c5] 36))):=H0.out.re
 have hne:v.ownBlock≠some w.heap.size:=fun e=>by have:=(hw.lt _ e).2;omega
 have HT:Hid (∀ u,(w.alloc (.cells #[.int .i64 k,.int .i64 n,.slice a1 l1 c1,.slice a2 l2 c2,.slice a3 l3 c3,.slice a4 l4 c4,.slice a5 l5 c5] 36)).grownBy u v.ownBlock→Sev w.heap.size (.int .i64 k) (.int .i64 n) (.slice a1 l1 c1) (.slice a2 l2 c2) (.slice a3 l3 c3) (.slice a4 l4 c4) (.slice a5 l5 c5) u):=fun u hu=>(blkE ((hu.block _ (lt_of_block b0) (fun e=>hne e.symm)).trans b0)).1
 have BL:Hid (∀ u,(w.alloc (.cells #[.int .i64 k,.int .i64 n,.slice a1 l1 c1,.slice a2 l2 c2,.slice a3 l3 c3,.slice a4 l4 c4,.slice a5 l5 c5] 36)).grownBy u v.ownBlock→Below W0.heap.size W0 u):=fun u hu=>(hb.grown g0 hB (fun k hk=>by cases hk)).grown hu (Nat.le_trans hB g0.size) (fun g hg=>(hw.lt g hg).1)
 have IH:Hid _:=IH0
 have HN1:Hid (∀ u,Below W0.heap.size W0 u→Reads u a1 l1 name):=fun u hu=>(h.1.le (cle_belowK hu)).1
 have HN2:Hid (∀ u,Below W0.heap.size W0 u→Reads u a2 l2 arg):=fun u hu=>(h.2.1.le (cle_belowK hu)).1
 have HN3:Hid (∀ u,Below W0.heap.size W0 u→Reads u a3 l3 lit):=fun u hu=>(h.2.2.1.le (cle_belowK hu)).1
 have HK:Hid (SlGE W0 false a4 l4 c4 kids∧okG kids (d - 1)=true):=⟨h.2.2.2.1,hoK⟩
 have HA:Hid (SlGE W0 true a5 l5 c5 alts∧okG alts (d - 1)=true∧badA alts=false):=⟨h.2.2.2.2,hoA,hbad⟩
 have HF:Hid (NdF ⟨k,n,name,arg,lit⟩ kids.len alts.len):=NF
 clear h ho hb hw IH0 TX NF GK GA hoN hoK hoA hbad hksd hrsd g0 b0 hne
 go_enter Tryz.func56,Tryz.ntmps56
 go_upto_region 1 with fail
 generalize w.alloc (.cells #[.int .i64 k,.int .i64 n,.slice a1 l1 c1,.slice a2 l2 c2,.slice a3 l3 c3,.slice a4 l4 c4,.slice a5 l5 c5] 36)=w1 at *
 generalize w.heap.size=q at *
 obtain ⟨x0,x1,x2,x3,x4,x5,x6⟩:=HT.out _ AL.out.gr
 by_cases h0:k=0
 ·
  subst h0
  have EF:Hid (saY ⟨0,n,name,arg,lit⟩ ks rs=[117,110,105,116]):=by show _=_;simp [saY]
  have hX:=hlen
  rw[EF.out] at hX
  try simp only[List.length_append,List.length_singleton,List.length_cons,List.length_nil] at hX
  go_wp2_with (at_builtin;go_must (refine wpList_strG rfl _ _ 23 9 rfl W0.heap.size i0 Tryz.underlying23 Tryz.underlying9 hi hz0 hz1 hz2 v zs rfl AL.out.own _ [117,110,105,116] rfl rfl (by (try simp only[List.length_append,List.length_singleton,List.length_cons,List.length_nil]);omega) AL.out.size ?_);intro v2 u2 sb)
  have FF:Hid (SayG W0.heap.size w v v2 (zs++saY ⟨0,n,name,arg,lit⟩ ks rs) u2):=(H0.out.trans (AL.out.trans sb)).as (by rw[EF.out])
  clear sb AL H0
  go_ret
  exact ⟨v2,rfl,by rw[HX.out];exact FF.out⟩
 by_cases h1:k=1
 ·
  subst h1
  have EF:Hid (saY ⟨1,n,name,arg,lit⟩ ks rs=intB n):=by show _=_;simp [saY]
  have hX:=hlen
  rw[EF.out] at hX
  try simp only[List.length_append,List.length_singleton,List.length_cons,List.length_nil] at hX
  have hwn:=HF.out.whole rfl
  simp only[wholeV,Bool.and_eq_true,decide_eq_true_eq] at hwn
  have CC:Hid _:=l3digitsW n w1 (by omega) (by omega)
  go_wp2_with fail
  refine Calls.mono CC.out ?_
  rintro e u4 ⟨a9,c9,he,hg4,hO4⟩
  subst he
  have AN:Hid (SayG W0.heap.size w1 v v zs u4∧Reads u4 a9 (intB n).length (intB n)):=⟨AL.out.grown hg4,hO4.reads⟩
  have ha9:a9=none→c9=0:=hO4.nilCap
  clear AL hg4 hO4 CC x0 x1 x2 x3 x4 x5 x6
  simp only[]
  go_wp2_with (at_builtin;go_must (refine wpList_appG rfl _ _ 23 rfl W0.heap.size i0 (.int .u8 0) Tryz.underlying23 hi hz0 hz1 hz2 rfl v zs rfl AN.out.1.own a9 (intB n).length c9 (intB n) rfl AN.out.2 ha9 (by (try simp only[List.length_append,List.length_singleton,List.length_cons,List.length_nil]);omega) AN.out.1.size ?_);intro v2 u2 sb)
  have FF:Hid (SayG W0.heap.size w v v2 (zs++saY ⟨1,n,name,arg,lit⟩ ks rs) u2):=(H0.out.trans (AN.out.1.trans sb)).as (by rw[EF.out])
  clear sb AN H0
  go_ret
  exact ⟨v2,rfl,by rw[HX.out];exact FF.out⟩
 by_cases h2:k=2
 ·
  subst h2
  have EF:Hid (saY ⟨2,n,name,arg,lit⟩ ks rs=[34]++lit++[34]):=by show _=_;simp [saY]
  have hX:=hlen
  rw[EF.out] at hX
  try simp only[List.length_append,List.length_singleton,List.length_cons,List.length_nil] at hX
  go_upto_region 14 with fail
  have AD:Hid (SayG _ _ _ _ _ w1.drew):=AL.out.grown (grown_drew (World.grownBy.refl _ none))
  clear AL x0 x1 x2 x3 x4 x5 x6
  refine wp_region_held_drew (S:=(fun u=>Sev q (.int .i64 2) (.int .i64 n) (.slice a1 l1 c1) (.slice a2 l2 c2) (.slice a3 l3 c3) (.slice a4 l4 c4) (.slice a5 l5 c5) u)) (by kernel_rfl) (HT.out _ AD.out.gr) (fun hH=>?_)
  have AL:=AD
  clear AD
  generalize w1.drew=v0w at *
  simp only[List.size_toArray,List.length_cons,List.length_nil,Nat.reduceAdd,Array.replicate,List.replicate]
  refine tk 0 rfl hH ?_
  refine tk 3 rfl hH ?_
  refine tk 4 rfl hH ?_
  refine wpAnyH_ready (rs:=[1,6]) (by kernel_rfl) (by simp) ?_
  refine AllReadyH.cons rfl (fun K hK=>?_) (AllReadyH.cons rfl (fun K hK=>?_) AllReadyH.nil)
  ·
   skip
   go_simp
   have AN:Hid (SayG _ _ _ _ _ (v0w.alloc (.cells #[.int .u8 34] 5))∧Reads (v0w.alloc (.cells #[.int .u8 34] 5)) (some ⟨v0w.heap.size,0,none⟩) 1 [34]):=⟨AL.out.grown (World.grownBy_alloc _ _ _),readsOneB v0w 34 5⟩
   clear AL
   generalize v0w.alloc (.cells #[.int .u8 34] 5)=ub1 at *
   generalize v0w.heap.size=pb2 at *
   refine hK.out _ _ (HT.out _ AN.out.1.gr) (fun hH2=>?_)
   clear hK K hH
   have hH:=hH2
   clear hH2
   simp only[Act.put,nA,nB,nC,nD,nE,nF]
   refine wpAnyH_ready (rs:=[2,6]) (by kernel_rfl) (by simp) ?_
   refine AllReadyH.cons rfl (fun K hK=>?_) (AllReadyH.cons rfl (fun K hK=>?_) AllReadyH.nil)
   ·
    skip
    refine step_of rfl (wp_appG _ _ 23 rfl W0.heap.size i0 (.int .u8 0) Tryz.underlying23 hi hz0 hz1 hz2 rfl _ (zs) rfl AN.out.1.own (some ⟨pb2,0,none⟩) 1 1 [34] rfl AN.out.2 (by simp) (by (try simp only[List.length_append,List.length_singleton,List.length_cons,List.length_nil]);omega) AN.out.1.size ?_)
    intro vb5 ub6 sb
    have AL:Hid (SayG _ _ _ vb5 ((zs)++[34]) ub6):=AN.out.1.trans sb
    clear AN sb
    refine hK.out _ _ (HT.out _ AL.out.gr) (fun hH2=>?_)
    clear hK K hH
    have hH:=hH2
    clear hH2
    simp only[Act.put,nA,nB,nC,nD,nE,nF]
    refine wpAnyH_ready (rs:=[5,6]) (by kernel_rfl) (by simp) ?_
    refine AllReadyH.cons rfl (fun K hK=>?_) (AllReadyH.cons rfl (fun K hK=>?_) AllReadyH.nil)
    ·
     skip
     have AN:Hid (SayG _ _ _ _ ((zs)++[34]) ub6∧True):=⟨AL.out,trivial⟩
     clear AL
     refine step_of rfl (wp_appN _ _ 23 rfl W0.heap.size i0 (.int .u8 0) Tryz.underlying23 hi hz0 hz1 hz2 rfl _ ((zs)++[34]) rfl AN.out.1.own a3 l3 c3 lit rfl (HN3.out _ (BL.out _ AN.out.1.gr)) (Or.inl (by simp)) (by (try simp only[List.length_append,List.length_singleton,List.length_cons,List.length_nil]);omega) AN.out.1.size ?_)
     intro vb9 ub10 sb
     have AL:Hid (SayG _ _ _ vb9 (((zs)++[34])++lit) ub10):=AN.out.1.trans sb
     clear AN sb
     refine hK.out _ _ (HT.out _ AL.out.gr) (fun hH2=>?_)
     clear hK K hH
     have hH:=hH2
     clear hH2
     simp only[Act.put,nA,nB,nC,nD,nE,nF]
     refine rd 6 rfl (fun K hK=>?_)
     go_simp
     have hfar:=AL.out.far
     have gfar:=World.grownBy_alloc ub10 (.cells #[.int .u8 34] 5) none
     have A0:Hid (SayG _ _ _ _ (((zs)++[34])++lit) (ub10.alloc (.cells #[.int .u8 34] 5))):=AL.out.grown gfar
     have HF9:Hid (∀ x,(ub10.alloc (.cells #[.int .u8 34] 5)).grownBy x (vb9).ownBlock→Reads x (some ⟨ub10.heap.size,0,none⟩) 1 [34]):=fun x hx=>readsFar hfar hx
     have HT2:Hid (∀ x,(ub10.alloc (.cells #[.int .u8 34] 5)).grownBy x (vb9).ownBlock→(fun u=>Sev q (.int .i64 2) (.int .i64 n) (.slice a1 l1 c1) (.slice a2 l2 c2) (.slice a3 l3 c3) (.slice a4 l4 c4) (.slice a5 l5 c5) u) x):=fun x hx=>HT.out x (A0.out.ext hx)
     have BL2:Hid (∀ x,(ub10.alloc (.cells #[.int .u8 34] 5)).grownBy x (vb9).ownBlock→Below W0.heap.size W0 x):=fun x hx=>BL.out x (A0.out.ext hx)
     have AL2:Hid (SayG _ _ _ vb9 (((zs)++[34])++lit) (ub10.alloc (.cells #[.int .u8 34] 5))):=A0.out.re
     clear AL HT BL hfar gfar
     have AL:=AL2
     clear AL2
     have HT:=HT2
     have BL:=BL2
     clear HT2 BL2
     generalize ub10.alloc (.cells #[.int .u8 34] 5)=uf13 at *
     generalize ub10.heap.size=pf14 at *
     refine hK.out _ _ (HT.out _ AL.out.gr) (fun hH2=>?_)
     clear hK K hH
     have hH:=hH2
     clear hH2
     simp only[Act.put,nA,nB,nC,nD,nE,nF]
     have AN:Hid (SayG _ _ _ _ (((zs)++[34])++lit) uf13∧Reads uf13 (some ⟨pf14,0,none⟩) 1 [34]):=⟨AL.out,HF9.out _ AL.out.gr⟩
     clear AL
     refine rd 7 rfl (fun K hK=>?_)
     refine step_of rfl (wp_appG _ _ 23 rfl W0.heap.size i0 (.int .u8 0) Tryz.underlying23 hi hz0 hz1 hz2 rfl _ (((zs)++[34])++lit) rfl AN.out.1.own (some ⟨pf14,0,none⟩) 1 1 [34] rfl AN.out.2 (by simp) (by (try simp only[List.length_append,List.length_singleton,List.length_cons,List.length_nil]);omega) AN.out.1.size ?_)
     intro vb15 ub16 sb
     have AL:Hid (SayG _ _ _ vb15 ((((zs)++[34])++lit)++[34]) ub16):=AN.out.1.trans sb
     clear AN sb
     refine hK.out _ _ (HT.out _ AL.out.gr) (fun hH2=>?_)
     clear hK K hH
     have hH:=hH2
     clear hH2
     simp only[Act.put,nA,nB,nC,nD,nE,nF]
     refine tk 8 rfl hH ?_
     refine wpAnyH_done (by kernel_rfl) ?_ _
     clear hH
     have FF:Hid (SayG W0.heap.size w v vb15 (zs++saY ⟨2,n,name,arg,lit⟩ ks rs) ub16):=(H0.out.trans (A0.out.trans AL.out)).as (by rw[EF.out];simp)
     clear AL H0
     go_wp2
     go_ret
     exact ⟨vb15,rfl,by rw[HX.out];exact FF.out⟩
    ·
     skip
     go_simp
     have hfar:=AL.out.far
     have gfar:=World.grownBy_alloc ub6 (.cells #[.int .u8 34] 5) none
     have A0:Hid (SayG _ _ _ _ ((zs)++[34]) (ub6.alloc (.cells #[.int .u8 34] 5))):=AL.out.grown gfar
     have HF9:Hid (∀ x,(ub6.alloc (.cells #[.int .u8 34] 5)).grownBy x (vb5).ownBlock→Reads x (some ⟨ub6.heap.size,0,none⟩) 1 [34]):=fun x hx=>readsFar hfar hx
     have HT2:Hid (∀ x,(ub6.alloc (.cells #[.int .u8 34] 5)).grownBy x (vb5).ownBlock→(fun u=>Sev q (.int .i64 2) (.int .i64 n) (.slice a1 l1 c1) (.slice a2 l2 c2) (.slice a3 l3 c3) (.slice a4 l4 c4) (.slice a5 l5 c5) u) x):=fun x hx=>HT.out x (A0.out.ext hx)
     have BL2:Hid (∀ x,(ub6.alloc (.cells #[.int .u8 34] 5)).grownBy x (vb5).ownBlock→Below W0.heap.size W0 x):=fun x hx=>BL.out x (A0.out.ext hx)
     have AL2:Hid (SayG _ _ _ vb5 ((zs)++[34]) (ub6.alloc (.cells #[.int .u8 34] 5))):=A0.out.re
     clear AL HT BL hfar gfar
     have AL:=AL2
     clear AL2
     have HT:=HT2
     have BL:=BL2
     clear HT2 BL2
     generalize ub6.alloc (.cells #[.int .u8 34] 5)=uf11 at *
     generalize ub6.heap.size=pf12 at *
     refine hK.out _ _ (HT.out _ AL.out.gr) (fun hH2=>?_)
     clear hK K hH
     have hH:=hH2
     clear hH2
     simp only[Act.put,nA,nB,nC,nD,nE,nF]
     have AN:Hid (SayG _ _ _ _ ((zs)++[34]) uf11∧True):=⟨AL.out,trivial⟩
     clear AL
     refine rd 5 rfl (fun K hK=>?_)
     refine step_of rfl (wp_appN _ _ 23 rfl W0.heap.size i0 (.int .u8 0) Tryz.underlying23 hi hz0 hz1 hz2 rfl _ ((zs)++[34]) rfl AN.out.1.own a3 l3 c3 lit rfl (HN3.out _ (BL.out _ AN.out.1.gr)) (Or.inl (by simp)) (by (try simp only[List.length_append,List.length_singleton,List.length_cons,List.length_nil]);omega) AN.out.1.size ?_)
     intro vb17 ub18 sb
     have AL:Hid (SayG _ _ _ vb17 (((zs)++[34])++lit) ub18):=AN.out.1.trans sb
     clear AN sb
     refine hK.out _ _ (HT.out _ AL.out.gr) (fun hH2=>?_)
     clear hK K hH
     have hH:=hH2
     clear hH2
     simp only[Act.put,nA,nB,nC,nD,nE,nF]
     have AN:Hid (SayG _ _ _ _ (((zs)++[34])++lit) ub18∧Reads ub18 (some ⟨pf12,0,none⟩) 1 [34]):=⟨AL.out,HF9.out _ AL.out.gr⟩
     clear AL
     refine rd 7 rfl (fun K hK=>?_)
     refine step_of rfl (wp_appG _ _ 23 rfl W0.heap.size i0 (.int .u8 0) Tryz.underlying23 hi hz0 hz1 hz2 rfl _ (((zs)++[34])++lit) rfl AN.out.1.own (some ⟨pf12,0,none⟩) 1 1 [34] rfl AN.out.2 (by simp) (by (try simp only[List.length_append,List.length_singleton,List.length_cons,List.length_nil]);omega) AN.out.1.size ?_)
     intro vb19 ub20 sb
     have AL:Hid (SayG _ _ _ vb19 ((((zs)++[34])++lit)++[34]) ub20):=AN.out.1.trans sb
     clear AN sb
     refine hK.out _ _ (HT.out _ AL.out.gr) (fun hH2=>?_)
     clear hK K hH
     have hH:=hH2
     clear hH2
     simp only[Act.put,nA,nB,nC,nD,nE,nF]
     refine tk 8 rfl hH ?_
     refine wpAnyH_done (by kernel_rfl) ?_ _
     clear hH
     have FF:Hid (SayG W0.heap.size w v vb19 (zs++saY ⟨2,n,name,arg,lit⟩ ks rs) ub20):=(H0.out.trans (A0.out.trans AL.out)).as (by rw[EF.out];simp)
     clear AL H0
     go_wp2
     go_ret
     exact ⟨vb19,rfl,by rw[HX.out];exact FF.out⟩
   ·
    skip
    go_simp
    have hfar:=AN.out.1.far
    have gfar:=World.grownBy_alloc ub1 (.cells #[.int .u8 34] 5) none
    have A0:Hid (SayG _ _ _ _ (zs) (ub1.alloc (.cells #[.int .u8 34] 5))):=AN.out.1.grown gfar
    have HF9:Hid (∀ x,(ub1.alloc (.cells #[.int .u8 34] 5)).grownBy x (v).ownBlock→Reads x (some ⟨ub1.heap.size,0,none⟩) 1 [34]):=fun x hx=>readsFar hfar hx
    have HT2:Hid (∀ x,(ub1.alloc (.cells #[.int .u8 34] 5)).grownBy x (v).ownBlock→(fun u=>Sev q (.int .i64 2) (.int .i64 n) (.slice a1 l1 c1) (.slice a2 l2 c2) (.slice a3 l3 c3) (.slice a4 l4 c4) (.slice a5 l5 c5) u) x):=fun x hx=>HT.out x (A0.out.ext hx)
    have BL2:Hid (∀ x,(ub1.alloc (.cells #[.int .u8 34] 5)).grownBy x (v).ownBlock→Below W0.heap.size W0 x):=fun x hx=>BL.out x (A0.out.ext hx)
    have AN2:Hid (SayG _ _ _ v (zs) (ub1.alloc (.cells #[.int .u8 34] 5))∧Reads (ub1.alloc (.cells #[.int .u8 34] 5)) (some ⟨pb2,0,none⟩) 1 [34]):=⟨A0.out.re,readsG AN.out.2 gfar⟩
    clear AN HT BL hfar gfar
    have AN:=AN2
    clear AN2
    have HT:=HT2
    have BL:=BL2
    clear HT2 BL2
    generalize ub1.alloc (.cells #[.int .u8 34] 5)=uf7 at *
    generalize ub1.heap.size=pf8 at *
    refine hK.out _ _ (HT.out _ AN.out.1.gr) (fun hH2=>?_)
    clear hK K hH
    have hH:=hH2
    clear hH2
    simp only[Act.put,nA,nB,nC,nD,nE,nF]
    refine rd 2 rfl (fun K hK=>?_)
    refine step_of rfl (wp_appG _ _ 23 rfl W0.heap.size i0 (.int .u8 0) Tryz.underlying23 hi hz0 hz1 hz2 rfl _ (zs) rfl AN.out.1.own (some ⟨pb2,0,none⟩) 1 1 [34] rfl AN.out.2 (by simp) (by (try simp only[List.length_append,List.length_singleton,List.length_cons,List.length_nil]);omega) AN.out.1.size ?_)
    intro vb21 ub22 sb
    have AL:Hid (SayG _ _ _ vb21 ((zs)++[34]) ub22):=AN.out.1.trans sb
    clear AN sb
    refine hK.out _ _ (HT.out _ AL.out.gr) (fun hH2=>?_)
    clear hK K hH
    have hH:=hH2
    clear hH2
    simp only[Act.put,nA,nB,nC,nD,nE,nF]
    have AN:Hid (SayG _ _ _ _ ((zs)++[34]) ub22∧True):=⟨AL.out,trivial⟩
    clear AL
    refine rd 5 rfl (fun K hK=>?_)
    refine step_of rfl (wp_appN _ _ 23 rfl W0.heap.size i0 (.int .u8 0) Tryz.underlying23 hi hz0 hz1 hz2 rfl _ ((zs)++[34]) rfl AN.out.1.own a3 l3 c3 lit rfl (HN3.out _ (BL.out _ AN.out.1.gr)) (Or.inl (by simp)) (by (try simp only[List.length_append,List.length_singleton,List.length_cons,List.length_nil]);omega) AN.out.1.size ?_)
    intro vb23 ub24 sb
    have AL:Hid (SayG _ _ _ vb23 (((zs)++[34])++lit) ub24):=AN.out.1.trans sb
    clear AN sb
    refine hK.out _ _ (HT.out _ AL.out.gr) (fun hH2=>?_)
    clear hK K hH
    have hH:=hH2
    clear hH2
    simp only[Act.put,nA,nB,nC,nD,nE,nF]
    have AN:Hid (SayG _ _ _ _ (((zs)++[34])++lit) ub24∧Reads ub24 (some ⟨pf8,0,none⟩) 1 [34]):=⟨AL.out,HF9.out _ AL.out.gr⟩
    clear AL
    refine rd 7 rfl (fun K hK=>?_)
    refine step_of rfl (wp_appG _ _ 23 rfl W0.heap.size i0 (.int .u8 0) Tryz.underlying23 hi hz0 hz1 hz2 rfl _ (((zs)++[34])++lit) rfl AN.out.1.own (some ⟨pf8,0,none⟩) 1 1 [34] rfl AN.out.2 (by simp) (by (try simp only[List.length_append,List.length_singleton,List.length_cons,List.length_nil]);omega) AN.out.1.size ?_)
    intro vb25 ub26 sb
    have AL:Hid (SayG _ _ _ vb25 ((((zs)++[34])++lit)++[34]) ub26):=AN.out.1.trans sb
    clear AN sb
    refine hK.out _ _ (HT.out _ AL.out.gr) (fun hH2=>?_)
    clear hK K hH
    have hH:=hH2
    clear hH2
    simp only[Act.put,nA,nB,nC,nD,nE,nF]
    refine tk 8 rfl hH ?_
    refine wpAnyH_done (by kernel_rfl) ?_ _
    clear hH
    have FF:Hid (SayG W0.heap.size w v vb25 (zs++saY ⟨2,n,name,arg,lit⟩ ks rs) ub26):=(H0.out.trans (A0.out.trans AL.out)).as (by rw[EF.out];simp)
    clear AL H0
    go_wp2
    go_ret
    exact ⟨vb25,rfl,by rw[HX.out];exact FF.out⟩
  ·
   skip
   go_simp
   have hfar:=AL.out.far
   have gfar:=World.grownBy_alloc v0w (.cells #[.int .u8 34] 5) none
   have A0:Hid (SayG _ _ _ _ (zs) (v0w.alloc (.cells #[.int .u8 34] 5))):=AL.out.grown gfar
   have HF9:Hid (∀ x,(v0w.alloc (.cells #[.int .u8 34] 5)).grownBy x (v).ownBlock→Reads x (some ⟨v0w.heap.size,0,none⟩) 1 [34]):=fun x hx=>readsFar hfar hx
   have HT2:Hid (∀ x,(v0w.alloc (.cells #[.int .u8 34] 5)).grownBy x (v).ownBlock→(fun u=>Sev q (.int .i64 2) (.int .i64 n) (.slice a1 l1 c1) (.slice a2 l2 c2) (.slice a3 l3 c3) (.slice a4 l4 c4) (.slice a5 l5 c5) u) x):=fun x hx=>HT.out x (A0.out.ext hx)
   have BL2:Hid (∀ x,(v0w.alloc (.cells #[.int .u8 34] 5)).grownBy x (v).ownBlock→Below W0.heap.size W0 x):=fun x hx=>BL.out x (A0.out.ext hx)
   have AL2:Hid (SayG _ _ _ v (zs) (v0w.alloc (.cells #[.int .u8 34] 5))):=A0.out.re
   clear AL HT BL hfar gfar
   have AL:=AL2
   clear AL2
   have HT:=HT2
   have BL:=BL2
   clear HT2 BL2
   generalize v0w.alloc (.cells #[.int .u8 34] 5)=uf3 at *
   generalize v0w.heap.size=pf4 at *
   refine hK.out _ _ (HT.out _ AL.out.gr) (fun hH2=>?_)
   clear hK K hH
   have hH:=hH2
   clear hH2
   simp only[Act.put,nA,nB,nC,nD,nE,nF]
   refine rd 1 rfl (fun K hK=>?_)
   go_simp
   have AN:Hid (SayG _ _ _ _ _ (uf3.alloc (.cells #[.int .u8 34] 5))∧Reads (uf3.alloc (.cells #[.int .u8 34] 5)) (some ⟨uf3.heap.size,0,none⟩) 1 [34]):=⟨AL.out.grown (World.grownBy_alloc _ _ _),readsOneB uf3 34 5⟩
   clear AL
   generalize uf3.alloc (.cells #[.int .u8 34] 5)=ub27 at *
   generalize uf3.heap.size=pb28 at *
   refine hK.out _ _ (HT.out _ AN.out.1.gr) (fun hH2=>?_)
   clear hK K hH
   have hH:=hH2
   clear hH2
   simp only[Act.put,nA,nB,nC,nD,nE,nF]
   refine rd 2 rfl (fun K hK=>?_)
   refine step_of rfl (wp_appG _ _ 23 rfl W0.heap.size i0 (.int .u8 0) Tryz.underlying23 hi hz0 hz1 hz2 rfl _ (zs) rfl AN.out.1.own (some ⟨pb28,0,none⟩) 1 1 [34] rfl AN.out.2 (by simp) (by (try simp only[List.length_append,List.length_singleton,List.length_cons,List.length_nil]);omega) AN.out.1.size ?_)
   intro vb29 ub30 sb
   have AL:Hid (SayG _ _ _ vb29 ((zs)++[34]) ub30):=AN.out.1.trans sb
   clear AN sb
   refine hK.out _ _ (HT.out _ AL.out.gr) (fun hH2=>?_)
   clear hK K hH
   have hH:=hH2
   clear hH2
   simp only[Act.put,nA,nB,nC,nD,nE,nF]
   have AN:Hid (SayG _ _ _ _ ((zs)++[34]) ub30∧True):=⟨AL.out,trivial⟩
   clear AL
   refine rd 5 rfl (fun K hK=>?_)
   refine step_of rfl (wp_appN _ _ 23 rfl W0.heap.size i0 (.int .u8 0) Tryz.underlying23 hi hz0 hz1 hz2 rfl _ ((zs)++[34]) rfl AN.out.1.own a3 l3 c3 lit rfl (HN3.out _ (BL.out _ AN.out.1.gr)) (Or.inl (by simp)) (by (try simp only[List.length_append,List.length_singleton,List.length_cons,List.length_nil]);omega) AN.out.1.size ?_)
   intro vb31 ub32 sb
   have AL:Hid (SayG _ _ _ vb31 (((zs)++[34])++lit) ub32):=AN.out.1.trans sb
   clear AN sb
   refine hK.out _ _ (HT.out _ AL.out.gr) (fun hH2=>?_)
   clear hK K hH
   have hH:=hH2
   clear hH2
   simp only[Act.put,nA,nB,nC,nD,nE,nF]
   have AN:Hid (SayG _ _ _ _ (((zs)++[34])++lit) ub32∧Reads ub32 (some ⟨pf4,0,none⟩) 1 [34]):=⟨AL.out,HF9.out _ AL.out.gr⟩
   clear AL
   refine rd 7 rfl (fun K hK=>?_)
   refine step_of rfl (wp_appG _ _ 23 rfl W0.heap.size i0 (.int .u8 0) Tryz.underlying23 hi hz0 hz1 hz2 rfl _ (((zs)++[34])++lit) rfl AN.out.1.own (some ⟨pf4,0,none⟩) 1 1 [34] rfl AN.out.2 (by simp) (by (try simp only[List.length_append,List.length_singleton,List.length_cons,List.length_nil]);omega) AN.out.1.size ?_)
   intro vb33 ub34 sb
   have AL:Hid (SayG _ _ _ vb33 ((((zs)++[34])++lit)++[34]) ub34):=AN.out.1.trans sb
   clear AN sb
   refine hK.out _ _ (HT.out _ AL.out.gr) (fun hH2=>?_)
   clear hK K hH
   have hH:=hH2
   clear hH2
   simp only[Act.put,nA,nB,nC,nD,nE,nF]
   refine tk 8 rfl hH ?_
   refine wpAnyH_done (by kernel_rfl) ?_ _
   clear hH
   have FF:Hid (SayG W0.heap.size w v vb33 (zs++saY ⟨2,n,name,arg,lit⟩ ks rs) ub34):=(H0.out.trans (A0.out.trans AL.out)).as (by rw[EF.out];simp)
   clear AL H0
   go_wp2
   go_ret
   exact ⟨vb33,rfl,by rw[HX.out];exact FF.out⟩
 by_cases h3:k=3
 ·
  subst h3
  have EF:Hid (saY ⟨3,n,name,arg,lit⟩ ks rs=name):=by show _=_;simp [saY]
  have hX:=hlen
  rw[EF.out] at hX
  try simp only[List.length_append,List.length_singleton,List.length_cons,List.length_nil] at hX
  have hnn:name≠[]:=by intro e;have:=HGP.out;rw[EF.out,e] at this;cases this
  go_wp2_with (at_builtin;go_must (refine wpList_appN rfl _ _ 23 rfl W0.heap.size i0 (.int .u8 0) Tryz.underlying23 hi hz0 hz1 hz2 rfl v zs rfl AL.out.own a1 l1 c1 name rfl (HN1.out _ (BL.out _ AL.out.gr)) (Or.inr hnn) (by omega) AL.out.size ?_);intro v2 u2 sb)
  have FF:Hid (SayG W0.heap.size w v v2 (zs++saY ⟨3,n,name,arg,lit⟩ ks rs) u2):=(H0.out.trans (AL.out.trans sb)).as (by rw[EF.out])
  clear sb AL H0
  go_ret
  exact ⟨v2,rfl,by rw[HX.out];exact FF.out⟩
 by_cases h5:k=5
 ·
  subst h5
  have hk2:=HF.out.two (by simp)
  have hp0:0 < l4:=by omega
  have hp1:1 < l4:=by omega
  have hp0':(0:Int) < (l4:Int):=by omega
  have hp1':(1:Int) < (l4:Int):=by omega
  rcases HK.out.1.cases with ⟨e0,-⟩|⟨b,o,rfl,hin,-⟩
  ·
   omega
  obtain ⟨ppA,kkA,aaA,b1A,m1A,n1A,b2A,m2A,n2A,b3A,m3A,n3A,b4A,m4A,n4A,b5A,m5A,n5A,hcelA,hndA,hexA,hcnA,hokA⟩:=hin.nthK (i:=0) (by omega) HK.out.2
  rw[HKS.out.1] at hexA
  rw[show o+0 * 7=o by omega] at hcelA
  have CCA:Hid (∀ v0 z0 u0,Below W0.heap.size W0 u0→u0.ownsRow W0.heap.size 5 1 v0 z0.length (vals z0)→z0.length+(exX ppA kkA aaA).length≤900000→_):=fun v0 z0 u0 h1 h2 h3=>IH.out ppA kkA aaA b1A m1A n1A b2A m2A n2A b3A m3A n3A b4A m4A n4A b5A m5A n5A v0 z0 u0 (d - 1) (by omega) hndA hokA h1 h2 h3
  have KHA:Hid (∀ u,Below W0.heap.size W0 u→CelE u b (o) (.int .i64 ppA.k) (.int .i64 ppA.n) (.slice b1A m1A n1A) (.slice b2A m2A n2A) (.slice b3A m3A n3A) (.slice b4A m4A n4A) (.slice b5A m5A n5A)):=fun u hu=>hcelA.le (cle_belowK hu)
  clear hcelA hndA hokA
  obtain ⟨ppB,kkB,aaB,b1B,m1B,n1B,b2B,m2B,n2B,b3B,m3B,n3B,b4B,m4B,n4B,b5B,m5B,n5B,hcelB,hndB,hexB,hcnB,hokB⟩:=hin.nthK (i:=1) (by omega) HK.out.2
  rw[HKS.out.1] at hexB
  rw[show o+1 * 7=o+7 by omega] at hcelB
  have CCB:Hid (∀ v0 z0 u0,Below W0.heap.size W0 u0→u0.ownsRow W0.heap.size 5 1 v0 z0.length (vals z0)→z0.length+(exX ppB kkB aaB).length≤900000→_):=fun v0 z0 u0 h1 h2 h3=>IH.out ppB kkB aaB b1B m1B n1B b2B m2B n2B b3B m3B n3B b4B m4B n4B b5B m5B n5B v0 z0 u0 (d - 1) (by omega) hndB hokB h1 h2 h3
  have KHB:Hid (∀ u,Below W0.heap.size W0 u→CelE u b (o+7) (.int .i64 ppB.k) (.int .i64 ppB.n) (.slice b1B m1B n1B) (.slice b2B m2B n2B) (.slice b3B m3B n3B) (.slice b4B m4B n4B) (.slice b5B m5B n5B)):=fun u hu=>hcelB.le (cle_belowK hu)
  clear hcelB hndB hokB
  have EF:Hid (saY ⟨5,n,name,arg,lit⟩ ks rs=[40]++exX ppA kkA aaA++[32]++exX ppB kkB aaB++[41]):=by show _=_;rw[← hexA,← hexB];simp [saY]
  have hX:=hlen
  rw[EF.out] at hX
  try simp only[List.length_append,List.length_singleton,List.length_cons,List.length_nil] at hX
  clear hin
  have HTB:=HT
  clear HT
  have HT:Hid (∀ u,w1.grownBy u v.ownBlock→(fun u=>Sev q (.int .i64 5) (.int .i64 n) (.slice a1 l1 c1) (.slice a2 l2 c2) (.slice a3 l3 c3) (.slice (some ⟨b,o,none⟩) l4 c4) (.slice a5 l5 c5) u∧CelE u b (o) (.int .i64 ppA.k) (.int .i64 ppA.n) (.slice b1A m1A n1A) (.slice b2A m2A n2A) (.slice b3A m3A n3A) (.slice b4A m4A n4A) (.slice b5A m5A n5A)) u):=fun u hu=>⟨HTB.out u hu,KHA.out u (BL.out u hu)⟩
  go_upto_region 18 with fail
  have AD:Hid (SayG _ _ _ _ _ w1.drew):=AL.out.grown (grown_drew (World.grownBy.refl _ none))
  clear AL x0 x1 x2 x3 x4 x5 x6
  refine wp_region_held_drew (S:=(fun u=>Sev q (.int .i64 5) (.int .i64 n) (.slice a1 l1 c1) (.slice a2 l2 c2) (.slice a3 l3 c3) (.slice (some ⟨b,o,none⟩) l4 c4) (.slice a5 l5 c5) u∧CelE u b (o) (.int .i64 ppA.k) (.int .i64 ppA.n) (.slice b1A m1A n1A) (.slice b2A m2A n2A) (.slice b3A m3A n3A) (.slice b4A m4A n4A) (.slice b5A m5A n5A))) (by kernel_rfl) (HT.out _ AD.out.gr) (fun hH=>?_)
  have AL:=AD
  clear AD
  generalize w1.drew=v0w at *
  simp only[List.size_toArray,List.length_cons,List.length_nil,Nat.reduceAdd,Array.replicate,List.replicate]
  refine tk 0 rfl hH ?_
  refine tk 3 rfl hH ?_
  refine tk 4 rfl hH ?_
  refine tk 5 rfl hH ?_
  refine tk 6 rfl hH ?_
  refine rd 1 rfl (fun K hK=>?_)
  go_simp
  have AN:Hid (SayG _ _ _ _ _ (v0w.alloc (.cells #[.int .u8 40] 5))∧Reads (v0w.alloc (.cells #[.int .u8 40] 5)) (some ⟨v0w.heap.size,0,none⟩) 1 [40]):=⟨AL.out.grown (World.grownBy_alloc _ _ _),readsOneB v0w 40 5⟩
  clear AL
  generalize v0w.alloc (.cells #[.int .u8 40] 5)=ub35 at *
  generalize v0w.heap.size=pb36 at *
  refine hK.out _ _ (HT.out _ AN.out.1.gr) (fun hH2=>?_)
  clear hK K hH
  have hH:=hH2
  clear hH2
  simp only[Act.put,nA,nB,nC,nD,nE,nF]
  refine rd 2 rfl (fun K hK=>?_)
  refine step_of rfl (wp_appG _ _ 23 rfl W0.heap.size i0 (.int .u8 0) Tryz.underlying23 hi hz0 hz1 hz2 rfl _ (zs) rfl AN.out.1.own (some ⟨pb36,0,none⟩) 1 1 [40] rfl AN.out.2 (by simp) (by (try simp only[List.length_append,List.length_singleton,List.length_cons,List.length_nil]);omega) AN.out.1.size ?_)
  intro vb37 ub38 sb
  have AL:Hid (SayG _ _ _ vb37 ((zs)++[40]) ub38):=AN.out.1.trans sb
  clear AN sb
  refine hK.out _ _ (HT.out _ AL.out.gr) (fun hH2=>?_)
  clear hK K hH
  have hH:=hH2
  clear hH2
  simp only[Act.put,nA,nB,nC,nD,nE,nF]
  refine rd 7 rfl (fun K hK=>?_)
  go_simp
  refine Calls.mono (CCA.out vb37 ((zs)++[40]) ub38 (BL.out _ AL.out.gr) AL.out.own (by (try simp only[List.length_append,List.length_singleton,List.length_cons,List.length_nil]);omega)) ?_
  rintro e ub40 ⟨vb39,he,sb⟩
  subst he
  have AN:Hid (SayG _ _ _ vb39 (((zs)++[40])++(exX ppA kkA aaA)) ub40):=AL.out.trans sb
  clear AL sb
  have AL:=AN
  clear AN
  refine hK.out _ _ (HT.out _ AL.out.gr) (fun hH2=>?_)
  clear hK K hH
  have hH:=hH2
  clear hH2
  simp only[Act.put,nA,nB,nC,nD,nE,nF]
  refine tk 8 rfl hH ?_
  refine wpAnyH_done (by kernel_rfl) ?_ _
  clear hH HT
  have HT:Hid (∀ u,w1.grownBy u v.ownBlock→(fun u=>Sev q (.int .i64 5) (.int .i64 n) (.slice a1 l1 c1) (.slice a2 l2 c2) (.slice a3 l3 c3) (.slice (some ⟨b,o,none⟩) l4 c4) (.slice a5 l5 c5) u∧CelE u b (o+7) (.int .i64 ppB.k) (.int .i64 ppB.n) (.slice b1B m1B n1B) (.slice b2B m2B n2B) (.slice b3B m3B n3B) (.slice b4B m4B n4B) (.slice b5B m5B n5B)) u):=fun u hu=>⟨HTB.out u hu,KHB.out u (BL.out u hu)⟩
  obtain ⟨⟨x0,x1,x2,x3,x4,x5,x6⟩,-⟩:=HT.out _ AL.out.gr
  go_upto_region 19 with fail
  have AD:Hid (SayG _ _ _ _ _ ub40.drew):=AL.out.grown (grown_drew (World.grownBy.refl _ none))
  clear AL x0 x1 x2 x3 x4 x5 x6
  refine wp_region_held_drew (S:=(fun u=>Sev q (.int .i64 5) (.int .i64 n) (.slice a1 l1 c1) (.slice a2 l2 c2) (.slice a3 l3 c3) (.slice (some ⟨b,o,none⟩) l4 c4) (.slice a5 l5 c5) u∧CelE u b (o+7) (.int .i64 ppB.k) (.int .i64 ppB.n) (.slice b1B m1B n1B) (.slice b2B m2B n2B) (.slice b3B m3B n3B) (.slice b4B m4B n4B) (.slice b5B m5B n5B))) (by kernel_rfl) (HT.out _ AD.out.gr) (fun hH=>?_)
  have AL:=AD
  clear AD
  generalize ub40.drew=v0w at *
  simp only[List.size_toArray,List.length_cons,List.length_nil,Nat.reduceAdd,Array.replicate,List.replicate]
  refine tk 0 rfl hH ?_
  refine tk 3 rfl hH ?_
  refine tk 4 rfl hH ?_
  refine tk 5 rfl hH ?_
  refine tk 6 rfl hH ?_
  refine wpAnyH_ready (rs:=[1,8]) (by kernel_rfl) (by simp) ?_
  refine AllReadyH.cons rfl (fun K hK=>?_) (AllReadyH.cons rfl (fun K hK=>?_) AllReadyH.nil)
  ·
   skip
   go_simp
   have AN:Hid (SayG _ _ _ _ _ (v0w.alloc (.cells #[.int .u8 32] 5))∧Reads (v0w.alloc (.cells #[.int .u8 32] 5)) (some ⟨v0w.heap.size,0,none⟩) 1 [32]):=⟨AL.out.grown (World.grownBy_alloc _ _ _),readsOneB v0w 32 5⟩
   clear AL
   generalize v0w.alloc (.cells #[.int .u8 32] 5)=ub41 at *
   generalize v0w.heap.size=pb42 at *
   refine hK.out _ _ (HT.out _ AN.out.1.gr) (fun hH2=>?_)
   clear hK K hH
   have hH:=hH2
   clear hH2
   simp only[Act.put,nA,nB,nC,nD,nE,nF]
   refine wpAnyH_ready (rs:=[2,8]) (by kernel_rfl) (by simp) ?_
   refine AllReadyH.cons rfl (fun K hK=>?_) (AllReadyH.cons rfl (fun K hK=>?_) AllReadyH.nil)
   ·
    skip
    refine step_of rfl (wp_appG _ _ 23 rfl W0.heap.size i0 (.int .u8 0) Tryz.underlying23 hi hz0 hz1 hz2 rfl _ (((zs)++[40])++(exX ppA kkA aaA)) rfl AN.out.1.own (some ⟨pb42,0,none⟩) 1 1 [32] rfl AN.out.2 (by simp) (by (try simp only[List.length_append,List.length_singleton,List.length_cons,List.length_nil]);omega) AN.out.1.size ?_)
    intro vb45 ub46 sb
    have AL:Hid (SayG _ _ _ vb45 ((((zs)++[40])++(exX ppA kkA aaA))++[32]) ub46):=AN.out.1.trans sb
    clear AN sb
    refine hK.out _ _ (HT.out _ AL.out.gr) (fun hH2=>?_)
    clear hK K hH
    have hH:=hH2
    clear hH2
    simp only[Act.put,nA,nB,nC,nD,nE,nF]
    refine wpAnyH_ready (rs:=[7,8]) (by kernel_rfl) (by simp) ?_
    refine AllReadyH.cons rfl (fun K hK=>?_) (AllReadyH.cons rfl (fun K hK=>?_) AllReadyH.nil)
    ·
     skip
     go_simp
     refine Calls.mono (CCB.out vb45 ((((zs)++[40])++(exX ppA kkA aaA))++[32]) ub46 (BL.out _ AL.out.gr) AL.out.own (by (try simp only[List.length_append,List.length_singleton,List.length_cons,List.length_nil]);omega)) ?_
     rintro e ub50 ⟨vb49,he,sb⟩
     subst he
     have AN:Hid (SayG _ _ _ vb49 (((((zs)++[40])++(exX ppA kkA aaA))++[32])++(exX ppB kkB aaB)) ub50):=AL.out.trans sb
     clear AL sb
     have AL:=AN
     clear AN
     refine hK.out _ _ (HT.out _ AL.out.gr) (fun hH2=>?_)
     clear hK K hH
     have hH:=hH2
     clear hH2
     simp only[Act.put,nA,nB,nC,nD,nE,nF]
     refine rd 8 rfl (fun K hK=>?_)
     go_simp
     have hfar:=AL.out.far
     have gfar:=World.grownBy_alloc ub50 (.cells #[.int .u8 41] 5) none
     have A0:Hid (SayG _ _ _ _ (((((zs)++[40])++(exX ppA kkA aaA))++[32])++(exX ppB kkB aaB)) (ub50.alloc (.cells #[.int .u8 41] 5))):=AL.out.grown gfar
     have HF9:Hid (∀ x,(ub50.alloc (.cells #[.int .u8 41] 5)).grownBy x (vb49).ownBlock→Reads x (some ⟨ub50.heap.size,0,none⟩) 1 [41]):=fun x hx=>readsFar hfar hx
     have HT2:Hid (∀ x,(ub50.alloc (.cells #[.int .u8 41] 5)).grownBy x (vb49).ownBlock→(fun u=>Sev q (.int .i64 5) (.int .i64 n) (.slice a1 l1 c1) (.slice a2 l2 c2) (.slice a3 l3 c3) (.slice (some ⟨b,o,none⟩) l4 c4) (.slice a5 l5 c5) u∧CelE u b (o+7) (.int .i64 ppB.k) (.int .i64 ppB.n) (.slice b1B m1B n1B) (.slice b2B m2B n2B) (.slice b3B m3B n3B) (.slice b4B m4B n4B) (.slice b5B m5B n5B)) x):=fun x hx=>HT.out x (A0.out.ext hx)
     have BL2:Hid (∀ x,(ub50.alloc (.cells #[.int .u8 41] 5)).grownBy x (vb49).ownBlock→Below W0.heap.size W0 x):=fun x hx=>BL.out x (A0.out.ext hx)
     have AL2:Hid (SayG _ _ _ vb49 (((((zs)++[40])++(exX ppA kkA aaA))++[32])++(exX ppB kkB aaB)) (ub50.alloc (.cells #[.int .u8 41] 5))):=A0.out.re
     clear AL HT BL hfar gfar
     have AL:=AL2
     clear AL2
     have HT:=HT2
     have BL:=BL2
     clear HT2 BL2
     generalize ub50.alloc (.cells #[.int .u8 41] 5)=uf53 at *
     generalize ub50.heap.size=pf54 at *
     refine hK.out _ _ (HT.out _ AL.out.gr) (fun hH2=>?_)
     clear hK K hH
     have hH:=hH2
     clear hH2
     simp only[Act.put,nA,nB,nC,nD,nE,nF]
     have AN:Hid (SayG _ _ _ _ (((((zs)++[40])++(exX ppA kkA aaA))++[32])++(exX ppB kkB aaB)) uf53∧Reads uf53 (some ⟨pf54,0,none⟩) 1 [41]):=⟨AL.out,HF9.out _ AL.out.gr⟩
     clear AL
     refine rd 9 rfl (fun K hK=>?_)
     refine step_of rfl (wp_appG _ _ 23 rfl W0.heap.size i0 (.int .u8 0) Tryz.underlying23 hi hz0 hz1 hz2 rfl _ (((((zs)++[40])++(exX ppA kkA aaA))++[32])++(exX ppB kkB aaB)) rfl AN.out.1.own (some ⟨pf54,0,none⟩) 1 1 [41] rfl AN.out.2 (by simp) (by (try simp only[List.length_append,List.length_singleton,List.length_cons,List.length_nil]);omega) AN.out.1.size ?_)
     intro vb55 ub56 sb
     have AL:Hid (SayG _ _ _ vb55 ((((((zs)++[40])++(exX ppA kkA aaA))++[32])++(exX ppB kkB aaB))++[41]) ub56):=AN.out.1.trans sb
     clear AN sb
     refine hK.out _ _ (HT.out _ AL.out.gr) (fun hH2=>?_)
     clear hK K hH
     have hH:=hH2
     clear hH2
     simp only[Act.put,nA,nB,nC,nD,nE,nF]
     refine tk 10 rfl hH ?_
     refine wpAnyH_done (by kernel_rfl) ?_ _
     clear hH
     have FF:Hid (SayG W0.heap.size w v vb55 (zs++saY ⟨5,n,name,arg,lit⟩ ks rs) ub56):=(H0.out.trans (A0.out.trans AL.out)).as (by rw[EF.out];simp)
     clear AL H0
     go_wp2
     go_ret
     exact ⟨vb55,rfl,by rw[HX.out];exact FF.out⟩
    ·
     skip
     go_simp
     have hfar:=AL.out.far
     have gfar:=World.grownBy_alloc ub46 (.cells #[.int .u8 41] 5) none
     have A0:Hid (SayG _ _ _ _ ((((zs)++[40])++(exX ppA kkA aaA))++[32]) (ub46.alloc (.cells #[.int .u8 41] 5))):=AL.out.grown gfar
     have HF9:Hid (∀ x,(ub46.alloc (.cells #[.int .u8 41] 5)).grownBy x (vb45).ownBlock→Reads x (some ⟨ub46.heap.size,0,none⟩) 1 [41]):=fun x hx=>readsFar hfar hx
     have HT2:Hid (∀ x,(ub46.alloc (.cells #[.int .u8 41] 5)).grownBy x (vb45).ownBlock→(fun u=>Sev q (.int .i64 5) (.int .i64 n) (.slice a1 l1 c1) (.slice a2 l2 c2) (.slice a3 l3 c3) (.slice (some ⟨b,o,none⟩) l4 c4) (.slice a5 l5 c5) u∧CelE u b (o+7) (.int .i64 ppB.k) (.int .i64 ppB.n) (.slice b1B m1B n1B) (.slice b2B m2B n2B) (.slice b3B m3B n3B) (.slice b4B m4B n4B) (.slice b5B m5B n5B)) x):=fun x hx=>HT.out x (A0.out.ext hx)
     have BL2:Hid (∀ x,(ub46.alloc (.cells #[.int .u8 41] 5)).grownBy x (vb45).ownBlock→Below W0.heap.size W0 x):=fun x hx=>BL.out x (A0.out.ext hx)
     have AL2:Hid (SayG _ _ _ vb45 ((((zs)++[40])++(exX ppA kkA aaA))++[32]) (ub46.alloc (.cells #[.int .u8 41] 5))):=A0.out.re
     clear AL HT BL hfar gfar
     have AL:=AL2
     clear AL2
     have HT:=HT2
     have BL:=BL2
     clear HT2 BL2
     generalize ub46.alloc (.cells #[.int .u8 41] 5)=uf51 at *
     generalize ub46.heap.size=pf52 at *
     refine hK.out _ _ (HT.out _ AL.out.gr) (fun hH2=>?_)
     clear hK K hH
     have hH:=hH2
     clear hH2
     simp only[Act.put,nA,nB,nC,nD,nE,nF]
     refine rd 7 rfl (fun K hK=>?_)
     go_simp
     refine Calls.mono (CCB.out vb45 ((((zs)++[40])++(exX ppA kkA aaA))++[32]) uf51 (BL.out _ AL.out.gr) AL.out.own (by (try simp only[List.length_append,List.length_singleton,List.length_cons,List.length_nil]);omega)) ?_
     rintro e ub58 ⟨vb57,he,sb⟩
     subst he
     have AN:Hid (SayG _ _ _ vb57 (((((zs)++[40])++(exX ppA kkA aaA))++[32])++(exX ppB kkB aaB)) ub58):=AL.out.trans sb
     clear AL sb
     have AL:=AN
     clear AN
     refine hK.out _ _ (HT.out _ AL.out.gr) (fun hH2=>?_)
     clear hK K hH
     have hH:=hH2
     clear hH2
     simp only[Act.put,nA,nB,nC,nD,nE,nF]
     have AN:Hid (SayG _ _ _ _ (((((zs)++[40])++(exX ppA kkA aaA))++[32])++(exX ppB kkB aaB)) ub58∧Reads ub58 (some ⟨pf52,0,none⟩) 1 [41]):=⟨AL.out,HF9.out _ AL.out.gr⟩
     clear AL
     refine rd 9 rfl (fun K hK=>?_)
     refine step_of rfl (wp_appG _ _ 23 rfl W0.heap.size i0 (.int .u8 0) Tryz.underlying23 hi hz0 hz1 hz2 rfl _ (((((zs)++[40])++(exX ppA kkA aaA))++[32])++(exX ppB kkB aaB)) rfl AN.out.1.own (some ⟨pf52,0,none⟩) 1 1 [41] rfl AN.out.2 (by simp) (by (try simp only[List.length_append,List.length_singleton,List.length_cons,List.length_nil]);omega) AN.out.1.size ?_)
     intro vb59 ub60 sb
     have AL:Hid (SayG _ _ _ vb59 ((((((zs)++[40])++(exX ppA kkA aaA))++[32])++(exX ppB kkB aaB))++[41]) ub60):=AN.out.1.trans sb
     clear AN sb
     refine hK.out _ _ (HT.out _ AL.out.gr) (fun hH2=>?_)
     clear hK K hH
     have hH:=hH2
     clear hH2
     simp only[Act.put,nA,nB,nC,nD,nE,nF]
     refine tk 10 rfl hH ?_
     refine wpAnyH_done (by kernel_rfl) ?_ _
     clear hH
     have FF:Hid (SayG W0.heap.size w v vb59 (zs++saY ⟨5,n,name,arg,lit⟩ ks rs) ub60):=(H0.out.trans (A0.out.trans AL.out)).as (by rw[EF.out];simp)
     clear AL H0
     go_wp2
     go_ret
     exact ⟨vb59,rfl,by rw[HX.out];exact FF.out⟩
   ·
    skip
    go_simp
    have hfar:=AN.out.1.far
    have gfar:=World.grownBy_alloc ub41 (.cells #[.int .u8 41] 5) none
    have A0:Hid (SayG _ _ _ _ (((zs)++[40])++(exX ppA kkA aaA)) (ub41.alloc (.cells #[.int .u8 41] 5))):=AN.out.1.grown gfar
    have HF9:Hid (∀ x,(ub41.alloc (.cells #[.int .u8 41] 5)).grownBy x (vb39).ownBlock→Reads x (some ⟨ub41.heap.size,0,none⟩) 1 [41]):=fun x hx=>readsFar hfar hx
    have HT2:Hid (∀ x,(ub41.alloc (.cells #[.int .u8 41] 5)).grownBy x (vb39).ownBlock→(fun u=>Sev q (.int .i64 5) (.int .i64 n) (.slice a1 l1 c1) (.slice a2 l2 c2) (.slice a3 l3 c3) (.slice (some ⟨b,o,none⟩) l4 c4) (.slice a5 l5 c5) u∧CelE u b (o+7) (.int .i64 ppB.k) (.int .i64 ppB.n) (.slice b1B m1B n1B) (.slice b2B m2B n2B) (.slice b3B m3B n3B) (.slice b4B m4B n4B) (.slice b5B m5B n5B)) x):=fun x hx=>HT.out x (A0.out.ext hx)
    have BL2:Hid (∀ x,(ub41.alloc (.cells #[.int .u8 41] 5)).grownBy x (vb39).ownBlock→Below W0.heap.size W0 x):=fun x hx=>BL.out x (A0.out.ext hx)
    have AN2:Hid (SayG _ _ _ vb39 (((zs)++[40])++(exX ppA kkA aaA)) (ub41.alloc (.cells #[.int .u8 41] 5))∧Reads (ub41.alloc (.cells #[.int .u8 41] 5)) (some ⟨pb42,0,none⟩) 1 [32]):=⟨A0.out.re,readsG AN.out.2 gfar⟩
    clear AN HT BL hfar gfar
    have AN:=AN2
    clear AN2
    have HT:=HT2
    have BL:=BL2
    clear HT2 BL2
    generalize ub41.alloc (.cells #[.int .u8 41] 5)=uf47 at *
    generalize ub41.heap.size=pf48 at *
    refine hK.out _ _ (HT.out _ AN.out.1.gr) (fun hH2=>?_)
    clear hK K hH
    have hH:=hH2
    clear hH2
    simp only[Act.put,nA,nB,nC,nD,nE,nF]
    refine rd 2 rfl (fun K hK=>?_)
    refine step_of rfl (wp_appG _ _ 23 rfl W0.heap.size i0 (.int .u8 0) Tryz.underlying23 hi hz0 hz1 hz2 rfl _ (((zs)++[40])++(exX ppA kkA aaA)) rfl AN.out.1.own (some ⟨pb42,0,none⟩) 1 1 [32] rfl AN.out.2 (by simp) (by (try simp only[List.length_append,List.length_singleton,List.length_cons,List.length_nil]);omega) AN.out.1.size ?_)
    intro vb61 ub62 sb
    have AL:Hid (SayG _ _ _ vb61 ((((zs)++[40])++(exX ppA kkA aaA))++[32]) ub62):=AN.out.1.trans sb
    clear AN sb
    refine hK.out _ _ (HT.out _ AL.out.gr) (fun hH2=>?_)
    clear hK K hH
    have hH:=hH2
    clear hH2
    simp only[Act.put,nA,nB,nC,nD,nE,nF]
    refine rd 7 rfl (fun K hK=>?_)
    go_simp
    refine Calls.mono (CCB.out vb61 ((((zs)++[40])++(exX ppA kkA aaA))++[32]) ub62 (BL.out _ AL.out.gr) AL.out.own (by (try simp only[List.length_append,List.length_singleton,List.length_cons,List.length_nil]);omega)) ?_
    rintro e ub64 ⟨vb63,he,sb⟩
    subst he
    have AN:Hid (SayG _ _ _ vb63 (((((zs)++[40])++(exX ppA kkA aaA))++[32])++(exX ppB kkB aaB)) ub64):=AL.out.trans sb
    clear AL sb
    have AL:=AN
    clear AN
    refine hK.out _ _ (HT.out _ AL.out.gr) (fun hH2=>?_)
    clear hK K hH
    have hH:=hH2
    clear hH2
    simp only[Act.put,nA,nB,nC,nD,nE,nF]
    have AN:Hid (SayG _ _ _ _ (((((zs)++[40])++(exX ppA kkA aaA))++[32])++(exX ppB kkB aaB)) ub64∧Reads ub64 (some ⟨pf48,0,none⟩) 1 [41]):=⟨AL.out,HF9.out _ AL.out.gr⟩
    clear AL
    refine rd 9 rfl (fun K hK=>?_)
    refine step_of rfl (wp_appG _ _ 23 rfl W0.heap.size i0 (.int .u8 0) Tryz.underlying23 hi hz0 hz1 hz2 rfl _ (((((zs)++[40])++(exX ppA kkA aaA))++[32])++(exX ppB kkB aaB)) rfl AN.out.1.own (some ⟨pf48,0,none⟩) 1 1 [41] rfl AN.out.2 (by simp) (by (try simp only[List.length_append,List.length_singleton,List.length_cons,List.length_nil]);omega) AN.out.1.size ?_)
    intro vb65 ub66 sb
    have AL:Hid (SayG _ _ _ vb65 ((((((zs)++[40])++(exX ppA kkA aaA))++[32])++(exX ppB kkB aaB))++[41]) ub66):=AN.out.1.trans sb
    clear AN sb
    refine hK.out _ _ (HT.out _ AL.out.gr) (fun hH2=>?_)
    clear hK K hH
    have hH:=hH2
    clear hH2
    simp only[Act.put,nA,nB,nC,nD,nE,nF]
    refine tk 10 rfl hH ?_
    refine wpAnyH_done (by kernel_rfl) ?_ _
    clear hH
    have FF:Hid (SayG W0.heap.size w v vb65 (zs++saY ⟨5,n,name,arg,lit⟩ ks rs) ub66):=(H0.out.trans (A0.out.trans AL.out)).as (by rw[EF.out];simp)
    clear AL H0
    go_wp2
    go_ret
    exact ⟨vb65,rfl,by rw[HX.out];exact FF.out⟩
  ·
   skip
   go_simp
   have hfar:=AL.out.far
   have gfar:=World.grownBy_alloc v0w (.cells #[.int .u8 41] 5) none
   have A0:Hid (SayG _ _ _ _ (((zs)++[40])++(exX ppA kkA aaA)) (v0w.alloc (.cells #[.int .u8 41] 5))):=AL.out.grown gfar
   have HF9:Hid (∀ x,(v0w.alloc (.cells #[.int .u8 41] 5)).grownBy x (vb39).ownBlock→Reads x (some ⟨v0w.heap.size,0,none⟩) 1 [41]):=fun x hx=>readsFar hfar hx
   have HT2:Hid (∀ x,(v0w.alloc (.cells #[.int .u8 41] 5)).grownBy x (vb39).ownBlock→(fun u=>Sev q (.int .i64 5) (.int .i64 n) (.slice a1 l1 c1) (.slice a2 l2 c2) (.slice a3 l3 c3) (.slice (some ⟨b,o,none⟩) l4 c4) (.slice a5 l5 c5) u∧CelE u b (o+7) (.int .i64 ppB.k) (.int .i64 ppB.n) (.slice b1B m1B n1B) (.slice b2B m2B n2B) (.slice b3B m3B n3B) (.slice b4B m4B n4B) (.slice b5B m5B n5B)) x):=fun x hx=>HT.out x (A0.out.ext hx)
   have BL2:Hid (∀ x,(v0w.alloc (.cells #[.int .u8 41] 5)).grownBy x (vb39).ownBlock→Below W0.heap.size W0 x):=fun x hx=>BL.out x (A0.out.ext hx)
   have AL2:Hid (SayG _ _ _ vb39 (((zs)++[40])++(exX ppA kkA aaA)) (v0w.alloc (.cells #[.int .u8 41] 5))):=A0.out.re
   clear AL HT BL hfar gfar
   have AL:=AL2
   clear AL2
   have HT:=HT2
   have BL:=BL2
   clear HT2 BL2
   generalize v0w.alloc (.cells #[.int .u8 41] 5)=uf43 at *
   generalize v0w.heap.size=pf44 at *
   refine hK.out _ _ (HT.out _ AL.out.gr) (fun hH2=>?_)
   clear hK K hH
   have hH:=hH2
   clear hH2
   simp only[Act.put,nA,nB,nC,nD,nE,nF]
   refine rd 1 rfl (fun K hK=>?_)
   go_simp
   have AN:Hid (SayG _ _ _ _ _ (uf43.alloc (.cells #[.int .u8 32] 5))∧Reads (uf43.alloc (.cells #[.int .u8 32] 5)) (some ⟨uf43.heap.size,0,none⟩) 1 [32]):=⟨AL.out.grown (World.grownBy_alloc _ _ _),readsOneB uf43 32 5⟩
   clear AL
   generalize uf43.alloc (.cells #[.int .u8 32] 5)=ub67 at *
   generalize uf43.heap.size=pb68 at *
   refine hK.out _ _ (HT.out _ AN.out.1.gr) (fun hH2=>?_)
   clear hK K hH
   have hH:=hH2
   clear hH2
   simp only[Act.put,nA,nB,nC,nD,nE,nF]
   refine rd 2 rfl (fun K hK=>?_)
   refine step_of rfl (wp_appG _ _ 23 rfl W0.heap.size i0 (.int .u8 0) Tryz.underlying23 hi hz0 hz1 hz2 rfl _ (((zs)++[40])++(exX ppA kkA aaA)) rfl AN.out.1.own (some ⟨pb68,0,none⟩) 1 1 [32] rfl AN.out.2 (by simp) (by (try simp only[List.length_append,List.length_singleton,List.length_cons,List.length_nil]);omega) AN.out.1.size ?_)
   intro vb69 ub70 sb
   have AL:Hid (SayG _ _ _ vb69 ((((zs)++[40])++(exX ppA kkA aaA))++[32]) ub70):=AN.out.1.trans sb
   clear AN sb
   refine hK.out _ _ (HT.out _ AL.out.gr) (fun hH2=>?_)
   clear hK K hH
   have hH:=hH2
   clear hH2
   simp only[Act.put,nA,nB,nC,nD,nE,nF]
   refine rd 7 rfl (fun K hK=>?_)
   go_simp
   refine Calls.mono (CCB.out vb69 ((((zs)++[40])++(exX ppA kkA aaA))++[32]) ub70 (BL.out _ AL.out.gr) AL.out.own (by (try simp only[List.length_append,List.length_singleton,List.length_cons,List.length_nil]);omega)) ?_
   rintro e ub72 ⟨vb71,he,sb⟩
   subst he
   have AN:Hid (SayG _ _ _ vb71 (((((zs)++[40])++(exX ppA kkA aaA))++[32])++(exX ppB kkB aaB)) ub72):=AL.out.trans sb
   clear AL sb
   have AL:=AN
   clear AN
   refine hK.out _ _ (HT.out _ AL.out.gr) (fun hH2=>?_)
   clear hK K hH
   have hH:=hH2
   clear hH2
   simp only[Act.put,nA,nB,nC,nD,nE,nF]
   have AN:Hid (SayG _ _ _ _ (((((zs)++[40])++(exX ppA kkA aaA))++[32])++(exX ppB kkB aaB)) ub72∧Reads ub72 (some ⟨pf44,0,none⟩) 1 [41]):=⟨AL.out,HF9.out _ AL.out.gr⟩
   clear AL
   refine rd 9 rfl (fun K hK=>?_)
   refine step_of rfl (wp_appG _ _ 23 rfl W0.heap.size i0 (.int .u8 0) Tryz.underlying23 hi hz0 hz1 hz2 rfl _ (((((zs)++[40])++(exX ppA kkA aaA))++[32])++(exX ppB kkB aaB)) rfl AN.out.1.own (some ⟨pf44,0,none⟩) 1 1 [41] rfl AN.out.2 (by simp) (by (try simp only[List.length_append,List.length_singleton,List.length_cons,List.length_nil]);omega) AN.out.1.size ?_)
   intro vb73 ub74 sb
   have AL:Hid (SayG _ _ _ vb73 ((((((zs)++[40])++(exX ppA kkA aaA))++[32])++(exX ppB kkB aaB))++[41]) ub74):=AN.out.1.trans sb
   clear AN sb
   refine hK.out _ _ (HT.out _ AL.out.gr) (fun hH2=>?_)
   clear hK K hH
   have hH:=hH2
   clear hH2
   simp only[Act.put,nA,nB,nC,nD,nE,nF]
   refine tk 10 rfl hH ?_
   refine wpAnyH_done (by kernel_rfl) ?_ _
   clear hH
   have FF:Hid (SayG W0.heap.size w v vb73 (zs++saY ⟨5,n,name,arg,lit⟩ ks rs) ub74):=(H0.out.trans (A0.out.trans AL.out)).as (by rw[EF.out];simp)
   clear AL H0
   go_wp2
   go_ret
   exact ⟨vb73,rfl,by rw[HX.out];exact FF.out⟩
 by_cases h18:k=18
 ·
  subst h18
  have hk2:=HF.out.two (by simp)
  have hp0:0 < l4:=by omega
  have hp1:1 < l4:=by omega
  have hp0':(0:Int) < (l4:Int):=by omega
  have hp1':(1:Int) < (l4:Int):=by omega
  rcases HK.out.1.cases with ⟨e0,-⟩|⟨b,o,rfl,hin,-⟩
  ·
   omega
  obtain ⟨ppA,kkA,aaA,b1A,m1A,n1A,b2A,m2A,n2A,b3A,m3A,n3A,b4A,m4A,n4A,b5A,m5A,n5A,hcelA,hndA,hexA,hcnA,hokA⟩:=hin.nthK (i:=0) (by omega) HK.out.2
  rw[HKS.out.1] at hexA
  rw[show o+0 * 7=o by omega] at hcelA
  have CCA:Hid (∀ v0 z0 u0,Below W0.heap.size W0 u0→u0.ownsRow W0.heap.size 5 1 v0 z0.length (vals z0)→z0.length+(exX ppA kkA aaA).length≤900000→_):=fun v0 z0 u0 h1 h2 h3=>IH.out ppA kkA aaA b1A m1A n1A b2A m2A n2A b3A m3A n3A b4A m4A n4A b5A m5A n5A v0 z0 u0 (d - 1) (by omega) hndA hokA h1 h2 h3
  have KHA:Hid (∀ u,Below W0.heap.size W0 u→CelE u b (o) (.int .i64 ppA.k) (.int .i64 ppA.n) (.slice b1A m1A n1A) (.slice b2A m2A n2A) (.slice b3A m3A n3A) (.slice b4A m4A n4A) (.slice b5A m5A n5A)):=fun u hu=>hcelA.le (cle_belowK hu)
  clear hcelA hndA hokA
  obtain ⟨ppB,kkB,aaB,b1B,m1B,n1B,b2B,m2B,n2B,b3B,m3B,n3B,b4B,m4B,n4B,b5B,m5B,n5B,hcelB,hndB,hexB,hcnB,hokB⟩:=hin.nthK (i:=1) (by omega) HK.out.2
  rw[HKS.out.1] at hexB
  rw[show o+1 * 7=o+7 by omega] at hcelB
  have CCB:Hid (∀ v0 z0 u0,Below W0.heap.size W0 u0→u0.ownsRow W0.heap.size 5 1 v0 z0.length (vals z0)→z0.length+(exX ppB kkB aaB).length≤900000→_):=fun v0 z0 u0 h1 h2 h3=>IH.out ppB kkB aaB b1B m1B n1B b2B m2B n2B b3B m3B n3B b4B m4B n4B b5B m5B n5B v0 z0 u0 (d - 1) (by omega) hndB hokB h1 h2 h3
  have KHB:Hid (∀ u,Below W0.heap.size W0 u→CelE u b (o+7) (.int .i64 ppB.k) (.int .i64 ppB.n) (.slice b1B m1B n1B) (.slice b2B m2B n2B) (.slice b3B m3B n3B) (.slice b4B m4B n4B) (.slice b5B m5B n5B)):=fun u hu=>hcelB.le (cle_belowK hu)
  clear hcelB hndB hokB
  have EF:Hid (saY ⟨18,n,name,arg,lit⟩ ks rs=[40,116,114,121,32]++exX ppA kkA aaA++[32]++name++[32]++exX ppB kkB aaB++[41]):=by show _=_;rw[← hexA,← hexB];simp [saY]
  have hX:=hlen
  rw[EF.out] at hX
  try simp only[List.length_append,List.length_singleton,List.length_cons,List.length_nil] at hX
  clear hin
  have HTB:=HT
  clear HT
  have HT:Hid (∀ u,w1.grownBy u v.ownBlock→(fun u=>Sev q (.int .i64 18) (.int .i64 n) (.slice a1 l1 c1) (.slice a2 l2 c2) (.slice a3 l3 c3) (.slice (some ⟨b,o,none⟩) l4 c4) (.slice a5 l5 c5) u∧CelE u b (o) (.int .i64 ppA.k) (.int .i64 ppA.n) (.slice b1A m1A n1A) (.slice b2A m2A n2A) (.slice b3A m3A n3A) (.slice b4A m4A n4A) (.slice b5A m5A n5A)) u):=fun u hu=>⟨HTB.out u hu,KHA.out u (BL.out u hu)⟩
  go_upto_region 25 with fail
  have AD:Hid (SayG _ _ _ _ _ w1.drew):=AL.out.grown (grown_drew (World.grownBy.refl _ none))
  clear AL x0 x1 x2 x3 x4 x5 x6
  refine wp_region_held_drew (S:=(fun u=>Sev q (.int .i64 18) (.int .i64 n) (.slice a1 l1 c1) (.slice a2 l2 c2) (.slice a3 l3 c3) (.slice (some ⟨b,o,none⟩) l4 c4) (.slice a5 l5 c5) u∧CelE u b (o) (.int .i64 ppA.k) (.int .i64 ppA.n) (.slice b1A m1A n1A) (.slice b2A m2A n2A) (.slice b3A m3A n3A) (.slice b4A m4A n4A) (.slice b5A m5A n5A))) (by kernel_rfl) (HT.out _ AD.out.gr) (fun hH=>?_)
  have AL:=AD
  clear AD
  generalize w1.drew=v0w at *
  simp only[List.size_toArray,List.length_cons,List.length_nil,Nat.reduceAdd,Array.replicate,List.replicate]
  refine tk 0 rfl hH ?_
  refine tk 2 rfl hH ?_
  refine tk 3 rfl hH ?_
  refine tk 4 rfl hH ?_
  refine tk 5 rfl hH ?_
  refine rd 1 rfl (fun K hK=>?_)
  refine step_of rfl (wp_strG _ _ 23 9 rfl W0.heap.size i0 Tryz.underlying23 Tryz.underlying9 hi hz0 hz1 hz2 _ (zs) rfl AL.out.own _ [40,116,114,121,32] rfl rfl (by (try simp only[List.length_append,List.length_singleton,List.length_cons,List.length_nil]);omega) AL.out.size ?_)
  intro vb75 ub76 sb
  have AN:Hid (SayG _ _ _ vb75 ((zs)++[40,116,114,121,32]) ub76):=AL.out.trans sb
  clear AL sb
  have AL:=AN
  clear AN
  refine hK.out _ _ (HT.out _ AL.out.gr) (fun hH2=>?_)
  clear hK K hH
  have hH:=hH2
  clear hH2
  simp only[Act.put,nA,nB,nC,nD,nE,nF]
  refine rd 6 rfl (fun K hK=>?_)
  go_simp
  refine Calls.mono (CCA.out vb75 ((zs)++[40,116,114,121,32]) ub76 (BL.out _ AL.out.gr) AL.out.own (by (try simp only[List.length_append,List.length_singleton,List.length_cons,List.length_nil]);omega)) ?_
  rintro e ub78 ⟨vb77,he,sb⟩
  subst he
  have AN:Hid (SayG _ _ _ vb77 (((zs)++[40,116,114,121,32])++(exX ppA kkA aaA)) ub78):=AL.out.trans sb
  clear AL sb
  have AL:=AN
  clear AN
  refine hK.out _ _ (HT.out _ AL.out.gr) (fun hH2=>?_)
  clear hK K hH
  have hH:=hH2
  clear hH2
  simp only[Act.put,nA,nB,nC,nD,nE,nF]
  refine tk 7 rfl hH ?_
  refine wpAnyH_done (by kernel_rfl) ?_ _
  clear hH HT
  have HT:=HTB
  obtain ⟨x0,x1,x2,x3,x4,x5,x6⟩:=HT.out _ AL.out.gr
  go_upto_region 26 with fail
  have AD:Hid (SayG _ _ _ _ _ ub78.drew):=AL.out.grown (grown_drew (World.grownBy.refl _ none))
  clear AL x0 x1 x2 x3 x4 x5 x6
  refine wp_region_held_drew (S:=(fun u=>Sev q (.int .i64 18) (.int .i64 n) (.slice a1 l1 c1) (.slice a2 l2 c2) (.slice a3 l3 c3) (.slice (some ⟨b,o,none⟩) l4 c4) (.slice a5 l5 c5) u)) (by kernel_rfl) (HT.out _ AD.out.gr) (fun hH=>?_)
  have AL:=AD
  clear AD
  generalize ub78.drew=v0w at *
  simp only[List.size_toArray,List.length_cons,List.length_nil,Nat.reduceAdd,Array.replicate,List.replicate]
  refine tk 0 rfl hH ?_
  refine tk 3 rfl hH ?_
  refine tk 4 rfl hH ?_
  refine rd 1 rfl (fun K hK=>?_)
  go_simp
  have AN:Hid (SayG _ _ _ _ _ (v0w.alloc (.cells #[.int .u8 32] 5))∧Reads (v0w.alloc (.cells #[.int .u8 32] 5)) (some ⟨v0w.heap.size,0,none⟩) 1 [32]):=⟨AL.out.grown (World.grownBy_alloc _ _ _),readsOneB v0w 32 5⟩
  clear AL
  generalize v0w.alloc (.cells #[.int .u8 32] 5)=ub79 at *
  generalize v0w.heap.size=pb80 at *
  refine hK.out _ _ (HT.out _ AN.out.1.gr) (fun hH2=>?_)
  clear hK K hH
  have hH:=hH2
  clear hH2
  simp only[Act.put,nA,nB,nC,nD,nE,nF]
  refine rd 2 rfl (fun K hK=>?_)
  refine step_of rfl (wp_appG _ _ 23 rfl W0.heap.size i0 (.int .u8 0) Tryz.underlying23 hi hz0 hz1 hz2 rfl _ (((zs)++[40,116,114,121,32])++(exX ppA kkA aaA)) rfl AN.out.1.own (some ⟨pb80,0,none⟩) 1 1 [32] rfl AN.out.2 (by simp) (by (try simp only[List.length_append,List.length_singleton,List.length_cons,List.length_nil]);omega) AN.out.1.size ?_)
  intro vb81 ub82 sb
  have AL:Hid (SayG _ _ _ vb81 ((((zs)++[40,116,114,121,32])++(exX ppA kkA aaA))++[32]) ub82):=AN.out.1.trans sb
  clear AN sb
  refine hK.out _ _ (HT.out _ AL.out.gr) (fun hH2=>?_)
  clear hK K hH
  have hH:=hH2
  clear hH2
  simp only[Act.put,nA,nB,nC,nD,nE,nF]
  have AN:Hid (SayG _ _ _ _ ((((zs)++[40,116,114,121,32])++(exX ppA kkA aaA))++[32]) ub82∧True):=⟨AL.out,trivial⟩
  clear AL
  refine rd 5 rfl (fun K hK=>?_)
  refine step_of rfl (wp_appN _ _ 23 rfl W0.heap.size i0 (.int .u8 0) Tryz.underlying23 hi hz0 hz1 hz2 rfl _ ((((zs)++[40,116,114,121,32])++(exX ppA kkA aaA))++[32]) rfl AN.out.1.own a1 l1 c1 name rfl (HN1.out _ (BL.out _ AN.out.1.gr)) (Or.inl (by simp)) (by (try simp only[List.length_append,List.length_singleton,List.length_cons,List.length_nil]);omega) AN.out.1.size ?_)
  intro vb83 ub84 sb
  have AL:Hid (SayG _ _ _ vb83 (((((zs)++[40,116,114,121,32])++(exX ppA kkA aaA))++[32])++name) ub84):=AN.out.1.trans sb
  clear AN sb
  refine hK.out _ _ (HT.out _ AL.out.gr) (fun hH2=>?_)
  clear hK K hH
  have hH:=hH2
  clear hH2
  simp only[Act.put,nA,nB,nC,nD,nE,nF]
  refine tk 6 rfl hH ?_
  refine wpAnyH_done (by kernel_rfl) ?_ _
  clear hH HT
  have HT:Hid (∀ u,w1.grownBy u v.ownBlock→(fun u=>Sev q (.int .i64 18) (.int .i64 n) (.slice a1 l1 c1) (.slice a2 l2 c2) (.slice a3 l3 c3) (.slice (some ⟨b,o,none⟩) l4 c4) (.slice a5 l5 c5) u∧CelE u b (o+7) (.int .i64 ppB.k) (.int .i64 ppB.n) (.slice b1B m1B n1B) (.slice b2B m2B n2B) (.slice b3B m3B n3B) (.slice b4B m4B n4B) (.slice b5B m5B n5B)) u):=fun u hu=>⟨HTB.out u hu,KHB.out u (BL.out u hu)⟩
  obtain ⟨⟨x0,x1,x2,x3,x4,x5,x6⟩,-⟩:=HT.out _ AL.out.gr
  go_upto_region 27 with fail
  have AD:Hid (SayG _ _ _ _ _ ub84.drew):=AL.out.grown (grown_drew (World.grownBy.refl _ none))
  clear AL x0 x1 x2 x3 x4 x5 x6
  refine wp_region_held_drew (S:=(fun u=>Sev q (.int .i64 18) (.int .i64 n) (.slice a1 l1 c1) (.slice a2 l2 c2) (.slice a3 l3 c3) (.slice (some ⟨b,o,none⟩) l4 c4) (.slice a5 l5 c5) u∧CelE u b (o+7) (.int .i64 ppB.k) (.int .i64 ppB.n) (.slice b1B m1B n1B) (.slice b2B m2B n2B) (.slice b3B m3B n3B) (.slice b4B m4B n4B) (.slice b5B m5B n5B))) (by kernel_rfl) (HT.out _ AD.out.gr) (fun hH=>?_)
  have AL:=AD
  clear AD
  generalize ub84.drew=v0w at *
  simp only[List.size_toArray,List.length_cons,List.length_nil,Nat.reduceAdd,Array.replicate,List.replicate]
  refine tk 0 rfl hH ?_
  refine tk 3 rfl hH ?_
  refine tk 4 rfl hH ?_
  refine tk 5 rfl hH ?_
  refine tk 6 rfl hH ?_
  refine wpAnyH_ready (rs:=[1,8]) (by kernel_rfl) (by simp) ?_
  refine AllReadyH.cons rfl (fun K hK=>?_) (AllReadyH.cons rfl (fun K hK=>?_) AllReadyH.nil)
  ·
   skip
   go_simp
   have AN:Hid (SayG _ _ _ _ _ (v0w.alloc (.cells #[.int .u8 32] 5))∧Reads (v0w.alloc (.cells #[.int .u8 32] 5)) (some ⟨v0w.heap.size,0,none⟩) 1 [32]):=⟨AL.out.grown (World.grownBy_alloc _ _ _),readsOneB v0w 32 5⟩
   clear AL
   generalize v0w.alloc (.cells #[.int .u8 32] 5)=ub85 at *
   generalize v0w.heap.size=pb86 at *
   refine hK.out _ _ (HT.out _ AN.out.1.gr) (fun hH2=>?_)
   clear hK K hH
   have hH:=hH2
   clear hH2
   simp only[Act.put,nA,nB,nC,nD,nE,nF]
   refine wpAnyH_ready (rs:=[2,8]) (by kernel_rfl) (by simp) ?_
   refine AllReadyH.cons rfl (fun K hK=>?_) (AllReadyH.cons rfl (fun K hK=>?_) AllReadyH.nil)
   ·
    skip
    refine step_of rfl (wp_appG _ _ 23 rfl W0.heap.size i0 (.int .u8 0) Tryz.underlying23 hi hz0 hz1 hz2 rfl _ (((((zs)++[40,116,114,121,32])++(exX ppA kkA aaA))++[32])++name) rfl AN.out.1.own (some ⟨pb86,0,none⟩) 1 1 [32] rfl AN.out.2 (by simp) (by (try simp only[List.length_append,List.length_singleton,List.length_cons,List.length_nil]);omega) AN.out.1.size ?_)
    intro vb89 ub90 sb
    have AL:Hid (SayG _ _ _ vb89 ((((((zs)++[40,116,114,121,32])++(exX ppA kkA aaA))++[32])++name)++[32]) ub90):=AN.out.1.trans sb
    clear AN sb
    refine hK.out _ _ (HT.out _ AL.out.gr) (fun hH2=>?_)
    clear hK K hH
    have hH:=hH2
    clear hH2
    simp only[Act.put,nA,nB,nC,nD,nE,nF]
    refine wpAnyH_ready (rs:=[7,8]) (by kernel_rfl) (by simp) ?_
    refine AllReadyH.cons rfl (fun K hK=>?_) (AllReadyH.cons rfl (fun K hK=>?_) AllReadyH.nil)
    ·
     skip
     go_simp
     refine Calls.mono (CCB.out vb89 ((((((zs)++[40,116,114,121,32])++(exX ppA kkA aaA))++[32])++name)++[32]) ub90 (BL.out _ AL.out.gr) AL.out.own (by (try simp only[List.length_append,List.length_singleton,List.length_cons,List.length_nil]);omega)) ?_
     rintro e ub94 ⟨vb93,he,sb⟩
     subst he
     have AN:Hid (SayG _ _ _ vb93 (((((((zs)++[40,116,114,121,32])++(exX ppA kkA aaA))++[32])++name)++[32])++(exX ppB kkB aaB)) ub94):=AL.out.trans sb
     clear AL sb
     have AL:=AN
     clear AN
     refine hK.out _ _ (HT.out _ AL.out.gr) (fun hH2=>?_)
     clear hK K hH
     have hH:=hH2
     clear hH2
     simp only[Act.put,nA,nB,nC,nD,nE,nF]
     refine rd 8 rfl (fun K hK=>?_)
     go_simp
     have hfar:=AL.out.far
     have gfar:=World.grownBy_alloc ub94 (.cells #[.int .u8 41] 5) none
     have A0:Hid (SayG _ _ _ _ (((((((zs)++[40,116,114,121,32])++(exX ppA kkA aaA))++[32])++name)++[32])++(exX ppB kkB aaB)) (ub94.alloc (.cells #[.int .u8 41] 5))):=AL.out.grown gfar
     have HF9:Hid (∀ x,(ub94.alloc (.cells #[.int .u8 41] 5)).grownBy x (vb93).ownBlock→Reads x (some ⟨ub94.heap.size,0,none⟩) 1 [41]):=fun x hx=>readsFar hfar hx
     have HT2:Hid (∀ x,(ub94.alloc (.cells #[.int .u8 41] 5)).grownBy x (vb93).ownBlock→(fun u=>Sev q (.int .i64 18) (.int .i64 n) (.slice a1 l1 c1) (.slice a2 l2 c2) (.slice a3 l3 c3) (.slice (some ⟨b,o,none⟩) l4 c4) (.slice a5 l5 c5) u∧CelE u b (o+7) (.int .i64 ppB.k) (.int .i64 ppB.n) (.slice b1B m1B n1B) (.slice b2B m2B n2B) (.slice b3B m3B n3B) (.slice b4B m4B n4B) (.slice b5B m5B n5B)) x):=fun x hx=>HT.out x (A0.out.ext hx)
     have BL2:Hid (∀ x,(ub94.alloc (.cells #[.int .u8 41] 5)).grownBy x (vb93).ownBlock→Below W0.heap.size W0 x):=fun x hx=>BL.out x (A0.out.ext hx)
     have AL2:Hid (SayG _ _ _ vb93 (((((((zs)++[40,116,114,121,32])++(exX ppA kkA aaA))++[32])++name)++[32])++(exX ppB kkB aaB)) (ub94.alloc (.cells #[.int .u8 41] 5))):=A0.out.re
     clear AL HT BL hfar gfar
     have AL:=AL2
     clear AL2
     have HT:=HT2
     have BL:=BL2
     clear HT2 BL2
     generalize ub94.alloc (.cells #[.int .u8 41] 5)=uf97 at *
     generalize ub94.heap.size=pf98 at *
     refine hK.out _ _ (HT.out _ AL.out.gr) (fun hH2=>?_)
     clear hK K hH
     have hH:=hH2
     clear hH2
     simp only[Act.put,nA,nB,nC,nD,nE,nF]
     have AN:Hid (SayG _ _ _ _ (((((((zs)++[40,116,114,121,32])++(exX ppA kkA aaA))++[32])++name)++[32])++(exX ppB kkB aaB)) uf97∧Reads uf97 (some ⟨pf98,0,none⟩) 1 [41]):=⟨AL.out,HF9.out _ AL.out.gr⟩
     clear AL
     refine rd 9 rfl (fun K hK=>?_)
     refine step_of rfl (wp_appG _ _ 23 rfl W0.heap.size i0 (.int .u8 0) Tryz.underlying23 hi hz0 hz1 hz2 rfl _ (((((((zs)++[40,116,114,121,32])++(exX ppA kkA aaA))++[32])++name)++[32])++(exX ppB kkB aaB)) rfl AN.out.1.own (some ⟨pf98,0,none⟩) 1 1 [41] rfl AN.out.2 (by simp) (by (try simp only[List.length_append,List.length_singleton,List.length_cons,List.length_nil]);omega) AN.out.1.size ?_)
     intro vb99 ub100 sb
     have AL:Hid (SayG _ _ _ vb99 ((((((((zs)++[40,116,114,121,32])++(exX ppA kkA aaA))++[32])++name)++[32])++(exX ppB kkB aaB))++[41]) ub100):=AN.out.1.trans sb
     clear AN sb
     refine hK.out _ _ (HT.out _ AL.out.gr) (fun hH2=>?_)
     clear hK K hH
     have hH:=hH2
     clear hH2
     simp only[Act.put,nA,nB,nC,nD,nE,nF]
     refine tk 10 rfl hH ?_
     refine wpAnyH_done (by kernel_rfl) ?_ _
     clear hH
     have FF:Hid (SayG W0.heap.size w v vb99 (zs++saY ⟨18,n,name,arg,lit⟩ ks rs) ub100):=(H0.out.trans (A0.out.trans AL.out)).as (by rw[EF.out];simp)
     clear AL H0
     go_wp2
     go_ret
     exact ⟨vb99,rfl,by rw[HX.out];exact FF.out⟩
    ·
     skip
     go_simp
     have hfar:=AL.out.far
     have gfar:=World.grownBy_alloc ub90 (.cells #[.int .u8 41] 5) none
     have A0:Hid (SayG _ _ _ _ ((((((zs)++[40,116,114,121,32])++(exX ppA kkA aaA))++[32])++name)++[32]) (ub90.alloc (.cells #[.int .u8 41] 5))):=AL.out.grown gfar
     have HF9:Hid (∀ x,(ub90.alloc (.cells #[.int .u8 41] 5)).grownBy x (vb89).ownBlock→Reads x (some ⟨ub90.heap.size,0,none⟩) 1 [41]):=fun x hx=>readsFar hfar hx
     have HT2:Hid (∀ x,(ub90.alloc (.cells #[.int .u8 41] 5)).grownBy x (vb89).ownBlock→(fun u=>Sev q (.int .i64 18) (.int .i64 n) (.slice a1 l1 c1) (.slice a2 l2 c2) (.slice a3 l3 c3) (.slice (some ⟨b,o,none⟩) l4 c4) (.slice a5 l5 c5) u∧CelE u b (o+7) (.int .i64 ppB.k) (.int .i64 ppB.n) (.slice b1B m1B n1B) (.slice b2B m2B n2B) (.slice b3B m3B n3B) (.slice b4B m4B n4B) (.slice b5B m5B n5B)) x):=fun x hx=>HT.out x (A0.out.ext hx)
     have BL2:Hid (∀ x,(ub90.alloc (.cells #[.int .u8 41] 5)).grownBy x (vb89).ownBlock→Below W0.heap.size W0 x):=fun x hx=>BL.out x (A0.out.ext hx)
     have AL2:Hid (SayG _ _ _ vb89 ((((((zs)++[40,116,114,121,32])++(exX ppA kkA aaA))++[32])++name)++[32]) (ub90.alloc (.cells #[.int .u8 41] 5))):=A0.out.re
     clear AL HT BL hfar gfar
     have AL:=AL2
     clear AL2
     have HT:=HT2
     have BL:=BL2
     clear HT2 BL2
     generalize ub90.alloc (.cells #[.int .u8 41] 5)=uf95 at *
     generalize ub90.heap.size=pf96 at *
     refine hK.out _ _ (HT.out _ AL.out.gr) (fun hH2=>?_)
     clear hK K hH
     have hH:=hH2
     clear hH2
     simp only[Act.put,nA,nB,nC,nD,nE,nF]
     refine rd 7 rfl (fun K hK=>?_)
     go_simp
     refine Calls.mono (CCB.out vb89 ((((((zs)++[40,116,114,121,32])++(exX ppA kkA aaA))++[32])++name)++[32]) uf95 (BL.out _ AL.out.gr) AL.out.own (by (try simp only[List.length_append,List.length_singleton,List.length_cons,List.length_nil]);omega)) ?_
     rintro e ub102 ⟨vb101,he,sb⟩
     subst he
     have AN:Hid (SayG _ _ _ vb101 (((((((zs)++[40,116,114,121,32])++(exX ppA kkA aaA))++[32])++name)++[32])++(exX ppB kkB aaB)) ub102):=AL.out.trans sb
     clear AL sb
     have AL:=AN
     clear AN
     refine hK.out _ _ (HT.out _ AL.out.gr) (fun hH2=>?_)
     clear hK K hH
     have hH:=hH2
     clear hH2
     simp only[Act.put,nA,nB,nC,nD,nE,nF]
     have AN:Hid (SayG _ _ _ _ (((((((zs)++[40,116,114,121,32])++(exX ppA kkA aaA))++[32])++name)++[32])++(exX ppB kkB aaB)) ub102∧Reads ub102 (some ⟨pf96,0,none⟩) 1 [41]):=⟨AL.out,HF9.out _ AL.out.gr⟩
     clear AL
     refine rd 9 rfl (fun K hK=>?_)
     refine step_of rfl (wp_appG _ _ 23 rfl W0.heap.size i0 (.int .u8 0) Tryz.underlying23 hi hz0 hz1 hz2 rfl _ (((((((zs)++[40,116,114,121,32])++(exX ppA kkA aaA))++[32])++name)++[32])++(exX ppB kkB aaB)) rfl AN.out.1.own (some ⟨pf96,0,none⟩) 1 1 [41] rfl AN.out.2 (by simp) (by (try simp only[List.length_append,List.length_singleton,List.length_cons,List.length_nil]);omega) AN.out.1.size ?_)
     intro vb103 ub104 sb
     have AL:Hid (SayG _ _ _ vb103 ((((((((zs)++[40,116,114,121,32])++(exX ppA kkA aaA))++[32])++name)++[32])++(exX ppB kkB aaB))++[41]) ub104):=AN.out.1.trans sb
     clear AN sb
     refine hK.out _ _ (HT.out _ AL.out.gr) (fun hH2=>?_)
     clear hK K hH
     have hH:=hH2
     clear hH2
     simp only[Act.put,nA,nB,nC,nD,nE,nF]
     refine tk 10 rfl hH ?_
     refine wpAnyH_done (by kernel_rfl) ?_ _
     clear hH
     have FF:Hid (SayG W0.heap.size w v vb103 (zs++saY ⟨18,n,name,arg,lit⟩ ks rs) ub104):=(H0.out.trans (A0.out.trans AL.out)).as (by rw[EF.out];simp)
     clear AL H0
     go_wp2
     go_ret
     exact ⟨vb103,rfl,by rw[HX.out];exact FF.out⟩
   ·
    skip
    go_simp
    have hfar:=AN.out.1.far
    have gfar:=World.grownBy_alloc ub85 (.cells #[.int .u8 41] 5) none
    have A0:Hid (SayG _ _ _ _ (((((zs)++[40,116,114,121,32])++(exX ppA kkA aaA))++[32])++name) (ub85.alloc (.cells #[.int .u8 41] 5))):=AN.out.1.grown gfar
    have HF9:Hid (∀ x,(ub85.alloc (.cells #[.int .u8 41] 5)).grownBy x (vb83).ownBlock→Reads x (some ⟨ub85.heap.size,0,none⟩) 1 [41]):=fun x hx=>readsFar hfar hx
    have HT2:Hid (∀ x,(ub85.alloc (.cells #[.int .u8 41] 5)).grownBy x (vb83).ownBlock→(fun u=>Sev q (.int .i64 18) (.int .i64 n) (.slice a1 l1 c1) (.slice a2 l2 c2) (.slice a3 l3 c3) (.slice (some ⟨b,o,none⟩) l4 c4) (.slice a5 l5 c5) u∧CelE u b (o+7) (.int .i64 ppB.k) (.int .i64 ppB.n) (.slice b1B m1B n1B) (.slice b2B m2B n2B) (.slice b3B m3B n3B) (.slice b4B m4B n4B) (.slice b5B m5B n5B)) x):=fun x hx=>HT.out x (A0.out.ext hx)
    have BL2:Hid (∀ x,(ub85.alloc (.cells #[.int .u8 41] 5)).grownBy x (vb83).ownBlock→Below W0.heap.size W0 x):=fun x hx=>BL.out x (A0.out.ext hx)
    have AN2:Hid (SayG _ _ _ vb83 (((((zs)++[40,116,114,121,32])++(exX ppA kkA aaA))++[32])++name) (ub85.alloc (.cells #[.int .u8 41] 5))∧Reads (ub85.alloc (.cells #[.int .u8 41] 5)) (some ⟨pb86,0,none⟩) 1 [32]):=⟨A0.out.re,readsG AN.out.2 gfar⟩
    clear AN HT BL hfar gfar
    have AN:=AN2
    clear AN2
    have HT:=HT2
    have BL:=BL2
    clear HT2 BL2
    generalize ub85.alloc (.cells #[.int .u8 41] 5)=uf91 at *
    generalize ub85.heap.size=pf92 at *
    refine hK.out _ _ (HT.out _ AN.out.1.gr) (fun hH2=>?_)
    clear hK K hH
    have hH:=hH2
    clear hH2
    simp only[Act.put,nA,nB,nC,nD,nE,nF]
    refine rd 2 rfl (fun K hK=>?_)
    refine step_of rfl (wp_appG _ _ 23 rfl W0.heap.size i0 (.int .u8 0) Tryz.underlying23 hi hz0 hz1 hz2 rfl _ (((((zs)++[40,116,114,121,32])++(exX ppA kkA aaA))++[32])++name) rfl AN.out.1.own (some ⟨pb86,0,none⟩) 1 1 [32] rfl AN.out.2 (by simp) (by (try simp only[List.length_append,List.length_singleton,List.length_cons,List.length_nil]);omega) AN.out.1.size ?_)
    intro vb105 ub106 sb
    have AL:Hid (SayG _ _ _ vb105 ((((((zs)++[40,116,114,121,32])++(exX ppA kkA aaA))++[32])++name)++[32]) ub106):=AN.out.1.trans sb
    clear AN sb
    refine hK.out _ _ (HT.out _ AL.out.gr) (fun hH2=>?_)
    clear hK K hH
    have hH:=hH2
    clear hH2
    simp only[Act.put,nA,nB,nC,nD,nE,nF]
    refine rd 7 rfl (fun K hK=>?_)
    go_simp
    refine Calls.mono (CCB.out vb105 ((((((zs)++[40,116,114,121,32])++(exX ppA kkA aaA))++[32])++name)++[32]) ub106 (BL.out _ AL.out.gr) AL.out.own (by (try simp only[List.length_append,List.length_singleton,List.length_cons,List.length_nil]);omega)) ?_
    rintro e ub108 ⟨vb107,he,sb⟩
    subst he
    have AN:Hid (SayG _ _ _ vb107 (((((((zs)++[40,116,114,121,32])++(exX ppA kkA aaA))++[32])++name)++[32])++(exX ppB kkB aaB)) ub108):=AL.out.trans sb
    clear AL sb
    have AL:=AN
    clear AN
    refine hK.out _ _ (HT.out _ AL.out.gr) (fun hH2=>?_)
    clear hK K hH
    have hH:=hH2
    clear hH2
    simp only[Act.put,nA,nB,nC,nD,nE,nF]
    have AN:Hid (SayG _ _ _ _ (((((((zs)++[40,116,114,121,32])++(exX ppA kkA aaA))++[32])++name)++[32])++(exX ppB kkB aaB)) ub108∧Reads ub108 (some ⟨pf92,0,none⟩) 1 [41]):=⟨AL.out,HF9.out _ AL.out.gr⟩
    clear AL
    refine rd 9 rfl (fun K hK=>?_)
    refine step_of rfl (wp_appG _ _ 23 rfl W0.heap.size i0 (.int .u8 0) Tryz.underlying23 hi hz0 hz1 hz2 rfl _ (((((((zs)++[40,116,114,121,32])++(exX ppA kkA aaA))++[32])++name)++[32])++(exX ppB kkB aaB)) rfl AN.out.1.own (some ⟨pf92,0,none⟩) 1 1 [41] rfl AN.out.2 (by simp) (by (try simp only[List.length_append,List.length_singleton,List.length_cons,List.length_nil]);omega) AN.out.1.size ?_)
    intro vb109 ub110 sb
    have AL:Hid (SayG _ _ _ vb109 ((((((((zs)++[40,116,114,121,32])++(exX ppA kkA aaA))++[32])++name)++[32])++(exX ppB kkB aaB))++[41]) ub110):=AN.out.1.trans sb
    clear AN sb
    refine hK.out _ _ (HT.out _ AL.out.gr) (fun hH2=>?_)
    clear hK K hH
    have hH:=hH2
    clear hH2
    simp only[Act.put,nA,nB,nC,nD,nE,nF]
    refine tk 10 rfl hH ?_
    refine wpAnyH_done (by kernel_rfl) ?_ _
    clear hH
    have FF:Hid (SayG W0.heap.size w v vb109 (zs++saY ⟨18,n,name,arg,lit⟩ ks rs) ub110):=(H0.out.trans (A0.out.trans AL.out)).as (by rw[EF.out];simp)
    clear AL H0
    go_wp2
    go_ret
    exact ⟨vb109,rfl,by rw[HX.out];exact FF.out⟩
  ·
   skip
   go_simp
   have hfar:=AL.out.far
   have gfar:=World.grownBy_alloc v0w (.cells #[.int .u8 41] 5) none
   have A0:Hid (SayG _ _ _ _ (((((zs)++[40,116,114,121,32])++(exX ppA kkA aaA))++[32])++name) (v0w.alloc (.cells #[.int .u8 41] 5))):=AL.out.grown gfar
   have HF9:Hid (∀ x,(v0w.alloc (.cells #[.int .u8 41] 5)).grownBy x (vb83).ownBlock→Reads x (some ⟨v0w.heap.size,0,none⟩) 1 [41]):=fun x hx=>readsFar hfar hx
   have HT2:Hid (∀ x,(v0w.alloc (.cells #[.int .u8 41] 5)).grownBy x (vb83).ownBlock→(fun u=>Sev q (.int .i64 18) (.int .i64 n) (.slice a1 l1 c1) (.slice a2 l2 c2) (.slice a3 l3 c3) (.slice (some ⟨b,o,none⟩) l4 c4) (.slice a5 l5 c5) u∧CelE u b (o+7) (.int .i64 ppB.k) (.int .i64 ppB.n) (.slice b1B m1B n1B) (.slice b2B m2B n2B) (.slice b3B m3B n3B) (.slice b4B m4B n4B) (.slice b5B m5B n5B)) x):=fun x hx=>HT.out x (A0.out.ext hx)
   have BL2:Hid (∀ x,(v0w.alloc (.cells #[.int .u8 41] 5)).grownBy x (vb83).ownBlock→Below W0.heap.size W0 x):=fun x hx=>BL.out x (A0.out.ext hx)
   have AL2:Hid (SayG _ _ _ vb83 (((((zs)++[40,116,114,121,32])++(exX ppA kkA aaA))++[32])++name) (v0w.alloc (.cells #[.int .u8 41] 5))):=A0.out.re
   clear AL HT BL hfar gfar
   have AL:=AL2
   clear AL2
   have HT:=HT2
   have BL:=BL2
   clear HT2 BL2
   generalize v0w.alloc (.cells #[.int .u8 41] 5)=uf87 at *
   generalize v0w.heap.size=pf88 at *
   refine hK.out _ _ (HT.out _ AL.out.gr) (fun hH2=>?_)
   clear hK K hH
   have hH:=hH2
   clear hH2
   simp only[Act.put,nA,nB,nC,nD,nE,nF]
   refine rd 1 rfl (fun K hK=>?_)
   go_simp
   have AN:Hid (SayG _ _ _ _ _ (uf87.alloc (.cells #[.int .u8 32] 5))∧Reads (uf87.alloc (.cells #[.int .u8 32] 5)) (some ⟨uf87.heap.size,0,none⟩) 1 [32]):=⟨AL.out.grown (World.grownBy_alloc _ _ _),readsOneB uf87 32 5⟩
   clear AL
   generalize uf87.alloc (.cells #[.int .u8 32] 5)=ub111 at *
   generalize uf87.heap.size=pb112 at *
   refine hK.out _ _ (HT.out _ AN.out.1.gr) (fun hH2=>?_)
   clear hK K hH
   have hH:=hH2
   clear hH2
   simp only[Act.put,nA,nB,nC,nD,nE,nF]
   refine rd 2 rfl (fun K hK=>?_)
   refine step_of rfl (wp_appG _ _ 23 rfl W0.heap.size i0 (.int .u8 0) Tryz.underlying23 hi hz0 hz1 hz2 rfl _ (((((zs)++[40,116,114,121,32])++(exX ppA kkA aaA))++[32])++name) rfl AN.out.1.own (some ⟨pb112,0,none⟩) 1 1 [32] rfl AN.out.2 (by simp) (by (try simp only[List.length_append,List.length_singleton,List.length_cons,List.length_nil]);omega) AN.out.1.size ?_)
   intro vb113 ub114 sb
   have AL:Hid (SayG _ _ _ vb113 ((((((zs)++[40,116,114,121,32])++(exX ppA kkA aaA))++[32])++name)++[32]) ub114):=AN.out.1.trans sb
   clear AN sb
   refine hK.out _ _ (HT.out _ AL.out.gr) (fun hH2=>?_)
   clear hK K hH
   have hH:=hH2
   clear hH2
   simp only[Act.put,nA,nB,nC,nD,nE,nF]
   refine rd 7 rfl (fun K hK=>?_)
   go_simp
   refine Calls.mono (CCB.out vb113 ((((((zs)++[40,116,114,121,32])++(exX ppA kkA aaA))++[32])++name)++[32]) ub114 (BL.out _ AL.out.gr) AL.out.own (by (try simp only[List.length_append,List.length_singleton,List.length_cons,List.length_nil]);omega)) ?_
   rintro e ub116 ⟨vb115,he,sb⟩
   subst he
   have AN:Hid (SayG _ _ _ vb115 (((((((zs)++[40,116,114,121,32])++(exX ppA kkA aaA))++[32])++name)++[32])++(exX ppB kkB aaB)) ub116):=AL.out.trans sb
   clear AL sb
   have AL:=AN
   clear AN
   refine hK.out _ _ (HT.out _ AL.out.gr) (fun hH2=>?_)
   clear hK K hH
   have hH:=hH2
   clear hH2
   simp only[Act.put,nA,nB,nC,nD,nE,nF]
   have AN:Hid (SayG _ _ _ _ (((((((zs)++[40,116,114,121,32])++(exX ppA kkA aaA))++[32])++name)++[32])++(exX ppB kkB aaB)) ub116∧Reads ub116 (some ⟨pf88,0,none⟩) 1 [41]):=⟨AL.out,HF9.out _ AL.out.gr⟩
   clear AL
   refine rd 9 rfl (fun K hK=>?_)
   refine step_of rfl (wp_appG _ _ 23 rfl W0.heap.size i0 (.int .u8 0) Tryz.underlying23 hi hz0 hz1 hz2 rfl _ (((((((zs)++[40,116,114,121,32])++(exX ppA kkA aaA))++[32])++name)++[32])++(exX ppB kkB aaB)) rfl AN.out.1.own (some ⟨pf88,0,none⟩) 1 1 [41] rfl AN.out.2 (by simp) (by (try simp only[List.length_append,List.length_singleton,List.length_cons,List.length_nil]);omega) AN.out.1.size ?_)
   intro vb117 ub118 sb
   have AL:Hid (SayG _ _ _ vb117 ((((((((zs)++[40,116,114,121,32])++(exX ppA kkA aaA))++[32])++name)++[32])++(exX ppB kkB aaB))++[41]) ub118):=AN.out.1.trans sb
   clear AN sb
   refine hK.out _ _ (HT.out _ AL.out.gr) (fun hH2=>?_)
   clear hK K hH
   have hH:=hH2
   clear hH2
   simp only[Act.put,nA,nB,nC,nD,nE,nF]
   refine tk 10 rfl hH ?_
   refine wpAnyH_done (by kernel_rfl) ?_ _
   clear hH
   have FF:Hid (SayG W0.heap.size w v vb117 (zs++saY ⟨18,n,name,arg,lit⟩ ks rs) ub118):=(H0.out.trans (A0.out.trans AL.out)).as (by rw[EF.out];simp)
   clear AL H0
   go_wp2
   go_ret
   exact ⟨vb117,rfl,by rw[HX.out];exact FF.out⟩
 exact absurd HQ.out (by omega)
end Go.Proofs.YtblbnillilbacaaGreatDoor.By
