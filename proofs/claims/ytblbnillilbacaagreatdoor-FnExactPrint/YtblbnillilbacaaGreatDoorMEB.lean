/-
 The specification's text of an expression, by its contract. No statement is proved here.
-/
import Derived.Test.YtblbnillilbacaaGreatDoorZ0
import Derived.Test.YtblbnillilbacaaGreatDoorMEAlso
import Derived.Deep.DeepCutAuto
import Derived.Deep.CutBlock
namespace Go.Proofs.YtblbnillilbacaaGreatDoor.By
open Go.RowKit
set_option linter.unusedVariables false
set_option linter.unusedSimpArgs false
set_option maxRecDepth 8000 in
set_option maxHeartbeats 32000000 in
theorem l5sayB (W0:World) (m:Nat) (IH0:SaC W0 m):SaQ W0 (m+1) (fun k=>k=15):=by
 intro p kids alts a1 l1 c1 a2 l2 c2 a3 l3 c3 a4 l4 c4 a5 l5 c5 v zs w d hQ hm h ho hb hw hlen
 obtain ⟨TX,NF,-,GK,GA⟩:=exX_all ho
 have hoo:=ho
 simp only[okE,Bool.and_eq_true] at hoo
 obtain ⟨⟨⟨-,hoN⟩,hoK⟩,hoA⟩:=hoo
 have hbad:=okN_arms hoN
 obtain ⟨k,n,name,arg,lit⟩:=p
 simp only at *
 have HQ:Hid (k=15):=hQ
 clear hQ
 obtain ⟨i0,hi,hz0,hz1,hz2⟩:=info_parts infoS
 have hk0:=NF.lo
 have hk1:=NF.hi
 have hnl:=NF.name
 have hal:=NF.arg
 have hll:=NF.lit
 simp only at hk0 hk1 hnl hal hll
 have hl1:name.length=l1:=h.1.1.1
 have hl2:arg.length=l2:=h.2.1.1.1
 have hl3:lit.length=l3:=h.2.2.1.1.1
 have hk4:=h.2.2.2.1.1
 have hk5:=h.2.2.2.2.1
 have hk4b:=h.2.2.2.1.2.1
 have hk5b:=h.2.2.2.2.2.1
 have hks:=exL_len false kids
 have hrs:=exL_len true alts
 have hB:=hb.size
 obtain ⟨ks,hksd⟩:∃ ks,exL false kids=ks:=⟨_,rfl⟩
 obtain ⟨rs,hrsd⟩:∃ rs,exL true alts=rs:=⟨_,rfl⟩
 have HX:Hid (exX ⟨k,n,name,arg,lit⟩ kids alts=saY ⟨k,n,name,arg,lit⟩ ks rs):=by show _=_;unfold exX;rw[hksd,hrsd]
 rw[HX.out] at hlen
 have HGP:Hid (gapB (saY ⟨k,n,name,arg,lit⟩ ks rs)=true):=by have:=TX.gap;rw[hksd,hrsd] at this;exact this
 have HKS:Hid (exL false kids=ks∧exL true alts=rs):=⟨hksd,hrsd⟩
 rw[hksd] at hks
 rw[hrsd] at hrs
 have g0:=World.grownBy_alloc w (.cells #[.int .i64 k,.int .i64 n,.slice a1 l1 c1,.slice a2 l2 c2,.slice a3 l3 c3,.slice a4 l4 c4,.slice a5 l5 c5] 36) none
 have b0:=heap_alloc_new w (.cells #[.int .i64 k,.int .i64 n,.slice a1 l1 c1,.slice a2 l2 c2,.slice a3 l3 c3,.slice a4 l4 c4,.slice a5 l5 c5] 36)
 have H0:Hid (SayG W0.heap.size w v v zs (w.alloc (.cells #[.int .i64 k,.int .i64 n,.slice a1 l1 c1,.slice a2 l2 c2,.slice a3 l3 c3,.slice a4 l4 c4,.slice a5 l5 c5] 36))):=(SayG.start hw hB).grown g0
 have AL:Hid (SayG W0.heap.size (w.alloc (.cells #[.int .i64 k,.int .i64 n,.slice a1 l1 c1,.slice a2 l2 c2,.slice a3 l3 c3,.slice a4 l4 c4,.slice a5 l5 c5] 36)) v v zs (w.alloc (.cells #[.int .i64 k,.int .i64 n,.slice a1 l1 c1,.slice a2 l2 c2,.slice a3 l3 c3,.slice a4 l4 c4,.slice a5 l5 c5] 36))):=H0.out.re
 have hne:v.ownBlock≠some w.heap.size:=fun e=>by have:=(hw.lt _ e).2;omega
 have HT:Hid (∀ u,(w.alloc (.cells #[.int .i64 k,.int .i64 n,.slice a1 l1 c1,.slice a2 l2 c2,.slice a3 l3 c3,.slice a4 l4 c4,.slice a5 l5 c5] 36)).grownBy u v.ownBlock→Sev w.heap.size (.int .i64 k) (.int .i64 n) (.slice a1 l1 c1) (.slice a2 l2 c2) (.slice a3 l3 c3) (.slice a4 l4 c4) (.slice a5 l5 c5) u):=fun u hu=>(blkE ((hu.block _ (lt_of_block b0) (fun e=>hne e.symm)).trans b0)).1
 have BL:Hid (∀ u,(w.alloc (.cells #[.int .i64 k,.int .i64 n,.slice a1 l1 c1,.slice a2 l2 c2,.slice a3 l3 c3,.slice a4 l4 c4,.slice a5 l5 c5] 36)).grownBy u v.ownBlock→Below W0.heap.size W0 u):=fun u hu=>(hb.grown g0 hB (fun k hk=>by cases hk)).grown hu (Nat.le_trans hB g0.size) (fun g hg=>(hw.lt g hg).1)
 have IH:Hid _:=IH0
 have HN1:Hid (∀ u,Below W0.heap.size W0 u→Reads u a1 l1 name):=fun u hu=>(h.1.le (cle_belowK hu)).1
 have HN2:Hid (∀ u,Below W0.heap.size W0 u→Reads u a2 l2 arg):=fun u hu=>(h.2.1.le (cle_belowK hu)).1
 have HN3:Hid (∀ u,Below W0.heap.size W0 u→Reads u a3 l3 lit):=fun u hu=>(h.2.2.1.le (cle_belowK hu)).1
 have HK:Hid (SlGE W0 false a4 l4 c4 kids∧okG kids (d - 1)=true):=⟨h.2.2.2.1,hoK⟩
 have HA:Hid (SlGE W0 true a5 l5 c5 alts∧okG alts (d - 1)=true∧badA alts=false):=⟨h.2.2.2.2,hoA,hbad⟩
 have HF:Hid (NdF ⟨k,n,name,arg,lit⟩ kids.len alts.len):=NF
 clear h ho hb hw IH0 TX NF GK GA hoN hoK hoA hbad hksd hrsd g0 b0 hne
 go_enter Tryz.func56,Tryz.ntmps56
 go_upto_region 1 with fail
 generalize w.alloc (.cells #[.int .i64 k,.int .i64 n,.slice a1 l1 c1,.slice a2 l2 c2,.slice a3 l3 c3,.slice a4 l4 c4,.slice a5 l5 c5] 36)=w1 at *
 generalize w.heap.size=q at *
 obtain ⟨x0,x1,x2,x3,x4,x5,x6⟩:=HT.out _ AL.out.gr
 have h15:k=15:=HQ.out
 clear HQ
 subst h15
 by_cases h40:l4=0
 ·
  have EF:Hid (saY ⟨15,n,name,arg,lit⟩ ks rs=name):=by show _=_;unfold saY;simp only[];rw[if_neg (by decide),if_neg (by decide),if_neg (by decide),if_neg (by decide),if_neg (by decide),if_neg (by decide),if_pos trivial,if_pos (by omega)]
  have hX:=hlen
  rw[EF.out] at hX
  try simp only[List.length_append,List.length_singleton,List.length_cons,List.length_nil] at hX
  have hnn:name≠[]:=by intro e;have:=HGP.out;rw[EF.out,e] at this;cases this
  have h40b:((l4:Int) == 0)=true:=by rw[h40];rfl
  clear h40
  go_wp2_with (at_builtin;go_must (refine wpList_appN rfl _ _ 23 rfl W0.heap.size i0 (.int .u8 0) Tryz.underlying23 hi hz0 hz1 hz2 rfl v zs rfl AL.out.own a1 l1 c1 name rfl (HN1.out _ (BL.out _ AL.out.gr)) (Or.inr hnn) (by omega) AL.out.size ?_);intro v2 u2 sb)
  have FF:Hid (SayG W0.heap.size w v v2 (zs++saY ⟨15,n,name,arg,lit⟩ ks rs) u2):=(H0.out.trans (AL.out.trans sb)).as (by rw[EF.out])
  clear sb AL H0
  go_ret
  exact ⟨v2,rfl,by rw[HX.out];exact FF.out⟩
 ·
  have h40':¬ (l4:Int)=0:=by omega
  have h40b:((l4:Int) == 0)=false:=by simpa using h40
  have EH0:Hid (saY ⟨15,n,name,arg,lit⟩ ks rs=([40]++name)++blz ks++blz rs++[41]):=by show _=_;unfold saY;simp only[];rw[if_neg (by decide),if_neg (by decide),if_neg (by decide),if_neg (by decide),if_neg (by decide),if_neg (by decide),if_pos trivial,if_neg (by omega)]
  have hX:=hlen
  rw[EH0.out] at hX
  simp only[List.length_append,List.length_singleton] at hX
  go_upto_region 23 with fail
  have AD:Hid (SayG _ _ _ _ _ w1.drew):=AL.out.grown (grown_drew (World.grownBy.refl _ none))
  clear AL x0 x1 x2 x3 x4 x5 x6
  refine wp_region_held_drew (S:=(fun u=>Sev q (.int .i64 15) (.int .i64 n) (.slice a1 l1 c1) (.slice a2 l2 c2) (.slice a3 l3 c3) (.slice a4 l4 c4) (.slice a5 l5 c5) u)) (by kernel_rfl) (HT.out _ AD.out.gr) (fun hH=>?_)
  have AL:=AD
  clear AD
  generalize w1.drew=v0w at *
  simp only[List.size_toArray,List.length_cons,List.length_nil,Nat.reduceAdd,Array.replicate,List.replicate]
  refine tk 0 rfl hH ?_
  refine tk 3 rfl hH ?_
  refine tk 4 rfl hH ?_
  refine rd 1 rfl (fun K hK=>?_)
  go_simp
  have AN:Hid (SayG _ _ _ _ _ (v0w.alloc (.cells #[.int .u8 40] 5))∧Reads (v0w.alloc (.cells #[.int .u8 40] 5)) (some ⟨v0w.heap.size,0,none⟩) 1 [40]):=⟨AL.out.grown (World.grownBy_alloc _ _ _),readsOneB v0w 40 5⟩
  clear AL
  generalize v0w.alloc (.cells #[.int .u8 40] 5)=ub119 at *
  generalize v0w.heap.size=pb120 at *
  refine hK.out _ _ (HT.out _ AN.out.1.gr) (fun hH2=>?_)
  clear hK K hH
  have hH:=hH2
  clear hH2
  simp only[Act.put,nA,nB,nC,nD,nE,nF]
  refine rd 2 rfl (fun K hK=>?_)
  refine step_of rfl (wp_appG _ _ 23 rfl W0.heap.size i0 (.int .u8 0) Tryz.underlying23 hi hz0 hz1 hz2 rfl _ (zs) rfl AN.out.1.own (some ⟨pb120,0,none⟩) 1 1 [40] rfl AN.out.2 (by simp) (by (try simp only[List.length_append,List.length_singleton,List.length_cons,List.length_nil]);omega) AN.out.1.size ?_)
  intro vb121 ub122 sb
  have AL:Hid (SayG _ _ _ vb121 ((zs)++[40]) ub122):=AN.out.1.trans sb
  clear AN sb
  refine hK.out _ _ (HT.out _ AL.out.gr) (fun hH2=>?_)
  clear hK K hH
  have hH:=hH2
  clear hH2
  simp only[Act.put,nA,nB,nC,nD,nE,nF]
  have AN:Hid (SayG _ _ _ _ ((zs)++[40]) ub122∧True):=⟨AL.out,trivial⟩
  clear AL
  refine rd 5 rfl (fun K hK=>?_)
  refine step_of rfl (wp_appN _ _ 23 rfl W0.heap.size i0 (.int .u8 0) Tryz.underlying23 hi hz0 hz1 hz2 rfl _ ((zs)++[40]) rfl AN.out.1.own a1 l1 c1 name rfl (HN1.out _ (BL.out _ AN.out.1.gr)) (Or.inl (by simp)) (by (try simp only[List.length_append,List.length_singleton,List.length_cons,List.length_nil]);omega) AN.out.1.size ?_)
  intro vb123 ub124 sb
  have AL:Hid (SayG _ _ _ vb123 (((zs)++[40])++name) ub124):=AN.out.1.trans sb
  clear AN sb
  refine hK.out _ _ (HT.out _ AL.out.gr) (fun hH2=>?_)
  clear hK K hH
  have hH:=hH2
  clear hH2
  simp only[Act.put,nA,nB,nC,nD,nE,nF]
  refine tk 6 rfl hH ?_
  refine wpAnyH_done (by kernel_rfl) ?_ _
  clear hH
  obtain ⟨hdB,hhd0⟩:∃ hdB,hdB=[40]++name:=⟨_,rfl⟩
  have EH:Hid (saY ⟨15,n,name,arg,lit⟩ ks rs=hdB++blz ks++blz rs++[41]):=by show _=_;rw[EH0.out,hhd0]
  have AN:Hid (SayG W0.heap.size w1 v vb123 (zs++hdB) ub124):=AL.out.as (by rw[hhd0];simp)
  clear AL hhd0 EH0 hX h40 h40' h40b
  have AL:=AN
  clear AN
  have HL:Hid (zs.length+hdB.length+(blz ks).length+(blz rs).length+1≤900000):=by
   show _≤_
   have:=congrArg List.length EH.out
   simp only[List.length_append,List.length_singleton] at this
   omega
  obtain ⟨x0,x1,x2,x3,x4,x5,x6⟩:=HT.out _ AL.out.gr
  go_wp2
  clear x0 x1 x2 x3 x4 x5 x6
  go_loopw [0,5] (fun vv i wr=>∃ (vk:Value) (j:Nat) (R:GE) (pre:List Int),vk=vv∧j≤l4∧i = .int .i64 j∧R.len+j=l4∧R.cnt≤kids.cnt∧zs.length+pre.length+(blz (exL false R)).length+(blz rs).length+1≤900000∧Hid ((R = .nil∨∃ b o,a4=some ⟨b,o,none⟩∧InGE W0 W0 false R b (o+j * 7))∧okG R (d - 1)=true∧pre++blz (exL false R)=hdB++blz ks)∧Hid (SayG W0.heap.size w1 v vk (zs++pre) wr)) (fun _ i _=>l4 - (intOf i).toNat)
  case atStart =>
   refine ⟨_,0,kids,hdB,rfl,Nat.zero_le _,rfl,by omega,Nat.le_refl _,by rw[HKS.out.1];exact HL.out,⟨?_,HK.out.2,by rw[HKS.out.1]⟩,AL⟩
   rcases HK.out.1.cases with ⟨-,e⟩|⟨b,o,e,hin,-⟩
   ·
    exact .inl e
   ·
    exact .inr ⟨b,o,e,by simpa using hin⟩
  case round=>as_aux_lemma =>
   clear AL
   obtain ⟨vk,j,R,pre,rfl,hj,rfl,hRl,hRc,hus,HR,AL⟩:=hrel
   obtain ⟨x0,x1,x2,x3,x4,x5,x6⟩:=HT.out _ AL.out.gr
   by_cases hlt:j < l4
   ·
    have hlt':(j:Int) < l4:=by omega
    obtain ⟨q',hq'⟩:∃ q',R.len=q' + 1:=⟨R.len - 1,by omega⟩
    obtain ⟨hR,hokR,hP⟩:=HR.out
    rcases hR with e|⟨b,o,ea,hin⟩
    ·
     rw[e] at hq';simp [GE.len] at hq'
    obtain ⟨hc,hv,pp,kk,aa,R',rfl,hR'⟩:=GE.cons_of_len hq'
    simp only[GE.cnt] at hRc
    simp only[GE.len] at hRl
    have hoR:=okG_one hokR
    obtain ⟨-,b1,m1,n1,b2,m2,n2,b3,m3,n3,b4,m4,n4,b5,m5,n5,hcel,hnd,hR2⟩:=hin.kid
    rw[show o+j * 7+7=o+(j+1) * 7 by omega] at hR2
    have e9:blz (exL false (GE.cons hc hv pp kk aa R'))=32::exX pp kk aa++blz (exL false R'):=rfl
    rw[e9] at hus hP
    simp only[List.length_append,List.length_cons] at hus
    have CCk:Hid (∀ v0 z0 u0,Below W0.heap.size W0 u0→u0.ownsRow W0.heap.size 5 1 v0 z0.length (vals z0)→z0.length+(exX pp kk aa).length≤900000→_):=fun v0 z0 u0 h1 h2 h3=>IH.out pp kk aa b1 m1 n1 b2 m2 n2 b3 m3 n3 b4 m4 n4 b5 m5 n5 v0 z0 u0 (d - 1) (by omega) hnd hoR.1 h1 h2 h3
    have FX:Hid ((R' = .nil∨∃ b o,a4=some ⟨b,o,none⟩∧InGE W0 W0 false R' b (o+(j+1) * 7))∧okG R' (d - 1)=true∧(pre++32::exX pp kk aa)++blz (exL false R')=hdB++blz ks):=⟨.inr ⟨b,o,ea,hR2⟩,hoR.2,by rw[← hP];simp⟩
    have hus':zs.length+(pre++32::exX pp kk aa).length+(blz (exL false R')).length+(blz rs).length+1≤900000:=by simp only[List.length_append,List.length_cons];omega
    subst ea
    have HTB:=HT
    have HT:Hid (∀ u,w1.grownBy u v.ownBlock→(fun u=>Sev q (.int .i64 15) (.int .i64 n) (.slice a1 l1 c1) (.slice a2 l2 c2) (.slice a3 l3 c3) (.slice (some ⟨b,o,none⟩) l4 c4) (.slice a5 l5 c5) u∧CelE u b (o+j * 7) (.int .i64 pp.k) (.int .i64 pp.n) (.slice b1 m1 n1) (.slice b2 m2 n2) (.slice b3 m3 n3) (.slice b4 m4 n4) (.slice b5 m5 n5)) u):=fun u hu=>⟨HTB.out u hu,hcel.le (cle_belowK (BL.out u hu))⟩
    clear HTB HR hokR hP hin hnd hR2 hoR e9
    go_upto_region 31 with fail
    have AD:Hid (SayG _ _ _ _ _ wr.drew):=AL.out.grown (grown_drew (World.grownBy.refl _ none))
    clear AL x0 x1 x2 x3 x4 x5 x6 hcel
    refine wp_region_held_drew (S:=(fun u=>Sev q (.int .i64 15) (.int .i64 n) (.slice a1 l1 c1) (.slice a2 l2 c2) (.slice a3 l3 c3) (.slice (some ⟨b,o,none⟩) l4 c4) (.slice a5 l5 c5) u∧CelE u b (o+j * 7) (.int .i64 pp.k) (.int .i64 pp.n) (.slice b1 m1 n1) (.slice b2 m2 n2) (.slice b3 m3 n3) (.slice b4 m4 n4) (.slice b5 m5 n5))) (by kernel_rfl) (HT.out _ AD.out.gr) (fun hH=>?_)
    have AL:=AD
    clear AD
    generalize wr.drew=v0w at *
    simp only[List.size_toArray,List.length_cons,List.length_nil,Nat.reduceAdd,Array.replicate,List.replicate]
    refine tk 0 rfl hH ?_
    refine tk 3 rfl hH ?_
    refine tk 4 rfl hH ?_
    refine tk 5 rfl hH ?_
    refine tk 6 rfl hH ?_
    refine tk 7 rfl hH ?_
    refine rd 1 rfl (fun K hK=>?_)
    go_simp
    have AN:Hid (SayG _ _ _ _ _ (v0w.alloc (.cells #[.int .u8 32] 5))∧Reads (v0w.alloc (.cells #[.int .u8 32] 5)) (some ⟨v0w.heap.size,0,none⟩) 1 [32]):=⟨AL.out.grown (World.grownBy_alloc _ _ _),readsOneB v0w 32 5⟩
    clear AL
    generalize v0w.alloc (.cells #[.int .u8 32] 5)=ub125 at *
    generalize v0w.heap.size=pb126 at *
    refine hK.out _ _ (HT.out _ AN.out.1.gr) (fun hH2=>?_)
    clear hK K hH
    have hH:=hH2
    clear hH2
    simp only[Act.put,nA,nB,nC,nD,nE,nF]
    refine rd 2 rfl (fun K hK=>?_)
    refine step_of rfl (wp_appG _ _ 23 rfl W0.heap.size i0 (.int .u8 0) Tryz.underlying23 hi hz0 hz1 hz2 rfl _ (zs++pre) rfl AN.out.1.own (some ⟨pb126,0,none⟩) 1 1 [32] rfl AN.out.2 (by simp) (by (try simp only[List.length_append,List.length_singleton,List.length_cons,List.length_nil]);omega) AN.out.1.size ?_)
    intro vb127 ub128 sb
    have AL:Hid (SayG _ _ _ vb127 ((zs++pre)++[32]) ub128):=AN.out.1.trans sb
    clear AN sb
    refine hK.out _ _ (HT.out _ AL.out.gr) (fun hH2=>?_)
    clear hK K hH
    have hH:=hH2
    clear hH2
    simp only[Act.put,nA,nB,nC,nD,nE,nF]
    refine rd 8 rfl (fun K hK=>?_)
    go_simp
    refine Calls.mono (CCk.out vb127 ((zs++pre)++[32]) ub128 (BL.out _ AL.out.gr) AL.out.own (by (try simp only[List.length_append,List.length_singleton,List.length_cons,List.length_nil]);omega)) ?_
    rintro e ub130 ⟨vb129,he,sb⟩
    subst he
    have AN:Hid (SayG _ _ _ vb129 (((zs++pre)++[32])++(exX pp kk aa)) ub130):=AL.out.trans sb
    clear AL sb
    have AL:=AN
    clear AN
    refine hK.out _ _ (HT.out _ AL.out.gr) (fun hH2=>?_)
    clear hK K hH
    have hH:=hH2
    clear hH2
    simp only[Act.put,nA,nB,nC,nD,nE,nF]
    refine tk 9 rfl hH ?_
    refine wpAnyH_done (by kernel_rfl) ?_ _
    clear hH HT
    have AN9:Hid (SayG W0.heap.size w1 v vb129 (zs++(pre++32::exX pp kk aa)) ub130):=AL.out.as (by simp)
    clear AL
    go_wp2
    go_roundw
    case rel=>exact ⟨vb129,j+1,R',pre++32::exX pp kk aa,rfl,by omega,by go_num,by omega,by omega,hus',FX,AN9⟩
    case measure=>simp [intOf];omega
   ·
    obtain rfl:j=l4:=by omega
    obtain rfl:R = .nil:=GE.nil_of_len (by omega)
    obtain ⟨-,-,hP⟩:=HR.out
    simp only[exL,blz,List.append_nil] at hP
    simp only[exL,blz,List.length_nil] at hus
    have EP:Hid (pre=hdB++blz ks):=hP
    clear HR hP
    go_wp2
    clear x0 x1 x2 x3 x4 x5 x6
    go_loopw [0,6] (fun vv i wr=>∃ (va:Value) (j:Nat) (R:GE) (pre:List Int),va=vv∧j≤l5∧i = .int .i64 j∧R.len+j=l5∧R.cnt≤alts.cnt∧zs.length+pre.length+(blz (exL true R)).length+1≤900000∧Hid ((R = .nil∨∃ b o,a5=some ⟨b,o,none⟩∧InGE W0 W0 true R b (o+j * 9))∧okG R (d - 1)=true∧badA R=false∧pre++blz (exL true R)=hdB++blz ks++blz rs)∧Hid (SayG W0.heap.size w1 v va (zs++pre) wr)) (fun _ i _=>l5 - (intOf i).toNat)
    case atStart =>
     refine ⟨_,0,alts,pre,rfl,Nat.zero_le _,rfl,by omega,Nat.le_refl _,by rw[HKS.out.2];omega,⟨?_,HA.out.2.1,HA.out.2.2,by rw[HKS.out.2,EP.out]⟩,AL⟩
     rcases HA.out.1.cases with ⟨-,e⟩|⟨b,o,e,hin,-⟩
     ·
      exact .inl e
     ·
      exact .inr ⟨b,o,e,by simpa using hin⟩
    case round=>as_aux_lemma =>
     clear AL EP hus
     obtain ⟨va,j,R,pre,rfl,hj,rfl,hRl,hRc,hus,HR,AL⟩:=hrel
     obtain ⟨x0,x1,x2,x3,x4,x5,x6⟩:=HT.out _ AL.out.gr
     by_cases hlt:j < l5
     ·
      have hlt':(j:Int) < l5:=by omega
      obtain ⟨q',hq'⟩:∃ q',R.len=q' + 1:=⟨R.len - 1,by omega⟩
      obtain ⟨hR,hokR,hbad,hP⟩:=HR.out
      rcases hR with e|⟨b,o,ea,hin⟩
      ·
       rw[e] at hq';simp [GE.len] at hq'
      obtain ⟨hc,hv,pp,kk,aa,R',rfl,hR'⟩:=GE.cons_of_len hq'
      simp only[GE.cnt] at hRc
      simp only[GE.len] at hRl
      have hoR:=okG_one hokR
      have hbb:(!armV hc hv || badA R')=false:=hbad
      simp only[Bool.or_eq_false_iff,Bool.not_eq_false'] at hbb
      have haf:=armV_facts hbb.1
      obtain ⟨e0,q0,d0,e1,q1,d1,b1,m1,n1,b2,m2,n2,b3,m3,n3,b4,m4,n4,b5,m5,n5,hhd,hgd,hcel,hnd,hR2⟩:=hin.alt
      rw[show o+j * 9+9=o+(j+1) * 9 by omega] at hR2
      have e9:blz (exL true (GE.cons hc hv pp kk aa R'))=32::armX hc hv (exX pp kk aa)++blz (exL true R'):=rfl
      rw[e9] at hus hP
      simp only[List.length_append,List.length_cons] at hus
      have CCb:Hid (∀ v0 z0 u0,Below W0.heap.size W0 u0→u0.ownsRow W0.heap.size 5 1 v0 z0.length (vals z0)→z0.length+(exX pp kk aa).length≤900000→_):=fun v0 z0 u0 h1 h2 h3=>IH.out pp kk aa b1 m1 n1 b2 m2 n2 b3 m3 n3 b4 m4 n4 b5 m5 n5 v0 z0 u0 (d - 1) (by omega) hnd hoR.1 h1 h2 h3
      have FX:Hid ((R' = .nil∨∃ b o,a5=some ⟨b,o,none⟩∧InGE W0 W0 true R' b (o+(j+1) * 9))∧okG R' (d - 1)=true∧badA R' = false∧(pre++32::armX hc hv (exX pp kk aa))++blz (exL true R')=hdB++blz ks++blz rs):=⟨.inr ⟨b,o,ea,hR2⟩,hoR.2,hbb.2,by rw[← hP];simp⟩
      have hus':zs.length+(pre++32::armX hc hv (exX pp kk aa)).length+(blz (exL true R')).length+1≤900000:=by simp only[List.length_append,List.length_cons];omega
      have HHC:Hid (∀ u,Below W0.heap.size W0 u→Reads u e0 q0 hc):=fun u hu=>(hgd.1.le (cle_belowK hu)).1
      have hcl:hc.length=q0:=hgd.1.1.1
      have hvl:hv.length=q1:=hgd.2.1.1
      have hvb:q1≤9223372036854775807:=hgd.2.1.2.1
      have HVS:Hid (SlSS W0 e1 q1 hv∧ArF hc hv):=⟨hgd.2.1,haf⟩
      have hcs:=haf.short
      have hfew:=haf.few
      have hbl:=haf.len
      obtain ⟨us,husd⟩:∃ us,(if hc.length=0 then [(95:Int)] else [])=us:=⟨_,rfl⟩
      have EU:Hid ([40]++(us++hc)++blz hv++[32]++exX pp kk aa++[41]=armX hc hv (exX pp kk aa)∧(hc.length=0→us=[95])∧(hc.length≠0→us=[])):=by
       refine ⟨?_,fun e=>by rw[← husd,if_pos e],fun e=>by rw[← husd,if_neg e]⟩
       unfold armX
       by_cases e:hc.length=0
       ·
        rw[← husd,if_pos e,if_pos e,nil_of0 e];rfl
       ·
        rw[← husd,if_neg e,if_neg e];simp
      have hul:us.length≤1:=by rw[← husd];split <;> simp
      have hax:=congrArg List.length EU.out.1
      simp only[List.length_append,List.length_singleton] at hax
      obtain ⟨k0,k1⟩:=hhd.le (cle_belowK (BL.out _ AL.out.gr))
      obtain ⟨k2,k3,k4,k5,k6,k7,k8⟩:=hcel.le (cle_belowK (BL.out _ AL.out.gr))
      have ga:=World.grownBy_alloc wr (.cells #[.slice e0 q0 d0,.slice e1 q1 d1,.int .i64 pp.k,.int .i64 pp.n,.slice b1 m1 n1,.slice b2 m2 n2,.slice b3 m3 n3,.slice b4 m4 n4,.slice b5 m5 n5] 87) none
      have ba:=heap_alloc_new wr (.cells #[.slice e0 q0 d0,.slice e1 q1 d1,.int .i64 pp.k,.int .i64 pp.n,.slice b1 m1 n1,.slice b2 m2 n2,.slice b3 m3 n3,.slice b4 m4 n4,.slice b5 m5 n5] 87)
      obtain ⟨⟨t0,t1,t2,t3,t4,t5,t6,t7,t8⟩,hfz⟩:=blkEA ba
      have rf:=hfz 0
      have H7:Hid (SayG W0.heap.size w1 v va (zs++pre) (wr.alloc (.cells #[.slice e0 q0 d0,.slice e1 q1 d1,.int .i64 pp.k,.int .i64 pp.n,.slice b1 m1 n1,.slice b2 m2 n2,.slice b3 m3 n3,.slice b4 m4 n4,.slice b5 m5 n5] 87))):=AL.out.grown ga
      have hfar:=AL.out.far
      have HT7:Hid (∀ u,(wr.alloc (.cells #[.slice e0 q0 d0,.slice e1 q1 d1,.int .i64 pp.k,.int .i64 pp.n,.slice b1 m1 n1,.slice b2 m2 n2,.slice b3 m3 n3,.slice b4 m4 n4,.slice b5 m5 n5] 87)).grownBy u va.ownBlock→Nin wr.heap.size (.slice e0 q0 d0) (.slice e1 q1 d1) (.int .i64 pp.k) (.int .i64 pp.n) (.slice b1 m1 n1) (.slice b2 m2 n2) (.slice b3 m3 n3) (.slice b4 m4 n4) (.slice b5 m5 n5) u):=fun u hu=>(blkEA ((hu.block _ (lt_of_block ba) (fun e=>hfar e.symm)).trans ba)).1
      have BL7:Hid (∀ u,(wr.alloc (.cells #[.slice e0 q0 d0,.slice e1 q1 d1,.int .i64 pp.k,.int .i64 pp.n,.slice b1 m1 n1,.slice b2 m2 n2,.slice b3 m3 n3,.slice b4 m4 n4,.slice b5 m5 n5] 87)).grownBy u va.ownBlock→Below W0.heap.size W0 u):=fun u hu=>BL.out u (H7.out.ext hu)
      have A7:Hid (SayG W0.heap.size (wr.alloc (.cells #[.slice e0 q0 d0,.slice e1 q1 d1,.int .i64 pp.k,.int .i64 pp.n,.slice b1 m1 n1,.slice b2 m2 n2,.slice b3 m3 n3,.slice b4 m4 n4,.slice b5 m5 n5] 87)) va va (zs++pre) (wr.alloc (.cells #[.slice e0 q0 d0,.slice e1 q1 d1,.int .i64 pp.k,.int .i64 pp.n,.slice b1 m1 n1,.slice b2 m2 n2,.slice b3 m3 n3,.slice b4 m4 n4,.slice b5 m5 n5] 87))):=H7.out.re
      clear HR hokR hbad hP hin hcel hnd hR2 hoR e9 hbb hhd hgd haf hfz husd hfar ga ba
      subst ea
      go_upto_region 36 with fail
      clear k0 k1 k2 k3 k4 k5 k6 k7 k8 t0 t1 t2 t3 t4 t5 t6 t7 t8 rf AL x0 x1 x2 x3 x4 x5 x6
      generalize wr.alloc (.cells #[.slice e0 q0 d0,.slice e1 q1 d1,.int .i64 pp.k,.int .i64 pp.n,.slice b1 m1 n1,.slice b2 m2 n2,.slice b3 m3 n3,.slice b4 m4 n4,.slice b5 m5 n5] 87)=w7 at *
      generalize wr.heap.size=q7 at *
      obtain ⟨t0,t1,t2,t3,t4,t5,t6,t7,t8⟩:=HT7.out _ A7.out.gr
      go_upto_region 37 with (at_builtin;go_must (refine wpList_strG rfl _ _ 23 9 rfl W0.heap.size i0 Tryz.underlying23 Tryz.underlying9 hi hz0 hz1 hz2 va (zs++pre) rfl A7.out.own _ [32,40] rfl rfl (by (try simp only[List.length_append,List.length_singleton,List.length_cons,List.length_nil]);omega) A7.out.size ?_);intro v3 u3 s3)
      have A8:Hid (SayG W0.heap.size w7 va v3 (zs++pre++[32,40]) u3):=A7.out.trans s3
      clear A7 s3 t0 t1 t2 t3 t4 t5 t6 t7 t8
      obtain ⟨t0,t1,t2,t3,t4,t5,t6,t7,t8⟩:=HT7.out _ A8.out.gr
      obtain ⟨bz,hbz⟩:∃ bz,((q0:Int) == 0)=bz:=⟨_,rfl⟩
      have HBZ:Hid ((bz=true→us=[95])∧(bz=false→us=[])):=by
       refine ⟨fun e=>EU.out.2.1 ?_,fun e=>EU.out.2.2 ?_⟩
       ·
        rw[e] at hbz;have:(q0:Int)=0:=by simpa using hbz
        omega
       ·
        rw[e] at hbz;have:¬ (q0:Int)=0:=by simpa using hbz
        omega
      go_upto_if 171 with fail
      clear hbz
      go_cut [0] (fun s0 wx=>∃ v4,v4=s0∧Hid (SayG W0.heap.size w7 va v4 (zs++pre++[32,40]++us) wx))
      case first=>as_aux_lemma =>
       cases bz with
       | true =>
        have eus:=HBZ.out.1 rfl
        have ga:=World.grownBy_alloc u3 (.cells #[.int .u8 95] 5) none
        have AN:Hid (SayG W0.heap.size w7 va v3 (zs++pre++[32,40]) (u3.alloc (.cells #[.int .u8 95] 5))∧Reads (u3.alloc (.cells #[.int .u8 95] 5)) (some ⟨u3.heap.size,0,none⟩) 1 [95]):=⟨A8.out.grown ga,readsOneB u3 95 5⟩
        have EUS:Hid (us=[95]):=eus
        clear ga A8 eus
        go_wp2_with (at_builtin;go_must (refine wpList_appG rfl _ _ 23 rfl W0.heap.size i0 (.int .u8 0) Tryz.underlying23 hi hz0 hz1 hz2 rfl v3 (zs++pre++[32,40]) rfl AN.out.1.own (some ⟨u3.heap.size,0,none⟩) 1 1 [95] rfl AN.out.2 (by simp) (by (try simp only[List.length_append,List.length_singleton,List.length_cons,List.length_nil]);omega) AN.out.1.size ?_);intro v9 u9 s9)
        go_meet
        exact ⟨v9,rfl,by rw[EUS.out];exact AN.out.1.trans s9⟩
       | false =>
        have EUS:Hid (us=[]):=HBZ.out.2 rfl
        go_wp2_with fail
        go_meet
        exact ⟨v3,rfl,by rw[EUS.out];exact A8.out.as (by simp)⟩
      case rest =>
      obtain ⟨v4,rfl,A9⟩:=hcut
      clear A8 t0 t1 t2 t3 t4 t5 t6 t7 t8 HBZ
      obtain ⟨t0,t1,t2,t3,t4,t5,t6,t7,t8⟩:=HT7.out _ A9.out.gr
      go_upto_region 40 with (at_builtin;go_must (refine wpList_appN rfl _ _ 23 rfl W0.heap.size i0 (.int .u8 0) Tryz.underlying23 hi hz0 hz1 hz2 rfl v4 (zs++pre++[32,40]++us) rfl A9.out.own e0 q0 d0 hc rfl (HHC.out _ (BL7.out _ A9.out.gr)) (Or.inl (by simp)) (by (try simp only[List.length_append,List.length_singleton,List.length_cons,List.length_nil]);omega) A9.out.size ?_);intro v5 u5 s5)
      obtain ⟨P5,hP5⟩:∃ P5,P5=pre++([32,40]++(us++hc)):=⟨_,rfl⟩
      have EP5:Hid (P5=pre++([32,40]++(us++hc))):=hP5
      have hp5:=congrArg List.length hP5
      simp only[List.length_append,List.length_cons,List.length_nil] at hp5
      have A10:Hid (SayG W0.heap.size w7 va v5 (zs++P5) u5):=(A9.out.trans s5).as (by rw[hP5];simp)
      clear A9 s5 hP5 t0 t1 t2 t3 t4 t5 t6 t7 t8
      obtain ⟨t0,t1,t2,t3,t4,t5,t6,t7,t8⟩:=HT7.out _ A10.out.gr
      go_wp2
      clear t0 t1 t2 t3 t4 t5 t6 t7 t8
      go_loopw [0,8] (fun vv i wr=>∃ (vx:Value) (j2:Nat) (R2:List (List Int)) (pr2:List Int),vx=vv∧j2≤q1∧i = .int .i64 j2∧R2.length+j2=q1∧pr2.length+(blz R2).length=P5.length+(blz hv).length∧Hid ((R2=[]∨∃ b o,e1=some ⟨b,o,none⟩∧InSS W0 W0 R2 b (o+j2))∧pr2++blz R2=P5++blz hv)∧Hid (SayG W0.heap.size w7 va vx (zs++pr2) wr)) (fun _ i _=>q1 - (intOf i).toNat)
      case atStart =>
       refine ⟨_,0,hv,P5,rfl,Nat.zero_le _,rfl,by omega,rfl,⟨?_,rfl⟩,A10⟩
       rcases HVS.out.1.cases with ⟨-,e⟩|⟨b,o,e,hin,-⟩
       ·
        exact .inl e
       ·
        exact .inr ⟨b,o,e,by simpa using hin⟩
      case round=>as_aux_lemma =>
       clear A10
       obtain ⟨vx,j2,R2,pr2,rfl,hj2,rfl,hRl2,hpl2,HR2,AL⟩:=hrel
       obtain ⟨t0,t1,t2,t3,t4,t5,t6,t7,t8⟩:=HT7.out _ AL.out.gr
       by_cases hlt2:j2 < q1
       ·
        have hlt2':(j2:Int) < q1:=by omega
        obtain ⟨y,R3,rfl⟩:∃ y R3,R2=y::R3:=by
         cases R2 with
         | nil=>simp at hRl2;omega
         | cons y R3=>exact ⟨y,R3,rfl⟩
        obtain ⟨hin,hP⟩:=HR2.out
        rcases hin with e|⟨bv,ov,ea,hin⟩
        ·
         cases e
        obtain ⟨⟨a9,n9,c9,z0,hRn⟩,hin2⟩:=hin
        rw[show ov+j2+1=ov+(j2+1) by omega] at hin2
        have HY9:Hid (∀ u,Below W0.heap.size W0 u→Reads u a9 n9 y):=fun u hu=>(hRn.le (cle_belowK hu)).1
        have hyl:y.length=n9:=hRn.1.1
        have e9:blz (y::R3)=32::y++blz R3:=rfl
        rw[e9] at hpl2 hP
        simp only[List.length_append,List.length_cons] at hpl2
        have FX2:Hid ((R3=[]∨∃ b o,e1=some ⟨b,o,none⟩∧InSS W0 W0 R3 b (o+(j2+1)))∧(pr2++32::y)++blz R3=P5++blz hv):=⟨.inr ⟨bv,ov,ea,hin2⟩,by rw[← hP];simp⟩
        have hpl3:(pr2++32::y).length+(blz R3).length=P5.length+(blz hv).length:=by simp only[List.length_append,List.length_cons];omega
        subst ea
        have HT8:Hid (∀ u,w7.grownBy u va.ownBlock→(fun u=>Nin q7 (.slice e0 q0 d0) (.slice (some ⟨bv,ov,none⟩) q1 d1) (.int .i64 pp.k) (.int .i64 pp.n) (.slice b1 m1 n1) (.slice b2 m2 n2) (.slice b3 m3 n3) (.slice b4 m4 n4) (.slice b5 m5 n5) u∧u.cell? ⟨bv,ov+j2,none⟩=some (.slice a9 n9 c9)) u):=fun u hu=>⟨HT7.out u hu,cle_belowK (BL7.out u hu) _ _ z0⟩
        clear HR2 hP hin2 hRn e9
        clear HT BL
        have HT:=HT8
        have BL:=BL7
        go_upto_region 43 with fail
        have AD:Hid (SayG _ _ _ _ _ wr.drew):=AL.out.grown (grown_drew (World.grownBy.refl _ none))
        clear AL t0 t1 t2 t3 t4 t5 t6 t7 t8 z0
        refine wp_region_held_drew (S:=(fun u=>Nin q7 (.slice e0 q0 d0) (.slice (some ⟨bv,ov,none⟩) q1 d1) (.int .i64 pp.k) (.int .i64 pp.n) (.slice b1 m1 n1) (.slice b2 m2 n2) (.slice b3 m3 n3) (.slice b4 m4 n4) (.slice b5 m5 n5) u∧u.cell? ⟨bv,ov+j2,none⟩=some (.slice a9 n9 c9))) (by kernel_rfl) (HT.out _ AD.out.gr) (fun hH=>?_)
        have AL:=AD
        clear AD
        generalize wr.drew=v0w at *
        simp only[List.size_toArray,List.length_cons,List.length_nil,Nat.reduceAdd,Array.replicate,List.replicate]
        refine tk 0 rfl hH ?_
        refine tk 3 rfl hH ?_
        refine tk 4 rfl hH ?_
        refine tk 5 rfl hH ?_
        refine tk 6 rfl hH ?_
        refine tk 7 rfl hH ?_
        refine rd 1 rfl (fun K hK=>?_)
        go_simp
        have AN:Hid (SayG _ _ _ _ _ (v0w.alloc (.cells #[.int .u8 32] 5))∧Reads (v0w.alloc (.cells #[.int .u8 32] 5)) (some ⟨v0w.heap.size,0,none⟩) 1 [32]):=⟨AL.out.grown (World.grownBy_alloc _ _ _),readsOneB v0w 32 5⟩
        clear AL
        generalize v0w.alloc (.cells #[.int .u8 32] 5)=ub131 at *
        generalize v0w.heap.size=pb132 at *
        refine hK.out _ _ (HT.out _ AN.out.1.gr) (fun hH2=>?_)
        clear hK K hH
        have hH:=hH2
        clear hH2
        simp only[Act.put,nA,nB,nC,nD,nE,nF]
        refine rd 2 rfl (fun K hK=>?_)
        refine step_of rfl (wp_appG _ _ 23 rfl W0.heap.size i0 (.int .u8 0) Tryz.underlying23 hi hz0 hz1 hz2 rfl _ (zs++pr2) rfl AN.out.1.own (some ⟨pb132,0,none⟩) 1 1 [32] rfl AN.out.2 (by simp) (by (try simp only[List.length_append,List.length_singleton,List.length_cons,List.length_nil]);omega) AN.out.1.size ?_)
        intro vb133 ub134 sb
        have AL:Hid (SayG _ _ _ vb133 ((zs++pr2)++[32]) ub134):=AN.out.1.trans sb
        clear AN sb
        refine hK.out _ _ (HT.out _ AL.out.gr) (fun hH2=>?_)
        clear hK K hH
        have hH:=hH2
        clear hH2
        simp only[Act.put,nA,nB,nC,nD,nE,nF]
        have AN:Hid (SayG _ _ _ _ ((zs++pr2)++[32]) ub134∧True):=⟨AL.out,trivial⟩
        clear AL
        refine rd 8 rfl (fun K hK=>?_)
        refine step_of rfl (wp_appN _ _ 23 rfl W0.heap.size i0 (.int .u8 0) Tryz.underlying23 hi hz0 hz1 hz2 rfl _ ((zs++pr2)++[32]) rfl AN.out.1.own a9 n9 c9 y rfl (HY9.out _ (BL.out _ AN.out.1.gr)) (Or.inl (by simp)) (by (try simp only[List.length_append,List.length_singleton,List.length_cons,List.length_nil]);omega) AN.out.1.size ?_)
        intro vb135 ub136 sb
        have AL:Hid (SayG _ _ _ vb135 (((zs++pr2)++[32])++y) ub136):=AN.out.1.trans sb
        clear AN sb
        refine hK.out _ _ (HT.out _ AL.out.gr) (fun hH2=>?_)
        clear hK K hH
        have hH:=hH2
        clear hH2
        simp only[Act.put,nA,nB,nC,nD,nE,nF]
        refine tk 9 rfl hH ?_
        refine wpAnyH_done (by kernel_rfl) ?_ _
        clear hH HT HT8
        have AN9:Hid (SayG W0.heap.size w7 va vb135 (zs++(pr2++32::y)) ub136):=AL.out.as (by simp)
        clear AL
        go_wp2
        go_roundw
        case rel=>exact ⟨vb135,j2+1,R3,pr2++32::y,rfl,by omega,by go_num,by simp only[List.length_cons] at hRl2;omega,hpl3,FX2,AN9⟩
        case measure=>simp [intOf];omega
       ·
        obtain rfl:j2=q1:=by omega
        obtain rfl:R2=[]:=List.eq_nil_of_length_eq_zero (by omega)
        obtain ⟨-,hP⟩:=HR2.out
        simp only[blz,List.append_nil] at hP
        simp only[blz,List.length_nil] at hpl2
        have EQ2:Hid (pr2=pre++([32,40]++(us++hc))++blz hv):=by show _=_;rw[hP,EP5.out]
        clear HR2 hP HT BL
        have HT:=HT7
        have BL:=BL7
        go_upto_region 44 with fail
        have AD:Hid (SayG _ _ _ _ _ wr.drew):=AL.out.grown (grown_drew (World.grownBy.refl _ none))
        clear AL t0 t1 t2 t3 t4 t5 t6 t7 t8
        refine wp_region_held_drew (S:=(fun u=>Nin q7 (.slice e0 q0 d0) (.slice e1 j2 d1) (.int .i64 pp.k) (.int .i64 pp.n) (.slice b1 m1 n1) (.slice b2 m2 n2) (.slice b3 m3 n3) (.slice b4 m4 n4) (.slice b5 m5 n5) u)) (by kernel_rfl) (HT.out _ AD.out.gr) (fun hH=>?_)
        have AL:=AD
        clear AD
        generalize wr.drew=v0w at *
        simp only[List.size_toArray,List.length_cons,List.length_nil,Nat.reduceAdd,Array.replicate,List.replicate]
        refine tk 0 rfl hH ?_
        refine tk 3 rfl hH ?_
        refine tk 4 rfl hH ?_
        refine wpAnyH_ready (rs:=[1,6]) (by kernel_rfl) (by simp) ?_
        refine AllReadyH.cons rfl (fun K hK=>?_) (AllReadyH.cons rfl (fun K hK=>?_) AllReadyH.nil)
        ·
         skip
         go_simp
         have AN:Hid (SayG _ _ _ _ _ (v0w.alloc (.cells #[.int .u8 32] 5))∧Reads (v0w.alloc (.cells #[.int .u8 32] 5)) (some ⟨v0w.heap.size,0,none⟩) 1 [32]):=⟨AL.out.grown (World.grownBy_alloc _ _ _),readsOneB v0w 32 5⟩
         clear AL
         generalize v0w.alloc (.cells #[.int .u8 32] 5)=ub137 at *
         generalize v0w.heap.size=pb138 at *
         refine hK.out _ _ (HT.out _ AN.out.1.gr) (fun hH2=>?_)
         clear hK K hH
         have hH:=hH2
         clear hH2
         simp only[Act.put,nA,nB,nC,nD,nE,nF]
         refine wpAnyH_ready (rs:=[2,6]) (by kernel_rfl) (by simp) ?_
         refine AllReadyH.cons rfl (fun K hK=>?_) (AllReadyH.cons rfl (fun K hK=>?_) AllReadyH.nil)
         ·
          skip
          refine step_of rfl (wp_appG _ _ 23 rfl W0.heap.size i0 (.int .u8 0) Tryz.underlying23 hi hz0 hz1 hz2 rfl _ (zs++pr2) rfl AN.out.1.own (some ⟨pb138,0,none⟩) 1 1 [32] rfl AN.out.2 (by simp) (by (try simp only[List.length_append,List.length_singleton,List.length_cons,List.length_nil]);omega) AN.out.1.size ?_)
          intro vb141 ub142 sb
          have AL:Hid (SayG _ _ _ vb141 ((zs++pr2)++[32]) ub142):=AN.out.1.trans sb
          clear AN sb
          refine hK.out _ _ (HT.out _ AL.out.gr) (fun hH2=>?_)
          clear hK K hH
          have hH:=hH2
          clear hH2
          simp only[Act.put,nA,nB,nC,nD,nE,nF]
          refine wpAnyH_ready (rs:=[5,6]) (by kernel_rfl) (by simp) ?_
          refine AllReadyH.cons rfl (fun K hK=>?_) (AllReadyH.cons rfl (fun K hK=>?_) AllReadyH.nil)
          ·
           skip
           go_simp
           refine Calls.mono (CCb.out vb141 ((zs++pr2)++[32]) ub142 (BL.out _ AL.out.gr) AL.out.own (by (try simp only[List.length_append,List.length_singleton,List.length_cons,List.length_nil]);omega)) ?_
           rintro e ub146 ⟨vb145,he,sb⟩
           subst he
           have AN:Hid (SayG _ _ _ vb145 (((zs++pr2)++[32])++(exX pp kk aa)) ub146):=AL.out.trans sb
           clear AL sb
           have AL:=AN
           clear AN
           refine hK.out _ _ (HT.out _ AL.out.gr) (fun hH2=>?_)
           clear hK K hH
           have hH:=hH2
           clear hH2
           simp only[Act.put,nA,nB,nC,nD,nE,nF]
           refine rd 6 rfl (fun K hK=>?_)
           go_simp
           have hfar:=AL.out.far
           have gfar:=World.grownBy_alloc ub146 (.cells #[.int .u8 41] 5) none
           have A0:Hid (SayG _ _ _ _ (((zs++pr2)++[32])++(exX pp kk aa)) (ub146.alloc (.cells #[.int .u8 41] 5))):=AL.out.grown gfar
           have HF9:Hid (∀ x,(ub146.alloc (.cells #[.int .u8 41] 5)).grownBy x (vb145).ownBlock→Reads x (some ⟨ub146.heap.size,0,none⟩) 1 [41]):=fun x hx=>readsFar hfar hx
           have HT2:Hid (∀ x,(ub146.alloc (.cells #[.int .u8 41] 5)).grownBy x (vb145).ownBlock→(fun u=>Nin q7 (.slice e0 q0 d0) (.slice e1 j2 d1) (.int .i64 pp.k) (.int .i64 pp.n) (.slice b1 m1 n1) (.slice b2 m2 n2) (.slice b3 m3 n3) (.slice b4 m4 n4) (.slice b5 m5 n5) u) x):=fun x hx=>HT.out x (A0.out.ext hx)
           have BL2:Hid (∀ x,(ub146.alloc (.cells #[.int .u8 41] 5)).grownBy x (vb145).ownBlock→Below W0.heap.size W0 x):=fun x hx=>BL.out x (A0.out.ext hx)
           have AL2:Hid (SayG _ _ _ vb145 (((zs++pr2)++[32])++(exX pp kk aa)) (ub146.alloc (.cells #[.int .u8 41] 5))):=A0.out.re
           clear AL HT BL hfar gfar
           have AL:=AL2
           clear AL2
           have HT:=HT2
           have BL:=BL2
           clear HT2 BL2
           generalize ub146.alloc (.cells #[.int .u8 41] 5)=uf149 at *
           generalize ub146.heap.size=pf150 at *
           refine hK.out _ _ (HT.out _ AL.out.gr) (fun hH2=>?_)
           clear hK K hH
           have hH:=hH2
           clear hH2
           simp only[Act.put,nA,nB,nC,nD,nE,nF]
           have AN:Hid (SayG _ _ _ _ (((zs++pr2)++[32])++(exX pp kk aa)) uf149∧Reads uf149 (some ⟨pf150,0,none⟩) 1 [41]):=⟨AL.out,HF9.out _ AL.out.gr⟩
           clear AL
           refine rd 7 rfl (fun K hK=>?_)
           refine step_of rfl (wp_appG _ _ 23 rfl W0.heap.size i0 (.int .u8 0) Tryz.underlying23 hi hz0 hz1 hz2 rfl _ (((zs++pr2)++[32])++(exX pp kk aa)) rfl AN.out.1.own (some ⟨pf150,0,none⟩) 1 1 [41] rfl AN.out.2 (by simp) (by (try simp only[List.length_append,List.length_singleton,List.length_cons,List.length_nil]);omega) AN.out.1.size ?_)
           intro vb151 ub152 sb
           have AL:Hid (SayG _ _ _ vb151 ((((zs++pr2)++[32])++(exX pp kk aa))++[41]) ub152):=AN.out.1.trans sb
           clear AN sb
           refine hK.out _ _ (HT.out _ AL.out.gr) (fun hH2=>?_)
           clear hK K hH
           have hH:=hH2
           clear hH2
           simp only[Act.put,nA,nB,nC,nD,nE,nF]
           refine tk 8 rfl hH ?_
           refine wpAnyH_done (by kernel_rfl) ?_ _
           clear hH
           have AN9:Hid (SayG W0.heap.size w1 v vb151 (zs++(pre++32::armX hc hv (exX pp kk aa))) ub152):=(H7.out.trans (A0.out.trans AL.out)).as (by rw[← EU.out.1,EQ2.out];simp)
           clear AL HT BL A0
           go_wp2
           go_roundw
           case rel=>exact ⟨vb151,j+1,R',pre++32::armX hc hv (exX pp kk aa),rfl,by omega,by go_num,by omega,by omega,hus',FX,AN9⟩
           case measure=>simp [intOf];omega
          ·
           skip
           go_simp
           have hfar:=AL.out.far
           have gfar:=World.grownBy_alloc ub142 (.cells #[.int .u8 41] 5) none
           have A0:Hid (SayG _ _ _ _ ((zs++pr2)++[32]) (ub142.alloc (.cells #[.int .u8 41] 5))):=AL.out.grown gfar
           have HF9:Hid (∀ x,(ub142.alloc (.cells #[.int .u8 41] 5)).grownBy x (vb141).ownBlock→Reads x (some ⟨ub142.heap.size,0,none⟩) 1 [41]):=fun x hx=>readsFar hfar hx
           have HT2:Hid (∀ x,(ub142.alloc (.cells #[.int .u8 41] 5)).grownBy x (vb141).ownBlock→(fun u=>Nin q7 (.slice e0 q0 d0) (.slice e1 j2 d1) (.int .i64 pp.k) (.int .i64 pp.n) (.slice b1 m1 n1) (.slice b2 m2 n2) (.slice b3 m3 n3) (.slice b4 m4 n4) (.slice b5 m5 n5) u) x):=fun x hx=>HT.out x (A0.out.ext hx)
           have BL2:Hid (∀ x,(ub142.alloc (.cells #[.int .u8 41] 5)).grownBy x (vb141).ownBlock→Below W0.heap.size W0 x):=fun x hx=>BL.out x (A0.out.ext hx)
           have AL2:Hid (SayG _ _ _ vb141 ((zs++pr2)++[32]) (ub142.alloc (.cells #[.int .u8 41] 5))):=A0.out.re
           clear AL HT BL hfar gfar
           have AL:=AL2
           clear AL2
           have HT:=HT2
           have BL:=BL2
           clear HT2 BL2
           generalize ub142.alloc (.cells #[.int .u8 41] 5)=uf147 at *
           generalize ub142.heap.size=pf148 at *
           refine hK.out _ _ (HT.out _ AL.out.gr) (fun hH2=>?_)
           clear hK K hH
           have hH:=hH2
           clear hH2
           simp only[Act.put,nA,nB,nC,nD,nE,nF]
           refine rd 5 rfl (fun K hK=>?_)
           go_simp
           refine Calls.mono (CCb.out vb141 ((zs++pr2)++[32]) uf147 (BL.out _ AL.out.gr) AL.out.own (by (try simp only[List.length_append,List.length_singleton,List.length_cons,List.length_nil]);omega)) ?_
           rintro e ub154 ⟨vb153,he,sb⟩
           subst he
           have AN:Hid (SayG _ _ _ vb153 (((zs++pr2)++[32])++(exX pp kk aa)) ub154):=AL.out.trans sb
           clear AL sb
           have AL:=AN
           clear AN
           refine hK.out _ _ (HT.out _ AL.out.gr) (fun hH2=>?_)
           clear hK K hH
           have hH:=hH2
           clear hH2
           simp only[Act.put,nA,nB,nC,nD,nE,nF]
           have AN:Hid (SayG _ _ _ _ (((zs++pr2)++[32])++(exX pp kk aa)) ub154∧Reads ub154 (some ⟨pf148,0,none⟩) 1 [41]):=⟨AL.out,HF9.out _ AL.out.gr⟩
           clear AL
           refine rd 7 rfl (fun K hK=>?_)
           refine step_of rfl (wp_appG _ _ 23 rfl W0.heap.size i0 (.int .u8 0) Tryz.underlying23 hi hz0 hz1 hz2 rfl _ (((zs++pr2)++[32])++(exX pp kk aa)) rfl AN.out.1.own (some ⟨pf148,0,none⟩) 1 1 [41] rfl AN.out.2 (by simp) (by (try simp only[List.length_append,List.length_singleton,List.length_cons,List.length_nil]);omega) AN.out.1.size ?_)
           intro vb155 ub156 sb
           have AL:Hid (SayG _ _ _ vb155 ((((zs++pr2)++[32])++(exX pp kk aa))++[41]) ub156):=AN.out.1.trans sb
           clear AN sb
           refine hK.out _ _ (HT.out _ AL.out.gr) (fun hH2=>?_)
           clear hK K hH
           have hH:=hH2
           clear hH2
           simp only[Act.put,nA,nB,nC,nD,nE,nF]
           refine tk 8 rfl hH ?_
           refine wpAnyH_done (by kernel_rfl) ?_ _
           clear hH
           have AN9:Hid (SayG W0.heap.size w1 v vb155 (zs++(pre++32::armX hc hv (exX pp kk aa))) ub156):=(H7.out.trans (A0.out.trans AL.out)).as (by rw[← EU.out.1,EQ2.out];simp)
           clear AL HT BL A0
           go_wp2
           go_roundw
           case rel=>exact ⟨vb155,j+1,R',pre++32::armX hc hv (exX pp kk aa),rfl,by omega,by go_num,by omega,by omega,hus',FX,AN9⟩
           case measure=>simp [intOf];omega
         ·
          skip
          go_simp
          have hfar:=AN.out.1.far
          have gfar:=World.grownBy_alloc ub137 (.cells #[.int .u8 41] 5) none
          have A0:Hid (SayG _ _ _ _ (zs++pr2) (ub137.alloc (.cells #[.int .u8 41] 5))):=AN.out.1.grown gfar
          have HF9:Hid (∀ x,(ub137.alloc (.cells #[.int .u8 41] 5)).grownBy x (vx).ownBlock→Reads x (some ⟨ub137.heap.size,0,none⟩) 1 [41]):=fun x hx=>readsFar hfar hx
          have HT2:Hid (∀ x,(ub137.alloc (.cells #[.int .u8 41] 5)).grownBy x (vx).ownBlock→(fun u=>Nin q7 (.slice e0 q0 d0) (.slice e1 j2 d1) (.int .i64 pp.k) (.int .i64 pp.n) (.slice b1 m1 n1) (.slice b2 m2 n2) (.slice b3 m3 n3) (.slice b4 m4 n4) (.slice b5 m5 n5) u) x):=fun x hx=>HT.out x (A0.out.ext hx)
          have BL2:Hid (∀ x,(ub137.alloc (.cells #[.int .u8 41] 5)).grownBy x (vx).ownBlock→Below W0.heap.size W0 x):=fun x hx=>BL.out x (A0.out.ext hx)
          have AN2:Hid (SayG _ _ _ vx (zs++pr2) (ub137.alloc (.cells #[.int .u8 41] 5))∧Reads (ub137.alloc (.cells #[.int .u8 41] 5)) (some ⟨pb138,0,none⟩) 1 [32]):=⟨A0.out.re,readsG AN.out.2 gfar⟩
          clear AN HT BL hfar gfar
          have AN:=AN2
          clear AN2
          have HT:=HT2
          have BL:=BL2
          clear HT2 BL2
          generalize ub137.alloc (.cells #[.int .u8 41] 5)=uf143 at *
          generalize ub137.heap.size=pf144 at *
          refine hK.out _ _ (HT.out _ AN.out.1.gr) (fun hH2=>?_)
          clear hK K hH
          have hH:=hH2
          clear hH2
          simp only[Act.put,nA,nB,nC,nD,nE,nF]
          refine rd 2 rfl (fun K hK=>?_)
          refine step_of rfl (wp_appG _ _ 23 rfl W0.heap.size i0 (.int .u8 0) Tryz.underlying23 hi hz0 hz1 hz2 rfl _ (zs++pr2) rfl AN.out.1.own (some ⟨pb138,0,none⟩) 1 1 [32] rfl AN.out.2 (by simp) (by (try simp only[List.length_append,List.length_singleton,List.length_cons,List.length_nil]);omega) AN.out.1.size ?_)
          intro vb157 ub158 sb
          have AL:Hid (SayG _ _ _ vb157 ((zs++pr2)++[32]) ub158):=AN.out.1.trans sb
          clear AN sb
          refine hK.out _ _ (HT.out _ AL.out.gr) (fun hH2=>?_)
          clear hK K hH
          have hH:=hH2
          clear hH2
          simp only[Act.put,nA,nB,nC,nD,nE,nF]
          refine rd 5 rfl (fun K hK=>?_)
          go_simp
          refine Calls.mono (CCb.out vb157 ((zs++pr2)++[32]) ub158 (BL.out _ AL.out.gr) AL.out.own (by (try simp only[List.length_append,List.length_singleton,List.length_cons,List.length_nil]);omega)) ?_
          rintro e ub160 ⟨vb159,he,sb⟩
          subst he
          have AN:Hid (SayG _ _ _ vb159 (((zs++pr2)++[32])++(exX pp kk aa)) ub160):=AL.out.trans sb
          clear AL sb
          have AL:=AN
          clear AN
          refine hK.out _ _ (HT.out _ AL.out.gr) (fun hH2=>?_)
          clear hK K hH
          have hH:=hH2
          clear hH2
          simp only[Act.put,nA,nB,nC,nD,nE,nF]
          have AN:Hid (SayG _ _ _ _ (((zs++pr2)++[32])++(exX pp kk aa)) ub160∧Reads ub160 (some ⟨pf144,0,none⟩) 1 [41]):=⟨AL.out,HF9.out _ AL.out.gr⟩
          clear AL
          refine rd 7 rfl (fun K hK=>?_)
          refine step_of rfl (wp_appG _ _ 23 rfl W0.heap.size i0 (.int .u8 0) Tryz.underlying23 hi hz0 hz1 hz2 rfl _ (((zs++pr2)++[32])++(exX pp kk aa)) rfl AN.out.1.own (some ⟨pf144,0,none⟩) 1 1 [41] rfl AN.out.2 (by simp) (by (try simp only[List.length_append,List.length_singleton,List.length_cons,List.length_nil]);omega) AN.out.1.size ?_)
          intro vb161 ub162 sb
          have AL:Hid (SayG _ _ _ vb161 ((((zs++pr2)++[32])++(exX pp kk aa))++[41]) ub162):=AN.out.1.trans sb
          clear AN sb
          refine hK.out _ _ (HT.out _ AL.out.gr) (fun hH2=>?_)
          clear hK K hH
          have hH:=hH2
          clear hH2
          simp only[Act.put,nA,nB,nC,nD,nE,nF]
          refine tk 8 rfl hH ?_
          refine wpAnyH_done (by kernel_rfl) ?_ _
          clear hH
          have AN9:Hid (SayG W0.heap.size w1 v vb161 (zs++(pre++32::armX hc hv (exX pp kk aa))) ub162):=(H7.out.trans (A0.out.trans AL.out)).as (by rw[← EU.out.1,EQ2.out];simp)
          clear AL HT BL A0
          go_wp2
          go_roundw
          case rel=>exact ⟨vb161,j+1,R',pre++32::armX hc hv (exX pp kk aa),rfl,by omega,by go_num,by omega,by omega,hus',FX,AN9⟩
          case measure=>simp [intOf];omega
        ·
         skip
         go_simp
         have hfar:=AL.out.far
         have gfar:=World.grownBy_alloc v0w (.cells #[.int .u8 41] 5) none
         have A0:Hid (SayG _ _ _ _ (zs++pr2) (v0w.alloc (.cells #[.int .u8 41] 5))):=AL.out.grown gfar
         have HF9:Hid (∀ x,(v0w.alloc (.cells #[.int .u8 41] 5)).grownBy x (vx).ownBlock→Reads x (some ⟨v0w.heap.size,0,none⟩) 1 [41]):=fun x hx=>readsFar hfar hx
         have HT2:Hid (∀ x,(v0w.alloc (.cells #[.int .u8 41] 5)).grownBy x (vx).ownBlock→(fun u=>Nin q7 (.slice e0 q0 d0) (.slice e1 j2 d1) (.int .i64 pp.k) (.int .i64 pp.n) (.slice b1 m1 n1) (.slice b2 m2 n2) (.slice b3 m3 n3) (.slice b4 m4 n4) (.slice b5 m5 n5) u) x):=fun x hx=>HT.out x (A0.out.ext hx)
         have BL2:Hid (∀ x,(v0w.alloc (.cells #[.int .u8 41] 5)).grownBy x (vx).ownBlock→Below W0.heap.size W0 x):=fun x hx=>BL.out x (A0.out.ext hx)
         have AL2:Hid (SayG _ _ _ vx (zs++pr2) (v0w.alloc (.cells #[.int .u8 41] 5))):=A0.out.re
         clear AL HT BL hfar gfar
         have AL:=AL2
         clear AL2
         have HT:=HT2
         have BL:=BL2
         clear HT2 BL2
         generalize v0w.alloc (.cells #[.int .u8 41] 5)=uf139 at *
         generalize v0w.heap.size=pf140 at *
         refine hK.out _ _ (HT.out _ AL.out.gr) (fun hH2=>?_)
         clear hK K hH
         have hH:=hH2
         clear hH2
         simp only[Act.put,nA,nB,nC,nD,nE,nF]
         refine rd 1 rfl (fun K hK=>?_)
         go_simp
         have AN:Hid (SayG _ _ _ _ _ (uf139.alloc (.cells #[.int .u8 32] 5))∧Reads (uf139.alloc (.cells #[.int .u8 32] 5)) (some ⟨uf139.heap.size,0,none⟩) 1 [32]):=⟨AL.out.grown (World.grownBy_alloc _ _ _),readsOneB uf139 32 5⟩
         clear AL
         generalize uf139.alloc (.cells #[.int .u8 32] 5)=ub163 at *
         generalize uf139.heap.size=pb164 at *
         refine hK.out _ _ (HT.out _ AN.out.1.gr) (fun hH2=>?_)
         clear hK K hH
         have hH:=hH2
         clear hH2
         simp only[Act.put,nA,nB,nC,nD,nE,nF]
         refine rd 2 rfl (fun K hK=>?_)
         refine step_of rfl (wp_appG _ _ 23 rfl W0.heap.size i0 (.int .u8 0) Tryz.underlying23 hi hz0 hz1 hz2 rfl _ (zs++pr2) rfl AN.out.1.own (some ⟨pb164,0,none⟩) 1 1 [32] rfl AN.out.2 (by simp) (by (try simp only[List.length_append,List.length_singleton,List.length_cons,List.length_nil]);omega) AN.out.1.size ?_)
         intro vb165 ub166 sb
         have AL:Hid (SayG _ _ _ vb165 ((zs++pr2)++[32]) ub166):=AN.out.1.trans sb
         clear AN sb
         refine hK.out _ _ (HT.out _ AL.out.gr) (fun hH2=>?_)
         clear hK K hH
         have hH:=hH2
         clear hH2
         simp only[Act.put,nA,nB,nC,nD,nE,nF]
         refine rd 5 rfl (fun K hK=>?_)
         go_simp
         refine Calls.mono (CCb.out vb165 ((zs++pr2)++[32]) ub166 (BL.out _ AL.out.gr) AL.out.own (by (try simp only[List.length_append,List.length_singleton,List.length_cons,List.length_nil]);omega)) ?_
         rintro e ub168 ⟨vb167,he,sb⟩
         subst he
         have AN:Hid (SayG _ _ _ vb167 (((zs++pr2)++[32])++(exX pp kk aa)) ub168):=AL.out.trans sb
         clear AL sb
         have AL:=AN
         clear AN
         refine hK.out _ _ (HT.out _ AL.out.gr) (fun hH2=>?_)
         clear hK K hH
         have hH:=hH2
         clear hH2
         simp only[Act.put,nA,nB,nC,nD,nE,nF]
         have AN:Hid (SayG _ _ _ _ (((zs++pr2)++[32])++(exX pp kk aa)) ub168∧Reads ub168 (some ⟨pf140,0,none⟩) 1 [41]):=⟨AL.out,HF9.out _ AL.out.gr⟩
         clear AL
         refine rd 7 rfl (fun K hK=>?_)
         refine step_of rfl (wp_appG _ _ 23 rfl W0.heap.size i0 (.int .u8 0) Tryz.underlying23 hi hz0 hz1 hz2 rfl _ (((zs++pr2)++[32])++(exX pp kk aa)) rfl AN.out.1.own (some ⟨pf140,0,none⟩) 1 1 [41] rfl AN.out.2 (by simp) (by (try simp only[List.length_append,List.length_singleton,List.length_cons,List.length_nil]);omega) AN.out.1.size ?_)
         intro vb169 ub170 sb
         have AL:Hid (SayG _ _ _ vb169 ((((zs++pr2)++[32])++(exX pp kk aa))++[41]) ub170):=AN.out.1.trans sb
         clear AN sb
         refine hK.out _ _ (HT.out _ AL.out.gr) (fun hH2=>?_)
         clear hK K hH
         have hH:=hH2
         clear hH2
         simp only[Act.put,nA,nB,nC,nD,nE,nF]
         refine tk 8 rfl hH ?_
         refine wpAnyH_done (by kernel_rfl) ?_ _
         clear hH
         have AN9:Hid (SayG W0.heap.size w1 v vb169 (zs++(pre++32::armX hc hv (exX pp kk aa))) ub170):=(H7.out.trans (A0.out.trans AL.out)).as (by rw[← EU.out.1,EQ2.out];simp)
         clear AL HT BL A0
         go_wp2
         go_roundw
         case rel=>exact ⟨vb169,j+1,R',pre++32::armX hc hv (exX pp kk aa),rfl,by omega,by go_num,by omega,by omega,hus',FX,AN9⟩
         case measure=>simp [intOf];omega
     ·
      obtain rfl:j=l5:=by omega
      obtain rfl:R = .nil:=GE.nil_of_len (by omega)
      obtain ⟨-,-,-,hP⟩:=HR.out
      simp only[exL,blz,List.append_nil] at hP
      simp only[exL,blz,List.length_nil] at hus
      have EF9:Hid (zs++pre++[41]=zs++saY ⟨15,n,name,arg,lit⟩ ks rs):=by show _=_;rw[EH.out,hP];simp
      clear HR hP
      go_upto_region 45 with fail
      clear x0 x1 x2 x3 x4 x5 x6
      have ga:=World.grownBy_alloc wr (.cells #[.int .u8 41] 5) none
      have AN:Hid (SayG W0.heap.size w1 v va (zs++pre) (wr.alloc (.cells #[.int .u8 41] 5))∧Reads (wr.alloc (.cells #[.int .u8 41] 5)) (some ⟨wr.heap.size,0,none⟩) 1 [41]):=⟨AL.out.grown ga,readsOneB wr 41 5⟩
      clear ga AL
      go_wp2_with (at_builtin;go_must (refine wpList_appG rfl _ _ 23 rfl W0.heap.size i0 (.int .u8 0) Tryz.underlying23 hi hz0 hz1 hz2 rfl va (zs++pre) rfl AN.out.1.own (some ⟨wr.heap.size,0,none⟩) 1 1 [41] rfl AN.out.2 (by simp) (by (try simp only[List.length_append,List.length_singleton,List.length_cons,List.length_nil]);omega) AN.out.1.size ?_);intro v9 u9 s9)
      have FF:Hid (SayG W0.heap.size w v v9 (zs++saY ⟨15,n,name,arg,lit⟩ ks rs) u9):=(H0.out.trans (AN.out.1.trans s9)).as EF9.out
      clear AN s9 H0
      go_ret
      exact ⟨v9,rfl,by rw[HX.out];exact FF.out⟩
end Go.Proofs.YtblbnillilbacaaGreatDoor.By
