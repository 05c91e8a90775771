/-
  No statement is proved here.
-/
import Derived.Test.YtblbnillilbacaaGreatDoorMEAlsoa
namespace Go.Proofs.YtblbnillilbacaaGreatDoor.By
set_option maxRecDepth 100000
set_option maxHeartbeats 16000000
open Go.RowKit
set_option linter.unusedVariables false
set_option linter.unusedSimpArgs false
theorem l5sayC (W0:World) (m:Nat) (IH0:SaC W0 m):SaQ W0 (m+1) (fun k=>¬ k=0∧¬ k=1∧¬ k=2∧¬ k=3∧¬ k=5∧¬ k=18∧¬ k=15):=by
 intro p kids alts a1 l1 c1 a2 l2 c2 a3 l3 c3 a4 l4 c4 a5 l5 c5 v zs w d hQ hm h ho hb hw hlen;obtain ⟨TX,NF,-,GK,GA⟩:=exX_all ho;have hoo:=ho;simp only[okE,Bool.and_eq_true] at hoo;obtain ⟨⟨⟨-,hoN⟩,hoK⟩,hoA⟩:=hoo;have hbad:=okN_arms hoN;obtain ⟨k,n,name,arg,lit⟩:=p;simp only at *;have HQ:Hid (¬ k=0∧¬ k=1∧¬ k=2∧¬ k=3∧¬ k=5∧¬ k=18∧¬ k=15):=hQ;clear hQ;obtain ⟨i0,hi,hz0,hz1,hz2⟩:=info_parts infoS;have hk0:=NF.lo;have hk1:=NF.hi;have hnl:=NF.name;have hal:=NF.arg;have hll:=NF.lit;simp only at hk0 hk1 hnl hal hll;have hl1:name.length=l1:=h.1.1.1;have hl2:arg.length=l2:=h.2.1.1.1;have hl3:lit.length=l3:=h.2.2.1.1.1;have hk4:=h.2.2.2.1.1;have hk5:=h.2.2.2.2.1;have hk4b:=h.2.2.2.1.2.1;have hk5b:=h.2.2.2.2.2.1;have hks:=exL_len false kids;have hrs:=exL_len true alts;have hB:=hb.size;obtain ⟨ks,hksd⟩:∃ ks,exL false kids=ks:=⟨_,rfl⟩;obtain ⟨rs,hrsd⟩:∃ rs,exL true alts=rs:=⟨_,rfl⟩
 have HX:Hid (exX ⟨k,n,name,arg,lit⟩ kids alts=saY ⟨k,n,name,arg,lit⟩ ks rs):=by show _=_;unfold exX;rw[hksd,hrsd]
 rw[HX.out] at hlen
 have HGP:Hid (gapB (saY ⟨k,n,name,arg,lit⟩ ks rs)=true):=by have:=TX.gap;rw[hksd,hrsd] at this;exact this
 have HKS:Hid (exL false kids=ks∧exL true alts=rs):=⟨hksd,hrsd⟩;rw[hksd] at hks;rw[hrsd] at hrs;have g0:=gal w (.cells #[.int .i64 k,.int .i64 n,.slice a1 l1 c1,.slice a2 l2 c2,.slice a3 l3 c3,.slice a4 l4 c4,.slice a5 l5 c5] 36) none;have b0:=heap_alloc_new w (.cells #[.int .i64 k,.int .i64 n,.slice a1 l1 c1,.slice a2 l2 c2,.slice a3 l3 c3,.slice a4 l4 c4,.slice a5 l5 c5] 36);have H0:Hid (SayG W0.heap.size w v v zs (w.alloc (.cells #[.int .i64 k,.int .i64 n,.slice a1 l1 c1,.slice a2 l2 c2,.slice a3 l3 c3,.slice a4 l4 c4,.slice a5 l5 c5] 36))):=(SayG.start hw hB).grown g0;have AL:Hid (SayG W0.heap.size (w.alloc (.cells #[.int .i64 k,.int .i64 n,.slice a1 l1 c1,.slice a2 l2 c2,.slice a3 l3 c3,.slice a4 l4 c4,.slice a5 l5 c5] 36)) v v zs (w.alloc (.cells #[.int .i64 k,.int .i64 n,.slice a1 l1 c1,.slice a2 l2 c2,.slice a3 l3 c3,.slice a4 l4 c4,.slice a5 l5 c5] 36))):=H0.out.re
 have hne:v.ownBlock≠some w.heap.size:=fun e=>by have:=(hw.lt _ e).2;omega
 have HT:Hid (∀ u,(w.alloc (.cells #[.int .i64 k,.int .i64 n,.slice a1 l1 c1,.slice a2 l2 c2,.slice a3 l3 c3,.slice a4 l4 c4,.slice a5 l5 c5] 36)).grownBy u v.ownBlock→Sev w.heap.size (.int .i64 k) (.int .i64 n) (.slice a1 l1 c1) (.slice a2 l2 c2) (.slice a3 l3 c3) (.slice a4 l4 c4) (.slice a5 l5 c5) u):=fun u hu=>(blkE ((hu.block _ (lt_of_block b0) (fun e=>hne e.symm)).trans b0)).1
 have BL:Hid (∀ u,(w.alloc (.cells #[.int .i64 k,.int .i64 n,.slice a1 l1 c1,.slice a2 l2 c2,.slice a3 l3 c3,.slice a4 l4 c4,.slice a5 l5 c5] 36)).grownBy u v.ownBlock→Below W0.heap.size W0 u):=fun u hu=>(hb.grown g0 hB (fun k hk=>by cases hk)).grown hu (Nat.le_trans hB g0.size) (fun g hg=>(hw.lt g hg).1)
 have IH:Hid _:=IH0
 have HN1:Hid (∀ u,Below W0.heap.size W0 u→Reads u a1 l1 name):=fun u hu=>(h.1.le (cle_belowK hu)).1
 have HN2:Hid (∀ u,Below W0.heap.size W0 u→Reads u a2 l2 arg):=fun u hu=>(h.2.1.le (cle_belowK hu)).1
 have HN3:Hid (∀ u,Below W0.heap.size W0 u→Reads u a3 l3 lit):=fun u hu=>(h.2.2.1.le (cle_belowK hu)).1
 have HK:Hid (SlGE W0 false a4 l4 c4 kids∧okG kids (d - 1)=true):=⟨h.2.2.2.1,hoK⟩;have HA:Hid (SlGE W0 true a5 l5 c5 alts∧okG alts (d - 1)=true∧badA alts=false):=⟨h.2.2.2.2,hoA,hbad⟩;have HF:Hid (NdF ⟨k,n,name,arg,lit⟩ kids.len alts.len):=NF;clear h ho hb hw IH0 TX NF GK GA hoN hoK hoA hbad hksd hrsd g0 b0 hne;go_enter Tryz.func56,Tryz.ntmps56;go_upto_region 1 with fail;generalize w.alloc (.cells #[.int .i64 k,.int .i64 n,.slice a1 l1 c1,.slice a2 l2 c2,.slice a3 l3 c3,.slice a4 l4 c4,.slice a5 l5 c5] 36)=w1 at *;generalize w.heap.size=q at *;obtain ⟨x0,x1,x2,x3,x4,x5,x6⟩:=HT.out _ AL.out.gr;obtain ⟨h0,h1,h2,h3,h5,h18,h15⟩:=HQ.out;clear HQ
 have HSX:Hid (saY ⟨k,n,name,arg,lit⟩ ks rs=if k=20∧ks.length=0 then headB k n else [40]++headB k n++nmB name++nmB arg++blz ks++blz rs++[41]):=by show _=_;unfold saY;simp only[];rw[if_neg h0,if_neg h1,if_neg h2,if_neg h3,if_neg h5,if_neg h18,if_neg h15]
 have e0:(k == 0)=false:=by simpa using h0
 have e1:(k == 1)=false:=by simpa using h1
 have e2:(k == 2)=false:=by simpa using h2
 have e3:(k == 3)=false:=by simpa using h3
 have e5:(k == 5)=false:=by simpa using h5
 have e15:(k == 15)=false:=by simpa using h15
 have e18:(k == 18)=false:=by simpa using h18
 have CH:Hid (∀ u,_):=fun u=>l5headT k n (.slice a1 l1 c1) (.slice a2 l2 c2) (.slice a3 l3 c3) (.slice a4 l4 c4) (.slice a5 l5 c5) u hk0 hk1 HF.out.op HF.out.cap
 obtain ⟨hd,hhd⟩:∃ hd,headB k n=hd:=⟨_,rfl⟩
 have hdl:hd.length≤8:=by rw[← hhd];exact headB_len hk0 hk1 HF.out.op HF.out.cap
 rw[hhd] at HSX CH;clear hhd;by_cases ht:k=20∧ks.length=0
 ·
  obtain ⟨hk20,ht0⟩:=ht
  have h40:l4=0:=by omega
  have EF:Hid (saY ⟨k,n,name,arg,lit⟩ ks rs=hd):=by show _=_;rw[HSX.out,if_pos ⟨hk20,ht0⟩]
  have hX:=hlen;rw[EF.out] at hX
  try simp only[lA,List.length_singleton,lB,lC] at hX
  have e20:(k == 20)=true:=by simpa using hk20
  subst h40;clear h0 h1 h2 h3 h5 h15 h18 hk20 hk0 hk1;go_wp2_with fail;refine Calls.mono (CH.out w1) ?_;rintro e u4 ⟨st,he,hst,hg4⟩;subst he;have AN:Hid (SayG W0.heap.size w1 v v zs u4):=AL.out.grown hg4;clear AL hg4 CH x0 x1 x2 x3 x4 x5 x6;simp only[];go_wp2_with (at_builtin;go_must (refine wpList_strG rfl _ _ 23 9 rfl W0.heap.size i0 Tryz.underlying23 Tryz.underlying9 hi hz0 hz1 hz2 v zs rfl AN.out.own st hd rfl hst (by (try simp only[lA,List.length_singleton,lB,lC]);omega) AN.out.size ?_);intro v2 u2 sb);have FF:Hid (SayG W0.heap.size w v v2 (zs++saY ⟨k,n,name,arg,lit⟩ ks rs) u2):=(H0.out.trans (AN.out.trans sb)).as (by rw[EF.out]);clear sb AN H0;go_ret;exact ⟨v2,rfl,by rw[HX.out];exact FF.out⟩
 have EH0:Hid (saY ⟨k,n,name,arg,lit⟩ ks rs=([40]++hd++nmB name++nmB arg)++blz ks++blz rs++[41]):=by show _=_;rw[HSX.out,if_neg ht]
 have hX:=hlen;rw[EH0.out] at hX;simp only[lA,List.length_singleton] at hX
 have HCD:Hid (k=20→¬ l4=0):=fun e e2=>ht ⟨e,by omega⟩
 clear ht HSX h0 h1 h2 h3 h5 h15 h18;go_upto_region 2 with fail
 go_cut [19] (fun s19 wx=>s19 = .bool false∧w1=wx)
 case first =>
  by_cases h20:k=20
  ·
   have hl9:=HCD.out h20
   have e20:(k == 20)=true:=by simpa using h20
   have hl9':¬ (l4:Int)=0:=by omega
   have hl9b:((l4:Int) == 0)=false:=by simpa using hl9
   clear h20 HCD hl9;go_wp2_with fail;go_meet;exact ⟨rfl,rfl⟩
  ·
   have e20:(k == 20)=false:=by simpa using h20
   clear HCD;go_wp2_with fail;go_meet;exact ⟨rfl,rfl⟩
 case rest =>
 obtain ⟨rfl,hwc⟩:=hcut;subst hwc;go_upto_region 4 with fail;have AD:Hid (SayG _ _ _ _ _ w1.drew):=AL.out.grown (grown_drew (grf _ none));clear AL x0 x1 x2 x3 x4 x5 x6;refine wp_region_held_drew (S:=(fun u=>Sev q (.int .i64 k) (.int .i64 n) (.slice a1 l1 c1) (.slice a2 l2 c2) (.slice a3 l3 c3) (.slice a4 l4 c4) (.slice a5 l5 c5) u)) (by kernel_rfl) (HT.out _ AD.out.gr) (fun hH=>?_);have AL:=AD;clear AD;generalize w1.drew=v0w at *;simp only[List.size_toArray,lB,lC,Nat.reduceAdd,Array.replicate,List.replicate];refine tk 0 ?_;refine tk 3 ?_;refine rd 1 rfl (fun K hK=>?_);go_simp;have AN:Hid (SayG _ _ _ _ _ (v0w.alloc (.cells #[.int .u8 40] 5))∧Reads (v0w.alloc (.cells #[.int .u8 40] 5)) (some ⟨v0w.heap.size,0,none⟩) 1 [40]):=⟨AL.out.grown (gal _ _ _),readsOneB v0w 40 5⟩;clear AL;generalize v0w.alloc (.cells #[.int .u8 40] 5)=ub171 at *;generalize v0w.heap.size=pb172 at *;refine hK.out _ _ (HT.out _ AN.out.1.gr) ?_
 clear hK K hH;intro hH;simp only[Act.put,nA,nB,nC,nD,nE,nF];refine rd 2 rfl (fun K hK=>?_);refine step_of rfl (wp_appG _ _ 23 rfl W0.heap.size i0 (.int .u8 0) Tryz.underlying23 hi hz0 hz1 hz2 rfl _ (zs) rfl AN.out.1.own (some ⟨pb172,0,none⟩) 1 1 [40] rfl AN.out.2 (by simp) (by (try simp only[lA,List.length_singleton,lB,lC]);omega) AN.out.1.size ?_);intro vb173 ub174 sb;have AL:Hid (SayG _ _ _ vb173 ((zs)++[40]) ub174):=AN.out.1.trans sb;clear AN sb;refine hK.out _ _ (HT.out _ AL.out.gr) ?_;clear hK K hH;intro hH;simp only[Act.put,nA,nB,nC,nD,nE,nF];refine rd 4 rfl (fun K hK=>?_);go_simp;refine Calls.mono (CH.out ub174) ?_;rintro e u4 ⟨sst,he,hst,hg4⟩;subst he;have AN:Hid (SayG _ _ _ _ (zs++[40]) u4):=AL.out.grown hg4;clear AL hg4;refine hK.out _ _ (HT.out _ AN.out.gr) ?_;clear hK K hH;intro hH;simp only[Act.put,nA,nB,nC,nD,nE,nF];refine rd 5 rfl (fun K hK=>?_);refine step_of rfl (wp_strG _ _ 23 9 rfl W0.heap.size i0 Tryz.underlying23 Tryz.underlying9 hi hz0 hz1 hz2 _ (zs++[40]) rfl AN.out.own sst hd rfl hst (by (try simp only[lA,List.length_singleton,lB,lC]);omega) AN.out.size ?_)
 intro v5 u5 sb;have AL:Hid (SayG _ _ _ v5 (zs++[40]++hd) u5):=AN.out.trans sb;clear AN sb;refine hK.out _ _ (HT.out _ AL.out.gr) ?_;clear hK K hH;intro hH;simp only[Act.put,nA,nB,nC,nD,nE,nF];refine tk 6 ?_;refine wpAnyH_done (by kernel_rfl) ?_ _;clear hH CH hst;obtain ⟨x0,x1,x2,x3,x4,x5,x6⟩:=HT.out _ AL.out.gr;go_upto_if 33 with fail
 go_cut [0] (fun s0 wx=>∃ v4,v4=s0∧Hid (SayG W0.heap.size w1 v v4 (zs++[40]++hd++nmB name) wx))
 case first=>as_aux_lemma =>
  by_cases h9:(0:Int) < (l1:Int)
  ·
   have EN:Hid (nmB name=[32]++name):=by show _=_;unfold nmB;rw[if_neg (by omega)];rfl
   have h9n:0 < l1:=by omega
   go_upto_region 6 with fail;have AD:Hid (SayG _ _ _ _ _ u5.drew):=AL.out.grown (grown_drew (grf _ none));clear AL x0 x1 x2 x3 x4 x5 x6;refine wp_region_held_drew (S:=(fun u=>Sev q (.int .i64 k) (.int .i64 n) (.slice a1 l1 c1) (.slice a2 l2 c2) (.slice a3 l3 c3) (.slice a4 l4 c4) (.slice a5 l5 c5) u)) (by kernel_rfl) (HT.out _ AD.out.gr) (fun hH=>?_);have AL:=AD;clear AD;generalize u5.drew=v0w at *;simp only[List.size_toArray,lB,lC,Nat.reduceAdd,Array.replicate,List.replicate];refine tk 0 ?_;refine tk 3 ?_;refine tk 4 ?_;refine rd 1 rfl (fun K hK=>?_);go_simp;have AN:Hid (SayG _ _ _ _ _ (v0w.alloc (.cells #[.int .u8 32] 5))∧Reads (v0w.alloc (.cells #[.int .u8 32] 5)) (some ⟨v0w.heap.size,0,none⟩) 1 [32]):=⟨AL.out.grown (gal _ _ _),readsOneB v0w 32 5⟩;clear AL;generalize v0w.alloc (.cells #[.int .u8 32] 5)=ub175 at *;generalize v0w.heap.size=pb176 at *;refine hK.out _ _ (HT.out _ AN.out.1.gr) ?_
   clear hK K hH;intro hH;simp only[Act.put,nA,nB,nC,nD,nE,nF];refine rd 2 rfl (fun K hK=>?_);refine step_of rfl (wp_appG _ _ 23 rfl W0.heap.size i0 (.int .u8 0) Tryz.underlying23 hi hz0 hz1 hz2 rfl _ (zs++[40]++hd) rfl AN.out.1.own (some ⟨pb176,0,none⟩) 1 1 [32] rfl AN.out.2 (by simp) (by (try simp only[lA,List.length_singleton,lB,lC]);omega) AN.out.1.size ?_);intro vb177 ub178 sb;have AL:Hid (SayG _ _ _ vb177 ((zs++[40]++hd)++[32]) ub178):=AN.out.1.trans sb;clear AN sb;refine hK.out _ _ (HT.out _ AL.out.gr) ?_;clear hK K hH;intro hH;simp only[Act.put,nA,nB,nC,nD,nE,nF];have AN:Hid (SayG _ _ _ _ ((zs++[40]++hd)++[32]) ub178∧True):=⟨AL.out,trivial⟩;clear AL;refine rd 5 rfl (fun K hK=>?_);refine step_of rfl (wp_appN _ _ 23 rfl W0.heap.size i0 (.int .u8 0) Tryz.underlying23 hi hz0 hz1 hz2 rfl _ ((zs++[40]++hd)++[32]) rfl AN.out.1.own a1 l1 c1 name rfl (HN1.out _ (BL.out _ AN.out.1.gr)) (Or.inl (by simp)) (by (try simp only[lA,List.length_singleton,lB,lC]);omega) AN.out.1.size ?_)
   intro vb179 ub180 sb;have AL:Hid (SayG _ _ _ vb179 (((zs++[40]++hd)++[32])++name) ub180):=AN.out.1.trans sb;clear AN sb;refine hK.out _ _ (HT.out _ AL.out.gr) ?_;clear hK K hH;intro hH;simp only[Act.put,nA,nB,nC,nD,nE,nF];refine tk 6 ?_;refine wpAnyH_done (by kernel_rfl) ?_ _;clear hH;go_wp2_with fail;go_meet;exact ⟨vb179,rfl,by rw[EN.out];exact AL.out.as (by simp)⟩
  ·
   have EN:Hid (nmB name=[]):=by show _=_;unfold nmB;rw[if_pos (by omega)]
   have h9n:¬ 0 < l1:=by omega
   go_wp2_with fail;go_meet;exact ⟨v5,rfl,by rw[EN.out];exact AL.out.as (by simp)⟩
 case rest =>
 obtain ⟨v6,rfl,A9⟩:=hcut;clear AL x0 x1 x2 x3 x4 x5 x6;have AL:=A9;clear A9;obtain ⟨x0,x1,x2,x3,x4,x5,x6⟩:=HT.out _ AL.out.gr;by_cases h9:(0:Int) < (l2:Int)
 ·
  have EN:Hid (nmB arg=[32]++arg):=by show _=_;unfold nmB;rw[if_neg (by omega)];rfl
  have h9n:0 < l2:=by omega
  go_upto_region 8 with fail;have AD:Hid (SayG _ _ _ _ _ wc.drew):=AL.out.grown (grown_drew (grf _ none));clear AL x0 x1 x2 x3 x4 x5 x6;refine wp_region_held_drew (S:=(fun u=>Sev q (.int .i64 k) (.int .i64 n) (.slice a1 l1 c1) (.slice a2 l2 c2) (.slice a3 l3 c3) (.slice a4 l4 c4) (.slice a5 l5 c5) u)) (by kernel_rfl) (HT.out _ AD.out.gr) (fun hH=>?_);have AL:=AD;clear AD;generalize wc.drew=v0w at *;simp only[List.size_toArray,lB,lC,Nat.reduceAdd,Array.replicate,List.replicate];refine tk 0 ?_;refine tk 3 ?_;refine tk 4 ?_;refine rd 1 rfl (fun K hK=>?_);go_simp;have AN:Hid (SayG _ _ _ _ _ (v0w.alloc (.cells #[.int .u8 32] 5))∧Reads (v0w.alloc (.cells #[.int .u8 32] 5)) (some ⟨v0w.heap.size,0,none⟩) 1 [32]):=⟨AL.out.grown (gal _ _ _),readsOneB v0w 32 5⟩;clear AL;generalize v0w.alloc (.cells #[.int .u8 32] 5)=ub181 at *;generalize v0w.heap.size=pb182 at *;refine hK.out _ _ (HT.out _ AN.out.1.gr) ?_
  clear hK K hH;intro hH;simp only[Act.put,nA,nB,nC,nD,nE,nF];refine rd 2 rfl (fun K hK=>?_);refine step_of rfl (wp_appG _ _ 23 rfl W0.heap.size i0 (.int .u8 0) Tryz.underlying23 hi hz0 hz1 hz2 rfl _ (zs++[40]++hd++nmB name) rfl AN.out.1.own (some ⟨pb182,0,none⟩) 1 1 [32] rfl AN.out.2 (by simp) (by (try simp only[lA,List.length_singleton,lB,lC]);omega) AN.out.1.size ?_);intro vb183 ub184 sb;have AL:Hid (SayG _ _ _ vb183 ((zs++[40]++hd++nmB name)++[32]) ub184):=AN.out.1.trans sb;clear AN sb;refine hK.out _ _ (HT.out _ AL.out.gr) ?_;clear hK K hH;intro hH;simp only[Act.put,nA,nB,nC,nD,nE,nF];have AN:Hid (SayG _ _ _ _ ((zs++[40]++hd++nmB name)++[32]) ub184∧True):=⟨AL.out,trivial⟩;clear AL;refine rd 5 rfl (fun K hK=>?_);refine step_of rfl (wp_appN _ _ 23 rfl W0.heap.size i0 (.int .u8 0) Tryz.underlying23 hi hz0 hz1 hz2 rfl _ ((zs++[40]++hd++nmB name)++[32]) rfl AN.out.1.own a2 l2 c2 arg rfl (HN2.out _ (BL.out _ AN.out.1.gr)) (Or.inl (by simp)) (by (try simp only[lA,List.length_singleton,lB,lC]);omega) AN.out.1.size ?_)
  intro vb185 ub186 sb;have AL:Hid (SayG _ _ _ vb185 (((zs++[40]++hd++nmB name)++[32])++arg) ub186):=AN.out.1.trans sb;clear AN sb;refine hK.out _ _ (HT.out _ AL.out.gr) ?_;clear hK K hH;intro hH;simp only[Act.put,nA,nB,nC,nD,nE,nF];refine tk 6 ?_;refine wpAnyH_done (by kernel_rfl) ?_ _;clear hH;obtain ⟨hdB,hhd0⟩:∃ hdB,hdB=[40]++hd++nmB name++nmB arg:=⟨_,rfl⟩
  have EH:Hid (saY ⟨k,n,name,arg,lit⟩ ks rs=hdB++blz ks++blz rs++[41]):=by show _=_;rw[EH0.out,hhd0]
  have AN:Hid (SayG W0.heap.size w1 v vb185 (zs++hdB) ub186):=AL.out.as (by rw[hhd0,EN.out];simp);clear AL hhd0 EH0 hX EN;have AL:=AN;clear AN
  have HL:Hid (zs.length+hdB.length+(blz ks).length+(blz rs).length+1≤900000):=by
   show _≤_
   have:=congrArg List.length EH.out;simp only[lA,List.length_singleton] at this;omega
  obtain ⟨x0,x1,x2,x3,x4,x5,x6⟩:=HT.out _ AL.out.gr;go_wp2;clear x0 x1 x2 x3 x4 x5 x6
  go_loopw [0,5] (fun vv i wr=>∃ (vk:Value) (j:Nat) (R:GE) (pre:List Int),vk=vv∧j≤l4∧i = .int .i64 j∧R.len+j=l4∧R.cnt≤kids.cnt∧zs.length+pre.length+(blz (exL false R)).length+(blz rs).length+1≤900000∧Hid ((R = .nil∨∃ b o,a4=some ⟨b,o,none⟩∧InGE W0 W0 false R b (o+j * 7))∧okG R (d - 1)=true∧pre++blz (exL false R)=hdB++blz ks)∧Hid (SayG W0.heap.size w1 v vk (zs++pre) wr)) (fun _ i _=>l4 - (intOf i).toNat)
  case atStart =>
   refine ⟨_,0,kids,hdB,rfl,Nat.zero_le _,rfl,by omega,Nat.le_refl _,by rw[HKS.out.1];exact HL.out,⟨?_,HK.out.2,by rw[HKS.out.1]⟩,AL⟩;rcases HK.out.1.cases with ⟨-,e⟩|⟨b,o,e,hin,-⟩
   ·
    exact .inl e
   ·
    exact .inr ⟨b,o,e,by simpa using hin⟩
  case round=>as_aux_lemma =>
   clear AL;obtain ⟨vk,j,R,pre,rfl,hj,rfl,hRl,hRc,hus,HR,AL⟩:=hrel;obtain ⟨x0,x1,x2,x3,x4,x5,x6⟩:=HT.out _ AL.out.gr;by_cases hlt:j < l4
   ·
    have hlt':(j:Int) < l4:=by omega
    obtain ⟨q',hq'⟩:∃ q',R.len=q' + 1:=⟨R.len - 1,by omega⟩;obtain ⟨hR,hokR,hP⟩:=HR.out;rcases hR with e|⟨b,o,ea,hin⟩
    ·
     rw[e] at hq';simp [GE.len] at hq'
    obtain ⟨hc,hv,pp,kk,aa,R',rfl,hR'⟩:=GE.cons_of_len hq';simp only[GE.cnt] at hRc;simp only[GE.len] at hRl;have hoR:=okG_one hokR;obtain ⟨-,b1,m1,n1,b2,m2,n2,b3,m3,n3,b4,m4,n4,b5,m5,n5,hcel,hnd,hR2⟩:=hin.kid;rw[show o+j * 7+7=o+(j+1) * 7 by omega] at hR2;have e9:blz (exL false (GE.cons hc hv pp kk aa R'))=32::exX pp kk aa++blz (exL false R'):=rfl;rw[e9] at hus hP;simp only[lA,lB] at hus
    have CCk:Hid (∀ v0 z0 u0,Below W0.heap.size W0 u0→u0.ownsRow W0.heap.size 5 1 v0 z0.length (vals z0)→z0.length+(exX pp kk aa).length≤900000→_):=fun v0 z0 u0 h1 h2 h3=>IH.out pp kk aa b1 m1 n1 b2 m2 n2 b3 m3 n3 b4 m4 n4 b5 m5 n5 v0 z0 u0 (d - 1) (by omega) hnd hoR.1 h1 h2 h3
    have FX:Hid ((R' = .nil∨∃ b o,a4=some ⟨b,o,none⟩∧InGE W0 W0 false R' b (o+(j+1) * 7))∧okG R' (d - 1)=true∧(pre++32::exX pp kk aa)++blz (exL false R')=hdB++blz ks):=⟨.inr ⟨b,o,ea,hR2⟩,hoR.2,by rw[← hP];simp⟩
    have hus':zs.length+(pre++32::exX pp kk aa).length+(blz (exL false R')).length+(blz rs).length+1≤900000:=by simp only[lA,lB];omega
    subst ea;have HTB:=HT
    have HT:Hid (∀ u,w1.grownBy u v.ownBlock→(fun u=>Sev q (.int .i64 k) (.int .i64 n) (.slice a1 l1 c1) (.slice a2 l2 c2) (.slice a3 l3 c3) (.slice (some ⟨b,o,none⟩) l4 c4) (.slice a5 l5 c5) u∧CelE u b (o+j * 7) (.int .i64 pp.k) (.int .i64 pp.n) (.slice b1 m1 n1) (.slice b2 m2 n2) (.slice b3 m3 n3) (.slice b4 m4 n4) (.slice b5 m5 n5)) u):=fun u hu=>⟨HTB.out u hu,hcel.le (cle_belowK (BL.out u hu))⟩
    clear HTB HR hokR hP hin hnd hR2 hoR e9;go_upto_region 31 with fail;have AD:Hid (SayG _ _ _ _ _ wr.drew):=AL.out.grown (grown_drew (grf _ none));clear AL x0 x1 x2 x3 x4 x5 x6 hcel;refine wp_region_held_drew (S:=(fun u=>Sev q (.int .i64 k) (.int .i64 n) (.slice a1 l1 c1) (.slice a2 l2 c2) (.slice a3 l3 c3) (.slice (some ⟨b,o,none⟩) l4 c4) (.slice a5 l5 c5) u∧CelE u b (o+j * 7) (.int .i64 pp.k) (.int .i64 pp.n) (.slice b1 m1 n1) (.slice b2 m2 n2) (.slice b3 m3 n3) (.slice b4 m4 n4) (.slice b5 m5 n5))) (by kernel_rfl) (HT.out _ AD.out.gr) (fun hH=>?_);have AL:=AD;clear AD;generalize wr.drew=v0w at *;simp only[List.size_toArray,lB,lC,Nat.reduceAdd,Array.replicate,List.replicate];refine tk 0 ?_;refine tk 3 ?_;refine tk 4 ?_;refine tk 5 ?_;refine tk 6 ?_;refine tk 7 ?_;refine rd 1 rfl (fun K hK=>?_);go_simp;have AN:Hid (SayG _ _ _ _ _ (v0w.alloc (.cells #[.int .u8 32] 5))∧Reads (v0w.alloc (.cells #[.int .u8 32] 5)) (some ⟨v0w.heap.size,0,none⟩) 1 [32]):=⟨AL.out.grown (gal _ _ _),readsOneB v0w 32 5⟩
    clear AL;generalize v0w.alloc (.cells #[.int .u8 32] 5)=ub187 at *;generalize v0w.heap.size=pb188 at *;refine hK.out _ _ (HT.out _ AN.out.1.gr) ?_;clear hK K hH;intro hH;simp only[Act.put,nA,nB,nC,nD,nE,nF];refine rd 2 rfl (fun K hK=>?_);refine step_of rfl (wp_appG _ _ 23 rfl W0.heap.size i0 (.int .u8 0) Tryz.underlying23 hi hz0 hz1 hz2 rfl _ (zs++pre) rfl AN.out.1.own (some ⟨pb188,0,none⟩) 1 1 [32] rfl AN.out.2 (by simp) (by (try simp only[lA,List.length_singleton,lB,lC]);omega) AN.out.1.size ?_);intro vb189 ub190 sb;have AL:Hid (SayG _ _ _ vb189 ((zs++pre)++[32]) ub190):=AN.out.1.trans sb;clear AN sb;refine hK.out _ _ (HT.out _ AL.out.gr) ?_;clear hK K hH;intro hH;simp only[Act.put,nA,nB,nC,nD,nE,nF];refine rd 8 rfl (fun K hK=>?_);go_simp;refine Calls.mono (CCk.out vb189 ((zs++pre)++[32]) ub190 (BL.out _ AL.out.gr) AL.out.own (by (try simp only[lA,List.length_singleton,lB,lC]);omega)) ?_
    rintro e ub192 ⟨vb191,he,sb⟩;subst he;have AN:Hid (SayG _ _ _ vb191 (((zs++pre)++[32])++(exX pp kk aa)) ub192):=AL.out.trans sb;clear AL sb;have AL:=AN;clear AN;refine hK.out _ _ (HT.out _ AL.out.gr) ?_;clear hK K hH;intro hH;simp only[Act.put,nA,nB,nC,nD,nE,nF];refine tk 9 ?_;refine wpAnyH_done (by kernel_rfl) ?_ _;clear hH HT;have AN9:Hid (SayG W0.heap.size w1 v vb191 (zs++(pre++32::exX pp kk aa)) ub192):=AL.out.as (by simp);clear AL;go_wp2;go_roundw
    case rel=>exact ⟨vb191,j+1,R',pre++32::exX pp kk aa,rfl,by omega,by go_num,by omega,by omega,hus',FX,AN9⟩
    case measure=>simp [intOf];omega
   ·
    obtain rfl:j=l4:=by omega
    obtain rfl:R = .nil:=GE.nil_of_len (by omega);obtain ⟨-,-,hP⟩:=HR.out;simp only[exL,blz,List.append_nil] at hP;simp only[exL,blz,lC] at hus;have EP:Hid (pre=hdB++blz ks):=hP;clear HR hP;go_wp2;clear x0 x1 x2 x3 x4 x5 x6
    go_loopw [0,6] (fun vv i wr=>∃ (va:Value) (j:Nat) (R:GE) (pre:List Int),va=vv∧j≤l5∧i = .int .i64 j∧R.len+j=l5∧R.cnt≤alts.cnt∧zs.length+pre.length+(blz (exL true R)).length+1≤900000∧Hid ((R = .nil∨∃ b o,a5=some ⟨b,o,none⟩∧InGE W0 W0 true R b (o+j * 9))∧okG R (d - 1)=true∧badA R=false∧pre++blz (exL true R)=hdB++blz ks++blz rs)∧Hid (SayG W0.heap.size w1 v va (zs++pre) wr)) (fun _ i _=>l5 - (intOf i).toNat)
    case atStart =>
     refine ⟨_,0,alts,pre,rfl,Nat.zero_le _,rfl,by omega,Nat.le_refl _,by rw[HKS.out.2];omega,⟨?_,HA.out.2.1,HA.out.2.2,by rw[HKS.out.2,EP.out]⟩,AL⟩;rcases HA.out.1.cases with ⟨-,e⟩|⟨b,o,e,hin,-⟩
     ·
      exact .inl e
     ·
      exact .inr ⟨b,o,e,by simpa using hin⟩
    case round=>as_aux_lemma =>
     clear AL EP hus;obtain ⟨va,j,R,pre,rfl,hj,rfl,hRl,hRc,hus,HR,AL⟩:=hrel;obtain ⟨x0,x1,x2,x3,x4,x5,x6⟩:=HT.out _ AL.out.gr;by_cases hlt:j < l5
     ·
      have hlt':(j:Int) < l5:=by omega
      obtain ⟨q',hq'⟩:∃ q',R.len=q' + 1:=⟨R.len - 1,by omega⟩;obtain ⟨hR,hokR,hbad,hP⟩:=HR.out;rcases hR with e|⟨b,o,ea,hin⟩
      ·
       rw[e] at hq';simp [GE.len] at hq'
      obtain ⟨hc,hv,pp,kk,aa,R',rfl,hR'⟩:=GE.cons_of_len hq';simp only[GE.cnt] at hRc;simp only[GE.len] at hRl;have hoR:=okG_one hokR;have hbb:(!armV hc hv || badA R')=false:=hbad;simp only[Bool.or_eq_false_iff,Bool.not_eq_false'] at hbb;have haf:=armV_facts hbb.1;obtain ⟨e0,q0,d0,e1,q1,d1,b1,m1,n1,b2,m2,n2,b3,m3,n3,b4,m4,n4,b5,m5,n5,hhd,hgd,hcel,hnd,hR2⟩:=hin.alt;rw[show o+j * 9+9=o+(j+1) * 9 by omega] at hR2;have e9:blz (exL true (GE.cons hc hv pp kk aa R'))=32::armX hc hv (exX pp kk aa)++blz (exL true R'):=rfl;rw[e9] at hus hP;simp only[lA,lB] at hus
      have CCb:Hid (∀ v0 z0 u0,Below W0.heap.size W0 u0→u0.ownsRow W0.heap.size 5 1 v0 z0.length (vals z0)→z0.length+(exX pp kk aa).length≤900000→_):=fun v0 z0 u0 h1 h2 h3=>IH.out pp kk aa b1 m1 n1 b2 m2 n2 b3 m3 n3 b4 m4 n4 b5 m5 n5 v0 z0 u0 (d - 1) (by omega) hnd hoR.1 h1 h2 h3
      have FX:Hid ((R' = .nil∨∃ b o,a5=some ⟨b,o,none⟩∧InGE W0 W0 true R' b (o+(j+1) * 9))∧okG R' (d - 1)=true∧badA R' = false∧(pre++32::armX hc hv (exX pp kk aa))++blz (exL true R')=hdB++blz ks++blz rs):=⟨.inr ⟨b,o,ea,hR2⟩,hoR.2,hbb.2,by rw[← hP];simp⟩
      have hus':zs.length+(pre++32::armX hc hv (exX pp kk aa)).length+(blz (exL true R')).length+1≤900000:=by simp only[lA,lB];omega
      have HHC:Hid (∀ u,Below W0.heap.size W0 u→Reads u e0 q0 hc):=fun u hu=>(hgd.1.le (cle_belowK hu)).1
      have hcl:hc.length=q0:=hgd.1.1.1;have hvl:hv.length=q1:=hgd.2.1.1;have hvb:q1≤9223372036854775807:=hgd.2.1.2.1;have HVS:Hid (SlSS W0 e1 q1 hv∧ArF hc hv):=⟨hgd.2.1,haf⟩;have hcs:=haf.short;have hfew:=haf.few;have hbl:=haf.len;obtain ⟨us,husd⟩:∃ us,(if hc.length=0 then [(95:Int)] else [])=us:=⟨_,rfl⟩
      have EU:Hid ([40]++(us++hc)++blz hv++[32]++exX pp kk aa++[41]=armX hc hv (exX pp kk aa)∧(hc.length=0→us=[95])∧(hc.length≠0→us=[])):=by
       refine ⟨?_,fun e=>by rw[← husd,if_pos e],fun e=>by rw[← husd,if_neg e]⟩;unfold armX;by_cases e:hc.length=0
       ·
        rw[← husd,if_pos e,if_pos e,nil_of0 e];rfl
       ·
        rw[← husd,if_neg e,if_neg e];simp
      have hul:us.length≤1:=by rw[← husd];split <;> simp
      have hax:=congrArg List.length EU.out.1;simp only[lA,List.length_singleton] at hax;obtain ⟨k0,k1⟩:=hhd.le (cle_belowK (BL.out _ AL.out.gr));obtain ⟨k2,k3,k4,k5,k6,k7,k8⟩:=hcel.le (cle_belowK (BL.out _ AL.out.gr));have ga:=gal wr (.cells #[.slice e0 q0 d0,.slice e1 q1 d1,.int .i64 pp.k,.int .i64 pp.n,.slice b1 m1 n1,.slice b2 m2 n2,.slice b3 m3 n3,.slice b4 m4 n4,.slice b5 m5 n5] 87) none;have ba:=heap_alloc_new wr (.cells #[.slice e0 q0 d0,.slice e1 q1 d1,.int .i64 pp.k,.int .i64 pp.n,.slice b1 m1 n1,.slice b2 m2 n2,.slice b3 m3 n3,.slice b4 m4 n4,.slice b5 m5 n5] 87);obtain ⟨⟨t0,t1,t2,t3,t4,t5,t6,t7,t8⟩,hfz⟩:=blkEA ba;have rf:=hfz 0;have H7:Hid (SayG W0.heap.size w1 v va (zs++pre) (wr.alloc (.cells #[.slice e0 q0 d0,.slice e1 q1 d1,.int .i64 pp.k,.int .i64 pp.n,.slice b1 m1 n1,.slice b2 m2 n2,.slice b3 m3 n3,.slice b4 m4 n4,.slice b5 m5 n5] 87))):=AL.out.grown ga;have hfar:=AL.out.far
      have HT7:Hid (∀ u,(wr.alloc (.cells #[.slice e0 q0 d0,.slice e1 q1 d1,.int .i64 pp.k,.int .i64 pp.n,.slice b1 m1 n1,.slice b2 m2 n2,.slice b3 m3 n3,.slice b4 m4 n4,.slice b5 m5 n5] 87)).grownBy u va.ownBlock→Nin wr.heap.size (.slice e0 q0 d0) (.slice e1 q1 d1) (.int .i64 pp.k) (.int .i64 pp.n) (.slice b1 m1 n1) (.slice b2 m2 n2) (.slice b3 m3 n3) (.slice b4 m4 n4) (.slice b5 m5 n5) u):=fun u hu=>(blkEA ((hu.block _ (lt_of_block ba) (fun e=>hfar e.symm)).trans ba)).1
      have BL7:Hid (∀ u,(wr.alloc (.cells #[.slice e0 q0 d0,.slice e1 q1 d1,.int .i64 pp.k,.int .i64 pp.n,.slice b1 m1 n1,.slice b2 m2 n2,.slice b3 m3 n3,.slice b4 m4 n4,.slice b5 m5 n5] 87)).grownBy u va.ownBlock→Below W0.heap.size W0 u):=fun u hu=>BL.out u (H7.out.ext hu)
      have A7:Hid (SayG W0.heap.size (wr.alloc (.cells #[.slice e0 q0 d0,.slice e1 q1 d1,.int .i64 pp.k,.int .i64 pp.n,.slice b1 m1 n1,.slice b2 m2 n2,.slice b3 m3 n3,.slice b4 m4 n4,.slice b5 m5 n5] 87)) va va (zs++pre) (wr.alloc (.cells #[.slice e0 q0 d0,.slice e1 q1 d1,.int .i64 pp.k,.int .i64 pp.n,.slice b1 m1 n1,.slice b2 m2 n2,.slice b3 m3 n3,.slice b4 m4 n4,.slice b5 m5 n5] 87))):=H7.out.re;clear HR hokR hbad hP hin hcel hnd hR2 hoR e9 hbb hhd hgd haf hfz husd hfar ga ba;subst ea;go_upto_region 36 with fail;clear k0 k1 k2 k3 k4 k5 k6 k7 k8 t0 t1 t2 t3 t4 t5 t6 t7 t8 rf AL x0 x1 x2 x3 x4 x5 x6;generalize wr.alloc (.cells #[.slice e0 q0 d0,.slice e1 q1 d1,.int .i64 pp.k,.int .i64 pp.n,.slice b1 m1 n1,.slice b2 m2 n2,.slice b3 m3 n3,.slice b4 m4 n4,.slice b5 m5 n5] 87)=w7 at *;generalize wr.heap.size=q7 at *;obtain ⟨t0,t1,t2,t3,t4,t5,t6,t7,t8⟩:=HT7.out _ A7.out.gr;go_upto_region 37 with (at_builtin;go_must (refine wpList_strG rfl _ _ 23 9 rfl W0.heap.size i0 Tryz.underlying23 Tryz.underlying9 hi hz0 hz1 hz2 va (zs++pre) rfl A7.out.own _ [32,40] rfl rfl (by (try simp only[lA,List.length_singleton,lB,lC]);omega) A7.out.size ?_);intro v3 u3 s3)
      have A8:Hid (SayG W0.heap.size w7 va v3 (zs++pre++[32,40]) u3):=A7.out.trans s3;clear A7 s3 t0 t1 t2 t3 t4 t5 t6 t7 t8;obtain ⟨t0,t1,t2,t3,t4,t5,t6,t7,t8⟩:=HT7.out _ A8.out.gr;obtain ⟨bz,hbz⟩:∃ bz,((q0:Int) == 0)=bz:=⟨_,rfl⟩
      have HBZ:Hid ((bz=true→us=[95])∧(bz=false→us=[])):=by
       refine ⟨fun e=>EU.out.2.1 ?_,fun e=>EU.out.2.2 ?_⟩
       ·
        rw[e] at hbz;have:(q0:Int)=0:=by simpa using hbz
        omega
       ·
        rw[e] at hbz;have:¬ (q0:Int)=0:=by simpa using hbz
        omega
      go_upto_if 171 with fail;clear hbz
      go_cut [0] (fun s0 wx=>∃ v4,v4=s0∧Hid (SayG W0.heap.size w7 va v4 (zs++pre++[32,40]++us) wx))
      case first=>as_aux_lemma =>
       cases bz with
       | true =>
        have eus:=HBZ.out.1 rfl;have ga:=gal u3 (.cells #[.int .u8 95] 5) none;have AN:Hid (SayG W0.heap.size w7 va v3 (zs++pre++[32,40]) (u3.alloc (.cells #[.int .u8 95] 5))∧Reads (u3.alloc (.cells #[.int .u8 95] 5)) (some ⟨u3.heap.size,0,none⟩) 1 [95]):=⟨A8.out.grown ga,readsOneB u3 95 5⟩;have EUS:Hid (us=[95]):=eus;clear ga A8 eus;go_wp2_with (at_builtin;go_must (refine wpList_appG rfl _ _ 23 rfl W0.heap.size i0 (.int .u8 0) Tryz.underlying23 hi hz0 hz1 hz2 rfl v3 (zs++pre++[32,40]) rfl AN.out.1.own (some ⟨u3.heap.size,0,none⟩) 1 1 [95] rfl AN.out.2 (by simp) (by (try simp only[lA,List.length_singleton,lB,lC]);omega) AN.out.1.size ?_);intro v9 u9 s9);go_meet;exact ⟨v9,rfl,by rw[EUS.out];exact AN.out.1.trans s9⟩
       | false =>
        have EUS:Hid (us=[]):=HBZ.out.2 rfl;go_wp2_with fail;go_meet;exact ⟨v3,rfl,by rw[EUS.out];exact A8.out.as (by simp)⟩
      case rest =>
      obtain ⟨v4,rfl,A9⟩:=hcut;clear A8 t0 t1 t2 t3 t4 t5 t6 t7 t8 HBZ;obtain ⟨t0,t1,t2,t3,t4,t5,t6,t7,t8⟩:=HT7.out _ A9.out.gr;go_upto_region 40 with (at_builtin;go_must (refine wpList_appN rfl _ _ 23 rfl W0.heap.size i0 (.int .u8 0) Tryz.underlying23 hi hz0 hz1 hz2 rfl v4 (zs++pre++[32,40]++us) rfl A9.out.own e0 q0 d0 hc rfl (HHC.out _ (BL7.out _ A9.out.gr)) (Or.inl (by simp)) (by (try simp only[lA,List.length_singleton,lB,lC]);omega) A9.out.size ?_);intro v5 u5 s5);obtain ⟨P5,hP5⟩:∃ P5,P5=pre++([32,40]++(us++hc)):=⟨_,rfl⟩;have EP5:Hid (P5=pre++([32,40]++(us++hc))):=hP5;have hp5:=congrArg List.length hP5;simp only[lA,lB,lC] at hp5;have A10:Hid (SayG W0.heap.size w7 va v5 (zs++P5) u5):=(A9.out.trans s5).as (by rw[hP5];simp);clear A9 s5 hP5 t0 t1 t2 t3 t4 t5 t6 t7 t8;obtain ⟨t0,t1,t2,t3,t4,t5,t6,t7,t8⟩:=HT7.out _ A10.out.gr;go_wp2;clear t0 t1 t2 t3 t4 t5 t6 t7 t8
      go_loopw [0,8] (fun vv i wr=>∃ (vx:Value) (j2:Nat) (R2:List (List Int)) (pr2:List Int),vx=vv∧j2≤q1∧i = .int .i64 j2∧R2.length+j2=q1∧pr2.length+(blz R2).length=P5.length+(blz hv).length∧Hid ((R2=[]∨∃ b o,e1=some ⟨b,o,none⟩∧InSS W0 W0 R2 b (o+j2))∧pr2++blz R2=P5++blz hv)∧Hid (SayG W0.heap.size w7 va vx (zs++pr2) wr)) (fun _ i _=>q1 - (intOf i).toNat)
      case atStart =>
       refine ⟨_,0,hv,P5,rfl,Nat.zero_le _,rfl,by omega,rfl,⟨?_,rfl⟩,A10⟩;rcases HVS.out.1.cases with ⟨-,e⟩|⟨b,o,e,hin,-⟩
       ·
        exact .inl e
       ·
        exact .inr ⟨b,o,e,by simpa using hin⟩
      case round=>as_aux_lemma =>
       clear A10;obtain ⟨vx,j2,R2,pr2,rfl,hj2,rfl,hRl2,hpl2,HR2,AL⟩:=hrel;obtain ⟨t0,t1,t2,t3,t4,t5,t6,t7,t8⟩:=HT7.out _ AL.out.gr;by_cases hlt2:j2 < q1
       ·
        have hlt2':(j2:Int) < q1:=by omega
        obtain ⟨y,R3,rfl⟩:∃ y R3,R2=y::R3:=by
         cases R2 with
         | nil=>simp at hRl2;omega
         | cons y R3=>exact ⟨y,R3,rfl⟩
        obtain ⟨hin,hP⟩:=HR2.out;rcases hin with e|⟨bv,ov,ea,hin⟩
        ·
         cases e
        obtain ⟨⟨a9,n9,c9,z0,hRn⟩,hin2⟩:=hin;rw[show ov+j2+1=ov+(j2+1) by omega] at hin2
        have HY9:Hid (∀ u,Below W0.heap.size W0 u→Reads u a9 n9 y):=fun u hu=>(hRn.le (cle_belowK hu)).1
        have hyl:y.length=n9:=hRn.1.1;have e9:blz (y::R3)=32::y++blz R3:=rfl;rw[e9] at hpl2 hP;simp only[lA,lB] at hpl2;have FX2:Hid ((R3=[]∨∃ b o,e1=some ⟨b,o,none⟩∧InSS W0 W0 R3 b (o+(j2+1)))∧(pr2++32::y)++blz R3=P5++blz hv):=⟨.inr ⟨bv,ov,ea,hin2⟩,by rw[← hP];simp⟩
        have hpl3:(pr2++32::y).length+(blz R3).length=P5.length+(blz hv).length:=by simp only[lA,lB];omega
        subst ea
        have HT8:Hid (∀ u,w7.grownBy u va.ownBlock→(fun u=>Nin q7 (.slice e0 q0 d0) (.slice (some ⟨bv,ov,none⟩) q1 d1) (.int .i64 pp.k) (.int .i64 pp.n) (.slice b1 m1 n1) (.slice b2 m2 n2) (.slice b3 m3 n3) (.slice b4 m4 n4) (.slice b5 m5 n5) u∧u.cell? ⟨bv,ov+j2,none⟩=some (.slice a9 n9 c9)) u):=fun u hu=>⟨HT7.out u hu,cle_belowK (BL7.out u hu) _ _ z0⟩
        clear HR2 hP hin2 hRn e9;clear HT BL;have HT:=HT8;have BL:=BL7;go_upto_region 43 with fail;have AD:Hid (SayG _ _ _ _ _ wr.drew):=AL.out.grown (grown_drew (grf _ none));clear AL t0 t1 t2 t3 t4 t5 t6 t7 t8 z0;refine wp_region_held_drew (S:=(fun u=>Nin q7 (.slice e0 q0 d0) (.slice (some ⟨bv,ov,none⟩) q1 d1) (.int .i64 pp.k) (.int .i64 pp.n) (.slice b1 m1 n1) (.slice b2 m2 n2) (.slice b3 m3 n3) (.slice b4 m4 n4) (.slice b5 m5 n5) u∧u.cell? ⟨bv,ov+j2,none⟩=some (.slice a9 n9 c9))) (by kernel_rfl) (HT.out _ AD.out.gr) (fun hH=>?_);have AL:=AD;clear AD;generalize wr.drew=v0w at *;simp only[List.size_toArray,lB,lC,Nat.reduceAdd,Array.replicate,List.replicate];refine tk 0 ?_;refine tk 3 ?_;refine tk 4 ?_;refine tk 5 ?_;refine tk 6 ?_;refine tk 7 ?_;refine rd 1 rfl (fun K hK=>?_);go_simp;have AN:Hid (SayG _ _ _ _ _ (v0w.alloc (.cells #[.int .u8 32] 5))∧Reads (v0w.alloc (.cells #[.int .u8 32] 5)) (some ⟨v0w.heap.size,0,none⟩) 1 [32]):=⟨AL.out.grown (gal _ _ _),readsOneB v0w 32 5⟩
        clear AL;generalize v0w.alloc (.cells #[.int .u8 32] 5)=ub193 at *;generalize v0w.heap.size=pb194 at *;refine hK.out _ _ (HT.out _ AN.out.1.gr) ?_;clear hK K hH;intro hH;simp only[Act.put,nA,nB,nC,nD,nE,nF];refine rd 2 rfl (fun K hK=>?_);refine step_of rfl (wp_appG _ _ 23 rfl W0.heap.size i0 (.int .u8 0) Tryz.underlying23 hi hz0 hz1 hz2 rfl _ (zs++pr2) rfl AN.out.1.own (some ⟨pb194,0,none⟩) 1 1 [32] rfl AN.out.2 (by simp) (by (try simp only[lA,List.length_singleton,lB,lC]);omega) AN.out.1.size ?_);intro vb195 ub196 sb;have AL:Hid (SayG _ _ _ vb195 ((zs++pr2)++[32]) ub196):=AN.out.1.trans sb;clear AN sb;refine hK.out _ _ (HT.out _ AL.out.gr) ?_;clear hK K hH;intro hH;simp only[Act.put,nA,nB,nC,nD,nE,nF];have AN:Hid (SayG _ _ _ _ ((zs++pr2)++[32]) ub196∧True):=⟨AL.out,trivial⟩;clear AL;refine rd 8 rfl (fun K hK=>?_);refine step_of rfl (wp_appN _ _ 23 rfl W0.heap.size i0 (.int .u8 0) Tryz.underlying23 hi hz0 hz1 hz2 rfl _ ((zs++pr2)++[32]) rfl AN.out.1.own a9 n9 c9 y rfl (HY9.out _ (BL.out _ AN.out.1.gr)) (Or.inl (by simp)) (by (try simp only[lA,List.length_singleton,lB,lC]);omega) AN.out.1.size ?_)
        intro vb197 ub198 sb;have AL:Hid (SayG _ _ _ vb197 (((zs++pr2)++[32])++y) ub198):=AN.out.1.trans sb;clear AN sb;refine hK.out _ _ (HT.out _ AL.out.gr) ?_;clear hK K hH;intro hH;simp only[Act.put,nA,nB,nC,nD,nE,nF];refine tk 9 ?_;refine wpAnyH_done (by kernel_rfl) ?_ _;clear hH HT HT8;have AN9:Hid (SayG W0.heap.size w7 va vb197 (zs++(pr2++32::y)) ub198):=AL.out.as (by simp);clear AL;go_wp2;go_roundw
        case rel=>exact ⟨vb197,j2+1,R3,pr2++32::y,rfl,by omega,by go_num,by simp only[lB] at hRl2;omega,hpl3,FX2,AN9⟩
        case measure=>simp [intOf];omega
       ·
        obtain rfl:j2=q1:=by omega
        obtain rfl:R2=[]:=List.eq_nil_of_length_eq_zero (by omega);obtain ⟨-,hP⟩:=HR2.out;simp only[blz,List.append_nil] at hP;simp only[blz,lC] at hpl2
        have EQ2:Hid (pr2=pre++([32,40]++(us++hc))++blz hv):=by show _=_;rw[hP,EP5.out]
        clear HR2 hP HT BL;have HT:=HT7;have BL:=BL7;go_upto_region 44 with fail;have AD:Hid (SayG _ _ _ _ _ wr.drew):=AL.out.grown (grown_drew (grf _ none));clear AL t0 t1 t2 t3 t4 t5 t6 t7 t8;refine wp_region_held_drew (S:=(fun u=>Nin q7 (.slice e0 q0 d0) (.slice e1 j2 d1) (.int .i64 pp.k) (.int .i64 pp.n) (.slice b1 m1 n1) (.slice b2 m2 n2) (.slice b3 m3 n3) (.slice b4 m4 n4) (.slice b5 m5 n5) u)) (by kernel_rfl) (HT.out _ AD.out.gr) (fun hH=>?_);have AL:=AD;clear AD;generalize wr.drew=v0w at *;simp only[List.size_toArray,lB,lC,Nat.reduceAdd,Array.replicate,List.replicate];refine tk 0 ?_;refine tk 3 ?_;refine tk 4 ?_;refine wpAnyH_ready (rs:=[1,6]) (by kernel_rfl) (by simp) ?_;refine AllReadyH.cons rfl (fun K hK=>?_) (AllReadyH.cons rfl (fun K hK=>?_) AllReadyH.nil)
        ·
         skip
         go_simp;have AN:Hid (SayG _ _ _ _ _ (v0w.alloc (.cells #[.int .u8 32] 5))∧Reads (v0w.alloc (.cells #[.int .u8 32] 5)) (some ⟨v0w.heap.size,0,none⟩) 1 [32]):=⟨AL.out.grown (gal _ _ _),readsOneB v0w 32 5⟩;clear AL;generalize v0w.alloc (.cells #[.int .u8 32] 5)=ub199 at *;generalize v0w.heap.size=pb200 at *;refine hK.out _ _ (HT.out _ AN.out.1.gr) ?_;clear hK K hH;intro hH;simp only[Act.put,nA,nB,nC,nD,nE,nF];refine wpAnyH_ready (rs:=[2,6]) (by kernel_rfl) (by simp) ?_;refine AllReadyH.cons rfl (fun K hK=>?_) (AllReadyH.cons rfl (fun K hK=>?_) AllReadyH.nil)
         ·
          skip
          refine step_of rfl (wp_appG _ _ 23 rfl W0.heap.size i0 (.int .u8 0) Tryz.underlying23 hi hz0 hz1 hz2 rfl _ (zs++pr2) rfl AN.out.1.own (some ⟨pb200,0,none⟩) 1 1 [32] rfl AN.out.2 (by simp) (by (try simp only[lA,List.length_singleton,lB,lC]);omega) AN.out.1.size ?_);intro vb203 ub204 sb;have AL:Hid (SayG _ _ _ vb203 ((zs++pr2)++[32]) ub204):=AN.out.1.trans sb;clear AN sb;refine hK.out _ _ (HT.out _ AL.out.gr) ?_;clear hK K hH;intro hH;simp only[Act.put,nA,nB,nC,nD,nE,nF];refine wpAnyH_ready (rs:=[5,6]) (by kernel_rfl) (by simp) ?_;refine AllReadyH.cons rfl (fun K hK=>?_) (AllReadyH.cons rfl (fun K hK=>?_) AllReadyH.nil)
          ·
           skip
           go_simp;refine Calls.mono (CCb.out vb203 ((zs++pr2)++[32]) ub204 (BL.out _ AL.out.gr) AL.out.own (by (try simp only[lA,List.length_singleton,lB,lC]);omega)) ?_;rintro e ub208 ⟨vb207,he,sb⟩;subst he;have AN:Hid (SayG _ _ _ vb207 (((zs++pr2)++[32])++(exX pp kk aa)) ub208):=AL.out.trans sb;clear AL sb;have AL:=AN;clear AN;refine hK.out _ _ (HT.out _ AL.out.gr) ?_;clear hK K hH;intro hH;simp only[Act.put,nA,nB,nC,nD,nE,nF];refine rd 6 rfl (fun K hK=>?_);go_simp;have hfar:=AL.out.far;have gfar:=gal ub208 (.cells #[.int .u8 41] 5) none;have A0:Hid (SayG _ _ _ _ (((zs++pr2)++[32])++(exX pp kk aa)) (ub208.alloc (.cells #[.int .u8 41] 5))):=AL.out.grown gfar
           have HF9:Hid (∀ x,(ub208.alloc (.cells #[.int .u8 41] 5)).grownBy x (vb207).ownBlock→Reads x (some ⟨ub208.heap.size,0,none⟩) 1 [41]):=fun x hx=>readsFar hfar hx
           have HT2:Hid (∀ x,(ub208.alloc (.cells #[.int .u8 41] 5)).grownBy x (vb207).ownBlock→(fun u=>Nin q7 (.slice e0 q0 d0) (.slice e1 j2 d1) (.int .i64 pp.k) (.int .i64 pp.n) (.slice b1 m1 n1) (.slice b2 m2 n2) (.slice b3 m3 n3) (.slice b4 m4 n4) (.slice b5 m5 n5) u) x):=fun x hx=>HT.out x (A0.out.ext hx)
           have BL2:Hid (∀ x,(ub208.alloc (.cells #[.int .u8 41] 5)).grownBy x (vb207).ownBlock→Below W0.heap.size W0 x):=fun x hx=>BL.out x (A0.out.ext hx)
           have AL2:Hid (SayG _ _ _ vb207 (((zs++pr2)++[32])++(exX pp kk aa)) (ub208.alloc (.cells #[.int .u8 41] 5))):=A0.out.re;clear AL HT BL hfar gfar;have AL:=AL2;clear AL2;have HT:=HT2;have BL:=BL2;clear HT2 BL2;generalize ub208.alloc (.cells #[.int .u8 41] 5)=uf211 at *;generalize ub208.heap.size=pf212 at *;refine hK.out _ _ (HT.out _ AL.out.gr) ?_;clear hK K hH;intro hH;simp only[Act.put,nA,nB,nC,nD,nE,nF];have AN:Hid (SayG _ _ _ _ (((zs++pr2)++[32])++(exX pp kk aa)) uf211∧Reads uf211 (some ⟨pf212,0,none⟩) 1 [41]):=⟨AL.out,HF9.out _ AL.out.gr⟩;clear AL;refine rd 7 rfl (fun K hK=>?_);refine step_of rfl (wp_appG _ _ 23 rfl W0.heap.size i0 (.int .u8 0) Tryz.underlying23 hi hz0 hz1 hz2 rfl _ (((zs++pr2)++[32])++(exX pp kk aa)) rfl AN.out.1.own (some ⟨pf212,0,none⟩) 1 1 [41] rfl AN.out.2 (by simp) (by (try simp only[lA,List.length_singleton,lB,lC]);omega) AN.out.1.size ?_);intro vb213 ub214 sb
           have AL:Hid (SayG _ _ _ vb213 ((((zs++pr2)++[32])++(exX pp kk aa))++[41]) ub214):=AN.out.1.trans sb;clear AN sb;refine hK.out _ _ (HT.out _ AL.out.gr) ?_;clear hK K hH;intro hH;simp only[Act.put,nA,nB,nC,nD,nE,nF];refine tk 8 ?_;refine wpAnyH_done (by kernel_rfl) ?_ _;clear hH;have AN9:Hid (SayG W0.heap.size w1 v vb213 (zs++(pre++32::armX hc hv (exX pp kk aa))) ub214):=(H7.out.trans (A0.out.trans AL.out)).as (by rw[← EU.out.1,EQ2.out];simp);clear AL HT BL A0;go_wp2;go_roundw
           case rel=>exact ⟨vb213,j+1,R',pre++32::armX hc hv (exX pp kk aa),rfl,by omega,by go_num,by omega,by omega,hus',FX,AN9⟩
           case measure=>simp [intOf];omega
          ·
           skip
           go_simp;have hfar:=AL.out.far;have gfar:=gal ub204 (.cells #[.int .u8 41] 5) none;have A0:Hid (SayG _ _ _ _ ((zs++pr2)++[32]) (ub204.alloc (.cells #[.int .u8 41] 5))):=AL.out.grown gfar
           have HF9:Hid (∀ x,(ub204.alloc (.cells #[.int .u8 41] 5)).grownBy x (vb203).ownBlock→Reads x (some ⟨ub204.heap.size,0,none⟩) 1 [41]):=fun x hx=>readsFar hfar hx
           have HT2:Hid (∀ x,(ub204.alloc (.cells #[.int .u8 41] 5)).grownBy x (vb203).ownBlock→(fun u=>Nin q7 (.slice e0 q0 d0) (.slice e1 j2 d1) (.int .i64 pp.k) (.int .i64 pp.n) (.slice b1 m1 n1) (.slice b2 m2 n2) (.slice b3 m3 n3) (.slice b4 m4 n4) (.slice b5 m5 n5) u) x):=fun x hx=>HT.out x (A0.out.ext hx)
           have BL2:Hid (∀ x,(ub204.alloc (.cells #[.int .u8 41] 5)).grownBy x (vb203).ownBlock→Below W0.heap.size W0 x):=fun x hx=>BL.out x (A0.out.ext hx)
           have AL2:Hid (SayG _ _ _ vb203 ((zs++pr2)++[32]) (ub204.alloc (.cells #[.int .u8 41] 5))):=A0.out.re;clear AL HT BL hfar gfar;have AL:=AL2;clear AL2;have HT:=HT2;have BL:=BL2;clear HT2 BL2;generalize ub204.alloc (.cells #[.int .u8 41] 5)=uf209 at *;generalize ub204.heap.size=pf210 at *;refine hK.out _ _ (HT.out _ AL.out.gr) ?_;clear hK K hH;intro hH;simp only[Act.put,nA,nB,nC,nD,nE,nF];refine rd 5 rfl (fun K hK=>?_);go_simp;refine Calls.mono (CCb.out vb203 ((zs++pr2)++[32]) uf209 (BL.out _ AL.out.gr) AL.out.own (by (try simp only[lA,List.length_singleton,lB,lC]);omega)) ?_;rintro e ub216 ⟨vb215,he,sb⟩;subst he;have AN:Hid (SayG _ _ _ vb215 (((zs++pr2)++[32])++(exX pp kk aa)) ub216):=AL.out.trans sb;clear AL sb;have AL:=AN;clear AN;refine hK.out _ _ (HT.out _ AL.out.gr) ?_;clear hK K hH;intro hH;simp only[Act.put,nA,nB,nC,nD,nE,nF];have AN:Hid (SayG _ _ _ _ (((zs++pr2)++[32])++(exX pp kk aa)) ub216∧Reads ub216 (some ⟨pf210,0,none⟩) 1 [41]):=⟨AL.out,HF9.out _ AL.out.gr⟩
           clear AL;refine rd 7 rfl (fun K hK=>?_);refine step_of rfl (wp_appG _ _ 23 rfl W0.heap.size i0 (.int .u8 0) Tryz.underlying23 hi hz0 hz1 hz2 rfl _ (((zs++pr2)++[32])++(exX pp kk aa)) rfl AN.out.1.own (some ⟨pf210,0,none⟩) 1 1 [41] rfl AN.out.2 (by simp) (by (try simp only[lA,List.length_singleton,lB,lC]);omega) AN.out.1.size ?_);intro vb217 ub218 sb;have AL:Hid (SayG _ _ _ vb217 ((((zs++pr2)++[32])++(exX pp kk aa))++[41]) ub218):=AN.out.1.trans sb;clear AN sb;refine hK.out _ _ (HT.out _ AL.out.gr) ?_;clear hK K hH;intro hH;simp only[Act.put,nA,nB,nC,nD,nE,nF];refine tk 8 ?_;refine wpAnyH_done (by kernel_rfl) ?_ _;clear hH;have AN9:Hid (SayG W0.heap.size w1 v vb217 (zs++(pre++32::armX hc hv (exX pp kk aa))) ub218):=(H7.out.trans (A0.out.trans AL.out)).as (by rw[← EU.out.1,EQ2.out];simp);clear AL HT BL A0;go_wp2;go_roundw
           case rel=>exact ⟨vb217,j+1,R',pre++32::armX hc hv (exX pp kk aa),rfl,by omega,by go_num,by omega,by omega,hus',FX,AN9⟩
           case measure=>simp [intOf];omega
         ·
          skip
          go_simp;have hfar:=AN.out.1.far;have gfar:=gal ub199 (.cells #[.int .u8 41] 5) none;have A0:Hid (SayG _ _ _ _ (zs++pr2) (ub199.alloc (.cells #[.int .u8 41] 5))):=AN.out.1.grown gfar
          have HF9:Hid (∀ x,(ub199.alloc (.cells #[.int .u8 41] 5)).grownBy x (vx).ownBlock→Reads x (some ⟨ub199.heap.size,0,none⟩) 1 [41]):=fun x hx=>readsFar hfar hx
          have HT2:Hid (∀ x,(ub199.alloc (.cells #[.int .u8 41] 5)).grownBy x (vx).ownBlock→(fun u=>Nin q7 (.slice e0 q0 d0) (.slice e1 j2 d1) (.int .i64 pp.k) (.int .i64 pp.n) (.slice b1 m1 n1) (.slice b2 m2 n2) (.slice b3 m3 n3) (.slice b4 m4 n4) (.slice b5 m5 n5) u) x):=fun x hx=>HT.out x (A0.out.ext hx)
          have BL2:Hid (∀ x,(ub199.alloc (.cells #[.int .u8 41] 5)).grownBy x (vx).ownBlock→Below W0.heap.size W0 x):=fun x hx=>BL.out x (A0.out.ext hx)
          have AN2:Hid (SayG _ _ _ vx (zs++pr2) (ub199.alloc (.cells #[.int .u8 41] 5))∧Reads (ub199.alloc (.cells #[.int .u8 41] 5)) (some ⟨pb200,0,none⟩) 1 [32]):=⟨A0.out.re,readsG AN.out.2 gfar⟩;clear AN HT BL hfar gfar;have AN:=AN2;clear AN2;have HT:=HT2;have BL:=BL2;clear HT2 BL2;generalize ub199.alloc (.cells #[.int .u8 41] 5)=uf205 at *;generalize ub199.heap.size=pf206 at *;refine hK.out _ _ (HT.out _ AN.out.1.gr) ?_;clear hK K hH;intro hH;simp only[Act.put,nA,nB,nC,nD,nE,nF];refine rd 2 rfl (fun K hK=>?_);refine step_of rfl (wp_appG _ _ 23 rfl W0.heap.size i0 (.int .u8 0) Tryz.underlying23 hi hz0 hz1 hz2 rfl _ (zs++pr2) rfl AN.out.1.own (some ⟨pb200,0,none⟩) 1 1 [32] rfl AN.out.2 (by simp) (by (try simp only[lA,List.length_singleton,lB,lC]);omega) AN.out.1.size ?_);intro vb219 ub220 sb;have AL:Hid (SayG _ _ _ vb219 ((zs++pr2)++[32]) ub220):=AN.out.1.trans sb;clear AN sb;refine hK.out _ _ (HT.out _ AL.out.gr) ?_
          clear hK K hH;intro hH;simp only[Act.put,nA,nB,nC,nD,nE,nF];refine rd 5 rfl (fun K hK=>?_);go_simp;refine Calls.mono (CCb.out vb219 ((zs++pr2)++[32]) ub220 (BL.out _ AL.out.gr) AL.out.own (by (try simp only[lA,List.length_singleton,lB,lC]);omega)) ?_;rintro e ub222 ⟨vb221,he,sb⟩;subst he;have AN:Hid (SayG _ _ _ vb221 (((zs++pr2)++[32])++(exX pp kk aa)) ub222):=AL.out.trans sb;clear AL sb;have AL:=AN;clear AN;refine hK.out _ _ (HT.out _ AL.out.gr) ?_;clear hK K hH;intro hH;simp only[Act.put,nA,nB,nC,nD,nE,nF];have AN:Hid (SayG _ _ _ _ (((zs++pr2)++[32])++(exX pp kk aa)) ub222∧Reads ub222 (some ⟨pf206,0,none⟩) 1 [41]):=⟨AL.out,HF9.out _ AL.out.gr⟩;clear AL;refine rd 7 rfl (fun K hK=>?_);refine step_of rfl (wp_appG _ _ 23 rfl W0.heap.size i0 (.int .u8 0) Tryz.underlying23 hi hz0 hz1 hz2 rfl _ (((zs++pr2)++[32])++(exX pp kk aa)) rfl AN.out.1.own (some ⟨pf206,0,none⟩) 1 1 [41] rfl AN.out.2 (by simp) (by (try simp only[lA,List.length_singleton,lB,lC]);omega) AN.out.1.size ?_)
          intro vb223 ub224 sb;have AL:Hid (SayG _ _ _ vb223 ((((zs++pr2)++[32])++(exX pp kk aa))++[41]) ub224):=AN.out.1.trans sb;clear AN sb;refine hK.out _ _ (HT.out _ AL.out.gr) ?_;clear hK K hH;intro hH;simp only[Act.put,nA,nB,nC,nD,nE,nF];refine tk 8 ?_;refine wpAnyH_done (by kernel_rfl) ?_ _;clear hH;have AN9:Hid (SayG W0.heap.size w1 v vb223 (zs++(pre++32::armX hc hv (exX pp kk aa))) ub224):=(H7.out.trans (A0.out.trans AL.out)).as (by rw[← EU.out.1,EQ2.out];simp);clear AL HT BL A0;go_wp2;go_roundw
          case rel=>exact ⟨vb223,j+1,R',pre++32::armX hc hv (exX pp kk aa),rfl,by omega,by go_num,by omega,by omega,hus',FX,AN9⟩
          case measure=>simp [intOf];omega
        ·
         skip
         go_simp;have hfar:=AL.out.far;have gfar:=gal v0w (.cells #[.int .u8 41] 5) none;have A0:Hid (SayG _ _ _ _ (zs++pr2) (v0w.alloc (.cells #[.int .u8 41] 5))):=AL.out.grown gfar
         have HF9:Hid (∀ x,(v0w.alloc (.cells #[.int .u8 41] 5)).grownBy x (vx).ownBlock→Reads x (some ⟨v0w.heap.size,0,none⟩) 1 [41]):=fun x hx=>readsFar hfar hx
         have HT2:Hid (∀ x,(v0w.alloc (.cells #[.int .u8 41] 5)).grownBy x (vx).ownBlock→(fun u=>Nin q7 (.slice e0 q0 d0) (.slice e1 j2 d1) (.int .i64 pp.k) (.int .i64 pp.n) (.slice b1 m1 n1) (.slice b2 m2 n2) (.slice b3 m3 n3) (.slice b4 m4 n4) (.slice b5 m5 n5) u) x):=fun x hx=>HT.out x (A0.out.ext hx)
         have BL2:Hid (∀ x,(v0w.alloc (.cells #[.int .u8 41] 5)).grownBy x (vx).ownBlock→Below W0.heap.size W0 x):=fun x hx=>BL.out x (A0.out.ext hx)
         have AL2:Hid (SayG _ _ _ vx (zs++pr2) (v0w.alloc (.cells #[.int .u8 41] 5))):=A0.out.re;clear AL HT BL hfar gfar;have AL:=AL2;clear AL2;have HT:=HT2;have BL:=BL2;clear HT2 BL2;generalize v0w.alloc (.cells #[.int .u8 41] 5)=uf201 at *;generalize v0w.heap.size=pf202 at *;refine hK.out _ _ (HT.out _ AL.out.gr) ?_;clear hK K hH;intro hH;simp only[Act.put,nA,nB,nC,nD,nE,nF];refine rd 1 rfl (fun K hK=>?_);go_simp;have AN:Hid (SayG _ _ _ _ _ (uf201.alloc (.cells #[.int .u8 32] 5))∧Reads (uf201.alloc (.cells #[.int .u8 32] 5)) (some ⟨uf201.heap.size,0,none⟩) 1 [32]):=⟨AL.out.grown (gal _ _ _),readsOneB uf201 32 5⟩;clear AL;generalize uf201.alloc (.cells #[.int .u8 32] 5)=ub225 at *;generalize uf201.heap.size=pb226 at *;refine hK.out _ _ (HT.out _ AN.out.1.gr) ?_;clear hK K hH;intro hH;simp only[Act.put,nA,nB,nC,nD,nE,nF];refine rd 2 rfl (fun K hK=>?_);refine step_of rfl (wp_appG _ _ 23 rfl W0.heap.size i0 (.int .u8 0) Tryz.underlying23 hi hz0 hz1 hz2 rfl _ (zs++pr2) rfl AN.out.1.own (some ⟨pb226,0,none⟩) 1 1 [32] rfl AN.out.2 (by simp) (by (try simp only[lA,List.length_singleton,lB,lC]);omega) AN.out.1.size ?_)
         intro vb227 ub228 sb;have AL:Hid (SayG _ _ _ vb227 ((zs++pr2)++[32]) ub228):=AN.out.1.trans sb;clear AN sb;refine hK.out _ _ (HT.out _ AL.out.gr) ?_;clear hK K hH;intro hH;simp only[Act.put,nA,nB,nC,nD,nE,nF];refine rd 5 rfl (fun K hK=>?_);go_simp;refine Calls.mono (CCb.out vb227 ((zs++pr2)++[32]) ub228 (BL.out _ AL.out.gr) AL.out.own (by (try simp only[lA,List.length_singleton,lB,lC]);omega)) ?_;rintro e ub230 ⟨vb229,he,sb⟩;subst he;have AN:Hid (SayG _ _ _ vb229 (((zs++pr2)++[32])++(exX pp kk aa)) ub230):=AL.out.trans sb;clear AL sb;have AL:=AN;clear AN;refine hK.out _ _ (HT.out _ AL.out.gr) ?_;clear hK K hH;intro hH;simp only[Act.put,nA,nB,nC,nD,nE,nF];have AN:Hid (SayG _ _ _ _ (((zs++pr2)++[32])++(exX pp kk aa)) ub230∧Reads ub230 (some ⟨pf202,0,none⟩) 1 [41]):=⟨AL.out,HF9.out _ AL.out.gr⟩;clear AL;refine rd 7 rfl (fun K hK=>?_);refine step_of rfl (wp_appG _ _ 23 rfl W0.heap.size i0 (.int .u8 0) Tryz.underlying23 hi hz0 hz1 hz2 rfl _ (((zs++pr2)++[32])++(exX pp kk aa)) rfl AN.out.1.own (some ⟨pf202,0,none⟩) 1 1 [41] rfl AN.out.2 (by simp) (by (try simp only[lA,List.length_singleton,lB,lC]);omega) AN.out.1.size ?_)
         intro vb231 ub232 sb;have AL:Hid (SayG _ _ _ vb231 ((((zs++pr2)++[32])++(exX pp kk aa))++[41]) ub232):=AN.out.1.trans sb;clear AN sb;refine hK.out _ _ (HT.out _ AL.out.gr) ?_;clear hK K hH;intro hH;simp only[Act.put,nA,nB,nC,nD,nE,nF];refine tk 8 ?_;refine wpAnyH_done (by kernel_rfl) ?_ _;clear hH;have AN9:Hid (SayG W0.heap.size w1 v vb231 (zs++(pre++32::armX hc hv (exX pp kk aa))) ub232):=(H7.out.trans (A0.out.trans AL.out)).as (by rw[← EU.out.1,EQ2.out];simp);clear AL HT BL A0;go_wp2;go_roundw
         case rel=>exact ⟨vb231,j+1,R',pre++32::armX hc hv (exX pp kk aa),rfl,by omega,by go_num,by omega,by omega,hus',FX,AN9⟩
         case measure=>simp [intOf];omega
     ·
      obtain rfl:j=l5:=by omega
      obtain rfl:R = .nil:=GE.nil_of_len (by omega);obtain ⟨-,-,-,hP⟩:=HR.out;simp only[exL,blz,List.append_nil] at hP;simp only[exL,blz,lC] at hus
      have EF9:Hid (zs++pre++[41]=zs++saY ⟨k,n,name,arg,lit⟩ ks rs):=by show _=_;rw[EH.out,hP];simp
      clear HR hP;go_upto_region 45 with fail;clear x0 x1 x2 x3 x4 x5 x6;have ga:=gal wr (.cells #[.int .u8 41] 5) none;have AN:Hid (SayG W0.heap.size w1 v va (zs++pre) (wr.alloc (.cells #[.int .u8 41] 5))∧Reads (wr.alloc (.cells #[.int .u8 41] 5)) (some ⟨wr.heap.size,0,none⟩) 1 [41]):=⟨AL.out.grown ga,readsOneB wr 41 5⟩;clear ga AL;go_wp2_with (at_builtin;go_must (refine wpList_appG rfl _ _ 23 rfl W0.heap.size i0 (.int .u8 0) Tryz.underlying23 hi hz0 hz1 hz2 rfl va (zs++pre) rfl AN.out.1.own (some ⟨wr.heap.size,0,none⟩) 1 1 [41] rfl AN.out.2 (by simp) (by (try simp only[lA,List.length_singleton,lB,lC]);omega) AN.out.1.size ?_);intro v9 u9 s9);have FF:Hid (SayG W0.heap.size w v v9 (zs++saY ⟨k,n,name,arg,lit⟩ ks rs) u9):=(H0.out.trans (AN.out.1.trans s9)).as EF9.out;clear AN s9 H0;go_ret;exact ⟨v9,rfl,by rw[HX.out];exact FF.out⟩
 ·
  have EN:Hid (nmB arg=[]):=by show _=_;unfold nmB;rw[if_pos (by omega)]
  have h9n:¬ 0 < l2:=by omega
  clear x0 x1 x2 x3 x4 x5 x6;obtain ⟨hdB,hhd0⟩:∃ hdB,hdB=[40]++hd++nmB name++nmB arg:=⟨_,rfl⟩
  have EH:Hid (saY ⟨k,n,name,arg,lit⟩ ks rs=hdB++blz ks++blz rs++[41]):=by show _=_;rw[EH0.out,hhd0]
  have AN:Hid (SayG W0.heap.size w1 v v6 (zs++hdB) wc):=AL.out.as (by rw[hhd0,EN.out];simp);clear AL hhd0 EH0 hX EN;have AL:=AN;clear AN
  have HL:Hid (zs.length+hdB.length+(blz ks).length+(blz rs).length+1≤900000):=by
   show _≤_
   have:=congrArg List.length EH.out;simp only[lA,List.length_singleton] at this;omega
  obtain ⟨x0,x1,x2,x3,x4,x5,x6⟩:=HT.out _ AL.out.gr;go_wp2;clear x0 x1 x2 x3 x4 x5 x6
  go_loopw [0,5] (fun vv i wr=>∃ (vk:Value) (j:Nat) (R:GE) (pre:List Int),vk=vv∧j≤l4∧i = .int .i64 j∧R.len+j=l4∧R.cnt≤kids.cnt∧zs.length+pre.length+(blz (exL false R)).length+(blz rs).length+1≤900000∧Hid ((R = .nil∨∃ b o,a4=some ⟨b,o,none⟩∧InGE W0 W0 false R b (o+j * 7))∧okG R (d - 1)=true∧pre++blz (exL false R)=hdB++blz ks)∧Hid (SayG W0.heap.size w1 v vk (zs++pre) wr)) (fun _ i _=>l4 - (intOf i).toNat)
  case atStart =>
   refine ⟨_,0,kids,hdB,rfl,Nat.zero_le _,rfl,by omega,Nat.le_refl _,by rw[HKS.out.1];exact HL.out,⟨?_,HK.out.2,by rw[HKS.out.1]⟩,AL⟩;rcases HK.out.1.cases with ⟨-,e⟩|⟨b,o,e,hin,-⟩
   ·
    exact .inl e
   ·
    exact .inr ⟨b,o,e,by simpa using hin⟩
  case round=>as_aux_lemma =>
   clear AL;obtain ⟨vk,j,R,pre,rfl,hj,rfl,hRl,hRc,hus,HR,AL⟩:=hrel;obtain ⟨x0,x1,x2,x3,x4,x5,x6⟩:=HT.out _ AL.out.gr;by_cases hlt:j < l4
   ·
    have hlt':(j:Int) < l4:=by omega
    obtain ⟨q',hq'⟩:∃ q',R.len=q' + 1:=⟨R.len - 1,by omega⟩;obtain ⟨hR,hokR,hP⟩:=HR.out;rcases hR with e|⟨b,o,ea,hin⟩
    ·
     rw[e] at hq';simp [GE.len] at hq'
    obtain ⟨hc,hv,pp,kk,aa,R',rfl,hR'⟩:=GE.cons_of_len hq';simp only[GE.cnt] at hRc;simp only[GE.len] at hRl;have hoR:=okG_one hokR;obtain ⟨-,b1,m1,n1,b2,m2,n2,b3,m3,n3,b4,m4,n4,b5,m5,n5,hcel,hnd,hR2⟩:=hin.kid;rw[show o+j * 7+7=o+(j+1) * 7 by omega] at hR2;have e9:blz (exL false (GE.cons hc hv pp kk aa R'))=32::exX pp kk aa++blz (exL false R'):=rfl;rw[e9] at hus hP;simp only[lA,lB] at hus
    have CCk:Hid (∀ v0 z0 u0,Below W0.heap.size W0 u0→u0.ownsRow W0.heap.size 5 1 v0 z0.length (vals z0)→z0.length+(exX pp kk aa).length≤900000→_):=fun v0 z0 u0 h1 h2 h3=>IH.out pp kk aa b1 m1 n1 b2 m2 n2 b3 m3 n3 b4 m4 n4 b5 m5 n5 v0 z0 u0 (d - 1) (by omega) hnd hoR.1 h1 h2 h3
    have FX:Hid ((R' = .nil∨∃ b o,a4=some ⟨b,o,none⟩∧InGE W0 W0 false R' b (o+(j+1) * 7))∧okG R' (d - 1)=true∧(pre++32::exX pp kk aa)++blz (exL false R')=hdB++blz ks):=⟨.inr ⟨b,o,ea,hR2⟩,hoR.2,by rw[← hP];simp⟩
    have hus':zs.length+(pre++32::exX pp kk aa).length+(blz (exL false R')).length+(blz rs).length+1≤900000:=by simp only[lA,lB];omega
    subst ea;have HTB:=HT
    have HT:Hid (∀ u,w1.grownBy u v.ownBlock→(fun u=>Sev q (.int .i64 k) (.int .i64 n) (.slice a1 l1 c1) (.slice a2 l2 c2) (.slice a3 l3 c3) (.slice (some ⟨b,o,none⟩) l4 c4) (.slice a5 l5 c5) u∧CelE u b (o+j * 7) (.int .i64 pp.k) (.int .i64 pp.n) (.slice b1 m1 n1) (.slice b2 m2 n2) (.slice b3 m3 n3) (.slice b4 m4 n4) (.slice b5 m5 n5)) u):=fun u hu=>⟨HTB.out u hu,hcel.le (cle_belowK (BL.out u hu))⟩
    clear HTB HR hokR hP hin hnd hR2 hoR e9;go_upto_region 31 with fail;have AD:Hid (SayG _ _ _ _ _ wr.drew):=AL.out.grown (grown_drew (grf _ none));clear AL x0 x1 x2 x3 x4 x5 x6 hcel;refine wp_region_held_drew (S:=(fun u=>Sev q (.int .i64 k) (.int .i64 n) (.slice a1 l1 c1) (.slice a2 l2 c2) (.slice a3 l3 c3) (.slice (some ⟨b,o,none⟩) l4 c4) (.slice a5 l5 c5) u∧CelE u b (o+j * 7) (.int .i64 pp.k) (.int .i64 pp.n) (.slice b1 m1 n1) (.slice b2 m2 n2) (.slice b3 m3 n3) (.slice b4 m4 n4) (.slice b5 m5 n5))) (by kernel_rfl) (HT.out _ AD.out.gr) (fun hH=>?_);have AL:=AD;clear AD;generalize wr.drew=v0w at *;simp only[List.size_toArray,lB,lC,Nat.reduceAdd,Array.replicate,List.replicate];refine tk 0 ?_;refine tk 3 ?_;refine tk 4 ?_;refine tk 5 ?_;refine tk 6 ?_;refine tk 7 ?_;refine rd 1 rfl (fun K hK=>?_);go_simp;have AN:Hid (SayG _ _ _ _ _ (v0w.alloc (.cells #[.int .u8 32] 5))∧Reads (v0w.alloc (.cells #[.int .u8 32] 5)) (some ⟨v0w.heap.size,0,none⟩) 1 [32]):=⟨AL.out.grown (gal _ _ _),readsOneB v0w 32 5⟩
    clear AL;generalize v0w.alloc (.cells #[.int .u8 32] 5)=ub233 at *;generalize v0w.heap.size=pb234 at *;refine hK.out _ _ (HT.out _ AN.out.1.gr) ?_;clear hK K hH;intro hH;simp only[Act.put,nA,nB,nC,nD,nE,nF];refine rd 2 rfl (fun K hK=>?_);refine step_of rfl (wp_appG _ _ 23 rfl W0.heap.size i0 (.int .u8 0) Tryz.underlying23 hi hz0 hz1 hz2 rfl _ (zs++pre) rfl AN.out.1.own (some ⟨pb234,0,none⟩) 1 1 [32] rfl AN.out.2 (by simp) (by (try simp only[lA,List.length_singleton,lB,lC]);omega) AN.out.1.size ?_);intro vb235 ub236 sb;have AL:Hid (SayG _ _ _ vb235 ((zs++pre)++[32]) ub236):=AN.out.1.trans sb;clear AN sb;refine hK.out _ _ (HT.out _ AL.out.gr) ?_;clear hK K hH;intro hH;simp only[Act.put,nA,nB,nC,nD,nE,nF];refine rd 8 rfl (fun K hK=>?_);go_simp;refine Calls.mono (CCk.out vb235 ((zs++pre)++[32]) ub236 (BL.out _ AL.out.gr) AL.out.own (by (try simp only[lA,List.length_singleton,lB,lC]);omega)) ?_
    rintro e ub238 ⟨vb237,he,sb⟩;subst he;have AN:Hid (SayG _ _ _ vb237 (((zs++pre)++[32])++(exX pp kk aa)) ub238):=AL.out.trans sb;clear AL sb;have AL:=AN;clear AN;refine hK.out _ _ (HT.out _ AL.out.gr) ?_;clear hK K hH;intro hH;simp only[Act.put,nA,nB,nC,nD,nE,nF];refine tk 9 ?_;refine wpAnyH_done (by kernel_rfl) ?_ _;clear hH HT;have AN9:Hid (SayG W0.heap.size w1 v vb237 (zs++(pre++32::exX pp kk aa)) ub238):=AL.out.as (by simp);clear AL;go_wp2;go_roundw
    case rel=>exact ⟨vb237,j+1,R',pre++32::exX pp kk aa,rfl,by omega,by go_num,by omega,by omega,hus',FX,AN9⟩
    case measure=>simp [intOf];omega
   ·
    obtain rfl:j=l4:=by omega
    obtain rfl:R = .nil:=GE.nil_of_len (by omega);obtain ⟨-,-,hP⟩:=HR.out;simp only[exL,blz,List.append_nil] at hP;simp only[exL,blz,lC] at hus;have EP:Hid (pre=hdB++blz ks):=hP;clear HR hP;go_wp2;clear x0 x1 x2 x3 x4 x5 x6
    go_loopw [0,6] (fun vv i wr=>∃ (va:Value) (j:Nat) (R:GE) (pre:List Int),va=vv∧j≤l5∧i = .int .i64 j∧R.len+j=l5∧R.cnt≤alts.cnt∧zs.length+pre.length+(blz (exL true R)).length+1≤900000∧Hid ((R = .nil∨∃ b o,a5=some ⟨b,o,none⟩∧InGE W0 W0 true R b (o+j * 9))∧okG R (d - 1)=true∧badA R=false∧pre++blz (exL true R)=hdB++blz ks++blz rs)∧Hid (SayG W0.heap.size w1 v va (zs++pre) wr)) (fun _ i _=>l5 - (intOf i).toNat)
    case atStart =>
     refine ⟨_,0,alts,pre,rfl,Nat.zero_le _,rfl,by omega,Nat.le_refl _,by rw[HKS.out.2];omega,⟨?_,HA.out.2.1,HA.out.2.2,by rw[HKS.out.2,EP.out]⟩,AL⟩;rcases HA.out.1.cases with ⟨-,e⟩|⟨b,o,e,hin,-⟩
     ·
      exact .inl e
     ·
      exact .inr ⟨b,o,e,by simpa using hin⟩
    case round=>as_aux_lemma =>
     clear AL EP hus;obtain ⟨va,j,R,pre,rfl,hj,rfl,hRl,hRc,hus,HR,AL⟩:=hrel;obtain ⟨x0,x1,x2,x3,x4,x5,x6⟩:=HT.out _ AL.out.gr;by_cases hlt:j < l5
     ·
      have hlt':(j:Int) < l5:=by omega
      obtain ⟨q',hq'⟩:∃ q',R.len=q' + 1:=⟨R.len - 1,by omega⟩;obtain ⟨hR,hokR,hbad,hP⟩:=HR.out;rcases hR with e|⟨b,o,ea,hin⟩
      ·
       rw[e] at hq';simp [GE.len] at hq'
      obtain ⟨hc,hv,pp,kk,aa,R',rfl,hR'⟩:=GE.cons_of_len hq';simp only[GE.cnt] at hRc;simp only[GE.len] at hRl;have hoR:=okG_one hokR;have hbb:(!armV hc hv || badA R')=false:=hbad;simp only[Bool.or_eq_false_iff,Bool.not_eq_false'] at hbb;have haf:=armV_facts hbb.1;obtain ⟨e0,q0,d0,e1,q1,d1,b1,m1,n1,b2,m2,n2,b3,m3,n3,b4,m4,n4,b5,m5,n5,hhd,hgd,hcel,hnd,hR2⟩:=hin.alt;rw[show o+j * 9+9=o+(j+1) * 9 by omega] at hR2;have e9:blz (exL true (GE.cons hc hv pp kk aa R'))=32::armX hc hv (exX pp kk aa)++blz (exL true R'):=rfl;rw[e9] at hus hP;simp only[lA,lB] at hus
      have CCb:Hid (∀ v0 z0 u0,Below W0.heap.size W0 u0→u0.ownsRow W0.heap.size 5 1 v0 z0.length (vals z0)→z0.length+(exX pp kk aa).length≤900000→_):=fun v0 z0 u0 h1 h2 h3=>IH.out pp kk aa b1 m1 n1 b2 m2 n2 b3 m3 n3 b4 m4 n4 b5 m5 n5 v0 z0 u0 (d - 1) (by omega) hnd hoR.1 h1 h2 h3
      have FX:Hid ((R' = .nil∨∃ b o,a5=some ⟨b,o,none⟩∧InGE W0 W0 true R' b (o+(j+1) * 9))∧okG R' (d - 1)=true∧badA R' = false∧(pre++32::armX hc hv (exX pp kk aa))++blz (exL true R')=hdB++blz ks++blz rs):=⟨.inr ⟨b,o,ea,hR2⟩,hoR.2,hbb.2,by rw[← hP];simp⟩
      have hus':zs.length+(pre++32::armX hc hv (exX pp kk aa)).length+(blz (exL true R')).length+1≤900000:=by simp only[lA,lB];omega
      have HHC:Hid (∀ u,Below W0.heap.size W0 u→Reads u e0 q0 hc):=fun u hu=>(hgd.1.le (cle_belowK hu)).1
      have hcl:hc.length=q0:=hgd.1.1.1;have hvl:hv.length=q1:=hgd.2.1.1;have hvb:q1≤9223372036854775807:=hgd.2.1.2.1;have HVS:Hid (SlSS W0 e1 q1 hv∧ArF hc hv):=⟨hgd.2.1,haf⟩;have hcs:=haf.short;have hfew:=haf.few;have hbl:=haf.len;obtain ⟨us,husd⟩:∃ us,(if hc.length=0 then [(95:Int)] else [])=us:=⟨_,rfl⟩
      have EU:Hid ([40]++(us++hc)++blz hv++[32]++exX pp kk aa++[41]=armX hc hv (exX pp kk aa)∧(hc.length=0→us=[95])∧(hc.length≠0→us=[])):=by
       refine ⟨?_,fun e=>by rw[← husd,if_pos e],fun e=>by rw[← husd,if_neg e]⟩;unfold armX;by_cases e:hc.length=0
       ·
        rw[← husd,if_pos e,if_pos e,nil_of0 e];rfl
       ·
        rw[← husd,if_neg e,if_neg e];simp
      have hul:us.length≤1:=by rw[← husd];split <;> simp
      have hax:=congrArg List.length EU.out.1;simp only[lA,List.length_singleton] at hax;obtain ⟨k0,k1⟩:=hhd.le (cle_belowK (BL.out _ AL.out.gr));obtain ⟨k2,k3,k4,k5,k6,k7,k8⟩:=hcel.le (cle_belowK (BL.out _ AL.out.gr));have ga:=gal wr (.cells #[.slice e0 q0 d0,.slice e1 q1 d1,.int .i64 pp.k,.int .i64 pp.n,.slice b1 m1 n1,.slice b2 m2 n2,.slice b3 m3 n3,.slice b4 m4 n4,.slice b5 m5 n5] 87) none;have ba:=heap_alloc_new wr (.cells #[.slice e0 q0 d0,.slice e1 q1 d1,.int .i64 pp.k,.int .i64 pp.n,.slice b1 m1 n1,.slice b2 m2 n2,.slice b3 m3 n3,.slice b4 m4 n4,.slice b5 m5 n5] 87);obtain ⟨⟨t0,t1,t2,t3,t4,t5,t6,t7,t8⟩,hfz⟩:=blkEA ba;have rf:=hfz 0;have H7:Hid (SayG W0.heap.size w1 v va (zs++pre) (wr.alloc (.cells #[.slice e0 q0 d0,.slice e1 q1 d1,.int .i64 pp.k,.int .i64 pp.n,.slice b1 m1 n1,.slice b2 m2 n2,.slice b3 m3 n3,.slice b4 m4 n4,.slice b5 m5 n5] 87))):=AL.out.grown ga;have hfar:=AL.out.far
      have HT7:Hid (∀ u,(wr.alloc (.cells #[.slice e0 q0 d0,.slice e1 q1 d1,.int .i64 pp.k,.int .i64 pp.n,.slice b1 m1 n1,.slice b2 m2 n2,.slice b3 m3 n3,.slice b4 m4 n4,.slice b5 m5 n5] 87)).grownBy u va.ownBlock→Nin wr.heap.size (.slice e0 q0 d0) (.slice e1 q1 d1) (.int .i64 pp.k) (.int .i64 pp.n) (.slice b1 m1 n1) (.slice b2 m2 n2) (.slice b3 m3 n3) (.slice b4 m4 n4) (.slice b5 m5 n5) u):=fun u hu=>(blkEA ((hu.block _ (lt_of_block ba) (fun e=>hfar e.symm)).trans ba)).1
      have BL7:Hid (∀ u,(wr.alloc (.cells #[.slice e0 q0 d0,.slice e1 q1 d1,.int .i64 pp.k,.int .i64 pp.n,.slice b1 m1 n1,.slice b2 m2 n2,.slice b3 m3 n3,.slice b4 m4 n4,.slice b5 m5 n5] 87)).grownBy u va.ownBlock→Below W0.heap.size W0 u):=fun u hu=>BL.out u (H7.out.ext hu)
      have A7:Hid (SayG W0.heap.size (wr.alloc (.cells #[.slice e0 q0 d0,.slice e1 q1 d1,.int .i64 pp.k,.int .i64 pp.n,.slice b1 m1 n1,.slice b2 m2 n2,.slice b3 m3 n3,.slice b4 m4 n4,.slice b5 m5 n5] 87)) va va (zs++pre) (wr.alloc (.cells #[.slice e0 q0 d0,.slice e1 q1 d1,.int .i64 pp.k,.int .i64 pp.n,.slice b1 m1 n1,.slice b2 m2 n2,.slice b3 m3 n3,.slice b4 m4 n4,.slice b5 m5 n5] 87))):=H7.out.re;clear HR hokR hbad hP hin hcel hnd hR2 hoR e9 hbb hhd hgd haf hfz husd hfar ga ba;subst ea;go_upto_region 36 with fail;clear k0 k1 k2 k3 k4 k5 k6 k7 k8 t0 t1 t2 t3 t4 t5 t6 t7 t8 rf AL x0 x1 x2 x3 x4 x5 x6;generalize wr.alloc (.cells #[.slice e0 q0 d0,.slice e1 q1 d1,.int .i64 pp.k,.int .i64 pp.n,.slice b1 m1 n1,.slice b2 m2 n2,.slice b3 m3 n3,.slice b4 m4 n4,.slice b5 m5 n5] 87)=w7 at *;generalize wr.heap.size=q7 at *;obtain ⟨t0,t1,t2,t3,t4,t5,t6,t7,t8⟩:=HT7.out _ A7.out.gr;go_upto_region 37 with (at_builtin;go_must (refine wpList_strG rfl _ _ 23 9 rfl W0.heap.size i0 Tryz.underlying23 Tryz.underlying9 hi hz0 hz1 hz2 va (zs++pre) rfl A7.out.own _ [32,40] rfl rfl (by (try simp only[lA,List.length_singleton,lB,lC]);omega) A7.out.size ?_);intro v3 u3 s3)
      have A8:Hid (SayG W0.heap.size w7 va v3 (zs++pre++[32,40]) u3):=A7.out.trans s3;clear A7 s3 t0 t1 t2 t3 t4 t5 t6 t7 t8;obtain ⟨t0,t1,t2,t3,t4,t5,t6,t7,t8⟩:=HT7.out _ A8.out.gr;obtain ⟨bz,hbz⟩:∃ bz,((q0:Int) == 0)=bz:=⟨_,rfl⟩
      have HBZ:Hid ((bz=true→us=[95])∧(bz=false→us=[])):=by
       refine ⟨fun e=>EU.out.2.1 ?_,fun e=>EU.out.2.2 ?_⟩
       ·
        rw[e] at hbz;have:(q0:Int)=0:=by simpa using hbz
        omega
       ·
        rw[e] at hbz;have:¬ (q0:Int)=0:=by simpa using hbz
        omega
      go_upto_if 171 with fail;clear hbz
      go_cut [0] (fun s0 wx=>∃ v4,v4=s0∧Hid (SayG W0.heap.size w7 va v4 (zs++pre++[32,40]++us) wx))
      case first=>as_aux_lemma =>
       cases bz with
       | true =>
        have eus:=HBZ.out.1 rfl;have ga:=gal u3 (.cells #[.int .u8 95] 5) none;have AN:Hid (SayG W0.heap.size w7 va v3 (zs++pre++[32,40]) (u3.alloc (.cells #[.int .u8 95] 5))∧Reads (u3.alloc (.cells #[.int .u8 95] 5)) (some ⟨u3.heap.size,0,none⟩) 1 [95]):=⟨A8.out.grown ga,readsOneB u3 95 5⟩;have EUS:Hid (us=[95]):=eus;clear ga A8 eus;go_wp2_with (at_builtin;go_must (refine wpList_appG rfl _ _ 23 rfl W0.heap.size i0 (.int .u8 0) Tryz.underlying23 hi hz0 hz1 hz2 rfl v3 (zs++pre++[32,40]) rfl AN.out.1.own (some ⟨u3.heap.size,0,none⟩) 1 1 [95] rfl AN.out.2 (by simp) (by (try simp only[lA,List.length_singleton,lB,lC]);omega) AN.out.1.size ?_);intro v9 u9 s9);go_meet;exact ⟨v9,rfl,by rw[EUS.out];exact AN.out.1.trans s9⟩
       | false =>
        have EUS:Hid (us=[]):=HBZ.out.2 rfl;go_wp2_with fail;go_meet;exact ⟨v3,rfl,by rw[EUS.out];exact A8.out.as (by simp)⟩
      case rest =>
      obtain ⟨v4,rfl,A9⟩:=hcut;clear A8 t0 t1 t2 t3 t4 t5 t6 t7 t8 HBZ;obtain ⟨t0,t1,t2,t3,t4,t5,t6,t7,t8⟩:=HT7.out _ A9.out.gr;go_upto_region 40 with (at_builtin;go_must (refine wpList_appN rfl _ _ 23 rfl W0.heap.size i0 (.int .u8 0) Tryz.underlying23 hi hz0 hz1 hz2 rfl v4 (zs++pre++[32,40]++us) rfl A9.out.own e0 q0 d0 hc rfl (HHC.out _ (BL7.out _ A9.out.gr)) (Or.inl (by simp)) (by (try simp only[lA,List.length_singleton,lB,lC]);omega) A9.out.size ?_);intro v5 u5 s5);obtain ⟨P5,hP5⟩:∃ P5,P5=pre++([32,40]++(us++hc)):=⟨_,rfl⟩;have EP5:Hid (P5=pre++([32,40]++(us++hc))):=hP5;have hp5:=congrArg List.length hP5;simp only[lA,lB,lC] at hp5;have A10:Hid (SayG W0.heap.size w7 va v5 (zs++P5) u5):=(A9.out.trans s5).as (by rw[hP5];simp);clear A9 s5 hP5 t0 t1 t2 t3 t4 t5 t6 t7 t8;obtain ⟨t0,t1,t2,t3,t4,t5,t6,t7,t8⟩:=HT7.out _ A10.out.gr;go_wp2;clear t0 t1 t2 t3 t4 t5 t6 t7 t8
      go_loopw [0,8] (fun vv i wr=>∃ (vx:Value) (j2:Nat) (R2:List (List Int)) (pr2:List Int),vx=vv∧j2≤q1∧i = .int .i64 j2∧R2.length+j2=q1∧pr2.length+(blz R2).length=P5.length+(blz hv).length∧Hid ((R2=[]∨∃ b o,e1=some ⟨b,o,none⟩∧InSS W0 W0 R2 b (o+j2))∧pr2++blz R2=P5++blz hv)∧Hid (SayG W0.heap.size w7 va vx (zs++pr2) wr)) (fun _ i _=>q1 - (intOf i).toNat)
      case atStart =>
       refine ⟨_,0,hv,P5,rfl,Nat.zero_le _,rfl,by omega,rfl,⟨?_,rfl⟩,A10⟩;rcases HVS.out.1.cases with ⟨-,e⟩|⟨b,o,e,hin,-⟩
       ·
        exact .inl e
       ·
        exact .inr ⟨b,o,e,by simpa using hin⟩
      case round=>as_aux_lemma =>
       clear A10;obtain ⟨vx,j2,R2,pr2,rfl,hj2,rfl,hRl2,hpl2,HR2,AL⟩:=hrel;obtain ⟨t0,t1,t2,t3,t4,t5,t6,t7,t8⟩:=HT7.out _ AL.out.gr;by_cases hlt2:j2 < q1
       ·
        have hlt2':(j2:Int) < q1:=by omega
        obtain ⟨y,R3,rfl⟩:∃ y R3,R2=y::R3:=by
         cases R2 with
         | nil=>simp at hRl2;omega
         | cons y R3=>exact ⟨y,R3,rfl⟩
        obtain ⟨hin,hP⟩:=HR2.out;rcases hin with e|⟨bv,ov,ea,hin⟩
        ·
         cases e
        obtain ⟨⟨a9,n9,c9,z0,hRn⟩,hin2⟩:=hin;rw[show ov+j2+1=ov+(j2+1) by omega] at hin2
        have HY9:Hid (∀ u,Below W0.heap.size W0 u→Reads u a9 n9 y):=fun u hu=>(hRn.le (cle_belowK hu)).1
        have hyl:y.length=n9:=hRn.1.1;have e9:blz (y::R3)=32::y++blz R3:=rfl;rw[e9] at hpl2 hP;simp only[lA,lB] at hpl2;have FX2:Hid ((R3=[]∨∃ b o,e1=some ⟨b,o,none⟩∧InSS W0 W0 R3 b (o+(j2+1)))∧(pr2++32::y)++blz R3=P5++blz hv):=⟨.inr ⟨bv,ov,ea,hin2⟩,by rw[← hP];simp⟩
        have hpl3:(pr2++32::y).length+(blz R3).length=P5.length+(blz hv).length:=by simp only[lA,lB];omega
        subst ea
        have HT8:Hid (∀ u,w7.grownBy u va.ownBlock→(fun u=>Nin q7 (.slice e0 q0 d0) (.slice (some ⟨bv,ov,none⟩) q1 d1) (.int .i64 pp.k) (.int .i64 pp.n) (.slice b1 m1 n1) (.slice b2 m2 n2) (.slice b3 m3 n3) (.slice b4 m4 n4) (.slice b5 m5 n5) u∧u.cell? ⟨bv,ov+j2,none⟩=some (.slice a9 n9 c9)) u):=fun u hu=>⟨HT7.out u hu,cle_belowK (BL7.out u hu) _ _ z0⟩
        clear HR2 hP hin2 hRn e9;clear HT BL;have HT:=HT8;have BL:=BL7;go_upto_region 43 with fail;have AD:Hid (SayG _ _ _ _ _ wr.drew):=AL.out.grown (grown_drew (grf _ none));clear AL t0 t1 t2 t3 t4 t5 t6 t7 t8 z0;refine wp_region_held_drew (S:=(fun u=>Nin q7 (.slice e0 q0 d0) (.slice (some ⟨bv,ov,none⟩) q1 d1) (.int .i64 pp.k) (.int .i64 pp.n) (.slice b1 m1 n1) (.slice b2 m2 n2) (.slice b3 m3 n3) (.slice b4 m4 n4) (.slice b5 m5 n5) u∧u.cell? ⟨bv,ov+j2,none⟩=some (.slice a9 n9 c9))) (by kernel_rfl) (HT.out _ AD.out.gr) (fun hH=>?_);have AL:=AD;clear AD;generalize wr.drew=v0w at *;simp only[List.size_toArray,lB,lC,Nat.reduceAdd,Array.replicate,List.replicate];refine tk 0 ?_;refine tk 3 ?_;refine tk 4 ?_;refine tk 5 ?_;refine tk 6 ?_;refine tk 7 ?_;refine rd 1 rfl (fun K hK=>?_);go_simp;have AN:Hid (SayG _ _ _ _ _ (v0w.alloc (.cells #[.int .u8 32] 5))∧Reads (v0w.alloc (.cells #[.int .u8 32] 5)) (some ⟨v0w.heap.size,0,none⟩) 1 [32]):=⟨AL.out.grown (gal _ _ _),readsOneB v0w 32 5⟩
        clear AL;generalize v0w.alloc (.cells #[.int .u8 32] 5)=ub239 at *;generalize v0w.heap.size=pb240 at *;refine hK.out _ _ (HT.out _ AN.out.1.gr) ?_;clear hK K hH;intro hH;simp only[Act.put,nA,nB,nC,nD,nE,nF];refine rd 2 rfl (fun K hK=>?_);refine step_of rfl (wp_appG _ _ 23 rfl W0.heap.size i0 (.int .u8 0) Tryz.underlying23 hi hz0 hz1 hz2 rfl _ (zs++pr2) rfl AN.out.1.own (some ⟨pb240,0,none⟩) 1 1 [32] rfl AN.out.2 (by simp) (by (try simp only[lA,List.length_singleton,lB,lC]);omega) AN.out.1.size ?_);intro vb241 ub242 sb;have AL:Hid (SayG _ _ _ vb241 ((zs++pr2)++[32]) ub242):=AN.out.1.trans sb;clear AN sb;refine hK.out _ _ (HT.out _ AL.out.gr) ?_;clear hK K hH;intro hH;simp only[Act.put,nA,nB,nC,nD,nE,nF];have AN:Hid (SayG _ _ _ _ ((zs++pr2)++[32]) ub242∧True):=⟨AL.out,trivial⟩;clear AL;refine rd 8 rfl (fun K hK=>?_);refine step_of rfl (wp_appN _ _ 23 rfl W0.heap.size i0 (.int .u8 0) Tryz.underlying23 hi hz0 hz1 hz2 rfl _ ((zs++pr2)++[32]) rfl AN.out.1.own a9 n9 c9 y rfl (HY9.out _ (BL.out _ AN.out.1.gr)) (Or.inl (by simp)) (by (try simp only[lA,List.length_singleton,lB,lC]);omega) AN.out.1.size ?_)
        intro vb243 ub244 sb;have AL:Hid (SayG _ _ _ vb243 (((zs++pr2)++[32])++y) ub244):=AN.out.1.trans sb;clear AN sb;refine hK.out _ _ (HT.out _ AL.out.gr) ?_;clear hK K hH;intro hH;simp only[Act.put,nA,nB,nC,nD,nE,nF];refine tk 9 ?_;refine wpAnyH_done (by kernel_rfl) ?_ _;clear hH HT HT8;have AN9:Hid (SayG W0.heap.size w7 va vb243 (zs++(pr2++32::y)) ub244):=AL.out.as (by simp);clear AL;go_wp2;go_roundw
        case rel=>exact ⟨vb243,j2+1,R3,pr2++32::y,rfl,by omega,by go_num,by simp only[lB] at hRl2;omega,hpl3,FX2,AN9⟩
        case measure=>simp [intOf];omega
       ·
        obtain rfl:j2=q1:=by omega
        obtain rfl:R2=[]:=List.eq_nil_of_length_eq_zero (by omega);obtain ⟨-,hP⟩:=HR2.out;simp only[blz,List.append_nil] at hP;simp only[blz,lC] at hpl2
        have EQ2:Hid (pr2=pre++([32,40]++(us++hc))++blz hv):=by show _=_;rw[hP,EP5.out]
        clear HR2 hP HT BL;have HT:=HT7;have BL:=BL7;go_upto_region 44 with fail;have AD:Hid (SayG _ _ _ _ _ wr.drew):=AL.out.grown (grown_drew (grf _ none));clear AL t0 t1 t2 t3 t4 t5 t6 t7 t8;refine wp_region_held_drew (S:=(fun u=>Nin q7 (.slice e0 q0 d0) (.slice e1 j2 d1) (.int .i64 pp.k) (.int .i64 pp.n) (.slice b1 m1 n1) (.slice b2 m2 n2) (.slice b3 m3 n3) (.slice b4 m4 n4) (.slice b5 m5 n5) u)) (by kernel_rfl) (HT.out _ AD.out.gr) (fun hH=>?_);have AL:=AD;clear AD;generalize wr.drew=v0w at *;simp only[List.size_toArray,lB,lC,Nat.reduceAdd,Array.replicate,List.replicate];refine tk 0 ?_;refine tk 3 ?_;refine tk 4 ?_;refine wpAnyH_ready (rs:=[1,6]) (by kernel_rfl) (by simp) ?_;refine AllReadyH.cons rfl (fun K hK=>?_) (AllReadyH.cons rfl (fun K hK=>?_) AllReadyH.nil)
        ·
         skip
         go_simp;have AN:Hid (SayG _ _ _ _ _ (v0w.alloc (.cells #[.int .u8 32] 5))∧Reads (v0w.alloc (.cells #[.int .u8 32] 5)) (some ⟨v0w.heap.size,0,none⟩) 1 [32]):=⟨AL.out.grown (gal _ _ _),readsOneB v0w 32 5⟩;clear AL;generalize v0w.alloc (.cells #[.int .u8 32] 5)=ub245 at *;generalize v0w.heap.size=pb246 at *;refine hK.out _ _ (HT.out _ AN.out.1.gr) ?_;clear hK K hH;intro hH;simp only[Act.put,nA,nB,nC,nD,nE,nF];refine wpAnyH_ready (rs:=[2,6]) (by kernel_rfl) (by simp) ?_;refine AllReadyH.cons rfl (fun K hK=>?_) (AllReadyH.cons rfl (fun K hK=>?_) AllReadyH.nil)
         ·
          skip
          refine step_of rfl (wp_appG _ _ 23 rfl W0.heap.size i0 (.int .u8 0) Tryz.underlying23 hi hz0 hz1 hz2 rfl _ (zs++pr2) rfl AN.out.1.own (some ⟨pb246,0,none⟩) 1 1 [32] rfl AN.out.2 (by simp) (by (try simp only[lA,List.length_singleton,lB,lC]);omega) AN.out.1.size ?_);intro vb249 ub250 sb;have AL:Hid (SayG _ _ _ vb249 ((zs++pr2)++[32]) ub250):=AN.out.1.trans sb;clear AN sb;refine hK.out _ _ (HT.out _ AL.out.gr) ?_;clear hK K hH;intro hH;simp only[Act.put,nA,nB,nC,nD,nE,nF];refine wpAnyH_ready (rs:=[5,6]) (by kernel_rfl) (by simp) ?_;refine AllReadyH.cons rfl (fun K hK=>?_) (AllReadyH.cons rfl (fun K hK=>?_) AllReadyH.nil)
          ·
           skip
           go_simp;refine Calls.mono (CCb.out vb249 ((zs++pr2)++[32]) ub250 (BL.out _ AL.out.gr) AL.out.own (by (try simp only[lA,List.length_singleton,lB,lC]);omega)) ?_;rintro e ub254 ⟨vb253,he,sb⟩;subst he;have AN:Hid (SayG _ _ _ vb253 (((zs++pr2)++[32])++(exX pp kk aa)) ub254):=AL.out.trans sb;clear AL sb;have AL:=AN;clear AN;refine hK.out _ _ (HT.out _ AL.out.gr) ?_;clear hK K hH;intro hH;simp only[Act.put,nA,nB,nC,nD,nE,nF];refine rd 6 rfl (fun K hK=>?_);go_simp;have hfar:=AL.out.far;have gfar:=gal ub254 (.cells #[.int .u8 41] 5) none;have A0:Hid (SayG _ _ _ _ (((zs++pr2)++[32])++(exX pp kk aa)) (ub254.alloc (.cells #[.int .u8 41] 5))):=AL.out.grown gfar
           have HF9:Hid (∀ x,(ub254.alloc (.cells #[.int .u8 41] 5)).grownBy x (vb253).ownBlock→Reads x (some ⟨ub254.heap.size,0,none⟩) 1 [41]):=fun x hx=>readsFar hfar hx
           have HT2:Hid (∀ x,(ub254.alloc (.cells #[.int .u8 41] 5)).grownBy x (vb253).ownBlock→(fun u=>Nin q7 (.slice e0 q0 d0) (.slice e1 j2 d1) (.int .i64 pp.k) (.int .i64 pp.n) (.slice b1 m1 n1) (.slice b2 m2 n2) (.slice b3 m3 n3) (.slice b4 m4 n4) (.slice b5 m5 n5) u) x):=fun x hx=>HT.out x (A0.out.ext hx)
           have BL2:Hid (∀ x,(ub254.alloc (.cells #[.int .u8 41] 5)).grownBy x (vb253).ownBlock→Below W0.heap.size W0 x):=fun x hx=>BL.out x (A0.out.ext hx)
           have AL2:Hid (SayG _ _ _ vb253 (((zs++pr2)++[32])++(exX pp kk aa)) (ub254.alloc (.cells #[.int .u8 41] 5))):=A0.out.re;clear AL HT BL hfar gfar;have AL:=AL2;clear AL2;have HT:=HT2;have BL:=BL2;clear HT2 BL2;generalize ub254.alloc (.cells #[.int .u8 41] 5)=uf257 at *;generalize ub254.heap.size=pf258 at *;refine hK.out _ _ (HT.out _ AL.out.gr) ?_;clear hK K hH;intro hH;simp only[Act.put,nA,nB,nC,nD,nE,nF];have AN:Hid (SayG _ _ _ _ (((zs++pr2)++[32])++(exX pp kk aa)) uf257∧Reads uf257 (some ⟨pf258,0,none⟩) 1 [41]):=⟨AL.out,HF9.out _ AL.out.gr⟩;clear AL;refine rd 7 rfl (fun K hK=>?_);refine step_of rfl (wp_appG _ _ 23 rfl W0.heap.size i0 (.int .u8 0) Tryz.underlying23 hi hz0 hz1 hz2 rfl _ (((zs++pr2)++[32])++(exX pp kk aa)) rfl AN.out.1.own (some ⟨pf258,0,none⟩) 1 1 [41] rfl AN.out.2 (by simp) (by (try simp only[lA,List.length_singleton,lB,lC]);omega) AN.out.1.size ?_);intro vb259 ub260 sb
           have AL:Hid (SayG _ _ _ vb259 ((((zs++pr2)++[32])++(exX pp kk aa))++[41]) ub260):=AN.out.1.trans sb;clear AN sb;refine hK.out _ _ (HT.out _ AL.out.gr) ?_;clear hK K hH;intro hH;simp only[Act.put,nA,nB,nC,nD,nE,nF];refine tk 8 ?_;refine wpAnyH_done (by kernel_rfl) ?_ _;clear hH;have AN9:Hid (SayG W0.heap.size w1 v vb259 (zs++(pre++32::armX hc hv (exX pp kk aa))) ub260):=(H7.out.trans (A0.out.trans AL.out)).as (by rw[← EU.out.1,EQ2.out];simp);clear AL HT BL A0;go_wp2;go_roundw
           case rel=>exact ⟨vb259,j+1,R',pre++32::armX hc hv (exX pp kk aa),rfl,by omega,by go_num,by omega,by omega,hus',FX,AN9⟩
           case measure=>simp [intOf];omega
          ·
           skip
           go_simp;have hfar:=AL.out.far;have gfar:=gal ub250 (.cells #[.int .u8 41] 5) none;have A0:Hid (SayG _ _ _ _ ((zs++pr2)++[32]) (ub250.alloc (.cells #[.int .u8 41] 5))):=AL.out.grown gfar
           have HF9:Hid (∀ x,(ub250.alloc (.cells #[.int .u8 41] 5)).grownBy x (vb249).ownBlock→Reads x (some ⟨ub250.heap.size,0,none⟩) 1 [41]):=fun x hx=>readsFar hfar hx
           have HT2:Hid (∀ x,(ub250.alloc (.cells #[.int .u8 41] 5)).grownBy x (vb249).ownBlock→(fun u=>Nin q7 (.slice e0 q0 d0) (.slice e1 j2 d1) (.int .i64 pp.k) (.int .i64 pp.n) (.slice b1 m1 n1) (.slice b2 m2 n2) (.slice b3 m3 n3) (.slice b4 m4 n4) (.slice b5 m5 n5) u) x):=fun x hx=>HT.out x (A0.out.ext hx)
           have BL2:Hid (∀ x,(ub250.alloc (.cells #[.int .u8 41] 5)).grownBy x (vb249).ownBlock→Below W0.heap.size W0 x):=fun x hx=>BL.out x (A0.out.ext hx)
           have AL2:Hid (SayG _ _ _ vb249 ((zs++pr2)++[32]) (ub250.alloc (.cells #[.int .u8 41] 5))):=A0.out.re;clear AL HT BL hfar gfar;have AL:=AL2;clear AL2;have HT:=HT2;have BL:=BL2;clear HT2 BL2;generalize ub250.alloc (.cells #[.int .u8 41] 5)=uf255 at *;generalize ub250.heap.size=pf256 at *;refine hK.out _ _ (HT.out _ AL.out.gr) ?_;clear hK K hH;intro hH;simp only[Act.put,nA,nB,nC,nD,nE,nF];refine rd 5 rfl (fun K hK=>?_);go_simp;refine Calls.mono (CCb.out vb249 ((zs++pr2)++[32]) uf255 (BL.out _ AL.out.gr) AL.out.own (by (try simp only[lA,List.length_singleton,lB,lC]);omega)) ?_;rintro e ub262 ⟨vb261,he,sb⟩;subst he;have AN:Hid (SayG _ _ _ vb261 (((zs++pr2)++[32])++(exX pp kk aa)) ub262):=AL.out.trans sb;clear AL sb;have AL:=AN;clear AN;refine hK.out _ _ (HT.out _ AL.out.gr) ?_;clear hK K hH;intro hH;simp only[Act.put,nA,nB,nC,nD,nE,nF];have AN:Hid (SayG _ _ _ _ (((zs++pr2)++[32])++(exX pp kk aa)) ub262∧Reads ub262 (some ⟨pf256,0,none⟩) 1 [41]):=⟨AL.out,HF9.out _ AL.out.gr⟩
           clear AL;refine rd 7 rfl (fun K hK=>?_);refine step_of rfl (wp_appG _ _ 23 rfl W0.heap.size i0 (.int .u8 0) Tryz.underlying23 hi hz0 hz1 hz2 rfl _ (((zs++pr2)++[32])++(exX pp kk aa)) rfl AN.out.1.own (some ⟨pf256,0,none⟩) 1 1 [41] rfl AN.out.2 (by simp) (by (try simp only[lA,List.length_singleton,lB,lC]);omega) AN.out.1.size ?_);intro vb263 ub264 sb;have AL:Hid (SayG _ _ _ vb263 ((((zs++pr2)++[32])++(exX pp kk aa))++[41]) ub264):=AN.out.1.trans sb;clear AN sb;refine hK.out _ _ (HT.out _ AL.out.gr) ?_;clear hK K hH;intro hH;simp only[Act.put,nA,nB,nC,nD,nE,nF];refine tk 8 ?_;refine wpAnyH_done (by kernel_rfl) ?_ _;clear hH;have AN9:Hid (SayG W0.heap.size w1 v vb263 (zs++(pre++32::armX hc hv (exX pp kk aa))) ub264):=(H7.out.trans (A0.out.trans AL.out)).as (by rw[← EU.out.1,EQ2.out];simp);clear AL HT BL A0;go_wp2;go_roundw
           case rel=>exact ⟨vb263,j+1,R',pre++32::armX hc hv (exX pp kk aa),rfl,by omega,by go_num,by omega,by omega,hus',FX,AN9⟩
           case measure=>simp [intOf];omega
         ·
          skip
          go_simp;have hfar:=AN.out.1.far;have gfar:=gal ub245 (.cells #[.int .u8 41] 5) none;have A0:Hid (SayG _ _ _ _ (zs++pr2) (ub245.alloc (.cells #[.int .u8 41] 5))):=AN.out.1.grown gfar
          have HF9:Hid (∀ x,(ub245.alloc (.cells #[.int .u8 41] 5)).grownBy x (vx).ownBlock→Reads x (some ⟨ub245.heap.size,0,none⟩) 1 [41]):=fun x hx=>readsFar hfar hx
          have HT2:Hid (∀ x,(ub245.alloc (.cells #[.int .u8 41] 5)).grownBy x (vx).ownBlock→(fun u=>Nin q7 (.slice e0 q0 d0) (.slice e1 j2 d1) (.int .i64 pp.k) (.int .i64 pp.n) (.slice b1 m1 n1) (.slice b2 m2 n2) (.slice b3 m3 n3) (.slice b4 m4 n4) (.slice b5 m5 n5) u) x):=fun x hx=>HT.out x (A0.out.ext hx)
          have BL2:Hid (∀ x,(ub245.alloc (.cells #[.int .u8 41] 5)).grownBy x (vx).ownBlock→Below W0.heap.size W0 x):=fun x hx=>BL.out x (A0.out.ext hx)
          have AN2:Hid (SayG _ _ _ vx (zs++pr2) (ub245.alloc (.cells #[.int .u8 41] 5))∧Reads (ub245.alloc (.cells #[.int .u8 41] 5)) (some ⟨pb246,0,none⟩) 1 [32]):=⟨A0.out.re,readsG AN.out.2 gfar⟩;clear AN HT BL hfar gfar;have AN:=AN2;clear AN2;have HT:=HT2;have BL:=BL2;clear HT2 BL2;generalize ub245.alloc (.cells #[.int .u8 41] 5)=uf251 at *;generalize ub245.heap.size=pf252 at *;refine hK.out _ _ (HT.out _ AN.out.1.gr) ?_;clear hK K hH;intro hH;simp only[Act.put,nA,nB,nC,nD,nE,nF];refine rd 2 rfl (fun K hK=>?_);refine step_of rfl (wp_appG _ _ 23 rfl W0.heap.size i0 (.int .u8 0) Tryz.underlying23 hi hz0 hz1 hz2 rfl _ (zs++pr2) rfl AN.out.1.own (some ⟨pb246,0,none⟩) 1 1 [32] rfl AN.out.2 (by simp) (by (try simp only[lA,List.length_singleton,lB,lC]);omega) AN.out.1.size ?_);intro vb265 ub266 sb;have AL:Hid (SayG _ _ _ vb265 ((zs++pr2)++[32]) ub266):=AN.out.1.trans sb;clear AN sb;refine hK.out _ _ (HT.out _ AL.out.gr) ?_
          clear hK K hH;intro hH;simp only[Act.put,nA,nB,nC,nD,nE,nF];refine rd 5 rfl (fun K hK=>?_);go_simp;refine Calls.mono (CCb.out vb265 ((zs++pr2)++[32]) ub266 (BL.out _ AL.out.gr) AL.out.own (by (try simp only[lA,List.length_singleton,lB,lC]);omega)) ?_;rintro e ub268 ⟨vb267,he,sb⟩;subst he;have AN:Hid (SayG _ _ _ vb267 (((zs++pr2)++[32])++(exX pp kk aa)) ub268):=AL.out.trans sb;clear AL sb;have AL:=AN;clear AN;refine hK.out _ _ (HT.out _ AL.out.gr) ?_;clear hK K hH;intro hH;simp only[Act.put,nA,nB,nC,nD,nE,nF];have AN:Hid (SayG _ _ _ _ (((zs++pr2)++[32])++(exX pp kk aa)) ub268∧Reads ub268 (some ⟨pf252,0,none⟩) 1 [41]):=⟨AL.out,HF9.out _ AL.out.gr⟩;clear AL;refine rd 7 rfl (fun K hK=>?_);refine step_of rfl (wp_appG _ _ 23 rfl W0.heap.size i0 (.int .u8 0) Tryz.underlying23 hi hz0 hz1 hz2 rfl _ (((zs++pr2)++[32])++(exX pp kk aa)) rfl AN.out.1.own (some ⟨pf252,0,none⟩) 1 1 [41] rfl AN.out.2 (by simp) (by (try simp only[lA,List.length_singleton,lB,lC]);omega) AN.out.1.size ?_)
          intro vb269 ub270 sb;have AL:Hid (SayG _ _ _ vb269 ((((zs++pr2)++[32])++(exX pp kk aa))++[41]) ub270):=AN.out.1.trans sb;clear AN sb;refine hK.out _ _ (HT.out _ AL.out.gr) ?_;clear hK K hH;intro hH;simp only[Act.put,nA,nB,nC,nD,nE,nF];refine tk 8 ?_;refine wpAnyH_done (by kernel_rfl) ?_ _;clear hH;have AN9:Hid (SayG W0.heap.size w1 v vb269 (zs++(pre++32::armX hc hv (exX pp kk aa))) ub270):=(H7.out.trans (A0.out.trans AL.out)).as (by rw[← EU.out.1,EQ2.out];simp);clear AL HT BL A0;go_wp2;go_roundw
          case rel=>exact ⟨vb269,j+1,R',pre++32::armX hc hv (exX pp kk aa),rfl,by omega,by go_num,by omega,by omega,hus',FX,AN9⟩
          case measure=>simp [intOf];omega
        ·
         skip
         go_simp;have hfar:=AL.out.far;have gfar:=gal v0w (.cells #[.int .u8 41] 5) none;have A0:Hid (SayG _ _ _ _ (zs++pr2) (v0w.alloc (.cells #[.int .u8 41] 5))):=AL.out.grown gfar
         have HF9:Hid (∀ x,(v0w.alloc (.cells #[.int .u8 41] 5)).grownBy x (vx).ownBlock→Reads x (some ⟨v0w.heap.size,0,none⟩) 1 [41]):=fun x hx=>readsFar hfar hx
         have HT2:Hid (∀ x,(v0w.alloc (.cells #[.int .u8 41] 5)).grownBy x (vx).ownBlock→(fun u=>Nin q7 (.slice e0 q0 d0) (.slice e1 j2 d1) (.int .i64 pp.k) (.int .i64 pp.n) (.slice b1 m1 n1) (.slice b2 m2 n2) (.slice b3 m3 n3) (.slice b4 m4 n4) (.slice b5 m5 n5) u) x):=fun x hx=>HT.out x (A0.out.ext hx)
         have BL2:Hid (∀ x,(v0w.alloc (.cells #[.int .u8 41] 5)).grownBy x (vx).ownBlock→Below W0.heap.size W0 x):=fun x hx=>BL.out x (A0.out.ext hx)
         have AL2:Hid (SayG _ _ _ vx (zs++pr2) (v0w.alloc (.cells #[.int .u8 41] 5))):=A0.out.re;clear AL HT BL hfar gfar;have AL:=AL2;clear AL2;have HT:=HT2;have BL:=BL2;clear HT2 BL2;generalize v0w.alloc (.cells #[.int .u8 41] 5)=uf247 at *;generalize v0w.heap.size=pf248 at *;refine hK.out _ _ (HT.out _ AL.out.gr) ?_;clear hK K hH;intro hH;simp only[Act.put,nA,nB,nC,nD,nE,nF];refine rd 1 rfl (fun K hK=>?_);go_simp;have AN:Hid (SayG _ _ _ _ _ (uf247.alloc (.cells #[.int .u8 32] 5))∧Reads (uf247.alloc (.cells #[.int .u8 32] 5)) (some ⟨uf247.heap.size,0,none⟩) 1 [32]):=⟨AL.out.grown (gal _ _ _),readsOneB uf247 32 5⟩;clear AL;generalize uf247.alloc (.cells #[.int .u8 32] 5)=ub271 at *;generalize uf247.heap.size=pb272 at *;refine hK.out _ _ (HT.out _ AN.out.1.gr) ?_;clear hK K hH;intro hH;simp only[Act.put,nA,nB,nC,nD,nE,nF];refine rd 2 rfl (fun K hK=>?_);refine step_of rfl (wp_appG _ _ 23 rfl W0.heap.size i0 (.int .u8 0) Tryz.underlying23 hi hz0 hz1 hz2 rfl _ (zs++pr2) rfl AN.out.1.own (some ⟨pb272,0,none⟩) 1 1 [32] rfl AN.out.2 (by simp) (by (try simp only[lA,List.length_singleton,lB,lC]);omega) AN.out.1.size ?_)
         intro vb273 ub274 sb;have AL:Hid (SayG _ _ _ vb273 ((zs++pr2)++[32]) ub274):=AN.out.1.trans sb;clear AN sb;refine hK.out _ _ (HT.out _ AL.out.gr) ?_;clear hK K hH;intro hH;simp only[Act.put,nA,nB,nC,nD,nE,nF];refine rd 5 rfl (fun K hK=>?_);go_simp;refine Calls.mono (CCb.out vb273 ((zs++pr2)++[32]) ub274 (BL.out _ AL.out.gr) AL.out.own (by (try simp only[lA,List.length_singleton,lB,lC]);omega)) ?_;rintro e ub276 ⟨vb275,he,sb⟩;subst he;have AN:Hid (SayG _ _ _ vb275 (((zs++pr2)++[32])++(exX pp kk aa)) ub276):=AL.out.trans sb;clear AL sb;have AL:=AN;clear AN;refine hK.out _ _ (HT.out _ AL.out.gr) ?_;clear hK K hH;intro hH;simp only[Act.put,nA,nB,nC,nD,nE,nF];have AN:Hid (SayG _ _ _ _ (((zs++pr2)++[32])++(exX pp kk aa)) ub276∧Reads ub276 (some ⟨pf248,0,none⟩) 1 [41]):=⟨AL.out,HF9.out _ AL.out.gr⟩;clear AL;refine rd 7 rfl (fun K hK=>?_);refine step_of rfl (wp_appG _ _ 23 rfl W0.heap.size i0 (.int .u8 0) Tryz.underlying23 hi hz0 hz1 hz2 rfl _ (((zs++pr2)++[32])++(exX pp kk aa)) rfl AN.out.1.own (some ⟨pf248,0,none⟩) 1 1 [41] rfl AN.out.2 (by simp) (by (try simp only[lA,List.length_singleton,lB,lC]);omega) AN.out.1.size ?_)
         intro vb277 ub278 sb;have AL:Hid (SayG _ _ _ vb277 ((((zs++pr2)++[32])++(exX pp kk aa))++[41]) ub278):=AN.out.1.trans sb;clear AN sb;refine hK.out _ _ (HT.out _ AL.out.gr) ?_;clear hK K hH;intro hH;simp only[Act.put,nA,nB,nC,nD,nE,nF];refine tk 8 ?_;refine wpAnyH_done (by kernel_rfl) ?_ _;clear hH;have AN9:Hid (SayG W0.heap.size w1 v vb277 (zs++(pre++32::armX hc hv (exX pp kk aa))) ub278):=(H7.out.trans (A0.out.trans AL.out)).as (by rw[← EU.out.1,EQ2.out];simp);clear AL HT BL A0;go_wp2;go_roundw
         case rel=>exact ⟨vb277,j+1,R',pre++32::armX hc hv (exX pp kk aa),rfl,by omega,by go_num,by omega,by omega,hus',FX,AN9⟩
         case measure=>simp [intOf];omega
     ·
      obtain rfl:j=l5:=by omega
      obtain rfl:R = .nil:=GE.nil_of_len (by omega);obtain ⟨-,-,-,hP⟩:=HR.out;simp only[exL,blz,List.append_nil] at hP;simp only[exL,blz,lC] at hus
      have EF9:Hid (zs++pre++[41]=zs++saY ⟨k,n,name,arg,lit⟩ ks rs):=by show _=_;rw[EH.out,hP];simp
      clear HR hP;go_upto_region 45 with fail;clear x0 x1 x2 x3 x4 x5 x6;have ga:=gal wr (.cells #[.int .u8 41] 5) none;have AN:Hid (SayG W0.heap.size w1 v va (zs++pre) (wr.alloc (.cells #[.int .u8 41] 5))∧Reads (wr.alloc (.cells #[.int .u8 41] 5)) (some ⟨wr.heap.size,0,none⟩) 1 [41]):=⟨AL.out.grown ga,readsOneB wr 41 5⟩;clear ga AL;go_wp2_with (at_builtin;go_must (refine wpList_appG rfl _ _ 23 rfl W0.heap.size i0 (.int .u8 0) Tryz.underlying23 hi hz0 hz1 hz2 rfl va (zs++pre) rfl AN.out.1.own (some ⟨wr.heap.size,0,none⟩) 1 1 [41] rfl AN.out.2 (by simp) (by (try simp only[lA,List.length_singleton,lB,lC]);omega) AN.out.1.size ?_);intro v9 u9 s9);have FF:Hid (SayG W0.heap.size w v v9 (zs++saY ⟨k,n,name,arg,lit⟩ ks rs) u9):=(H0.out.trans (AN.out.1.trans s9)).as EF9.out;clear AN s9 H0;go_ret;exact ⟨v9,rfl,by rw[HX.out];exact FF.out⟩
end Go.Proofs.YtblbnillilbacaaGreatDoor.By
