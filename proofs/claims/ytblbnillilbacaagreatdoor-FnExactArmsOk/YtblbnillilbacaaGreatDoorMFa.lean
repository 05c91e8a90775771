/-
  No statement is proved here.
-/
import Derived.Test.YtblbnillilbacaaGreatDoorMBa
import Derived.Test.YtblbnillilbacaaGreatDoorEZa
namespace Go.Proofs.YtblbnillilbacaaGreatDoor.By
set_option maxRecDepth 100000
set_option maxHeartbeats 16000000
open Go.RowKit
set_option linter.unusedVariables false
set_option linter.unusedSimpArgs false
def Oct (q:Nat) (v0 v1 v2 v3 v4 v5 v6 v7:Value) (w:World):Prop:=w.cell? ⟨q,0,none⟩=some v0∧w.cell? ⟨q,1,none⟩=some v1∧w.cell? ⟨q,2,none⟩=some v2∧w.cell? ⟨q,3,none⟩=some v3∧w.cell? ⟨q,4,none⟩=some v4∧w.cell? ⟨q,5,none⟩=some v5∧w.cell? ⟨q,6,none⟩=some v6∧w.cell? ⟨q,7,none⟩=some v7
theorem l5printT (x:RSrc) (a0:Option Addr) (l0 c0:Nat) (a1:Option Addr) (l1 c1:Nat) (a2:Option Addr) (l2 c2:Nat) (a3:Option Addr) (l3 c3:Nat) (a4:Option Addr) (l4 c4:Nat) (a5:Option Addr) (l5 c5:Nat) (W0:World) (h:RdSrc W0 x a0 l0 c0 a1 l1 c1 a2 l2 c2 a3 l3 c3 a4 l4 c4 a5 l5 c5) (hP:srcP x=true) (hSay:SaC W0 301) :
  Calls Tryz.prog 26 #[.agg #[.slice a0 l0 c0,.int .i64 x.p.k,.int .i64 x.p.n,.slice a1 l1 c1,.slice a2 l2 c2,.slice a3 l3 c3,.slice a4 l4 c4,.slice a5 l5 c5]] W0 fun e u=>∃ v,e = .returned v∧u.ownsRow W0.heap.size 5 1 v (srcX x).length (vals (srcX x))∧W0.grownBy u none:=by
 obtain ⟨h1,h2,h3⟩:=srcP_parts hP;obtain ⟨g1,g2,g3⟩:=daG_all h1;obtain ⟨hl1,hl2⟩:=srcX_len hP;obtain ⟨i0,hi,hz0,hz1,hz2⟩:=info_parts infoS;have gA:=gal W0 (.cells #[.slice a0 l0 c0,.int .i64 x.p.k,.int .i64 x.p.n,.slice a1 l1 c1,.slice a2 l2 c2,.slice a3 l3 c3,.slice a4 l4 c4,.slice a5 l5 c5] 38) none;have bA:=heap_alloc_new W0 (.cells #[.slice a0 l0 c0,.int .i64 x.p.k,.int .i64 x.p.n,.slice a1 l1 c1,.slice a2 l2 c2,.slice a3 l3 c3,.slice a4 l4 c4,.slice a5 l5 c5] 38);have HH:Hid (RdSrc W0 x a0 l0 c0 a1 l1 c1 a2 l2 c2 a3 l3 c3 a4 l4 c4 a5 l5 c5∧okE x.p x.kids x.alts 40=true∧(∀ y ∈ x.ds,daG x.ds y)∧NamG x.ds):=⟨h,h2,g1,g2⟩;have hds:=h.1.1.1;have hds2:=h.1.1.2.1;have A0:Hid (SayG W0.heap.size (W0.alloc (.cells #[.slice a0 l0 c0,.int .i64 x.p.k,.int .i64 x.p.n,.slice a1 l1 c1,.slice a2 l2 c2,.slice a3 l3 c3,.slice a4 l4 c4,.slice a5 l5 c5] 38)) (.slice none 0 0) (.slice none 0 0) [] (W0.alloc (.cells #[.slice a0 l0 c0,.int .i64 x.p.k,.int .i64 x.p.n,.slice a1 l1 c1,.slice a2 l2 c2,.slice a3 l3 c3,.slice a4 l4 c4,.slice a5 l5 c5] 38))):=SayG.start ⟨rfl,.inl ⟨rfl,rfl⟩⟩ gA.size
 have HT0:Hid (∀ u,(W0.alloc (.cells #[.slice a0 l0 c0,.int .i64 x.p.k,.int .i64 x.p.n,.slice a1 l1 c1,.slice a2 l2 c2,.slice a3 l3 c3,.slice a4 l4 c4,.slice a5 l5 c5] 38)).grownBy u (Value.slice none 0 0).ownBlock→Oct W0.heap.size (.slice a0 l0 c0) (.int .i64 x.p.k) (.int .i64 x.p.n) (.slice a1 l1 c1) (.slice a2 l2 c2) (.slice a3 l3 c3) (.slice a4 l4 c4) (.slice a5 l5 c5) u):=fun u hu=>(blkSrc ((hu.block _ (lt_of_block bA) (by simp [Value.ownBlock])).trans bA)).1
 have BL0:Hid (∀ u,(W0.alloc (.cells #[.slice a0 l0 c0,.int .i64 x.p.k,.int .i64 x.p.n,.slice a1 l1 c1,.slice a2 l2 c2,.slice a3 l3 c3,.slice a4 l4 c4,.slice a5 l5 c5] 38)).grownBy u (Value.slice none 0 0).ownBlock→Below W0.heap.size W0 u):=fun u hu=>((Below.refl W0.heap.size W0).grown gA (Nat.le_refl _) (fun k hk=>by cases hk)).grown hu gA.size (fun g hg=>by simp [Value.ownBlock] at hg)
 have HG:Hid (W0.grownBy (W0.alloc (.cells #[.slice a0 l0 c0,.int .i64 x.p.k,.int .i64 x.p.n,.slice a1 l1 c1,.slice a2 l2 c2,.slice a3 l3 c3,.slice a4 l4 c4,.slice a5 l5 c5] 38)) none):=gA;have HSD:Hid (SlDa W0 a0 l0 x.ds):=HH.out.1.1.1;have HSay:Hid _:=hSay;clear hSay h hP h1 h2 g1 g2 gA bA;go_enter Tryz.func26,Tryz.ntmps26;go_upto_region 1 with fail;generalize W0.alloc (.cells #[.slice a0 l0 c0,.int .i64 x.p.k,.int .i64 x.p.n,.slice a1 l1 c1,.slice a2 l2 c2,.slice a3 l3 c3,.slice a4 l4 c4,.slice a5 l5 c5] 38)=w1 at *;obtain ⟨q0,hq0⟩:∃ q0,q0=W0.heap.size:=⟨_,rfl⟩
 have HT1:Hid (∀ u,w1.grownBy u (Value.slice none 0 0).ownBlock→Oct q0 (.slice a0 l0 c0) (.int .i64 x.p.k) (.int .i64 x.p.n) (.slice a1 l1 c1) (.slice a2 l2 c2) (.slice a3 l3 c3) (.slice a4 l4 c4) (.slice a5 l5 c5) u):=by rw[hq0];exact HT0
 rw[← hq0];clear hq0 HT0;obtain ⟨x0,x1,x2,x3,x4,x5,x6,x7⟩:=HT1.out _ A0.out.gr;go_wp2;clear x0 x1 x2 x3 x4 x5 x6 x7
 go_loopw [3,4] (fun vv i wr=>∃ (vd:Value) (j:Nat) (P R:List Da),vd=vv∧j≤l0∧i = .int .i64 j∧R.length+j=l0∧(datXs x.ds P).length≤10100 * j∧Hid ((R=[]∨∃ b o,a0=some ⟨b,o,none⟩∧InDa W0 W0 R b (o+j * 3))∧P++R=x.ds)∧Hid (SayG W0.heap.size w1 (.slice none 0 0) vd (datXs x.ds P) wr)) (fun _ i _=>l0 - (intOf i).toNat)
 case atStart =>
  refine ⟨_,0,[],x.ds,rfl,Nat.zero_le _,rfl,by omega,by simp [datXs],⟨?_,rfl⟩,A0⟩;rcases HH.out.1.1.1.cases with ⟨-,e⟩|⟨b,o,e,hin,-⟩
  ·
   exact .inl e
  ·
   exact .inr ⟨b,o,e,by simpa using hin⟩
 case round =>
  clear A0;obtain ⟨vd,j,P,R,rfl,hj,rfl,hRl,hPl,HR,AL⟩:=hrel;obtain ⟨x0,x1,x2,x3,x4,x5,x6,x7⟩:=HT1.out _ AL.out.gr;by_cases hlt:j < l0
  ·
   have hlt':(j:Int) < l0:=by omega
   obtain ⟨y,R',rfl⟩:∃ y R',R=y::R':=by
    cases R with
    | nil=>simp at hRl;omega
    | cons y R'=>exact ⟨y,R',rfl⟩
   obtain ⟨hin,hPR⟩:=HR.out;rcases hin with e|⟨b,o,ea,hin⟩
   ·
    cases e
   obtain ⟨⟨e1,n1,d1,e2,l9,d2,z0,z1,z2,hRn,hCo⟩,hin2⟩:=hin;rw[show o+j * 3+3=o+(j+1) * 3 by omega] at hin2
   have hym:y ∈ x.ds:=by rw[← hPR];simp
   have hyG:=HH.out.2.2.1 y hym;obtain ⟨k0,k1,k2⟩:=tri_below (W0:=W0) ⟨z0,z1,z2⟩ (BL0.out _ AL.out.gr);have ga:=gal wr (.cells #[.slice e1 n1 d1,.int .i64 y.vars,.slice e2 l9 d2] 68) none;have ba:=heap_alloc_new wr (.cells #[.slice e1 n1 d1,.int .i64 y.vars,.slice e2 l9 d2] 68);have H5:Hid (SayG W0.heap.size w1 (.slice none 0 0) vd (datXs x.ds P) (wr.alloc (.cells #[.slice e1 n1 d1,.int .i64 y.vars,.slice e2 l9 d2] 68))):=AL.out.grown ga;have hfar:=AL.out.far
   have HT5:Hid (∀ u,(wr.alloc (.cells #[.slice e1 n1 d1,.int .i64 y.vars,.slice e2 l9 d2] 68)).grownBy u vd.ownBlock→Tri wr.heap.size 0 (.slice e1 n1 d1) (.int .i64 y.vars) (.slice e2 l9 d2) u):=fun u hu=>(three ((hu.block _ (lt_of_block ba) (fun e=>hfar e.symm)).trans ba)).1
   have BL5:Hid (∀ u,(wr.alloc (.cells #[.slice e1 n1 d1,.int .i64 y.vars,.slice e2 l9 d2] 68)).grownBy u vd.ownBlock→Below W0.heap.size W0 u):=fun u hu=>BL0.out u (H5.out.ext hu)
   have OC5:Hid (∀ u,(wr.alloc (.cells #[.slice e1 n1 d1,.int .i64 y.vars,.slice e2 l9 d2] 68)).grownBy u vd.ownBlock→Oct q0 (.slice a0 l0 c0) (.int .i64 x.p.k) (.int .i64 x.p.n) (.slice a1 l1 c1) (.slice a2 l2 c2) (.slice a3 l3 c3) (.slice a4 l4 c4) (.slice a5 l5 c5) u):=fun u hu=>HT1.out u (H5.out.ext hu)
   have A5:Hid (SayG W0.heap.size (wr.alloc (.cells #[.slice e1 n1 d1,.int .i64 y.vars,.slice e2 l9 d2] 68)) vd vd (datXs x.ds P) (wr.alloc (.cells #[.slice e1 n1 d1,.int .i64 y.vars,.slice e2 l9 d2] 68))):=H5.out.re
   have HNm:Hid (∀ u,Below W0.heap.size W0 u→Reads u e1 n1 y.name):=fun u hu=>(hRn.le (cle_belowK hu)).1
   have hnl:y.name.length=n1:=hRn.1.1;have hnl8:=hyG.1.2;have hvr:=hyG.2.1;have HCo:Hid (SlCo W0 e2 l9 y.cons∧(∀ c ∈ y.cons,conG y.vars x.ds c)):=⟨hCo,hyG.2.2.2⟩;have hcl:=hyG.2.2.1;have hcn:=hCo.1;have hcn2:=hCo.2.1;have hxl:=datX_len HH.out.2.2.2 hyG
   have hPl':(datXs x.ds (P++[y])).length≤10100 * (j+1):=by rw[datXs_app];simp only[datXs,lA,lC];omega
   have E9:Hid (datXs x.ds P++datX x.ds y=datXs x.ds (P++[y])):=by show _=_;rw[datXs_app];simp [datXs]
   have FX:Hid ((R' = []∨∃ b o,a0=some ⟨b,o,none⟩∧InDa W0 W0 R' b (o+(j+1) * 3))∧(P++[y])++R' = x.ds):=⟨.inr ⟨b,o,ea,hin2⟩,by rw[← hPR];simp⟩;obtain ⟨⟨r0,r1,r2⟩,rf,-,-⟩:=three ba
   have hgl:(datXs x.ds P).length≤60600:=by omega
   obtain ⟨Z0,hZ0⟩:∃ Z0,Z0=datXs x.ds P:=⟨_,rfl⟩;have EZ0:Hid (Z0=datXs x.ds P):=hZ0;rw[← hZ0] at A5 H5 hgl;clear HR hin2 hPR hRn hCo hym hyG ga ba z0 z1 z2 AL hfar hZ0 hPl;subst ea;go_upto_region 6 with fail;clear k0 k1 k2 r0 r1 r2 rf x0 x1 x2 x3 x4 x5 x6 x7;generalize wr.alloc (.cells #[.slice e1 n1 d1,.int .i64 y.vars,.slice e2 l9 d2] 68)=w5 at *;obtain ⟨q5,hq5⟩:∃ q5,q5=wr.heap.size:=⟨_,rfl⟩;simp only[← hq5] at *;clear hq5;have HT:=HT5;have BL:=BL5;have AL:=A5;clear A5;obtain ⟨x0,x1,x2⟩:=HT.out _ AL.out.gr;have AD:Hid (SayG _ _ _ _ _ w5.drew):=AL.out.grown (grown_drew (grf _ none));clear AL x0 x1 x2;refine wp_region_held_drew (S:=(fun u=>Tri q5 0 (.slice e1 n1 d1) (.int .i64 y.vars) (.slice e2 l9 d2) u)) (by kernel_rfl) (HT.out _ AD.out.gr) (fun hH=>?_);have AL:=AD;clear AD;generalize w5.drew=v0w at *;simp only[List.size_toArray,lB,lC,Nat.reduceAdd,Array.replicate,List.replicate];refine tk 0 ?_
   refine tk 2 ?_;refine tk 3 ?_;refine rd 1 rfl (fun K hK=>?_);refine step_of rfl (wp_strG _ _ 23 9 rfl W0.heap.size i0 Tryz.underlying23 Tryz.underlying9 hi hz0 hz1 hz2 _ (Z0) rfl AL.out.own _ [40,100,97,116,97,32] rfl rfl (by (try simp only[lA,List.length_singleton,lB,lC]);omega) AL.out.size ?_);intro vb1 ub2 sb;have AN:Hid (SayG _ _ _ vb1 ((Z0)++[40,100,97,116,97,32]) ub2):=AL.out.trans sb;clear AL sb;have AL:=AN;clear AN;refine hK.out _ _ (HT.out _ AL.out.gr) ?_;clear hK K hH;intro hH;simp only[Act.put,nA,nB,nC,nD,nE,nF];have AN:Hid (SayG _ _ _ _ ((Z0)++[40,100,97,116,97,32]) ub2∧True):=⟨AL.out,trivial⟩;clear AL;refine rd 4 rfl (fun K hK=>?_);refine step_of rfl (wp_appN _ _ 23 rfl W0.heap.size i0 (.int .u8 0) Tryz.underlying23 hi hz0 hz1 hz2 rfl _ ((Z0)++[40,100,97,116,97,32]) rfl AN.out.1.own e1 n1 d1 y.name rfl (HNm.out _ (BL.out _ AN.out.1.gr)) (Or.inl (by simp)) (by (try simp only[lA,List.length_singleton,lB,lC]);omega) AN.out.1.size ?_)
   intro vb3 ub4 sb;have AL:Hid (SayG _ _ _ vb3 (((Z0)++[40,100,97,116,97,32])++y.name) ub4):=AN.out.1.trans sb;clear AN sb;refine hK.out _ _ (HT.out _ AL.out.gr) ?_;clear hK K hH;intro hH;simp only[Act.put,nA,nB,nC,nD,nE,nF];refine tk 5 ?_;refine wpAnyH_done (by kernel_rfl) ?_ _;clear hH;obtain ⟨Z1,hZ1⟩:∃ Z1,Z1=((Z0)++[40,100,97,116,97,32])++y.name:=⟨_,rfl⟩;have EZ1:Hid (Z1=((Z0)++[40,100,97,116,97,32])++y.name):=hZ1;have hz1l:=congrArg List.length hZ1;simp only[lA,lB,lC] at hz1l;rw[← hZ1] at AL;clear hZ1;obtain ⟨x0,x1,x2⟩:=HT.out _ AL.out.gr
   have CD:Hid (∀ u,_):=fun u=>l3digitsW y.vars u (by omega) (by omega)
   have hdl:(intB y.vars).length≤11:=intB_len (by simp [wholeV];omega);go_upto_region 7 with fail;have AD:Hid (SayG _ _ _ _ _ ub4.drew):=AL.out.grown (grown_drew (grf _ none));clear AL x0 x1 x2;refine wp_region_held_drew (S:=(fun u=>Tri q5 0 (.slice e1 n1 d1) (.int .i64 y.vars) (.slice e2 l9 d2) u)) (by kernel_rfl) (HT.out _ AD.out.gr) (fun hH=>?_);have AL:=AD;clear AD;generalize ub4.drew=v0w at *;simp only[List.size_toArray,lB,lC,Nat.reduceAdd,Array.replicate,List.replicate];refine tk 0 ?_;refine tk 3 ?_;refine tk 4 ?_;refine rd 1 rfl (fun K hK=>?_);go_simp;have AN:Hid (SayG _ _ _ _ _ (v0w.alloc (.cells #[.int .u8 32] 5))∧Reads (v0w.alloc (.cells #[.int .u8 32] 5)) (some ⟨v0w.heap.size,0,none⟩) 1 [32]):=⟨AL.out.grown (gal _ _ _),readsOneB v0w 32 5⟩;clear AL;generalize v0w.alloc (.cells #[.int .u8 32] 5)=ub5 at *;generalize v0w.heap.size=pb6 at *;refine hK.out _ _ (HT.out _ AN.out.1.gr) ?_
   clear hK K hH;intro hH;simp only[Act.put,nA,nB,nC,nD,nE,nF];refine rd 2 rfl (fun K hK=>?_);refine step_of rfl (wp_appG _ _ 23 rfl W0.heap.size i0 (.int .u8 0) Tryz.underlying23 hi hz0 hz1 hz2 rfl _ (Z1) rfl AN.out.1.own (some ⟨pb6,0,none⟩) 1 1 [32] rfl AN.out.2 (by simp) (by (try simp only[lA,List.length_singleton,lB,lC]);omega) AN.out.1.size ?_);intro vb7 ub8 sb;have AL:Hid (SayG _ _ _ vb7 ((Z1)++[32]) ub8):=AN.out.1.trans sb;clear AN sb;refine hK.out _ _ (HT.out _ AL.out.gr) ?_;clear hK K hH;intro hH;simp only[Act.put,nA,nB,nC,nD,nE,nF];refine rd 5 rfl (fun K hK=>?_);go_simp;refine Calls.mono (CD.out ub8) ?_;rintro e u4 ⟨a3',c3',he,hg4,hO4⟩;subst he;have AN:Hid (SayG _ _ _ _ (Z1++[32]) u4∧Reads u4 a3' (intB y.vars).length (intB y.vars)):=⟨AL.out.grown hg4,hO4.reads⟩;have ha3:a3' = none→c3' = 0:=hO4.nilCap;clear AL hg4 hO4;refine hK.out _ _ (HT.out _ AN.out.1.gr) ?_;clear hK K hH;intro hH
   simp only[Act.put,nA,nB,nC,nD,nE,nF];refine rd 6 rfl (fun K hK=>?_);refine step_of rfl (wp_appG _ _ 23 rfl W0.heap.size i0 (.int .u8 0) Tryz.underlying23 hi hz0 hz1 hz2 rfl _ (Z1++[32]) rfl AN.out.1.own a3' (intB y.vars).length c3' (intB y.vars) rfl AN.out.2 ha3 (by (try simp only[lA,List.length_singleton,lB,lC]);omega) AN.out.1.size ?_);intro vb19 ub20 sb;have AL:Hid (SayG _ _ _ vb19 ((Z1++[32])++(intB y.vars)) ub20):=AN.out.1.trans sb;clear AN sb;refine hK.out _ _ (HT.out _ AL.out.gr) ?_;clear hK K hH;intro hH;simp only[Act.put,nA,nB,nC,nD,nE,nF];refine tk 7 ?_;refine wpAnyH_done (by kernel_rfl) ?_ _;clear hH CD;obtain ⟨Z2,hZ2⟩:∃ Z2,Z2=(Z1++[32])++intB y.vars:=⟨_,rfl⟩
   have EZ2:Hid (Z2=datXs x.ds P++([40,100,97,116,97,32]++y.name++32::decB y.vars.toNat)):=by
    show _=_
    rw[hZ2,EZ1.out,EZ0.out,intB_pos hvr.1];simp
   have hz2l:=congrArg List.length hZ2;simp only[lA,lB,lC] at hz2l;rw[← hZ2] at AL;clear hZ2 EZ1 EZ0;obtain ⟨Z1',hZ1'⟩:∃ Z1',Z1' = Z2:=⟨_,rfl⟩;obtain ⟨x0,x1,x2⟩:=HT.out _ AL.out.gr;go_wp2;clear x0 x1 x2
   go_loopw [3,6] (fun vv i wr=>∃ (vc:Value) (jc:Nat) (R2:List Co) (pre:List Int),vc=vv∧jc≤l9∧i = .int .i64 jc∧R2.length+jc=l9∧pre.length≤2000 * jc∧Hid ((R2=[]∨∃ b o,e2=some ⟨b,o,none⟩∧InCo W0 W0 R2 b (o+jc * 2))∧(∀ c ∈ R2,conG y.vars x.ds c)∧pre++conXs x.ds R2=conXs x.ds y.cons)∧Hid (SayG W0.heap.size w5 vd vc (Z2++pre) wr)) (fun _ i _=>l9 - (intOf i).toNat)
   case atStart =>
    refine ⟨_,0,y.cons,[],rfl,Nat.zero_le _,rfl,by omega,by simp,⟨?_,HCo.out.2,rfl⟩,by rw[List.append_nil];exact AL⟩;rcases HCo.out.1.cases with ⟨-,e⟩|⟨b,o,e,hin,-⟩
    ·
     exact .inl e
    ·
     exact .inr ⟨b,o,e,by simpa using hin⟩
   case round =>
    clear AL;obtain ⟨vc,jc,R2,pre,rfl,hjc,rfl,hRl2,hpl,HR2,AL⟩:=hrel;obtain ⟨x0,x1,x2⟩:=HT.out _ AL.out.gr;by_cases hltc:jc < l9
    ·
     have hltc':(jc:Int) < l9:=by omega
     obtain ⟨cc,R3,rfl⟩:∃ cc R3,R2=cc::R3:=by
      cases R2 with
      | nil=>simp at hRl2;omega
      | cons cc R3=>exact ⟨cc,R3,rfl⟩
     obtain ⟨hin,hcg,hP2⟩:=HR2.out;rcases hin with e|⟨bc,oc,ea,hin⟩
     ·
      cases e
     obtain ⟨⟨f1,m1,g1,f2,m2,g2,z0,z1,hRn,hFl⟩,hin2⟩:=hin;rw[show oc+jc * 2+2=oc+(jc+1) * 2 by omega] at hin2;have hcG:=hcg cc (List.mem_cons_self ..)
     have HCn:Hid (∀ u,Below W0.heap.size W0 u→Reads u f1 m1 cc.name):=fun u hu=>(hRn.le (cle_belowK hu)).1
     have hcnl:cc.name.length=m1:=hRn.1.1;have hcn8:=hcG.1.2;have hcf3:=hcG.2.1;have hfl2:=hFl.1;have hfl3:=hFl.2.1;have HFl:Hid (SlF W0 f2 m2 cc.flds∧fldG y.vars x.ds cc.flds):=⟨hFl,hcG.2.2⟩;have hcx:=conX_len HH.out.2.2.2 hcG;have FX2:Hid ((R3=[]∨∃ b o,e2=some ⟨b,o,none⟩∧InCo W0 W0 R3 b (o+(jc+1) * 2))∧(∀ c ∈ R3,conG y.vars x.ds c)∧(pre++conX x.ds cc)++conXs x.ds R3=conXs x.ds y.cons):=⟨.inr ⟨bc,oc,ea,hin2⟩,fun c hc=>hcg c (List.mem_cons_of_mem _ hc),by rw[← hP2];simp [conXs]⟩
     have hpl':(pre++conX x.ds cc).length≤2000 * (jc+1):=by rw[lA];omega
     subst ea
     have HT6:Hid (∀ u,w5.grownBy u vd.ownBlock→(fun u=>Tri q5 0 (.slice e1 n1 d1) (.int .i64 y.vars) (.slice (some ⟨bc,oc,none⟩) l9 d2) u∧(u.cell? ⟨bc,oc+jc * 2,none⟩=some (.slice f1 m1 g1)∧u.cell? ⟨bc,oc+jc * 2+1,none⟩=some (.slice f2 m2 g2))) u):=fun u hu=>⟨HT5.out u hu,cle_belowK (BL5.out u hu) _ _ z0,cle_belowK (BL5.out u hu) _ _ z1⟩
     clear HR2 hcg hP2 hin2 hRn hFl hcG HT;have HT:=HT6;go_upto_region 11 with fail;have AD:Hid (SayG _ _ _ _ _ wr.drew):=AL.out.grown (grown_drew (grf _ none));clear AL x0 x1 x2 z0 z1;refine wp_region_held_drew (S:=(fun u=>Tri q5 0 (.slice e1 n1 d1) (.int .i64 y.vars) (.slice (some ⟨bc,oc,none⟩) l9 d2) u∧(u.cell? ⟨bc,oc+jc * 2,none⟩=some (.slice f1 m1 g1)∧u.cell? ⟨bc,oc+jc * 2+1,none⟩=some (.slice f2 m2 g2)))) (by kernel_rfl) (HT.out _ AD.out.gr) (fun hH=>?_);have AL:=AD;clear AD;generalize wr.drew=v0w at *;simp only[List.size_toArray,lB,lC,Nat.reduceAdd,Array.replicate,List.replicate];refine tk 0 ?_;refine tk 2 ?_;refine tk 3 ?_;refine tk 4 ?_;refine tk 5 ?_;refine tk 6 ?_;refine tk 7 ?_;refine rd 1 rfl (fun K hK=>?_);refine step_of rfl (wp_strG _ _ 23 9 rfl W0.heap.size i0 Tryz.underlying23 Tryz.underlying9 hi hz0 hz1 hz2 _ (Z2++pre) rfl AL.out.own _ [32,40] rfl rfl (by (try simp only[lA,List.length_singleton,lB,lC]);omega) AL.out.size ?_)
     intro vb9 ub10 sb;have AN:Hid (SayG _ _ _ vb9 ((Z2++pre)++[32,40]) ub10):=AL.out.trans sb;clear AL sb;have AL:=AN;clear AN;refine hK.out _ _ (HT.out _ AL.out.gr) ?_;clear hK K hH;intro hH;simp only[Act.put,nA,nB,nC,nD,nE,nF];have AN:Hid (SayG _ _ _ _ ((Z2++pre)++[32,40]) ub10∧True):=⟨AL.out,trivial⟩;clear AL;refine rd 8 rfl (fun K hK=>?_);refine step_of rfl (wp_appN _ _ 23 rfl W0.heap.size i0 (.int .u8 0) Tryz.underlying23 hi hz0 hz1 hz2 rfl _ ((Z2++pre)++[32,40]) rfl AN.out.1.own f1 m1 g1 cc.name rfl (HCn.out _ (BL.out _ AN.out.1.gr)) (Or.inl (by simp)) (by (try simp only[lA,List.length_singleton,lB,lC]);omega) AN.out.1.size ?_);intro vb11 ub12 sb;have AL:Hid (SayG _ _ _ vb11 (((Z2++pre)++[32,40])++cc.name) ub12):=AN.out.1.trans sb;clear AN sb;refine hK.out _ _ (HT.out _ AL.out.gr) ?_;clear hK K hH;intro hH;simp only[Act.put,nA,nB,nC,nD,nE,nF];refine tk 9 ?_;refine wpAnyH_done (by kernel_rfl) ?_ _
     clear hH;obtain ⟨P2,hP2d⟩:∃ P2,P2=pre++[32,40]:=⟨_,rfl⟩;have AN:Hid (SayG W0.heap.size w5 vd vb11 (Z2++P2++cc.name) ub12):=AL.out.as (by rw[hP2d];simp);have EP2:Hid (P2=pre++[32,40]):=hP2d;have hp2l:=congrArg List.length hP2d;simp only[lA,lB,lC] at hp2l;clear AL hP2d;have AL:=AN;clear AN;obtain ⟨⟨x0,x1,x2⟩,y0,y1⟩:=HT.out _ AL.out.gr;go_wp2;clear x0 x1 x2 y0 y1
     go_loopw [3,7] (fun vv i wr=>∃ (vf:Value) (jf:Nat) (R4:F) (pr2:List Int),vf=vv∧jf≤m2∧i = .int .i64 jf∧R4.len+jf=m2∧pr2.length≤8+700 * jf∧Hid ((R4 = .nil∨∃ b o,f2=some ⟨b,o,none⟩∧InF W0 R4 b (o+jf * 3))∧fldG y.vars x.ds R4∧pr2++tyXF x.ds R4=cc.name++tyXF x.ds cc.flds)∧Hid (SayG W0.heap.size w5 vd vf (Z2++P2++pr2) wr)) (fun _ i _=>m2 - (intOf i).toNat)
     case atStart =>
      refine ⟨_,0,cc.flds,cc.name,rfl,Nat.zero_le _,rfl,by omega,by omega,⟨?_,HFl.out.2,rfl⟩,AL⟩;rcases HFl.out.1.cases with ⟨-,e⟩|⟨b,o,e,hin,-,-⟩
      ·
       exact .inl e
      ·
       exact .inr ⟨b,o,e,by simpa using hin⟩
     case round =>
      clear AL;obtain ⟨vf,jf,R4,pr2,rfl,hjf,rfl,hRl4,hpl4,HR4,AL⟩:=hrel;obtain ⟨⟨x0,x1,x2⟩,y0,y1⟩:=HT.out _ AL.out.gr;by_cases hltf:jf < m2
      ·
       have hltf':(jf:Int) < m2:=by omega
       obtain ⟨q9,hq9⟩:∃ q9,R4.len=q9+1:=⟨R4.len - 1,by omega⟩;obtain ⟨kk,nn,dd,R5,rfl,hR5⟩:=F.cons_of_len hq9;obtain ⟨hin,hfg,hP4⟩:=HR4.out;rcases hin with e|⟨bf,of,ea,hin⟩
       ·
        cases e
       obtain ⟨a9,l8,c9,z0,z1,z2,hd2,hin2⟩:=hin.out;rw[show of+jf * 3+3=of+(jf+1) * 3 by omega] at hin2;obtain ⟨⟨t1,t2,t3,t4⟩,t5⟩:=fldG_cons hfg;have hsl:=tyX_len HH.out.2.2.2 t1 t2 t4
       have CT:Hid (∀ v0 z9 u0,Below W0.heap.size W0 u0→u0.ownsRow W0.heap.size 5 1 v0 z9.length (vals z9)→z9.length+(tyX x.ds kk nn dd).length≤900000→_):=fun v0 z9 u0 h1 h2 h3=>l5sayTyT W0 (some ⟨b,o,none⟩) l0 c0 x.ds y.vars HSD.out HH.out.2.2.2 (dd.size+1) dd kk nn a9 l8 c9 v0 z9 u0 9 (by omega) hd2 h1 h2 t1 t2 t4 h3
       have FX4:Hid ((R5 = .nil∨∃ b o,f2=some ⟨b,o,none⟩∧InF W0 R5 b (o+(jf+1) * 3))∧fldG y.vars x.ds R5∧(pr2++32::tyX x.ds kk nn dd)++tyXF x.ds R5=cc.name++tyXF x.ds cc.flds):=⟨.inr ⟨bf,of,ea,hin2⟩,t5,by rw[← hP4,tyXF_cons];simp⟩
       have hpl5:(pr2++32::tyX x.ds kk nn dd).length≤8+700 * (jf+1):=by simp only[lA,lB];omega
       subst ea
       have HT7:Hid (∀ u,w5.grownBy u vd.ownBlock→(fun u=>Tri q5 0 (.slice e1 n1 d1) (.int .i64 y.vars) (.slice (some ⟨bc,oc,none⟩) l9 d2) u∧(u.cell? ⟨bc,oc+jc * 2,none⟩=some (.slice f1 m1 g1)∧u.cell? ⟨bc,oc+jc * 2+1,none⟩=some (.slice (some ⟨bf,of,none⟩) m2 g2))∧Tri bf (of+jf * 3) (.int .i64 kk) (.int .i64 nn) (.slice a9 l8 c9) u∧Oct q0 (.slice (some ⟨b,o,none⟩) l0 c0) (.int .i64 x.p.k) (.int .i64 x.p.n) (.slice a1 l1 c1) (.slice a2 l2 c2) (.slice a3 l3 c3) (.slice a4 l4 c4) (.slice a5 l5 c5) u) u):=fun u hu=>⟨(HT6.out u hu).1,(HT6.out u hu).2,tri_below (W0:=W0) ⟨z0,z1,z2⟩ (BL5.out u hu),OC5.out u hu⟩
       clear HR4 hP4 hin hin2 hfg hd2 t1 t2 t4 t5 HT;have HT:=HT7;go_upto_region 15 with fail;have AD:Hid (SayG _ _ _ _ _ wr.drew):=AL.out.grown (grown_drew (grf _ none));clear AL x0 x1 x2 y0 y1 z0 z1 z2;refine wp_region_held_drew (S:=(fun u=>Tri q5 0 (.slice e1 n1 d1) (.int .i64 y.vars) (.slice (some ⟨bc,oc,none⟩) l9 d2) u∧(u.cell? ⟨bc,oc+jc * 2,none⟩=some (.slice f1 m1 g1)∧u.cell? ⟨bc,oc+jc * 2+1,none⟩=some (.slice (some ⟨bf,of,none⟩) m2 g2))∧Tri bf (of+jf * 3) (.int .i64 kk) (.int .i64 nn) (.slice a9 l8 c9) u∧Oct q0 (.slice (some ⟨b,o,none⟩) l0 c0) (.int .i64 x.p.k) (.int .i64 x.p.n) (.slice a1 l1 c1) (.slice a2 l2 c2) (.slice a3 l3 c3) (.slice a4 l4 c4) (.slice a5 l5 c5) u)) (by kernel_rfl) (HT.out _ AD.out.gr) (fun hH=>?_);have AL:=AD;clear AD;generalize wr.drew=v0w at *;simp only[List.size_toArray,lB,lC,Nat.reduceAdd,Array.replicate,List.replicate];refine tk 0 ?_;refine tk 3 ?_;refine tk 4 ?_
       refine tk 5 ?_;refine tk 6 ?_;refine tk 7 ?_;refine tk 8 ?_;refine tk 9 ?_;refine tk 10 ?_;refine tk 11 ?_;refine tk 12 ?_;refine tk 13 ?_;refine rd 1 rfl (fun K hK=>?_);go_simp;have AN:Hid (SayG _ _ _ _ _ (v0w.alloc (.cells #[.int .u8 32] 5))∧Reads (v0w.alloc (.cells #[.int .u8 32] 5)) (some ⟨v0w.heap.size,0,none⟩) 1 [32]):=⟨AL.out.grown (gal _ _ _),readsOneB v0w 32 5⟩;clear AL;generalize v0w.alloc (.cells #[.int .u8 32] 5)=ub13 at *;generalize v0w.heap.size=pb14 at *;refine hK.out _ _ (HT.out _ AN.out.1.gr) ?_;clear hK K hH;intro hH;simp only[Act.put,nA,nB,nC,nD,nE,nF];refine rd 2 rfl (fun K hK=>?_);refine step_of rfl (wp_appG _ _ 23 rfl W0.heap.size i0 (.int .u8 0) Tryz.underlying23 hi hz0 hz1 hz2 rfl _ (Z2++P2++pr2) rfl AN.out.1.own (some ⟨pb14,0,none⟩) 1 1 [32] rfl AN.out.2 (by simp) (by (try simp only[lA,List.length_singleton,lB,lC]);omega) AN.out.1.size ?_);intro vb15 ub16 sb
       have AL:Hid (SayG _ _ _ vb15 ((Z2++P2++pr2)++[32]) ub16):=AN.out.1.trans sb;clear AN sb;refine hK.out _ _ (HT.out _ AL.out.gr) ?_;clear hK K hH;intro hH;simp only[Act.put,nA,nB,nC,nD,nE,nF];refine rd 14 rfl (fun K hK=>?_);go_simp;refine Calls.mono (CT.out vb15 ((Z2++P2++pr2)++[32]) ub16 (BL.out _ AL.out.gr) AL.out.own (by (try simp only[lA,List.length_singleton,lB,lC]);omega)) ?_;rintro e ub18 ⟨vb17,he,sb⟩;subst he;have AN:Hid (SayG _ _ _ vb17 (((Z2++P2++pr2)++[32])++(tyX x.ds kk nn dd)) ub18):=AL.out.trans sb;clear AL sb;have AL:=AN;clear AN;refine hK.out _ _ (HT.out _ AL.out.gr) ?_;clear hK K hH;intro hH;simp only[Act.put,nA,nB,nC,nD,nE,nF];refine tk 15 ?_;refine wpAnyH_done (by kernel_rfl) ?_ _;clear hH HT7 HT CT;have AN9:Hid (SayG W0.heap.size w5 vd vb17 (Z2++P2++(pr2++32::tyX x.ds kk nn dd)) ub18):=AL.out.as (by simp);clear AL;go_wp2;go_roundw
       case rel=>exact ⟨vb17,jf+1,R5,pr2++32::tyX x.ds kk nn dd,rfl,by omega,by go_num,by omega,hpl5,FX4,AN9⟩
       case measure=>simp [intOf];omega
      ·
       obtain rfl:jf=m2:=by omega
       obtain rfl:R4 = .nil:=F.nil_of_len (by omega);obtain ⟨-,-,hP4⟩:=HR4.out;simp only[tyXF,List.append_nil] at hP4
       have E41:Hid (Z2++P2++pr2++[41]=Z2++(pre++conX x.ds cc)):=by show _=_;rw[EP2.out,hP4];simp [conX]
       clear HR4 hP4;go_upto_region 16 with fail;clear x0 x1 x2 y0 y1;have ga:=gal wr (.cells #[.int .u8 41] 5) none;have AN:Hid (SayG W0.heap.size w5 vd vf (Z2++P2++pr2) (wr.alloc (.cells #[.int .u8 41] 5))∧Reads (wr.alloc (.cells #[.int .u8 41] 5)) (some ⟨wr.heap.size,0,none⟩) 1 [41]):=⟨AL.out.grown ga,readsOneB wr 41 5⟩;clear ga AL;go_wp2_with (at_builtin;go_must (refine wpList_appG rfl _ _ 23 rfl W0.heap.size i0 (.int .u8 0) Tryz.underlying23 hi hz0 hz1 hz2 rfl vf (Z2++P2++pr2) rfl AN.out.1.own (some ⟨wr.heap.size,0,none⟩) 1 1 [41] rfl AN.out.2 (by simp) (by (try simp only[lA,List.length_singleton,lB,lC]);omega) AN.out.1.size ?_);intro v9 u9 s9);have AN9:Hid (SayG W0.heap.size w5 vd v9 (Z2++(pre++conX x.ds cc)) u9):=(AN.out.1.trans s9).as E41.out;clear AN s9;go_roundw
       case rel=>exact ⟨v9,jc+1,R3,pre++conX x.ds cc,rfl,by omega,by go_num,by simp only[lB] at hRl2;omega,hpl',FX2,AN9⟩
       case measure=>simp [intOf];omega
    ·
     obtain rfl:jc=l9:=by omega
     obtain rfl:R2=[]:=List.eq_nil_of_length_eq_zero (by omega);obtain ⟨-,-,hP2⟩:=HR2.out;simp only[conXs,List.append_nil] at hP2
     have E42:Hid (Z2++pre++[41,10]=datXs x.ds (P++[y])):=by show _=_;rw[← E9.out,EZ2.out,hP2];simp [datX]
     clear HR2 hP2;go_upto_region 17 with fail;clear x0 x1 x2;go_wp2_with (at_builtin;go_must (refine wpList_strG rfl _ _ 23 9 rfl W0.heap.size i0 Tryz.underlying23 Tryz.underlying9 hi hz0 hz1 hz2 vc (Z2++pre) rfl AL.out.own _ [41,10] rfl rfl (by (try simp only[lA,List.length_singleton,lB,lC]);omega) AL.out.size ?_);intro v9 u9 s9);have AN9:Hid (SayG W0.heap.size w1 (.slice none 0 0) v9 (datXs x.ds (P++[y])) u9):=(H5.out.trans ((AL.out.trans s9).as E42.out));clear AL s9;go_roundw
     case rel=>exact ⟨v9,j+1,P++[y],R',rfl,by omega,by go_num,by simp only[lB] at hRl;omega,hPl',FX,AN9⟩
     case measure=>simp [intOf];omega
  ·
   obtain rfl:j=l0:=by omega
   obtain rfl:R=[]:=List.eq_nil_of_length_eq_zero (by omega);obtain ⟨-,hPR⟩:=HR.out;rw[List.append_nil] at hPR;subst hPR;have C0:Hid _:=HSay.out x.p x.kids x.alts a1 l1 c1 a2 l2 c2 a3 l3 c3 a4 l4 c4 a5 l5 c5 vd (datXs x.ds x.ds) wr 40 (by omega) HH.out.1.2 HH.out.2.1 (BL0.out _ AL.out.gr) AL.out.own (by omega);clear HR;go_wp2_with fail;refine Calls.mono C0.out ?_;rintro e u1 ⟨v2,he,s2⟩;subst he;have ga:=gal u1 (.cells #[.int .u8 10] 5) none;have AN:Hid (SayG W0.heap.size w1 (.slice none 0 0) v2 (datXs x.ds x.ds++exX x.p x.kids x.alts) (u1.alloc (.cells #[.int .u8 10] 5))∧Reads (u1.alloc (.cells #[.int .u8 10] 5)) (some ⟨u1.heap.size,0,none⟩) 1 [10]):=⟨(AL.out.trans s2).grown ga,readsOneB u1 10 5⟩;clear C0 s2 ga AL x0 x1 x2 x3 x4 x5 x6 x7;simp only[];go_wp2_with (at_builtin;go_must (refine wpList_appG rfl _ _ 23 rfl W0.heap.size i0 (.int .u8 0) Tryz.underlying23 hi hz0 hz1 hz2 rfl v2 (datXs x.ds x.ds++exX x.p x.kids x.alts) rfl AN.out.1.own (some ⟨u1.heap.size,0,none⟩) 1 1 [10] rfl AN.out.2 (by simp) (by (try simp only[lA,List.length_singleton,lB,lC]);omega) AN.out.1.size ?_);intro v9 u9 s9)
   have FF:Hid (u9.ownsRow W0.heap.size 5 1 v9 (srcX x).length (vals (srcX x))∧W0.grownBy u9 none):=by
    have t:=AN.out.1.trans s9;exact ⟨t.own,gtr HG.out t.gr⟩
   clear AN s9;go_ret;exact ⟨v9,rfl,FF.out⟩
end Go.Proofs.YtblbnillilbacaaGreatDoor.By
