/-
  No statement is proved here.
-/
import Derived.Test.YtblbnillilbacaaGreatDoorKCAlsoa
namespace Go.Proofs.YtblbnillilbacaaGreatDoor.By
set_option maxRecDepth 100000
set_option maxHeartbeats 16000000
open Go.RowKit
set_option linter.unusedVariables false
set_option linter.unusedSimpArgs false
theorem l5sayTyT (W0:World) (da:Option Addr) (dl dc:Nat) (ds:List Da) (V:Int) (hds:SlDa W0 da dl ds) (hG:NamG ds) (m:Nat):∀ (d:F) (k n:Int) (a:Option Addr) (l c:Nat) (v:Value) (zs:List Int) (w:World) (p:Nat),d.size < m→SlF W0 a l d→Below W0.heap.size W0 w→w.ownsRow W0.heap.size 5 1 v zs.length (vals zs)→fitsB k n d.len=true→okF d p=true→tyD V ds k n d=true→zs.length+(tyX ds k n d).length≤900000 →
  Calls Tryz.prog 55 #[v,.agg #[.int .i64 k,.int .i64 n,.slice a l c],.slice da dl dc] w fun e u=>∃ v',e = .returned v'∧SayG W0.heap.size w v v' (zs++tyX ds k n d) u:=by
 induction m with
 | zero=>intro d k n a l c v zs w p hm;exact absurd hm (Nat.not_lt_zero _)
 | succ m ih =>
  intro d k n a l c v zs w p hm h hb ho hf hok hd hlen;obtain ⟨i0,hi,hz0,hz1,hz2⟩:=info_parts infoS;have hfl:=h.1;have hl:=h.2.1;have hk:=fits_rangeS hf;have hnn:=fits_num hf;have hB:=hb.size;have g0:=gal w (.cells #[.int .i64 k,.int .i64 n,.slice a l c] 79) none;have b0:=heap_alloc_new w (.cells #[.int .i64 k,.int .i64 n,.slice a l c] 79);have H0:Hid (SayG W0.heap.size w v v zs (w.alloc (.cells #[.int .i64 k,.int .i64 n,.slice a l c] 79))):=(SayG.start ho hB).grown g0;have AL:Hid (SayG W0.heap.size (w.alloc (.cells #[.int .i64 k,.int .i64 n,.slice a l c] 79)) v v zs (w.alloc (.cells #[.int .i64 k,.int .i64 n,.slice a l c] 79))):=H0.out.re
  have hne:v.ownBlock≠some w.heap.size:=fun e=>by have:=(ho.lt _ e).2;omega
  have HT:Hid (∀ u,(w.alloc (.cells #[.int .i64 k,.int .i64 n,.slice a l c] 79)).grownBy u v.ownBlock→Tri w.heap.size 0 (.int .i64 k) (.int .i64 n) (.slice a l c) u):=fun u hu=>(three ((hu.block _ (lt_of_block b0) (fun e=>hne e.symm)).trans b0)).1
  have HB:Hid (∀ u,(w.alloc (.cells #[.int .i64 k,.int .i64 n,.slice a l c] 79)).grownBy u v.ownBlock→Below W0.heap.size W0 u):=fun u hu=>(hb.grown g0 hB (fun k hk=>by cases hk)).grown hu (Nat.le_trans hB g0.size) (fun g hg=>(ho.lt g hg).1)
  have IH:Hid _:=ih;have HS:Hid (SlF W0 a l d∧SlDa W0 da dl ds):=⟨h,hds⟩;have HF:Hid (fitsB k n d.len=true∧okF d p=true∧tyD V ds k n d=true):=⟨hf,hok,hd⟩;clear ih h hb ho hf hok hd g0 b0 hne;go_enter Tryz.func55,Tryz.ntmps55;go_upto_region 1 with fail;generalize w.alloc (.cells #[.int .i64 k,.int .i64 n,.slice a l c] 79)=w1 at *;generalize w.heap.size=q at *;obtain ⟨x0,x1,x2⟩:=HT.out _ AL.out.gr;by_cases h0:k=0
  ·
   subst h0;have hd0:d = .nil:=F.nil_of_len (by have:=HF.out.1;rw[fitsB] at this;simp at this;omega);subst hd0
   have EF:Hid (zs++[117,110,105,116]=zs++tyX ds 0 n .nil):=by show _=_;rw[tyX_nil];simp [twB,wordB]
   have hz9:zs.length+([117,110,105,116]:List Int).length≤1048576:=by simp only[lB,lC];omega
   clear IH HS HF;go_wp2_with (at_builtin;go_must (refine wpList_strG rfl _ _ 23 9 rfl W0.heap.size i0 Tryz.underlying23 Tryz.underlying9 hi hz0 hz1 hz2 v zs rfl AL.out.own _ [117,110,105,116] rfl rfl hz9 AL.out.size ?_);intro v2 u2 s2);have FF:Hid (SayG W0.heap.size w v v2 (zs++tyX ds 0 n .nil) u2):=(H0.out.trans (AL.out.trans s2)).as EF.out;clear s2 AL H0;go_ret;exact ⟨v2,rfl,FF.out⟩
  by_cases h1:k=1
  ·
   subst h1;have hd0:d = .nil:=F.nil_of_len (by have:=HF.out.1;rw[fitsB] at this;simp at this;omega);subst hd0
   have EF:Hid (zs++[105,110,116]=zs++tyX ds 1 n .nil):=by show _=_;rw[tyX_nil];simp [twB,wordB]
   have hz9:zs.length+([105,110,116]:List Int).length≤1048576:=by simp only[lB,lC];omega
   clear IH HS HF;go_wp2_with (at_builtin;go_must (refine wpList_strG rfl _ _ 23 9 rfl W0.heap.size i0 Tryz.underlying23 Tryz.underlying9 hi hz0 hz1 hz2 v zs rfl AL.out.own _ [105,110,116] rfl rfl hz9 AL.out.size ?_);intro v2 u2 s2);have FF:Hid (SayG W0.heap.size w v v2 (zs++tyX ds 1 n .nil) u2):=(H0.out.trans (AL.out.trans s2)).as EF.out;clear s2 AL H0;go_ret;exact ⟨v2,rfl,FF.out⟩
  by_cases h2:k=2
  ·
   subst h2;have hd0:d = .nil:=F.nil_of_len (by have:=HF.out.1;rw[fitsB] at this;simp at this;omega);subst hd0
   have EF:Hid (zs++[116,101,120,116]=zs++tyX ds 2 n .nil):=by show _=_;rw[tyX_nil];simp [twB,wordB]
   have hz9:zs.length+([116,101,120,116]:List Int).length≤1048576:=by simp only[lB,lC];omega
   clear IH HS HF;go_wp2_with (at_builtin;go_must (refine wpList_strG rfl _ _ 23 9 rfl W0.heap.size i0 Tryz.underlying23 Tryz.underlying9 hi hz0 hz1 hz2 v zs rfl AL.out.own _ [116,101,120,116] rfl rfl hz9 AL.out.size ?_);intro v2 u2 s2);have FF:Hid (SayG W0.heap.size w v v2 (zs++tyX ds 2 n .nil) u2):=(H0.out.trans (AL.out.trans s2)).as EF.out;clear s2 AL H0;go_ret;exact ⟨v2,rfl,FF.out⟩
  by_cases h7:k=7
  ·
   subst h7;have hd0:d = .nil:=F.nil_of_len (fits7z HF.out.1);subst hd0
   have EF:Hid (zs++[39]++intB n=zs++tyX ds 7 n .nil):=by show _=_;rw[tyX_nil,intB_pos hnn.1];simp [twB]
   have hdl:(intB n).length≤11:=intB_len (by simp [wholeV];omega)
   have hz9:zs.length+1≤1048576:=by omega
   have CC:Hid _:=fun u=>l3digitsW n u (by omega) (by omega)
   clear IH HS HF;go_upto_region 12 with fail;have AD:Hid (SayG _ _ _ _ _ w1.drew):=AL.out.grown (grown_drew (grf _ none));clear AL x0 x1 x2;refine wp_region_held_drew (S:=(fun u=>Tri q 0 (.int .i64 7) (.int .i64 n) (.slice a l c) u)) (by kernel_rfl) (HT.out _ AD.out.gr) (fun hH=>?_);have AL:=AD;clear AD;generalize w1.drew=v0 at *;simp only[List.size_toArray,lB,lC,Nat.reduceAdd,Array.replicate,List.replicate];refine tk 0 ?_;refine tk 3 ?_;refine tk 4 ?_;refine rd 1 rfl (fun K hK=>?_);go_simp;have AN:Hid (SayG _ _ _ _ _ (v0.alloc (.cells #[.int .u8 39] 5))∧Reads (v0.alloc (.cells #[.int .u8 39] 5)) (some ⟨v0.heap.size,0,none⟩) 1 [39]):=⟨AL.out.grown (gal _ _ _),readsOneB v0 39 5⟩;clear AL;generalize v0.alloc (.cells #[.int .u8 39] 5)=v1 at *;generalize v0.heap.size=p1 at *;refine hK.out _ _ (HT.out _ AN.out.1.gr) ?_;clear hK K hH;intro hH;simp only[Act.put,nA,nB,nC,nD,nE,nF];refine rd 2 rfl (fun K hK=>?_)
   refine step_of rfl (wp_appG _ _ 23 rfl W0.heap.size i0 (.int .u8 0) Tryz.underlying23 hi hz0 hz1 hz2 rfl _ _ rfl AN.out.1.own (some ⟨p1,0,none⟩) 1 1 [39] rfl AN.out.2 (by first | (simp;done) | assumption) hz9 AN.out.1.size ?_);intro v3 u3 s2;have AL:Hid (SayG _ _ _ v3 _ u3):=AN.out.1.trans s2;clear AN s2;refine hK.out _ _ (HT.out _ AL.out.gr) ?_;clear hK K hH;intro hH;simp only[Act.put,nA,nB,nC,nD,nE,nF];refine rd 5 rfl (fun K hK=>?_);go_simp;refine Calls.mono (CC.out u3) ?_;rintro e u4 ⟨a3,c3,he,hg4,hO4⟩;subst he;have AN:Hid (SayG _ _ _ _ _ u4∧Reads u4 a3 (intB n).length (intB n)):=⟨AL.out.grown hg4,hO4.reads⟩;have ha3:a3=none→c3=0:=hO4.nilCap;clear AL hg4 hO4;refine hK.out _ _ (HT.out _ AN.out.1.gr) ?_;clear hK K hH;intro hH;simp only[Act.put,nA,nB,nC,nD,nE,nF]
   have hz8:(zs++[39]).length+(intB n).length≤1048576:=by rw[lA,List.length_singleton];omega
   refine rd 6 rfl (fun K hK=>?_);refine step_of rfl (wp_appG _ _ 23 rfl W0.heap.size i0 (.int .u8 0) Tryz.underlying23 hi hz0 hz1 hz2 rfl _ _ rfl AN.out.1.own a3 (intB n).length c3 (intB n) rfl AN.out.2 (by first | (simp;done) | assumption) hz8 AN.out.1.size ?_);intro v5 u5 s2;have AL:Hid (SayG _ _ _ v5 _ u5):=AN.out.1.trans s2;clear AN s2;refine hK.out _ _ (HT.out _ AL.out.gr) ?_;clear hK K hH;intro hH;simp only[Act.put,nA,nB,nC,nD,nE,nF];refine tk 7 ?_;refine wpAnyH_done (by kernel_rfl) ?_ _;clear hH;have FF:Hid (SayG W0.heap.size w v v5 (zs++tyX ds 7 n .nil) u5):=(H0.out.trans AL.out).as EF.out;clear AL H0;go_wp2;go_ret;exact ⟨v5,rfl,FF.out⟩
  by_cases h3:k=3
  ·
   subst h3
   have hll:l=2:=by have:=HF.out.1;rw[fitsB] at this;simp at this;omega
   have hl0:d.len≠0:=by omega
   have EH:Hid (tyX ds 3 n d=[40,112,97,105,114]++(tyXF ds d++[41])):=by show _=_;rw[tyX_some hl0];simp [twB,wordB]
   have hz9:zs.length+([40,112,97,105,114]:List Int).length≤1048576:=by simp only[lB,lC];omega
   have HL:Hid (zs.length+([40,112,97,105,114]:List Int).length+(tyXF ds d).length+1≤900000):=by
    show _≤_
    have:=congrArg List.length EH.out;simp only[lA,lB,lC] at this ⊢;omega
   go_upto_region 19 with (at_builtin;go_must (refine wpList_strG rfl _ _ 23 9 rfl W0.heap.size i0 Tryz.underlying23 Tryz.underlying9 hi hz0 hz1 hz2 v zs rfl AL.out.own _ [40,112,97,105,114] rfl rfl hz9 AL.out.size ?_);intro v2 u2 s2);have AN:Hid (SayG W0.heap.size w1 v v2 (zs++[40,112,97,105,114]) u2):=AL.out.trans s2;clear AL s2 x0 x1 x2 hll;have AL:=AN;clear AN;rcases HS.out.1.cases with ⟨e0,-⟩|⟨b,o,rfl,hin,-,hpos⟩
   ·
    omega
   have IN:Hid (InF W0 d b o∧okF d p=true∧tyDF V ds d=true):=⟨hin,HF.out.2.1,tyD_subs HF.out.1 HF.out.2.2⟩;clear hin HS HF hz9;obtain ⟨x0,x1,x2⟩:=HT.out _ AL.out.gr;go_wp2;clear x0 x1 x2
   go_loopw [0,7] (fun vv i wr=>∃ (j:Nat) (R:F) (pre:List Int),j≤l∧i = .int .i64 j∧R.len+j=l∧R.size≤d.size∧zs.length+pre.length+(tyXF ds R).length+1≤900000∧Hid (InF W0 R b (o+j * 3)∧okF R p=true∧tyDF V ds R=true∧pre++tyXF ds R=[40,112,97,105,114]++tyXF ds d)∧Hid (SayG W0.heap.size w1 v vv (zs++pre) wr)) (fun _ i _=>l - (intOf i).toNat)
   case atStart=>exact ⟨0,d,[40,112,97,105,114],Nat.zero_le _,rfl,by omega,Nat.le_refl _,HL.out,⟨by simpa using IN.out.1,IN.out.2.1,IN.out.2.2,rfl⟩,AL⟩
   case round =>
    clear AL IN;obtain ⟨j,R,pre,hj,rfl,hRl,hRs,hus,HR,AL⟩:=hrel;obtain ⟨y0,y1,y2⟩:=HT.out _ AL.out.gr;by_cases hlt:j < l
    ·
     have hlt':(j:Int) < l:=by omega
     obtain ⟨q1,hq1⟩:∃ q,R.len=q+1:=⟨R.len - 1,by omega⟩;obtain ⟨kk,nn,d',R',rfl,hR'⟩:=F.cons_of_len hq1;obtain ⟨hR,hokR,hdR,hP⟩:=HR.out;obtain ⟨a2,l2,c2,z0,z1,z2,hd2,hR2⟩:=hR.out
     have e3:o+j * 3+3=o+(j+1) * 3:=by omega
     rw[e3] at hR2;rw[tyDF_cons] at hdR;simp only[okF,Bool.and_eq_true,decide_eq_true_eq] at hokR hdR
     have hds2:d'.size < m:=by simp only[F.size] at hRs hm;omega
     have hRs':R'.size≤d.size:=by simp only[F.size] at hRs;omega
     rw[tyXF_cons] at hus;simp only[lA,lB] at hus;have HT0:=HT
     have HT:Hid (∀ u,w1.grownBy u v.ownBlock→Tri q 0 (.int .i64 3) (.int .i64 n) (.slice (some ⟨b,o,none⟩) l c) u∧Tri b (o+j * 3) (.int .i64 kk) (.int .i64 nn) (.slice a2 l2 c2) u):=fun u hu=>⟨HT0.out u hu,tri_below (W0:=W0) ⟨z0,z1,z2⟩ (HB.out u hu)⟩
     clear HT0
     have CC:Hid _:=fun v0 u0 (hu:w1.grownBy u0 v.ownBlock) h1=>IH.out d' kk nn a2 l2 c2 v0 (zs++pre++[32]) u0 (p - 1) hds2 hd2 (HB.out u0 hu) h1 hokR.1.1.2 hokR.1.2 hdR.1 (by simp only[lA,List.length_singleton];omega)
     have FX:Hid ((InF W0 R' b (o+(j+1) * 3)∧okF R' p=true∧tyDF V ds R' = true∧(pre++([32]++tyX ds kk nn d'))++tyXF ds R' = [40,112,97,105,114]++tyXF ds d)∧zs.length+(pre++([32]++tyX ds kk nn d')).length+(tyXF ds R').length+1≤900000):=⟨⟨hR2,hokR.2,hdR.2,by rw[← hP,tyXF_cons];simp⟩,by simp only[lA,List.length_singleton];omega⟩
     have hz9:(zs++pre).length+1≤1048576:=by rw[lA];omega
     clear HR hR hR2 hd2 hP hokR hdR z0 z1 z2 hRs;go_upto_region 22 with fail;have AD:Hid (SayG _ _ _ _ _ wr.drew):=AL.out.grown (grown_drew (grf _ none));clear AL y0 y1 y2;refine wp_region_held_drew (S:=(fun u=>Tri q 0 (.int .i64 3) (.int .i64 n) (.slice (some ⟨b,o,none⟩) l c) u∧Tri b (o+j * 3) (.int .i64 kk) (.int .i64 nn) (.slice a2 l2 c2) u)) (by kernel_rfl) (HT.out _ AD.out.gr) (fun hH=>?_);have AL:=AD;clear AD;generalize wr.drew=v0 at *;simp only[List.size_toArray,lB,lC,Nat.reduceAdd,Array.replicate,List.replicate];refine tk 0 ?_;refine tk 3 ?_;refine tk 4 ?_;refine tk 5 ?_;refine tk 6 ?_;refine tk 7 ?_;refine tk 8 ?_;refine rd 1 rfl (fun K hK=>?_);go_simp;have AN:Hid (SayG _ _ _ _ _ (v0.alloc (.cells #[.int .u8 32] 5))∧Reads (v0.alloc (.cells #[.int .u8 32] 5)) (some ⟨v0.heap.size,0,none⟩) 1 [32]):=⟨AL.out.grown (gal _ _ _),readsOneB v0 32 5⟩;clear AL;generalize v0.alloc (.cells #[.int .u8 32] 5)=v1 at *
     generalize v0.heap.size=p1 at *;refine hK.out _ _ (HT.out _ AN.out.1.gr) ?_;clear hK K hH;intro hH;simp only[Act.put,nA,nB,nC,nD,nE,nF];refine rd 2 rfl (fun K hK=>?_);refine step_of rfl (wp_appG _ _ 23 rfl W0.heap.size i0 (.int .u8 0) Tryz.underlying23 hi hz0 hz1 hz2 rfl _ _ rfl AN.out.1.own (some ⟨p1,0,none⟩) 1 1 [32] rfl AN.out.2 (by first | (simp;done) | assumption) hz9 AN.out.1.size ?_);intro v3 u3 s2;have AL:Hid (SayG _ _ _ v3 _ u3):=AN.out.1.trans s2;clear AN s2;refine hK.out _ _ (HT.out _ AL.out.gr) ?_;clear hK K hH;intro hH;simp only[Act.put,nA,nB,nC,nD,nE,nF];refine rd 9 rfl (fun K hK=>?_);go_simp;refine Calls.mono (CC.out v3 u3 AL.out.gr AL.out.own) ?_;rintro e u4 ⟨v4,he,s4⟩;subst he;have AN:Hid (SayG W0.heap.size w1 v v4 (zs++(pre++([32]++tyX ds kk nn d'))) u4):=(AL.out.trans s4).as (by simp);clear AL s4 CC;refine hK.out _ _ (HT.out _ AN.out.gr) ?_;clear hK K hH;intro hH;simp only[Act.put,nA,nB,nC,nD,nE,nF]
     refine tk 10 ?_;refine wpAnyH_done (by kernel_rfl) ?_ _;clear hH HT;go_wp2;go_roundw
     case rel=>exact ⟨j+1,R',pre++([32]++tyX ds kk nn d'),by omega,by go_num,by omega,hRs',FX.out.2,FX.out.1,AN⟩
     case measure=>simp [intOf];omega
    ·
     obtain rfl:j=l:=by omega
     obtain rfl:R = .nil:=F.nil_of_len (by omega);obtain ⟨-,-,-,hP⟩:=HR.out;simp only[tyXF,List.append_nil] at hP
     have EF:Hid (zs++pre++[41]=zs++tyX ds 3 n d):=by show _=_;rw[EH.out,hP];simp
     have hz9:(zs++pre).length+1≤1048576:=by rw[lA];omega
     clear HR hP IH;go_upto_region 23 with fail;clear y0 y1 y2;have ga:=gal wr (.cells #[.int .u8 41] 5) none;have AN:Hid (SayG W0.heap.size w1 v _ (zs++pre) (wr.alloc (.cells #[.int .u8 41] 5))∧Reads (wr.alloc (.cells #[.int .u8 41] 5)) (some ⟨wr.heap.size,0,none⟩) 1 [41]):=⟨AL.out.grown ga,readsOneB wr 41 5⟩;clear ga AL;go_wp2_with (at_builtin;go_must (refine wpList_appG rfl _ _ 23 rfl W0.heap.size i0 (.int .u8 0) Tryz.underlying23 hi hz0 hz1 hz2 rfl _ (zs++pre) rfl AN.out.1.own (some ⟨wr.heap.size,0,none⟩) 1 1 [41] rfl AN.out.2 (by simp) hz9 AN.out.1.size ?_);intro v9 u9 s9);have FF:Hid (SayG W0.heap.size w v v9 (zs++tyX ds 3 n d) u9):=(H0.out.trans (AN.out.1.trans s9)).as EF.out;clear AN s9 H0;go_ret;exact ⟨v9,rfl,FF.out⟩
  by_cases h4:k=4
  ·
   subst h4
   have hll:l=2:=by have:=HF.out.1;rw[fitsB] at this;simp at this;omega
   have hl0:d.len≠0:=by omega
   have EH:Hid (tyX ds 4 n d=[40,102,117,110]++(tyXF ds d++[41])):=by show _=_;rw[tyX_some hl0];simp [twB,wordB]
   have hz9:zs.length+([40,102,117,110]:List Int).length≤1048576:=by simp only[lB,lC];omega
   have HL:Hid (zs.length+([40,102,117,110]:List Int).length+(tyXF ds d).length+1≤900000):=by
    show _≤_
    have:=congrArg List.length EH.out;simp only[lA,lB,lC] at this ⊢;omega
   go_upto_region 19 with (at_builtin;go_must (refine wpList_strG rfl _ _ 23 9 rfl W0.heap.size i0 Tryz.underlying23 Tryz.underlying9 hi hz0 hz1 hz2 v zs rfl AL.out.own _ [40,102,117,110] rfl rfl hz9 AL.out.size ?_);intro v2 u2 s2);have AN:Hid (SayG W0.heap.size w1 v v2 (zs++[40,102,117,110]) u2):=AL.out.trans s2;clear AL s2 x0 x1 x2 hll;have AL:=AN;clear AN;rcases HS.out.1.cases with ⟨e0,-⟩|⟨b,o,rfl,hin,-,hpos⟩
   ·
    omega
   have IN:Hid (InF W0 d b o∧okF d p=true∧tyDF V ds d=true):=⟨hin,HF.out.2.1,tyD_subs HF.out.1 HF.out.2.2⟩;clear hin HS HF hz9;obtain ⟨x0,x1,x2⟩:=HT.out _ AL.out.gr;go_wp2;clear x0 x1 x2
   go_loopw [0,7] (fun vv i wr=>∃ (j:Nat) (R:F) (pre:List Int),j≤l∧i = .int .i64 j∧R.len+j=l∧R.size≤d.size∧zs.length+pre.length+(tyXF ds R).length+1≤900000∧Hid (InF W0 R b (o+j * 3)∧okF R p=true∧tyDF V ds R=true∧pre++tyXF ds R=[40,102,117,110]++tyXF ds d)∧Hid (SayG W0.heap.size w1 v vv (zs++pre) wr)) (fun _ i _=>l - (intOf i).toNat)
   case atStart=>exact ⟨0,d,[40,102,117,110],Nat.zero_le _,rfl,by omega,Nat.le_refl _,HL.out,⟨by simpa using IN.out.1,IN.out.2.1,IN.out.2.2,rfl⟩,AL⟩
   case round =>
    clear AL IN;obtain ⟨j,R,pre,hj,rfl,hRl,hRs,hus,HR,AL⟩:=hrel;obtain ⟨y0,y1,y2⟩:=HT.out _ AL.out.gr;by_cases hlt:j < l
    ·
     have hlt':(j:Int) < l:=by omega
     obtain ⟨q1,hq1⟩:∃ q,R.len=q+1:=⟨R.len - 1,by omega⟩;obtain ⟨kk,nn,d',R',rfl,hR'⟩:=F.cons_of_len hq1;obtain ⟨hR,hokR,hdR,hP⟩:=HR.out;obtain ⟨a2,l2,c2,z0,z1,z2,hd2,hR2⟩:=hR.out
     have e3:o+j * 3+3=o+(j+1) * 3:=by omega
     rw[e3] at hR2;rw[tyDF_cons] at hdR;simp only[okF,Bool.and_eq_true,decide_eq_true_eq] at hokR hdR
     have hds2:d'.size < m:=by simp only[F.size] at hRs hm;omega
     have hRs':R'.size≤d.size:=by simp only[F.size] at hRs;omega
     rw[tyXF_cons] at hus;simp only[lA,lB] at hus;have HT0:=HT
     have HT:Hid (∀ u,w1.grownBy u v.ownBlock→Tri q 0 (.int .i64 4) (.int .i64 n) (.slice (some ⟨b,o,none⟩) l c) u∧Tri b (o+j * 3) (.int .i64 kk) (.int .i64 nn) (.slice a2 l2 c2) u):=fun u hu=>⟨HT0.out u hu,tri_below (W0:=W0) ⟨z0,z1,z2⟩ (HB.out u hu)⟩
     clear HT0
     have CC:Hid _:=fun v0 u0 (hu:w1.grownBy u0 v.ownBlock) h1=>IH.out d' kk nn a2 l2 c2 v0 (zs++pre++[32]) u0 (p - 1) hds2 hd2 (HB.out u0 hu) h1 hokR.1.1.2 hokR.1.2 hdR.1 (by simp only[lA,List.length_singleton];omega)
     have FX:Hid ((InF W0 R' b (o+(j+1) * 3)∧okF R' p=true∧tyDF V ds R' = true∧(pre++([32]++tyX ds kk nn d'))++tyXF ds R' = [40,102,117,110]++tyXF ds d)∧zs.length+(pre++([32]++tyX ds kk nn d')).length+(tyXF ds R').length+1≤900000):=⟨⟨hR2,hokR.2,hdR.2,by rw[← hP,tyXF_cons];simp⟩,by simp only[lA,List.length_singleton];omega⟩
     have hz9:(zs++pre).length+1≤1048576:=by rw[lA];omega
     clear HR hR hR2 hd2 hP hokR hdR z0 z1 z2 hRs;go_upto_region 22 with fail;have AD:Hid (SayG _ _ _ _ _ wr.drew):=AL.out.grown (grown_drew (grf _ none));clear AL y0 y1 y2;refine wp_region_held_drew (S:=(fun u=>Tri q 0 (.int .i64 4) (.int .i64 n) (.slice (some ⟨b,o,none⟩) l c) u∧Tri b (o+j * 3) (.int .i64 kk) (.int .i64 nn) (.slice a2 l2 c2) u)) (by kernel_rfl) (HT.out _ AD.out.gr) (fun hH=>?_);have AL:=AD;clear AD;generalize wr.drew=v0 at *;simp only[List.size_toArray,lB,lC,Nat.reduceAdd,Array.replicate,List.replicate];refine tk 0 ?_;refine tk 3 ?_;refine tk 4 ?_;refine tk 5 ?_;refine tk 6 ?_;refine tk 7 ?_;refine tk 8 ?_;refine rd 1 rfl (fun K hK=>?_);go_simp;have AN:Hid (SayG _ _ _ _ _ (v0.alloc (.cells #[.int .u8 32] 5))∧Reads (v0.alloc (.cells #[.int .u8 32] 5)) (some ⟨v0.heap.size,0,none⟩) 1 [32]):=⟨AL.out.grown (gal _ _ _),readsOneB v0 32 5⟩;clear AL;generalize v0.alloc (.cells #[.int .u8 32] 5)=v1 at *
     generalize v0.heap.size=p1 at *;refine hK.out _ _ (HT.out _ AN.out.1.gr) ?_;clear hK K hH;intro hH;simp only[Act.put,nA,nB,nC,nD,nE,nF];refine rd 2 rfl (fun K hK=>?_);refine step_of rfl (wp_appG _ _ 23 rfl W0.heap.size i0 (.int .u8 0) Tryz.underlying23 hi hz0 hz1 hz2 rfl _ _ rfl AN.out.1.own (some ⟨p1,0,none⟩) 1 1 [32] rfl AN.out.2 (by first | (simp;done) | assumption) hz9 AN.out.1.size ?_);intro v3 u3 s2;have AL:Hid (SayG _ _ _ v3 _ u3):=AN.out.1.trans s2;clear AN s2;refine hK.out _ _ (HT.out _ AL.out.gr) ?_;clear hK K hH;intro hH;simp only[Act.put,nA,nB,nC,nD,nE,nF];refine rd 9 rfl (fun K hK=>?_);go_simp;refine Calls.mono (CC.out v3 u3 AL.out.gr AL.out.own) ?_;rintro e u4 ⟨v4,he,s4⟩;subst he;have AN:Hid (SayG W0.heap.size w1 v v4 (zs++(pre++([32]++tyX ds kk nn d'))) u4):=(AL.out.trans s4).as (by simp);clear AL s4 CC;refine hK.out _ _ (HT.out _ AN.out.gr) ?_;clear hK K hH;intro hH;simp only[Act.put,nA,nB,nC,nD,nE,nF]
     refine tk 10 ?_;refine wpAnyH_done (by kernel_rfl) ?_ _;clear hH HT;go_wp2;go_roundw
     case rel=>exact ⟨j+1,R',pre++([32]++tyX ds kk nn d'),by omega,by go_num,by omega,hRs',FX.out.2,FX.out.1,AN⟩
     case measure=>simp [intOf];omega
    ·
     obtain rfl:j=l:=by omega
     obtain rfl:R = .nil:=F.nil_of_len (by omega);obtain ⟨-,-,-,hP⟩:=HR.out;simp only[tyXF,List.append_nil] at hP
     have EF:Hid (zs++pre++[41]=zs++tyX ds 4 n d):=by show _=_;rw[EH.out,hP];simp
     have hz9:(zs++pre).length+1≤1048576:=by rw[lA];omega
     clear HR hP IH;go_upto_region 23 with fail;clear y0 y1 y2;have ga:=gal wr (.cells #[.int .u8 41] 5) none;have AN:Hid (SayG W0.heap.size w1 v _ (zs++pre) (wr.alloc (.cells #[.int .u8 41] 5))∧Reads (wr.alloc (.cells #[.int .u8 41] 5)) (some ⟨wr.heap.size,0,none⟩) 1 [41]):=⟨AL.out.grown ga,readsOneB wr 41 5⟩;clear ga AL;go_wp2_with (at_builtin;go_must (refine wpList_appG rfl _ _ 23 rfl W0.heap.size i0 (.int .u8 0) Tryz.underlying23 hi hz0 hz1 hz2 rfl _ (zs++pre) rfl AN.out.1.own (some ⟨wr.heap.size,0,none⟩) 1 1 [41] rfl AN.out.2 (by simp) hz9 AN.out.1.size ?_);intro v9 u9 s9);have FF:Hid (SayG W0.heap.size w v v9 (zs++tyX ds 4 n d) u9):=(H0.out.trans (AN.out.1.trans s9)).as EF.out;clear AN s9 H0;go_ret;exact ⟨v9,rfl,FF.out⟩
  by_cases h5:k=5
  ·
   subst h5
   have hll:l=1:=by have:=HF.out.1;rw[fitsB] at this;simp at this;omega
   have hl0:d.len≠0:=by omega
   have EH:Hid (tyX ds 5 n d=[40,114,101,102]++(tyXF ds d++[41])):=by show _=_;rw[tyX_some hl0];simp [twB,wordB]
   have hz9:zs.length+([40,114,101,102]:List Int).length≤1048576:=by simp only[lB,lC];omega
   have HL:Hid (zs.length+([40,114,101,102]:List Int).length+(tyXF ds d).length+1≤900000):=by
    show _≤_
    have:=congrArg List.length EH.out;simp only[lA,lB,lC] at this ⊢;omega
   go_upto_region 19 with (at_builtin;go_must (refine wpList_strG rfl _ _ 23 9 rfl W0.heap.size i0 Tryz.underlying23 Tryz.underlying9 hi hz0 hz1 hz2 v zs rfl AL.out.own _ [40,114,101,102] rfl rfl hz9 AL.out.size ?_);intro v2 u2 s2);have AN:Hid (SayG W0.heap.size w1 v v2 (zs++[40,114,101,102]) u2):=AL.out.trans s2;clear AL s2 x0 x1 x2 hll;have AL:=AN;clear AN;rcases HS.out.1.cases with ⟨e0,-⟩|⟨b,o,rfl,hin,-,hpos⟩
   ·
    omega
   have IN:Hid (InF W0 d b o∧okF d p=true∧tyDF V ds d=true):=⟨hin,HF.out.2.1,tyD_subs HF.out.1 HF.out.2.2⟩;clear hin HS HF hz9;obtain ⟨x0,x1,x2⟩:=HT.out _ AL.out.gr;go_wp2;clear x0 x1 x2
   go_loopw [0,7] (fun vv i wr=>∃ (j:Nat) (R:F) (pre:List Int),j≤l∧i = .int .i64 j∧R.len+j=l∧R.size≤d.size∧zs.length+pre.length+(tyXF ds R).length+1≤900000∧Hid (InF W0 R b (o+j * 3)∧okF R p=true∧tyDF V ds R=true∧pre++tyXF ds R=[40,114,101,102]++tyXF ds d)∧Hid (SayG W0.heap.size w1 v vv (zs++pre) wr)) (fun _ i _=>l - (intOf i).toNat)
   case atStart=>exact ⟨0,d,[40,114,101,102],Nat.zero_le _,rfl,by omega,Nat.le_refl _,HL.out,⟨by simpa using IN.out.1,IN.out.2.1,IN.out.2.2,rfl⟩,AL⟩
   case round =>
    clear AL IN;obtain ⟨j,R,pre,hj,rfl,hRl,hRs,hus,HR,AL⟩:=hrel;obtain ⟨y0,y1,y2⟩:=HT.out _ AL.out.gr;by_cases hlt:j < l
    ·
     have hlt':(j:Int) < l:=by omega
     obtain ⟨q1,hq1⟩:∃ q,R.len=q+1:=⟨R.len - 1,by omega⟩;obtain ⟨kk,nn,d',R',rfl,hR'⟩:=F.cons_of_len hq1;obtain ⟨hR,hokR,hdR,hP⟩:=HR.out;obtain ⟨a2,l2,c2,z0,z1,z2,hd2,hR2⟩:=hR.out
     have e3:o+j * 3+3=o+(j+1) * 3:=by omega
     rw[e3] at hR2;rw[tyDF_cons] at hdR;simp only[okF,Bool.and_eq_true,decide_eq_true_eq] at hokR hdR
     have hds2:d'.size < m:=by simp only[F.size] at hRs hm;omega
     have hRs':R'.size≤d.size:=by simp only[F.size] at hRs;omega
     rw[tyXF_cons] at hus;simp only[lA,lB] at hus;have HT0:=HT
     have HT:Hid (∀ u,w1.grownBy u v.ownBlock→Tri q 0 (.int .i64 5) (.int .i64 n) (.slice (some ⟨b,o,none⟩) l c) u∧Tri b (o+j * 3) (.int .i64 kk) (.int .i64 nn) (.slice a2 l2 c2) u):=fun u hu=>⟨HT0.out u hu,tri_below (W0:=W0) ⟨z0,z1,z2⟩ (HB.out u hu)⟩
     clear HT0
     have CC:Hid _:=fun v0 u0 (hu:w1.grownBy u0 v.ownBlock) h1=>IH.out d' kk nn a2 l2 c2 v0 (zs++pre++[32]) u0 (p - 1) hds2 hd2 (HB.out u0 hu) h1 hokR.1.1.2 hokR.1.2 hdR.1 (by simp only[lA,List.length_singleton];omega)
     have FX:Hid ((InF W0 R' b (o+(j+1) * 3)∧okF R' p=true∧tyDF V ds R' = true∧(pre++([32]++tyX ds kk nn d'))++tyXF ds R' = [40,114,101,102]++tyXF ds d)∧zs.length+(pre++([32]++tyX ds kk nn d')).length+(tyXF ds R').length+1≤900000):=⟨⟨hR2,hokR.2,hdR.2,by rw[← hP,tyXF_cons];simp⟩,by simp only[lA,List.length_singleton];omega⟩
     have hz9:(zs++pre).length+1≤1048576:=by rw[lA];omega
     clear HR hR hR2 hd2 hP hokR hdR z0 z1 z2 hRs;go_upto_region 22 with fail;have AD:Hid (SayG _ _ _ _ _ wr.drew):=AL.out.grown (grown_drew (grf _ none));clear AL y0 y1 y2;refine wp_region_held_drew (S:=(fun u=>Tri q 0 (.int .i64 5) (.int .i64 n) (.slice (some ⟨b,o,none⟩) l c) u∧Tri b (o+j * 3) (.int .i64 kk) (.int .i64 nn) (.slice a2 l2 c2) u)) (by kernel_rfl) (HT.out _ AD.out.gr) (fun hH=>?_);have AL:=AD;clear AD;generalize wr.drew=v0 at *;simp only[List.size_toArray,lB,lC,Nat.reduceAdd,Array.replicate,List.replicate];refine tk 0 ?_;refine tk 3 ?_;refine tk 4 ?_;refine tk 5 ?_;refine tk 6 ?_;refine tk 7 ?_;refine tk 8 ?_;refine rd 1 rfl (fun K hK=>?_);go_simp;have AN:Hid (SayG _ _ _ _ _ (v0.alloc (.cells #[.int .u8 32] 5))∧Reads (v0.alloc (.cells #[.int .u8 32] 5)) (some ⟨v0.heap.size,0,none⟩) 1 [32]):=⟨AL.out.grown (gal _ _ _),readsOneB v0 32 5⟩;clear AL;generalize v0.alloc (.cells #[.int .u8 32] 5)=v1 at *
     generalize v0.heap.size=p1 at *;refine hK.out _ _ (HT.out _ AN.out.1.gr) ?_;clear hK K hH;intro hH;simp only[Act.put,nA,nB,nC,nD,nE,nF];refine rd 2 rfl (fun K hK=>?_);refine step_of rfl (wp_appG _ _ 23 rfl W0.heap.size i0 (.int .u8 0) Tryz.underlying23 hi hz0 hz1 hz2 rfl _ _ rfl AN.out.1.own (some ⟨p1,0,none⟩) 1 1 [32] rfl AN.out.2 (by first | (simp;done) | assumption) hz9 AN.out.1.size ?_);intro v3 u3 s2;have AL:Hid (SayG _ _ _ v3 _ u3):=AN.out.1.trans s2;clear AN s2;refine hK.out _ _ (HT.out _ AL.out.gr) ?_;clear hK K hH;intro hH;simp only[Act.put,nA,nB,nC,nD,nE,nF];refine rd 9 rfl (fun K hK=>?_);go_simp;refine Calls.mono (CC.out v3 u3 AL.out.gr AL.out.own) ?_;rintro e u4 ⟨v4,he,s4⟩;subst he;have AN:Hid (SayG W0.heap.size w1 v v4 (zs++(pre++([32]++tyX ds kk nn d'))) u4):=(AL.out.trans s4).as (by simp);clear AL s4 CC;refine hK.out _ _ (HT.out _ AN.out.gr) ?_;clear hK K hH;intro hH;simp only[Act.put,nA,nB,nC,nD,nE,nF]
     refine tk 10 ?_;refine wpAnyH_done (by kernel_rfl) ?_ _;clear hH HT;go_wp2;go_roundw
     case rel=>exact ⟨j+1,R',pre++([32]++tyX ds kk nn d'),by omega,by go_num,by omega,hRs',FX.out.2,FX.out.1,AN⟩
     case measure=>simp [intOf];omega
    ·
     obtain rfl:j=l:=by omega
     obtain rfl:R = .nil:=F.nil_of_len (by omega);obtain ⟨-,-,-,hP⟩:=HR.out;simp only[tyXF,List.append_nil] at hP
     have EF:Hid (zs++pre++[41]=zs++tyX ds 5 n d):=by show _=_;rw[EH.out,hP];simp
     have hz9:(zs++pre).length+1≤1048576:=by rw[lA];omega
     clear HR hP IH;go_upto_region 23 with fail;clear y0 y1 y2;have ga:=gal wr (.cells #[.int .u8 41] 5) none;have AN:Hid (SayG W0.heap.size w1 v _ (zs++pre) (wr.alloc (.cells #[.int .u8 41] 5))∧Reads (wr.alloc (.cells #[.int .u8 41] 5)) (some ⟨wr.heap.size,0,none⟩) 1 [41]):=⟨AL.out.grown ga,readsOneB wr 41 5⟩;clear ga AL;go_wp2_with (at_builtin;go_must (refine wpList_appG rfl _ _ 23 rfl W0.heap.size i0 (.int .u8 0) Tryz.underlying23 hi hz0 hz1 hz2 rfl _ (zs++pre) rfl AN.out.1.own (some ⟨wr.heap.size,0,none⟩) 1 1 [41] rfl AN.out.2 (by simp) hz9 AN.out.1.size ?_);intro v9 u9 s9);have FF:Hid (SayG W0.heap.size w v v9 (zs++tyX ds 5 n d) u9):=(H0.out.trans (AN.out.1.trans s9)).as EF.out;clear AN s9 H0;go_ret;exact ⟨v9,rfl,FF.out⟩
  obtain rfl:k=6:=by omega
  obtain ⟨x,hx,-⟩:=tw_data HF.out.2.2;obtain ⟨i,rfl⟩:∃ i:Nat,n=(i:Int):=⟨n.toNat,by omega⟩;rw[Int.toNat_natCast] at hx;have hil:i < ds.length:=(List.getElem?_eq_some_iff.1 hx).1
  have hidl:i < dl:=by have:=HS.out.2.1;omega
  rcases HS.out.2.cases with ⟨e0,-⟩|⟨db,do',rfl,hin,-⟩
  ·
   omega
  obtain ⟨x',e1,n1,d1,e2,l2,d2,hx',w0c,-,-,hR,-⟩:=hin.nth hil;rw[hx] at hx';injection hx' with hx';subst hx'
  have HC:Hid (∀ u,w1.grownBy u v.ownBlock→u.cell? ⟨db,do' + i * 3,none⟩=some (.slice e1 n1 d1)∧Reads u e1 n1 x.name):=fun u hu=>⟨cle_belowK (HB.out u hu) _ _ w0c,(hR.le (cle_belowK (HB.out u hu))).1⟩
  have hgn:=hG x (List.mem_of_getElem? hx)
  have htw:twB ds 6 (i:Int)=x.name:=by unfold twB;rw[if_pos rfl,Int.toNat_natCast,hx]
  have hnl:x.name.length=n1:=hR.1.1
  have hnc:e1=none→d1=0:=by
   intro e;rcases hR.1.2 with h0|⟨b9,o9,h9,-⟩
   ·
    have:=hgn.1;rw[List.eq_nil_of_length_eq_zero (show x.name.length=0 by omega)] at this
    cases this
   ·
    rw[e] at h9;cases h9
  clear hin hR w0c hx;by_cases h0:l=0
  ·
   have hd0:d = .nil:=F.nil_of_len (by omega);subst hd0;subst h0
   have EF:Hid (zs++x.name=zs++tyX ds 6 (i:Int) .nil):=by show _=_;rw[tyX_nil,htw]
   have hz9:zs.length+n1≤1048576:=by have:=hgn.2;omega
   obtain ⟨k0,-⟩:=HC.out _ AL.out.gr;clear IH HS HF;go_wp2_with (at_builtin;go_must (refine wpList_appG rfl _ _ 23 rfl W0.heap.size i0 (.int .u8 0) Tryz.underlying23 hi hz0 hz1 hz2 rfl v zs rfl AL.out.own e1 n1 d1 x.name rfl (HC.out _ AL.out.gr).2 hnc hz9 AL.out.size ?_);intro v9 u9 s9);have FF:Hid (SayG W0.heap.size w v v9 (zs++tyX ds 6 (i:Int) .nil) u9):=(H0.out.trans (AL.out.trans s9)).as EF.out;clear AL s9 H0;go_ret;exact ⟨v9,rfl,FF.out⟩
  ·
   have h0':¬ (l:Int)=0:=by omega
   have h0b:((l:Int) == 0)=false:=by simpa using h0
   have hl0:d.len≠0:=by omega
   have EH:Hid (tyX ds 6 (i:Int) d=([40]++x.name)++(tyXF ds d++[41])):=by show _=_;rw[tyX_some hl0,htw];simp
   have HL:Hid (zs.length+([40]++x.name).length+(tyXF ds d).length+1≤900000):=by
    show _≤_
    have:=congrArg List.length EH.out;simp only[lA,lB,lC] at this ⊢;omega
   have hz9:zs.length+1≤1048576:=by omega
   have hz8:(zs++[40]).length+n1≤1048576:=by have:=hgn.2;rw[lA,List.length_singleton];omega
   go_upto_region 4 with fail;have AD:Hid (SayG _ _ _ _ _ w1.drew):=AL.out.grown (grown_drew (grf _ none));clear AL x0 x1 x2;have HT0:=HT
   have HT:Hid (∀ u,w1.grownBy u v.ownBlock→Tri q 0 (.int .i64 6) (.int .i64 (i:Int)) (.slice a l c) u∧u.cell? ⟨db,do' + i * 3,none⟩=some (.slice e1 n1 d1)):=fun u hu=>⟨HT0.out u hu,(HC.out u hu).1⟩
   refine wp_region_held_drew (S:=(fun u=>Tri q 0 (.int .i64 6) (.int .i64 (i:Int)) (.slice a l c) u∧u.cell? ⟨db,do' + i * 3,none⟩=some (.slice e1 n1 d1))) (by kernel_rfl) (HT.out _ AD.out.gr) (fun hH=>?_);have AL:=AD;clear AD;generalize w1.drew=v0 at *;simp only[List.size_toArray,lB,lC,Nat.reduceAdd,Array.replicate,List.replicate];refine tk 0 ?_;refine tk 3 ?_;refine tk 4 ?_;refine tk 5 ?_;refine tk 6 ?_;refine tk 7 ?_;refine tk 8 ?_;refine rd 1 rfl (fun K hK=>?_);go_simp;have AN:Hid (SayG _ _ _ _ _ (v0.alloc (.cells #[.int .u8 40] 5))∧Reads (v0.alloc (.cells #[.int .u8 40] 5)) (some ⟨v0.heap.size,0,none⟩) 1 [40]):=⟨AL.out.grown (gal _ _ _),readsOneB v0 40 5⟩;clear AL;generalize v0.alloc (.cells #[.int .u8 40] 5)=v1 at *;generalize v0.heap.size=p1 at *;refine hK.out _ _ (HT.out _ AN.out.1.gr) ?_;clear hK K hH;intro hH;simp only[Act.put,nA,nB,nC,nD,nE,nF];refine rd 2 rfl (fun K hK=>?_);refine step_of rfl (wp_appG _ _ 23 rfl W0.heap.size i0 (.int .u8 0) Tryz.underlying23 hi hz0 hz1 hz2 rfl _ _ rfl AN.out.1.own (some ⟨p1,0,none⟩) 1 1 [40] rfl AN.out.2 (by first | (simp;done) | assumption) hz9 AN.out.1.size ?_)
   intro v3 u3 s2;have AL:Hid (SayG _ _ _ v3 _ u3):=AN.out.1.trans s2;clear AN s2;refine hK.out _ _ (HT.out _ AL.out.gr) ?_;clear hK K hH;intro hH;simp only[Act.put,nA,nB,nC,nD,nE,nF];have AN:Hid (SayG _ _ _ _ _ u3∧Reads u3 e1 n1 x.name):=⟨AL.out,(HC.out _ AL.out.gr).2⟩;clear AL;refine rd 9 rfl (fun K hK=>?_);refine step_of rfl (wp_appG _ _ 23 rfl W0.heap.size i0 (.int .u8 0) Tryz.underlying23 hi hz0 hz1 hz2 rfl _ _ rfl AN.out.1.own e1 n1 d1 x.name rfl AN.out.2 (by first | (simp;done) | assumption) hz8 AN.out.1.size ?_);intro v5 u5 s2;have AL:Hid (SayG _ _ _ v5 _ u5):=AN.out.1.trans s2;clear AN s2;refine hK.out _ _ (HT.out _ AL.out.gr) ?_;clear hK K hH;intro hH;simp only[Act.put,nA,nB,nC,nD,nE,nF];refine tk 10 ?_;refine wpAnyH_done (by kernel_rfl) ?_ _;clear hH HT;have HT:=HT0;clear HT0 HC;have AN:Hid (SayG W0.heap.size w1 v v5 (zs++([40]++x.name)) u5):=AL.out.as (by simp);clear AL;have AL:=AN
   clear AN;generalize [40]++x.name=hdB at *;rcases HS.out.1.cases with ⟨e0,-⟩|⟨b,o,rfl,hin,-,hpos⟩
   ·
    omega
   have IN:Hid (InF W0 d b o∧okF d p=true∧tyDF V ds d=true):=⟨hin,HF.out.2.1,tyD_subs HF.out.1 HF.out.2.2⟩;clear hin HS HF hz9;obtain ⟨x0,x1,x2⟩:=HT.out _ AL.out.gr;go_wp2;clear x0 x1 x2
   go_loopw [0,7] (fun vv i wr=>∃ (j:Nat) (R:F) (pre:List Int),j≤l∧i = .int .i64 j∧R.len+j=l∧R.size≤d.size∧zs.length+pre.length+(tyXF ds R).length+1≤900000∧Hid (InF W0 R b (o+j * 3)∧okF R p=true∧tyDF V ds R=true∧pre++tyXF ds R=hdB++tyXF ds d)∧Hid (SayG W0.heap.size w1 v vv (zs++pre) wr)) (fun _ i _=>l - (intOf i).toNat)
   case atStart=>exact ⟨0,d,hdB,Nat.zero_le _,rfl,by omega,Nat.le_refl _,HL.out,⟨by simpa using IN.out.1,IN.out.2.1,IN.out.2.2,rfl⟩,AL⟩
   case round =>
    clear AL IN;obtain ⟨j,R,pre,hj,rfl,hRl,hRs,hus,HR,AL⟩:=hrel;obtain ⟨y0,y1,y2⟩:=HT.out _ AL.out.gr;by_cases hlt:j < l
    ·
     have hlt':(j:Int) < l:=by omega
     obtain ⟨q1,hq1⟩:∃ q,R.len=q+1:=⟨R.len - 1,by omega⟩;obtain ⟨kk,nn,d',R',rfl,hR'⟩:=F.cons_of_len hq1;obtain ⟨hR,hokR,hdR,hP⟩:=HR.out;obtain ⟨a2,l2,c2,z0,z1,z2,hd2,hR2⟩:=hR.out
     have e3:o+j * 3+3=o+(j+1) * 3:=by omega
     rw[e3] at hR2;rw[tyDF_cons] at hdR;simp only[okF,Bool.and_eq_true,decide_eq_true_eq] at hokR hdR
     have hds2:d'.size < m:=by simp only[F.size] at hRs hm;omega
     have hRs':R'.size≤d.size:=by simp only[F.size] at hRs;omega
     rw[tyXF_cons] at hus;simp only[lA,lB] at hus;have HT0:=HT
     have HT:Hid (∀ u,w1.grownBy u v.ownBlock→Tri q 0 (.int .i64 6) (.int .i64 (i:Int)) (.slice (some ⟨b,o,none⟩) l c) u∧Tri b (o+j * 3) (.int .i64 kk) (.int .i64 nn) (.slice a2 l2 c2) u):=fun u hu=>⟨HT0.out u hu,tri_below (W0:=W0) ⟨z0,z1,z2⟩ (HB.out u hu)⟩
     clear HT0
     have CC:Hid _:=fun v0 u0 (hu:w1.grownBy u0 v.ownBlock) h1=>IH.out d' kk nn a2 l2 c2 v0 (zs++pre++[32]) u0 (p - 1) hds2 hd2 (HB.out u0 hu) h1 hokR.1.1.2 hokR.1.2 hdR.1 (by simp only[lA,List.length_singleton];omega)
     have FX:Hid ((InF W0 R' b (o+(j+1) * 3)∧okF R' p=true∧tyDF V ds R' = true∧(pre++([32]++tyX ds kk nn d'))++tyXF ds R' = hdB++tyXF ds d)∧zs.length+(pre++([32]++tyX ds kk nn d')).length+(tyXF ds R').length+1≤900000):=⟨⟨hR2,hokR.2,hdR.2,by rw[← hP,tyXF_cons];simp⟩,by simp only[lA,List.length_singleton];omega⟩
     have hz9:(zs++pre).length+1≤1048576:=by rw[lA];omega
     clear HR hR hR2 hd2 hP hokR hdR z0 z1 z2 hRs;go_upto_region 22 with fail;have AD:Hid (SayG _ _ _ _ _ wr.drew):=AL.out.grown (grown_drew (grf _ none));clear AL y0 y1 y2;refine wp_region_held_drew (S:=(fun u=>Tri q 0 (.int .i64 6) (.int .i64 (i:Int)) (.slice (some ⟨b,o,none⟩) l c) u∧Tri b (o+j * 3) (.int .i64 kk) (.int .i64 nn) (.slice a2 l2 c2) u)) (by kernel_rfl) (HT.out _ AD.out.gr) (fun hH=>?_);have AL:=AD;clear AD;generalize wr.drew=v0 at *;simp only[List.size_toArray,lB,lC,Nat.reduceAdd,Array.replicate,List.replicate];refine tk 0 ?_;refine tk 3 ?_;refine tk 4 ?_;refine tk 5 ?_;refine tk 6 ?_;refine tk 7 ?_;refine tk 8 ?_;refine rd 1 rfl (fun K hK=>?_);go_simp;have AN:Hid (SayG _ _ _ _ _ (v0.alloc (.cells #[.int .u8 32] 5))∧Reads (v0.alloc (.cells #[.int .u8 32] 5)) (some ⟨v0.heap.size,0,none⟩) 1 [32]):=⟨AL.out.grown (gal _ _ _),readsOneB v0 32 5⟩;clear AL;generalize v0.alloc (.cells #[.int .u8 32] 5)=v1 at *
     generalize v0.heap.size=p1 at *;refine hK.out _ _ (HT.out _ AN.out.1.gr) ?_;clear hK K hH;intro hH;simp only[Act.put,nA,nB,nC,nD,nE,nF];refine rd 2 rfl (fun K hK=>?_);refine step_of rfl (wp_appG _ _ 23 rfl W0.heap.size i0 (.int .u8 0) Tryz.underlying23 hi hz0 hz1 hz2 rfl _ _ rfl AN.out.1.own (some ⟨p1,0,none⟩) 1 1 [32] rfl AN.out.2 (by first | (simp;done) | assumption) hz9 AN.out.1.size ?_);intro v3 u3 s2;have AL:Hid (SayG _ _ _ v3 _ u3):=AN.out.1.trans s2;clear AN s2;refine hK.out _ _ (HT.out _ AL.out.gr) ?_;clear hK K hH;intro hH;simp only[Act.put,nA,nB,nC,nD,nE,nF];refine rd 9 rfl (fun K hK=>?_);go_simp;refine Calls.mono (CC.out v3 u3 AL.out.gr AL.out.own) ?_;rintro e u4 ⟨v4,he,s4⟩;subst he;have AN:Hid (SayG W0.heap.size w1 v v4 (zs++(pre++([32]++tyX ds kk nn d'))) u4):=(AL.out.trans s4).as (by simp);clear AL s4 CC;refine hK.out _ _ (HT.out _ AN.out.gr) ?_;clear hK K hH;intro hH;simp only[Act.put,nA,nB,nC,nD,nE,nF]
     refine tk 10 ?_;refine wpAnyH_done (by kernel_rfl) ?_ _;clear hH HT;go_wp2;go_roundw
     case rel=>exact ⟨j+1,R',pre++([32]++tyX ds kk nn d'),by omega,by go_num,by omega,hRs',FX.out.2,FX.out.1,AN⟩
     case measure=>simp [intOf];omega
    ·
     obtain rfl:j=l:=by omega
     obtain rfl:R = .nil:=F.nil_of_len (by omega);obtain ⟨-,-,-,hP⟩:=HR.out;simp only[tyXF,List.append_nil] at hP
     have EF:Hid (zs++pre++[41]=zs++tyX ds 6 (i:Int) d):=by show _=_;rw[EH.out,hP];simp
     have hz9:(zs++pre).length+1≤1048576:=by rw[lA];omega
     clear HR hP IH;go_upto_region 23 with fail;clear y0 y1 y2;have ga:=gal wr (.cells #[.int .u8 41] 5) none;have AN:Hid (SayG W0.heap.size w1 v _ (zs++pre) (wr.alloc (.cells #[.int .u8 41] 5))∧Reads (wr.alloc (.cells #[.int .u8 41] 5)) (some ⟨wr.heap.size,0,none⟩) 1 [41]):=⟨AL.out.grown ga,readsOneB wr 41 5⟩;clear ga AL;go_wp2_with (at_builtin;go_must (refine wpList_appG rfl _ _ 23 rfl W0.heap.size i0 (.int .u8 0) Tryz.underlying23 hi hz0 hz1 hz2 rfl _ (zs++pre) rfl AN.out.1.own (some ⟨wr.heap.size,0,none⟩) 1 1 [41] rfl AN.out.2 (by simp) hz9 AN.out.1.size ?_);intro v9 u9 s9);have FF:Hid (SayG W0.heap.size w v v9 (zs++tyX ds 6 (i:Int) d) u9):=(H0.out.trans (AN.out.1.trans s9)).as EF.out;clear AN s9 H0;go_ret;exact ⟨v9,rfl,FF.out⟩
end Go.Proofs.YtblbnillilbacaaGreatDoor.By
