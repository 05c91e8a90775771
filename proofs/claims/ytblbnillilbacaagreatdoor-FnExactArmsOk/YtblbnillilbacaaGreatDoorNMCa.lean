/-
  No statement is proved here.
-/
import Derived.Test.YtblbnillilbacaaGreatDoorNMAa
namespace Go.Proofs.YtblbnillilbacaaGreatDoor.By
set_option maxRecDepth 100000
set_option maxHeartbeats 16000000
open Go.RowKit
set_option linter.unusedVariables false
set_option linter.unusedSimpArgs false
theorem l6varT (k n:Int) (z:List Int) (dv v3 v4 v5 v6:Value) (a1:Option Addr) (l1 c1:Nat) (S:List (List Int)) (a:Option Addr) (l c:Nat) (w:World) (hk:(k == 3)=true) (h1:RdB w a1 l1 z) (hS:SlSS w a l S) :
  Calls Tryz.prog 36 #[dv,.agg #[.int .i64 k,.int .i64 n,.slice a1 l1 c1,v3,v4,v5,v6],.slice a l c] w fun e u=>e = .returned (.bool (amV z S))∧w.grownBy u none:=by
 have g0:=gal w (.cells #[.int .i64 k,.int .i64 n,.slice a1 l1 c1,v3,v4,v5,v6] 36) none;have b0:=heap_alloc_new w (.cells #[.int .i64 k,.int .i64 n,.slice a1 l1 c1,v3,v4,v5,v6] 36);obtain ⟨⟨y0,y1,y2,y3,y4,y5,y6⟩,-⟩:=blkE b0;have hl:=hS.2.1;have hfl:=hS.1;have L0:Hid (w.grownBy _ none∧_=some (Obj.cells #[.int .i64 k,.int .i64 n,.slice a1 l1 c1,v3,v4,v5,v6] 36)):=⟨g0,b0⟩;clear g0 b0;rcases hS.cases with ⟨rfl,rfl⟩|⟨b,o,rfl,hin,hpos⟩
 ·
  go_enter Tryz.func36,Tryz.ntmps36;go_wp2;refine wp_loop_rounds 1 ?_;rw[rounds_succ];go_wp2;go_ret;exact ⟨rfl,L0.out.1⟩
 have IN:Hid (InSS w w S b o∧RdB w a1 l1 z):=⟨hin,h1⟩;clear hin hS h1;go_enter Tryz.func36,Tryz.ntmps36;go_wp2;generalize w.alloc (.cells #[.int .i64 k,.int .i64 n,.slice a1 l1 c1,v3,v4,v5,v6] 36)=w0 at *;clear y0 y1 y2 y3 y4 y5 y6
 go_loopw [7] (fun i wr=>∃ (j:Nat) (R:List (List Int)),j≤l∧i = .int .i64 j∧R.length+j=l∧Hid (w0.grownBy wr none∧InSS w w R b (o+j)∧amV z S=amV z R)) (fun i _=>l - (intOf i).toNat)
 case atStart=>exact ⟨0,S,Nat.zero_le _,rfl,by omega,grf _ _,by simpa using IN.out.1,rfl⟩
 case round =>
  obtain ⟨j,R,hj,rfl,hRl,HR⟩:=hrel;by_cases hlt:j < l
  ·
   obtain ⟨x,R',rfl⟩:∃ x R',R=x::R':=by
    cases R with
    | nil=>simp at hRl;omega
    | cons x R'=>exact ⟨x,R',rfl⟩
   obtain ⟨hg,⟨⟨a2,n2,c2,k0,hd⟩,hR2⟩,hv⟩:=HR.out;rw[show o+j+1=o+(j+1) by omega] at hR2;have gd0:=grown_drew hg;have gd:=gtr L0.out.1 gd0
   have hlt':(j:Int) < (l:Int):=by omega
   have hcl:Hid (wr.drew.cell? ⟨b,o+j,none⟩=some (.slice a2 n2 c2)∧wr.drew.cell? ⟨w.heap.size,2,none⟩=some (.slice a1 l1 c1)):=⟨gd.cell k0 (by simp),(blkE ((gd0.block _ (lt_of_block L0.out.2) (by simp)).trans L0.out.2)).1.2.2.1⟩;have hc1:(convert 23 9 (.slice a2 n2 c2)).run Tryz.prog wr.drew = .ok (.string (strOfNums x)) wr.drew:=conv_run (hd.none gd).1;have hc2:(convert 23 9 (.slice a1 l1 c1)).run Tryz.prog wr.drew = .ok (.string (strOfNums z)) wr.drew:=conv_run (IN.out.2.none gd).1
   have hcmp:((strOfNums x).toList == (strOfNums z).toList)=decide (x=z):=by rw[toL_beq,str_eq hd.2.1 IN.out.2.2.1]
   have FX:Hid (InSS w w R' b (o+(j+1))∧amV z S=amV z (x::R')∧w0.grownBy wr.drew none):=⟨hR2,hv,gd0⟩;clear hd hR2 hg hv HR gd gd0 k0;simp only[lB] at hRl;go_wp2_with fail;refine wp_region_held_drew (S:=(fun u=>u.cell? ⟨b,o+j,none⟩=some (.slice a2 n2 c2)∧u.cell? ⟨w.heap.size,2,none⟩=some (.slice a1 l1 c1))) (by kernel_rfl) hcl.out (fun hH=>?_);generalize wr.drew=x0 at *;simp only[List.size_toArray,lB,lC,Nat.reduceAdd,Array.replicate,List.replicate];refine tk 0 ?_;refine tk 1 ?_;refine tk 2 ?_;refine tk 3 ?_;refine tk 5 ?_;refine tk 6 ?_;refine wpAnyH_ready (rs:=[4,7]) (by kernel_rfl) (by simp) ?_;refine AllReadyH.cons rfl (fun K hK=>?_) ?_
   ·
    skip
    go_simp;refine hK.out _ _ hcl.out ?_;clear hK K hH;intro hH;simp only[Act.put,nA,nB,nC,nD,nE,nF];refine rd 7 rfl (fun K hK=>?_);go_simp;refine hK.out _ _ hcl.out ?_;clear hK K hH;intro hH;simp only[Act.put,nA,nB,nC,nD,nE,nF];refine tk 8 ?_;refine wpAnyH_done (by kernel_rfl) ?_ _;clear hH;by_cases hxz:x=z
    ·
     have hd2:decide (x=z)=true:=by simp [hxz]
     try rw[hd2]
     have EQ:Hid (x=z):=hxz;clear hcmp hc1 hc2 hd2 hxz
     have E2:Hid (amV z S=true):=by show _=_;rw[FX.out.2.1,namV_cons,EQ.out];simp
     go_wp2;go_ret;exact ⟨by rw[E2.out];rfl,gtr L0.out.1 FX.out.2.2⟩
    ·
     have hd2:decide (x=z)=false:=by simp [hxz]
     try rw[hd2]
     have NQ:Hid (¬ x=z):=hxz;clear hcmp hc1 hc2 hd2 hxz
     have E2:Hid (amV z S=amV z R'):=by show _=_;rw[FX.out.2.1,namV_cons];simp [NQ.out]
     go_wp2;go_roundw
     case rel=>exact ⟨j+1,R',by omega,by go_num,by omega,FX.out.2.2,FX.out.1,E2.out⟩
     case measure=>simp [intOf];omega
   refine AllReadyH.cons rfl (fun K hK=>?_) AllReadyH.nil;go_simp;refine hK.out _ _ hcl.out ?_;clear hK K hH;intro hH;simp only[Act.put,nA,nB,nC,nD,nE,nF];refine rd 4 rfl (fun K hK=>?_);go_simp;refine hK.out _ _ hcl.out ?_;clear hK K hH;intro hH;simp only[Act.put,nA,nB,nC,nD,nE,nF];refine tk 8 ?_;refine wpAnyH_done (by kernel_rfl) ?_ _;clear hH;by_cases hxz:x=z
   ·
    have hd2:decide (x=z)=true:=by simp [hxz]
    try rw[hd2]
    have EQ:Hid (x=z):=hxz;clear hcmp hc1 hc2 hd2 hxz
    have E2:Hid (amV z S=true):=by show _=_;rw[FX.out.2.1,namV_cons,EQ.out];simp
    go_wp2;go_ret;exact ⟨by rw[E2.out];rfl,gtr L0.out.1 FX.out.2.2⟩
   ·
    have hd2:decide (x=z)=false:=by simp [hxz]
    try rw[hd2]
    have NQ:Hid (¬ x=z):=hxz;clear hcmp hc1 hc2 hd2 hxz
    have E2:Hid (amV z S=amV z R'):=by show _=_;rw[FX.out.2.1,namV_cons];simp [NQ.out]
    go_wp2;go_roundw
    case rel=>exact ⟨j+1,R',by omega,by go_num,by omega,FX.out.2.2,FX.out.1,E2.out⟩
    case measure=>simp [intOf];omega
  ·
   obtain rfl:j=l:=by omega
   obtain rfl:R=[]:=List.eq_nil_of_length_eq_zero (by omega);have E:Hid (amV z S=false∧w.grownBy wr none):=⟨HR.out.2.2,gtr L0.out.1 HR.out.1⟩;clear HR;go_wp2;go_ret;exact ⟨by rw[E.out.1];rfl,E.out.2⟩
theorem l6G_alt (ds:List Da) (k:Int) (nm ar:List Int):∀ (g:GE) (S:List (List Int)) (i:Nat),l6G ds S true k nm ar i g=l6G ds S true k nm ar 0 g
 | .nil,_,_=>rfl
 | .cons hc hv p kids alts rest,S,i=>by rw[l6G_cons,l6G_cons,l6G_alt ds k nm ar rest S (i+1),l6G_alt ds k nm ar rest S (0+1)];rfl
def L6A (ds:List Da) (ad:Option Addr) (ld cd M:Nat):Prop:=∀ (p:PE) (kids alts:GE) (a1:Option Addr) (l1 c1:Nat) (a2:Option Addr) (l2 c2:Nat) (a3:Option Addr) (l3 c3:Nat) (a4:Option Addr) (l4 c4:Nat) (a5:Option Addr) (l5 c5:Nat) (S:List (List Int)) (a:Option Addr) (l c:Nat) (w:World),kids.size+alts.size < M→S.length+2 * (kids.size+alts.size)≤2097152→NdE w p kids alts a1 l1 c1 a2 l2 c2 a3 l3 c3 a4 l4 c4 a5 l5 c5→SlSS w a l S→SlDa w ad ld ds →
  Calls Tryz.prog 36 #[.slice ad ld cd,.agg #[.int .i64 p.k,.int .i64 p.n,.slice a1 l1 c1,.slice a2 l2 c2,.slice a3 l3 c3,.slice a4 l4 c4,.slice a5 l5 c5],.slice a l c] w fun e u=>e = .returned (.bool (l6E ds S p kids alts))∧w.grownBy u none
theorem bdV_len (k:Int) (nm ar:List Int) (i:Nat):(bdV k nm ar i).length≤2:=by unfold bdV;split <;> (try split) <;> simp
theorem cn_no {ds:List Da} {z:List Int} (h:cIx z ds 0=(-1,-1)) (n:Nat):cnOk ds z n=false:=by
 rcases cIx_here z ds 0 with ⟨-,h2⟩|⟨j',k',x,y,h2,-,-,-⟩
 ·
  unfold cnOk;rw[h2]
 ·
  rw[h2] at h;injection h with e1 e2;omega
theorem cn_yes {ds:List Da} {z:List Int} {y:Co} {l3:Nat} (h:cAt z ds=some y) (hl:y.flds.len=l3) (n:Nat):cnOk ds z n=decide (l3=n):=by
 unfold cnOk;rw[h];simp only[];rw[hl]
theorem cIx_cases (z:List Int) (ds:List Da):cIx z ds 0=(-1,-1)∨∃ j k:Nat,cIx z ds 0=((j:Int),(k:Int)):=by
 rcases cIx_here z ds 0 with ⟨h,-⟩|⟨j,k,x,y,h,-,-,-⟩
 ·
  exact .inl h
 ·
  exact .inr ⟨j,k,by rw[h,Nat.zero_add]⟩
theorem l6T_of (ds:List Da) (ad:Option Addr) (ld cd M:Nat) (ih:L6A ds ad ld cd M):L6A ds ad ld cd (M+1):=by
 intro p kids alts a1 l1 c1 a2 l2 c2 a3 l3 c3 a4 l4 c4 a5 l5 c5 S a l c w hM hsz h hS hD;by_cases h3:p.k=3
 ·
  have e:l6E ds S p kids alts=amV p.name S:=by unfold l6E;rw[if_pos h3]
  rw[e];exact l6varT p.k p.n p.name _ _ _ _ _ a1 l1 c1 S a l c w (by simpa using h3) h.1 hS
 have b3:(p.k == 3)=false:=by simpa using h3
 have EE:Hid (l6E ds S p kids alts=((!decide (p.k=15) || cnOk ds p.name kids.len) && l6G ds S false p.k p.name p.arg 0 kids && l6G ds S true p.k p.name p.arg 0 alts)):=by show _=_;unfold l6E;rw[if_neg h3]
 clear h3;have IH:Hid _:=ih;obtain ⟨i0,hi,hz0,hz1,hz2⟩:=info_parts infoBy;have g0:=gal w (.cells #[.int .i64 p.k,.int .i64 p.n,.slice a1 l1 c1,.slice a2 l2 c2,.slice a3 l3 c3,.slice a4 l4 c4,.slice a5 l5 c5] 36) none;have b0:=heap_alloc_new w (.cells #[.int .i64 p.k,.int .i64 p.n,.slice a1 l1 c1,.slice a2 l2 c2,.slice a3 l3 c3,.slice a4 l4 c4,.slice a5 l5 c5] 36);have hk4:=h.2.2.2.1.1;have hk5:=h.2.2.2.2.1;have hm4:=h.2.2.2.1.2.1;have hm5:=h.2.2.2.2.2.1;have HS:Hid (NdE w p kids alts a1 l1 c1 a2 l2 c2 a3 l3 c3 a4 l4 c4 a5 l5 c5∧SlSS w a l S∧SlDa w ad ld ds∧kids.size+alts.size < M+1∧S.length+2 * (kids.size+alts.size)≤2097152):=⟨h,hS,hD,hM,hsz⟩;have L0:Hid (w.grownBy (w.alloc (.cells #[.int .i64 p.k,.int .i64 p.n,.slice a1 l1 c1,.slice a2 l2 c2,.slice a3 l3 c3,.slice a4 l4 c4,.slice a5 l5 c5] 36)) none∧(w.alloc (.cells #[.int .i64 p.k,.int .i64 p.n,.slice a1 l1 c1,.slice a2 l2 c2,.slice a3 l3 c3,.slice a4 l4 c4,.slice a5 l5 c5] 36)).heap[w.heap.size]? = some (Obj.cells #[.int .i64 p.k,.int .i64 p.n,.slice a1 l1 c1,.slice a2 l2 c2,.slice a3 l3 c3,.slice a4 l4 c4,.slice a5 l5 c5] 36)):=⟨g0,b0⟩
 have C0:Hid _:=l5conT ds ad ld cd p.name a1 l1 c1 _ (hD.none g0) (h.1.none g0);obtain ⟨⟨y0,y1,y2,y3,y4,y5,y6⟩,-⟩:=blkE b0;clear g0 b0 h hS hD ih hM hsz;go_enter Tryz.func36,Tryz.ntmps36;go_upto_if 36 with fail;generalize w.alloc (.cells #[.int .i64 p.k,.int .i64 p.n,.slice a1 l1 c1,.slice a2 l2 c2,.slice a3 l3 c3,.slice a4 l4 c4,.slice a5 l5 c5] 36)=w0 at *;generalize w.heap.size=q0 at *
 go_cut [] (fun wx=>Hid ((!decide (p.k=15) || cnOk ds p.name kids.len)=true∧w0.grownBy wx none))
 case first=>as_aux_lemma =>
  by_cases h15:p.k=15
  ·
   have b15:(p.k == 15)=true:=by simpa using h15
   have E15:Hid (decide (p.k=15)=true):=by show _=_;simp [h15]
   clear h15;go_wp2_with fail;refine Calls.mono C0.out ?_;rintro e u ⟨he,hg⟩;have gd:=grown_drew hg;have HU:Hid (w0.grownBy u.drew none∧u.drew.cell? ⟨q0,5,none⟩=some (.slice a4 l4 c4)):=⟨gd,(blkE ((gd.block _ (lt_of_block L0.out.2) (by simp)).trans L0.out.2)).1.2.2.2.2.2.1⟩;clear C0 hg gd y0 y1 y2 y3 y4 y5 y6;rcases cIx_cases p.name ds with hx|⟨j,k,hx⟩
   ·
    have EV:Hid (l6E ds S p kids alts=false):=by show _=_;rw[EE.out,E15.out,cn_no hx];rfl
    rw[hx] at he;subst he;clear hx;simp only[];go_wp2_with fail;refine wp_region_held_drew (S:=(fun u=>True)) (by kernel_rfl) trivial (fun hH=>?_);generalize u.drew=t0 at *;simp only[List.size_toArray,lB,lC,Nat.reduceAdd,Array.replicate,List.replicate];refine tk 0 ?_;refine tk 1 ?_;refine tk 2 ?_;refine tks 3 ?_;refine tks 4 ?_;refine tks 5 ?_;refine tks 6 ?_;refine tks 7 ?_;refine tks 8 ?_;refine tks 9 ?_;refine tks 10 ?_;refine tks 11 ?_;refine tks 12 ?_;refine tks 13 ?_;refine tks 14 ?_;refine tks 15 ?_;refine tks 16 ?_;refine tk 17 ?_;refine wpAnyH_done (by kernel_rfl) ?_ _;clear hH;go_wp2;go_ret;exact ⟨by rw[EV.out];rfl,gtr L0.out.1 HU.out.1⟩
   ·
    have G1:=gtr L0.out.1 HU.out.1;obtain ⟨b,o,b2,o2,m2,d2,y,a7,l7,c7,ead,hj,k2,hk,k3,hyl,hc,hl7⟩:=con_cells (HS.out.2.2.1.none G1) hx
    have EC:Hid (cnOk ds p.name kids.len=decide (l7=l4)):=by show _=_;rw[hk4];exact cn_yes hc hyl l4
    have HC:Hid (u.drew.cell? ⟨b,o+j * 3+2,none⟩=some (.slice (some ⟨b2,o2,none⟩) m2 d2)∧u.drew.cell? ⟨b2,o2+k * 2+1,none⟩=some (.slice a7 l7 c7)∧u.drew.cell? ⟨q0,5,none⟩=some (.slice a4 l4 c4)):=⟨k2,k3,HU.out.2⟩
    have hj':(j:Int) < (ld:Int):=by omega
    have hk':(k:Int) < (m2:Int):=by omega
    have hj0:¬ (j:Int) < 0:=by omega
    have hjb:decide ((j:Int) < 0)=false:=by simp
    rw[hx] at he;subst he;subst ead;clear hx G1 k2 k3 hc hyl;simp only[];by_cases h74:l7=l4
    ·
     subst h74
     have E2:Hid (cnOk ds p.name kids.len=true):=by show _=_;rw[EC.out];simp
     clear EC;go_wp2_with fail;refine wp_region_held_drew (S:=(fun u=>u.cell? ⟨b,o+j * 3+2,none⟩=some (.slice (some ⟨b2,o2,none⟩) m2 d2)∧u.cell? ⟨b2,o2+k * 2+1,none⟩=some (.slice a7 l7 c7)∧u.cell? ⟨q0,5,none⟩=some (.slice a4 l7 c4))) (by kernel_rfl) HC.out (fun hH=>?_);generalize u.drew=t0 at *;simp only[List.size_toArray,lB,lC,Nat.reduceAdd,Array.replicate,List.replicate];refine tk 0 ?_;refine tk 1 ?_;refine tk 2 ?_;refine tk 3 ?_;refine tk 4 ?_;refine tk 5 ?_;refine tk 6 ?_;refine tk 7 ?_;refine tk 8 ?_;refine tk 9 ?_;refine tk 10 ?_;refine tk 11 ?_;refine tk 12 ?_;refine tk 13 ?_;refine tk 14 ?_;refine tk 15 ?_;refine tk 16 ?_;refine tk 17 ?_;refine wpAnyH_done (by kernel_rfl) ?_ _;clear hH;go_wp2;go_meet
     case rel=>exact ⟨by rw[E2.out];simp,HU.out.1⟩
    ·
     have hne:¬ (l7:Int)=(l4:Int):=by omega
     have EV:Hid (l6E ds S p kids alts=false):=by show _=_;rw[EE.out,E15.out,EC.out];simp [h74]
     clear h74 EC;go_wp2_with fail;refine wp_region_held_drew (S:=(fun u=>u.cell? ⟨b,o+j * 3+2,none⟩=some (.slice (some ⟨b2,o2,none⟩) m2 d2)∧u.cell? ⟨b2,o2+k * 2+1,none⟩=some (.slice a7 l7 c7)∧u.cell? ⟨q0,5,none⟩=some (.slice a4 l4 c4))) (by kernel_rfl) HC.out (fun hH=>?_);generalize u.drew=t0 at *;simp only[List.size_toArray,lB,lC,Nat.reduceAdd,Array.replicate,List.replicate];refine tk 0 ?_;refine tk 1 ?_;refine tk 2 ?_;refine tk 3 ?_;refine tk 4 ?_;refine tk 5 ?_;refine tk 6 ?_;refine tk 7 ?_;refine tk 8 ?_;refine tk 9 ?_;refine tk 10 ?_;refine tk 11 ?_;refine tk 12 ?_;refine tk 13 ?_;refine tk 14 ?_;refine tk 15 ?_;refine tk 16 ?_;refine tk 17 ?_;refine wpAnyH_done (by kernel_rfl) ?_ _;clear hH;go_wp2;go_ret;exact ⟨by rw[EV.out];rfl,gtr L0.out.1 HU.out.1⟩
  ·
   have b15:(p.k == 15)=false:=by simpa using h15
   have E15:Hid (decide (p.k=15)=false):=by show _=_;simp [h15]
   clear h15;go_wp2;go_meet
   case rel=>exact ⟨by rw[E15.out];rfl,grf _ _⟩
 case rest =>
 have L1:Hid (w.grownBy wc none∧wc.heap[q0]? = some (Obj.cells #[.int .i64 p.k,.int .i64 p.n,.slice a1 l1 c1,.slice a2 l2 c2,.slice a3 l3 c3,.slice a4 l4 c4,.slice a5 l5 c5] 36)∧l6E ds S p kids alts=(l6G ds S false p.k p.name p.arg 0 kids && l6G ds S true p.k p.name p.arg 0 alts)):=⟨gtr L0.out.1 hcut.out.2,(hcut.out.2.block _ (lt_of_block L0.out.2) (by simp)).trans L0.out.2,by rw[EE.out,hcut.out.1,Bool.true_and]⟩;clear hcut C0 L0 EE y0 y1 y2 y3 y4 y5 y6;go_wp2
 go_loopw [10] (fun i wr=>∃ (j:Nat) (R:GE),j≤l4∧i = .int .i64 j∧Hid (w.grownBy wr none∧wr.heap[q0]? = some (Obj.cells #[.int .i64 p.k,.int .i64 p.n,.slice a1 l1 c1,.slice a2 l2 c2,.slice a3 l3 c3,.slice a4 l4 c4,.slice a5 l5 c5] 36)∧TlK w a4 j l4 R∧R.size≤kids.size∧l6E ds S p kids alts=(l6G ds S false p.k p.name p.arg j R && l6G ds S true p.k p.name p.arg 0 alts))) (fun i _=>l4 - (intOf i).toNat)
 case atStart=>exact ⟨0,kids,Nat.zero_le _,rfl,L1.out.1,L1.out.2.1,HS.out.1.2.2.2.1.tlK,Nat.le_refl _,L1.out.2.2⟩
 case round =>
  clear L1;obtain ⟨j,R,hj,rfl,HR⟩:=hrel;obtain ⟨⟨y0,y1,y2,y3,y4,y5,y6⟩,-⟩:=blkE HR.out.2.1;by_cases hlt:j < l4
  ·
   obtain ⟨hg,hbx,⟨hRl,hR⟩,hRs,hv⟩:=HR.out;obtain ⟨q',hq'⟩:∃ q',R.len=q' + 1:=⟨R.len - 1,by omega⟩;rcases hR with rfl|⟨b,o,ea,hin⟩
   ·
    simp [GE.len] at hq'
   obtain ⟨hc,hv2,pp,kk,aa,R',rfl,hR'⟩:=GE.cons_of_len hq';obtain ⟨-,b1,m1,n1,b2,m2,n2,b3,m3,n3,b4,m4,n4,b5,m5,n5,hcel,hnd,hR2⟩:=hin.kid;rw[show o+j * 7+7=o+(j+1) * 7 by omega] at hR2;simp only[GE.size] at hRs;simp only[GE.len] at hRl;rw[l6G_cons] at hv
   have hv:l6E ds S p kids alts=((l6E ds (bdV p.k p.name p.arg j++S) pp kk aa && l6G ds S false p.k p.name p.arg (j+1) R') && l6G ds S true p.k p.name p.arg 0 alts):=by rw[hv];simp only[Bool.not_false,Bool.true_or,Bool.true_and];rfl
   have BX:Hid _:=hbx;have HP:Hid (w.grownBy wr none∧CelE w b (o+j * 7) (.int .i64 pp.k) (.int .i64 pp.n) (.slice b1 m1 n1) (.slice b2 m2 n2) (.slice b3 m3 n3) (.slice b4 m4 n4) (.slice b5 m5 n5)∧NdE w pp kk aa b1 m1 n1 b2 m2 n2 b3 m3 n3 b4 m4 n4 b5 m5 n5∧InGE w w false R' b (o+(j+1) * 7)∧l6E ds S p kids alts=((l6E ds (bdV p.k p.name p.arg j++S) pp kk aa && l6G ds S false p.k p.name p.arg (j+1) R') && l6G ds S true p.k p.name p.arg 0 alts)∧kk.size+aa.size+R'.size+1≤kids.size):=⟨hg,hcel,hnd,hR2,hv,by omega⟩;have gn:=gal wr (.cells #[] 23) none;have NW:Hid (OwNm wr.heap.size (wr.alloc (.cells #[] 23)) w (some ⟨wr.heap.size,0,none⟩) 0 0 []∧SlS2 (wr.alloc (.cells #[] 23)) w a l S∧0+l≤4194304∧wr.heap.size≤(wr.alloc (.cells #[] 23)).heap.size∧wr.grownBy (wr.alloc (.cells #[] 23)) none):=⟨OwNm.new wr w,HS.out.2.1.two (CLe.grown (gtr hg gn)),by have h1:=HS.out.2.1.1;have h2:=HS.out.2.2.2.2;omega,gn.size,gn⟩
   clear gn hg hbx hcel hnd hR2 hv HR hin hRs hq';subst ea;go_upto_block 4 with (at_builtin;go_must (refine wpList_appW rfl w _ _ 85 rfl wr.heap.size i0 _ Tryz.underlying85 hi hz0 hz1 hz2 rfl _ 0 0 [] rfl NW.out.1 a l c S rfl NW.out.2.1 NW.out.2.2.1 NW.out.2.2.2.1 ?_);intro a6 n6 c6 u2 hn6 h1 h2;have K2:Hid (OwNm wr.heap.size u2 w a6 n6 c6 S∧wr.grownBy u2 none):=⟨h1,h2 wr NW.out.2.2.2.2 (Nat.le_refl _)⟩;clear hn6 h1 h2 y0 y1 y2 y3 y4 y5 y6;obtain ⟨⟨y0,y1,y2,y3,y4,y5,y6⟩,-⟩:=blkE ((K2.out.2.block _ (lt_of_block BX.out) (by simp)).trans BX.out))
   go_cut [11] (fun s wx=>∃ (a8:Option Addr) (n8 c8:Nat),s = .slice a8 n8 c8∧Hid (OwNm wr.heap.size wx w a8 n8 c8 (S++bdV p.k p.name p.arg j)∧wr.grownBy wx none))
   case first=>as_aux_lemma =>
    by_cases h7:p.k=7
    ·
     have b7:(p.k == 7)=true:=by simpa using h7
     have b4:(p.k == 4)=false:=by rw[h7];decide
     have b6:(p.k == 6)=false:=by rw[h7];decide
     have b18:(p.k == 18)=false:=by rw[h7];decide
     by_cases i0':j=0
     ·
      have EV:Hid (bdV p.k p.name p.arg j=[p.name,p.arg]):=by show _=_;unfold bdV;rw[if_pos ⟨h7,i0'⟩]
      have bi:((j:Int) == 0)=true:=by subst i0';decide
      clear h7 i0';have gp:=gal u2 (.cells #[.slice a1 l1 c1] 23) none;have NPu3:Hid (OwNm wr.heap.size (u2.alloc (.cells #[.slice a1 l1 c1] 23)) w a6 n6 c6 S∧SlS2 (u2.alloc (.cells #[.slice a1 l1 c1] 23)) w (some ⟨u2.heap.size,0,none⟩) 1 [p.name]∧wr.heap.size≤(u2.alloc (.cells #[.slice a1 l1 c1] 23)).heap.size∧wr.grownBy (u2.alloc (.cells #[.slice a1 l1 c1] 23)) none∧n6+1≤4194304):=⟨K2.out.1.none gp,s21 (heap_alloc_new u2 _) HS.out.1.1,(gtr K2.out.2 gp).size,gtr K2.out.2 gp,by have h1:=K2.out.1.len;have h2:=HS.out.2.2.2.2;(try simp only[lA,lB,lC] at h1);omega⟩;clear gp;go_upto_region 26 with (at_builtin;go_must (refine wpList_appW rfl w _ _ 85 rfl wr.heap.size i0 _ Tryz.underlying85 hi hz0 hz1 hz2 rfl a6 n6 c6 S rfl NPu3.out.1 _ 1 1 [p.name] rfl NPu3.out.2.1 NPu3.out.2.2.2.2 NPu3.out.2.2.1 ?_);intro a7 n7 c7 u3 hn3 h1 h2;have K3:Hid (OwNm wr.heap.size u3 w a7 n7 c7 (S++[p.name])∧wr.grownBy u3 none):=⟨h1,h2 wr NPu3.out.2.2.2.1 (Nat.le_refl _)⟩;clear hn3 h1 h2;obtain ⟨⟨y0,y1,y2,y3,y4,y5,y6⟩,-⟩:=blkE ((K3.out.2.block _ (lt_of_block BX.out) (by simp)).trans BX.out))
      have gp:=gal u3 (.cells #[.slice a2 l2 c2] 23) none;have NPu4:Hid (OwNm wr.heap.size (u3.alloc (.cells #[.slice a2 l2 c2] 23)) w a7 n7 c7 (S++[p.name])∧SlS2 (u3.alloc (.cells #[.slice a2 l2 c2] 23)) w (some ⟨u3.heap.size,0,none⟩) 1 [p.arg]∧wr.heap.size≤(u3.alloc (.cells #[.slice a2 l2 c2] 23)).heap.size∧wr.grownBy (u3.alloc (.cells #[.slice a2 l2 c2] 23)) none∧n7+1≤4194304):=⟨K3.out.1.none gp,s21 (heap_alloc_new u3 _) HS.out.1.2.1,(gtr K3.out.2 gp).size,gtr K3.out.2 gp,by have h1:=K3.out.1.len;have h2:=HS.out.2.2.2.2;(try simp only[lA,lB,lC] at h1);omega⟩;clear gp;go_wp2_with (at_builtin;go_must (refine wpList_appW rfl w _ _ 85 rfl wr.heap.size i0 _ Tryz.underlying85 hi hz0 hz1 hz2 rfl a7 n7 c7 (S++[p.name]) rfl NPu4.out.1 _ 1 1 [p.arg] rfl NPu4.out.2.1 NPu4.out.2.2.2.2 NPu4.out.2.2.1 ?_);intro a9 n9 c9 u4 hn3 h1 h2;have K4:Hid (OwNm wr.heap.size u4 w a9 n9 c9 ((S++[p.name])++[p.arg])∧wr.grownBy u4 none):=⟨h1,h2 wr NPu4.out.2.2.2.1 (Nat.le_refl _)⟩;clear hn3 h1 h2;obtain ⟨⟨y0,y1,y2,y3,y4,y5,y6⟩,-⟩:=blkE ((K4.out.2.block _ (lt_of_block BX.out) (by simp)).trans BX.out))
      go_meet
      case rel=>exact ⟨a9,n9,c9,rfl,by rw[EV.out];have:=K4.out.1;rw[List.append_assoc] at this;exact this,K4.out.2⟩
     ·
      have EV:Hid (bdV p.k p.name p.arg j=[p.name]):=by show _=_;unfold bdV;rw[if_neg (fun h=>i0' h.2),if_pos (.inr (.inl h7))]
      have bi:((j:Int) == 0)=false:=by simp;omega
      clear h7 i0';have gp:=gal u2 (.cells #[.slice a1 l1 c1] 23) none;have NPu3:Hid (OwNm wr.heap.size (u2.alloc (.cells #[.slice a1 l1 c1] 23)) w a6 n6 c6 S∧SlS2 (u2.alloc (.cells #[.slice a1 l1 c1] 23)) w (some ⟨u2.heap.size,0,none⟩) 1 [p.name]∧wr.heap.size≤(u2.alloc (.cells #[.slice a1 l1 c1] 23)).heap.size∧wr.grownBy (u2.alloc (.cells #[.slice a1 l1 c1] 23)) none∧n6+1≤4194304):=⟨K2.out.1.none gp,s21 (heap_alloc_new u2 _) HS.out.1.1,(gtr K2.out.2 gp).size,gtr K2.out.2 gp,by have h1:=K2.out.1.len;have h2:=HS.out.2.2.2.2;(try simp only[lA,lB,lC] at h1);omega⟩;clear gp;go_wp2_with (at_builtin;go_must (refine wpList_appW rfl w _ _ 85 rfl wr.heap.size i0 _ Tryz.underlying85 hi hz0 hz1 hz2 rfl a6 n6 c6 S rfl NPu3.out.1 _ 1 1 [p.name] rfl NPu3.out.2.1 NPu3.out.2.2.2.2 NPu3.out.2.2.1 ?_);intro a7 n7 c7 u3 hn3 h1 h2;have K3:Hid (OwNm wr.heap.size u3 w a7 n7 c7 (S++[p.name])∧wr.grownBy u3 none):=⟨h1,h2 wr NPu3.out.2.2.2.1 (Nat.le_refl _)⟩;clear hn3 h1 h2;obtain ⟨⟨y0,y1,y2,y3,y4,y5,y6⟩,-⟩:=blkE ((K3.out.2.block _ (lt_of_block BX.out) (by simp)).trans BX.out))
      go_meet
      case rel=>exact ⟨a7,n7,c7,rfl,by rw[EV.out];exact K3.out.1,K3.out.2⟩
    have b7:(p.k == 7)=false:=by simpa using h7
    have e7:bdV p.k p.name p.arg j=if p.k=4∨p.k=7∨(p.k=6∧j=1)∨(p.k=18∧j=1) then [p.name] else []:=by unfold bdV;rw[if_neg (fun h=>h7 h.1)]
    by_cases h4:p.k=4
    ·
     have EV:Hid (bdV p.k p.name p.arg j=[p.name]):=by show _=_;rw[e7,if_pos (.inl h4)]
     have b4:(p.k == 4)=true:=by simpa using h4
     clear h7 h4 e7;have gp:=gal u2 (.cells #[.slice a1 l1 c1] 23) none;have NPu3:Hid (OwNm wr.heap.size (u2.alloc (.cells #[.slice a1 l1 c1] 23)) w a6 n6 c6 S∧SlS2 (u2.alloc (.cells #[.slice a1 l1 c1] 23)) w (some ⟨u2.heap.size,0,none⟩) 1 [p.name]∧wr.heap.size≤(u2.alloc (.cells #[.slice a1 l1 c1] 23)).heap.size∧wr.grownBy (u2.alloc (.cells #[.slice a1 l1 c1] 23)) none∧n6+1≤4194304):=⟨K2.out.1.none gp,s21 (heap_alloc_new u2 _) HS.out.1.1,(gtr K2.out.2 gp).size,gtr K2.out.2 gp,by have h1:=K2.out.1.len;have h2:=HS.out.2.2.2.2;(try simp only[lA,lB,lC] at h1);omega⟩;clear gp;go_wp2_with (at_builtin;go_must (refine wpList_appW rfl w _ _ 85 rfl wr.heap.size i0 _ Tryz.underlying85 hi hz0 hz1 hz2 rfl a6 n6 c6 S rfl NPu3.out.1 _ 1 1 [p.name] rfl NPu3.out.2.1 NPu3.out.2.2.2.2 NPu3.out.2.2.1 ?_);intro a7 n7 c7 u3 hn3 h1 h2;have K3:Hid (OwNm wr.heap.size u3 w a7 n7 c7 (S++[p.name])∧wr.grownBy u3 none):=⟨h1,h2 wr NPu3.out.2.2.2.1 (Nat.le_refl _)⟩;clear hn3 h1 h2;obtain ⟨⟨y0,y1,y2,y3,y4,y5,y6⟩,-⟩:=blkE ((K3.out.2.block _ (lt_of_block BX.out) (by simp)).trans BX.out))
     go_meet
     case rel=>exact ⟨a7,n7,c7,rfl,by rw[EV.out];exact K3.out.1,K3.out.2⟩
    have b4:(p.k == 4)=false:=by simpa using h4
    by_cases h6:p.k=6
    ·
     have b6:(p.k == 6)=true:=by simpa using h6
     by_cases i1:j=1
     ·
      have EV:Hid (bdV p.k p.name p.arg j=[p.name]):=by show _=_;rw[e7,if_pos (.inr (.inr (.inl ⟨h6,i1⟩)))]
      have bi:((j:Int) == 1)=true:=by subst i1;decide
      clear h7 h4 e7 h6 i1;have gp:=gal u2 (.cells #[.slice a1 l1 c1] 23) none;have NPu3:Hid (OwNm wr.heap.size (u2.alloc (.cells #[.slice a1 l1 c1] 23)) w a6 n6 c6 S∧SlS2 (u2.alloc (.cells #[.slice a1 l1 c1] 23)) w (some ⟨u2.heap.size,0,none⟩) 1 [p.name]∧wr.heap.size≤(u2.alloc (.cells #[.slice a1 l1 c1] 23)).heap.size∧wr.grownBy (u2.alloc (.cells #[.slice a1 l1 c1] 23)) none∧n6+1≤4194304):=⟨K2.out.1.none gp,s21 (heap_alloc_new u2 _) HS.out.1.1,(gtr K2.out.2 gp).size,gtr K2.out.2 gp,by have h1:=K2.out.1.len;have h2:=HS.out.2.2.2.2;(try simp only[lA,lB,lC] at h1);omega⟩;clear gp;go_wp2_with (at_builtin;go_must (refine wpList_appW rfl w _ _ 85 rfl wr.heap.size i0 _ Tryz.underlying85 hi hz0 hz1 hz2 rfl a6 n6 c6 S rfl NPu3.out.1 _ 1 1 [p.name] rfl NPu3.out.2.1 NPu3.out.2.2.2.2 NPu3.out.2.2.1 ?_);intro a7 n7 c7 u3 hn3 h1 h2;have K3:Hid (OwNm wr.heap.size u3 w a7 n7 c7 (S++[p.name])∧wr.grownBy u3 none):=⟨h1,h2 wr NPu3.out.2.2.2.1 (Nat.le_refl _)⟩;clear hn3 h1 h2;obtain ⟨⟨y0,y1,y2,y3,y4,y5,y6⟩,-⟩:=blkE ((K3.out.2.block _ (lt_of_block BX.out) (by simp)).trans BX.out))
      go_meet
      case rel=>exact ⟨a7,n7,c7,rfl,by rw[EV.out];exact K3.out.1,K3.out.2⟩
     ·
      have EV:Hid (bdV p.k p.name p.arg j=[]):=by show _=_;rw[e7,if_neg (by omega)]
      have bi:((j:Int) == 1)=false:=by simp;omega
      clear h7 h4 e7 h6 i1;go_wp2;go_meet
      case rel=>exact ⟨a6,n6,c6,rfl,by rw[EV.out,List.append_nil];exact K2.out.1,K2.out.2⟩
    have b6:(p.k == 6)=false:=by simpa using h6
    by_cases h18:p.k=18
    ·
     have b18:(p.k == 18)=true:=by simpa using h18
     by_cases i1:j=1
     ·
      have EV:Hid (bdV p.k p.name p.arg j=[p.name]):=by show _=_;rw[e7,if_pos (.inr (.inr (.inr ⟨h18,i1⟩)))]
      have bi:((j:Int) == 1)=true:=by subst i1;decide
      clear h7 h4 e7 h6 i1 h18;have gp:=gal u2 (.cells #[.slice a1 l1 c1] 23) none;have NPu3:Hid (OwNm wr.heap.size (u2.alloc (.cells #[.slice a1 l1 c1] 23)) w a6 n6 c6 S∧SlS2 (u2.alloc (.cells #[.slice a1 l1 c1] 23)) w (some ⟨u2.heap.size,0,none⟩) 1 [p.name]∧wr.heap.size≤(u2.alloc (.cells #[.slice a1 l1 c1] 23)).heap.size∧wr.grownBy (u2.alloc (.cells #[.slice a1 l1 c1] 23)) none∧n6+1≤4194304):=⟨K2.out.1.none gp,s21 (heap_alloc_new u2 _) HS.out.1.1,(gtr K2.out.2 gp).size,gtr K2.out.2 gp,by have h1:=K2.out.1.len;have h2:=HS.out.2.2.2.2;(try simp only[lA,lB,lC] at h1);omega⟩;clear gp;go_wp2_with (at_builtin;go_must (refine wpList_appW rfl w _ _ 85 rfl wr.heap.size i0 _ Tryz.underlying85 hi hz0 hz1 hz2 rfl a6 n6 c6 S rfl NPu3.out.1 _ 1 1 [p.name] rfl NPu3.out.2.1 NPu3.out.2.2.2.2 NPu3.out.2.2.1 ?_);intro a7 n7 c7 u3 hn3 h1 h2;have K3:Hid (OwNm wr.heap.size u3 w a7 n7 c7 (S++[p.name])∧wr.grownBy u3 none):=⟨h1,h2 wr NPu3.out.2.2.2.1 (Nat.le_refl _)⟩;clear hn3 h1 h2;obtain ⟨⟨y0,y1,y2,y3,y4,y5,y6⟩,-⟩:=blkE ((K3.out.2.block _ (lt_of_block BX.out) (by simp)).trans BX.out))
      go_meet
      case rel=>exact ⟨a7,n7,c7,rfl,by rw[EV.out];exact K3.out.1,K3.out.2⟩
     ·
      have EV:Hid (bdV p.k p.name p.arg j=[]):=by show _=_;rw[e7,if_neg (by omega)]
      have bi:((j:Int) == 1)=false:=by simp;omega
      clear h7 h4 e7 h6 i1 h18;go_wp2;go_meet
      case rel=>exact ⟨a6,n6,c6,rfl,by rw[EV.out,List.append_nil];exact K2.out.1,K2.out.2⟩
    have b18:(p.k == 18)=false:=by simpa using h18
    have EV:Hid (bdV p.k p.name p.arg j=[]):=by show _=_;rw[e7,if_neg (by omega)]
    clear h7 h4 e7 h6 h18;go_wp2;go_meet
    case rel=>exact ⟨a6,n6,c6,rfl,by rw[EV.out,List.append_nil];exact K2.out.1,K2.out.2⟩
   case rest =>
   obtain ⟨a8,n8,c8,rfl,KK⟩:=hcut;have GW:Hid (w.grownBy wc none):=gtr HP.out.1 KK.out.2
   have hn8:n8≤4194304:=by have h1:=KK.out.1.len;have h2:=HS.out.2.2.2.2;have h3:=bdV_len p.k p.name p.arg j;rw[lA] at h1;omega
   have CC:Hid _:=IH.out pp kk aa b1 m1 n1 b2 m2 n2 b3 m3 n3 b4 m4 n4 b5 m5 n5 (S++bdV p.k p.name p.arg j) a8 n8 c8 wc (by have h1:=HP.out.2.2.2.2.2;have h2:=HS.out.2.2.2.1;omega) (by have h1:=HP.out.2.2.2.2.2;have h2:=HS.out.2.2.2.2;have h3:=bdV_len p.k p.name p.arg j;rw[lA];omega) (HP.out.2.2.1.none GW.out) (KK.out.1.read (CLe.grown GW.out) hn8) (HS.out.2.2.1.none GW.out);rw[l6E_congr ds pp kk aa (T:=bdV p.k p.name p.arg j++S) (fun z=>by rw[namV_app,namV_app,Bool.or_comm])] at CC;have BC:Hid (wc.heap[q0]? = some (Obj.cells #[.int .i64 p.k,.int .i64 p.n,.slice a1 l1 c1,.slice a2 l2 c2,.slice a3 l3 c3,.slice (some ⟨b,o,none⟩) l4 c4,.slice a5 l5 c5] 36)):=(KK.out.2.block _ (lt_of_block BX.out) (by simp)).trans BX.out;clear KK K2 NW y0 y1 y2 y3 y4 y5 y6;obtain ⟨⟨y0,y1,y2,y3,y4,y5,y6⟩,-⟩:=blkE BC.out;obtain ⟨k0,k1,k2,k3,k4,k5,k6⟩:=HP.out.2.1.le (CLe.grown GW.out);go_wp2_with fail;refine Calls.mono CC.out ?_
   rintro e u5 ⟨he,hg⟩;subst he;have FY:Hid (w.grownBy u5 none∧u5.heap[q0]? = some (Obj.cells #[.int .i64 p.k,.int .i64 p.n,.slice a1 l1 c1,.slice a2 l2 c2,.slice a3 l3 c3,.slice (some ⟨b,o,none⟩) l4 c4,.slice a5 l5 c5] 36)):=⟨gtr GW.out hg,(hg.block _ (lt_of_block BC.out) (by simp)).trans BC.out⟩;clear CC hg BC y0 y1 y2 y3 y4 y5 y6 k0 k1 k2 k3 k4 k5 k6;simp only[]
   cases hq:l6E ds (bdV p.k p.name p.arg j++S) pp kk aa with
   | false =>
    have EV:Hid (l6E ds S p kids alts=false):=by show _=_;rw[HP.out.2.2.2.2.1,hq];rfl
    clear hq;go_wp2;go_ret;exact ⟨by rw[EV.out];rfl,FY.out.1⟩
   | true =>
    have EV:Hid (l6E ds S p kids alts=(l6G ds S false p.k p.name p.arg (j+1) R' && l6G ds S true p.k p.name p.arg 0 alts)):=by show _=_;rw[HP.out.2.2.2.2.1,hq];rfl
    clear hq;go_wp2;go_roundw
    case rel=>exact ⟨j+1,R',by omega,by go_num,FY.out.1,FY.out.2,⟨by omega,.inr ⟨b,o,rfl,HP.out.2.2.2.1⟩⟩,by have:=HP.out.2.2.2.2.2;omega,EV.out⟩
    case measure=>simp [intOf];omega
  ·
   obtain rfl:j=l4:=by omega
   obtain ⟨hg,hbx,⟨hRl,-⟩,-,hv⟩:=HR.out;obtain rfl:R = .nil:=GE.nil_of_len (by omega);have L2:Hid (w.grownBy wr none∧wr.heap[q0]? = some (Obj.cells #[.int .i64 p.k,.int .i64 p.n,.slice a1 l1 c1,.slice a2 l2 c2,.slice a3 l3 c3,.slice a4 j c4,.slice a5 l5 c5] 36)∧l6E ds S p kids alts=l6G ds S true p.k p.name p.arg 0 alts):=⟨hg,hbx,by rw[hv];rfl⟩;clear HR hg hbx hv hRl;go_wp2
   go_loopw [12] (fun i wr=>∃ (t:Nat) (R:GE),t≤l5∧i = .int .i64 t∧Hid (w.grownBy wr none∧wr.heap[q0]? = some (Obj.cells #[.int .i64 p.k,.int .i64 p.n,.slice a1 l1 c1,.slice a2 l2 c2,.slice a3 l3 c3,.slice a4 j c4,.slice a5 l5 c5] 36)∧TlA w a5 t l5 R∧R.size≤alts.size∧l6E ds S p kids alts=l6G ds S true p.k p.name p.arg 0 R)) (fun i _=>l5 - (intOf i).toNat)
   case atStart=>exact ⟨0,alts,Nat.zero_le _,rfl,L2.out.1,L2.out.2.1,HS.out.1.2.2.2.2.tlA,Nat.le_refl _,L2.out.2.2⟩
   case round =>
    clear L2 y0 y1 y2 y3 y4 y5 y6;obtain ⟨t,R,ht,rfl,HR⟩:=hrel;obtain ⟨⟨y0,y1,y2,y3,y4,y5,y6⟩,-⟩:=blkE HR.out.2.1;by_cases hltt:t < l5
    ·
     obtain ⟨hg,hbx,⟨hRl,hR⟩,hRs,hv⟩:=HR.out;obtain ⟨q',hq'⟩:∃ q',R.len=q' + 1:=⟨R.len - 1,by omega⟩;rcases hR with rfl|⟨b,o,ea,hin⟩
     ·
      simp [GE.len] at hq'
     obtain ⟨hc,hv2,pp,kk,aa,R',rfl,hR'⟩:=GE.cons_of_len hq';obtain ⟨e0,f0,d0,e1,f1,d1,b1,m1,n1,b2,m2,n2,b3,m3,n3,b4,m4,n4,b5,m5,n5,hhed,hgd,hcel,hnd,hR2⟩:=hin.alt;rw[show o+t * 9+9=o+(t+1) * 9 by omega] at hR2;simp only[GE.size] at hRs;simp only[GE.len] at hRl;rw[l6G_cons,l6G_alt] at hv;have hv:l6E ds S p kids alts=(((!decide (0 < hc.length) || cnOk ds hc hv2.length) && l6E ds (hv2++S) pp kk aa) && l6G ds S true p.k p.name p.arg 0 R'):=hv;have hsw:=szW_len hv2;have hf0:=hgd.1.1.1;have hf1:=hgd.2.1.1;have HP:Hid (w.grownBy wr none∧wr.heap[q0]? = some (Obj.cells #[.int .i64 p.k,.int .i64 p.n,.slice a1 l1 c1,.slice a2 l2 c2,.slice a3 l3 c3,.slice a4 j c4,.slice a5 l5 c5] 36)∧NdE w pp kk aa b1 m1 n1 b2 m2 n2 b3 m3 n3 b4 m4 n4 b5 m5 n5∧InGE w w true R' b (o+(t+1) * 9)∧l6E ds S p kids alts=(((!decide (0 < hc.length) || cnOk ds hc hv2.length) && l6E ds (hv2++S) pp kk aa) && l6G ds S true p.k p.name p.arg 0 R')∧kk.size+aa.size+R'.size+1+hv2.length≤alts.size∧RdB w e0 f0 hc∧SlSC w e1 f1 d1 hv2):=⟨hg,hbx,hnd,hR2,hv,by omega,hgd⟩
     obtain ⟨m0',m1'⟩:=hhed.le (CLe.grown hg);obtain ⟨k0,k1,k2,k3,k4,k5,k6⟩:=hcel.le (CLe.grown hg);have ga:=gal wr (.cells #[.slice e0 f0 d0,.slice e1 f1 d1,.int .i64 pp.k,.int .i64 pp.n,.slice b1 m1 n1,.slice b2 m2 n2,.slice b3 m3 n3,.slice b4 m4 n4,.slice b5 m5 n5] 87) none;have ba:=heap_alloc_new wr (.cells #[.slice e0 f0 d0,.slice e1 f1 d1,.int .i64 pp.k,.int .i64 pp.n,.slice b1 m1 n1,.slice b2 m2 n2,.slice b3 m3 n3,.slice b4 m4 n4,.slice b5 m5 n5] 87);have C1:Hid _:=l5conT ds ad ld cd hc e0 f0 d0 _ (HS.out.2.2.1.none (gtr hg ga)) (hgd.1.none (gtr hg ga));have LB:Hid (wr.grownBy (wr.alloc (.cells #[.slice e0 f0 d0,.slice e1 f1 d1,.int .i64 pp.k,.int .i64 pp.n,.slice b1 m1 n1,.slice b2 m2 n2,.slice b3 m3 n3,.slice b4 m4 n4,.slice b5 m5 n5] 87)) none∧(wr.alloc (.cells #[.slice e0 f0 d0,.slice e1 f1 d1,.int .i64 pp.k,.int .i64 pp.n,.slice b1 m1 n1,.slice b2 m2 n2,.slice b3 m3 n3,.slice b4 m4 n4,.slice b5 m5 n5] 87)).heap[wr.heap.size]? = some (Obj.cells #[.slice e0 f0 d0,.slice e1 f1 d1,.int .i64 pp.k,.int .i64 pp.n,.slice b1 m1 n1,.slice b2 m2 n2,.slice b3 m3 n3,.slice b4 m4 n4,.slice b5 m5 n5] 87)):=⟨ga,ba⟩
     obtain ⟨⟨z0,z1,z2,z3,z4,z5,z6,z7,z8⟩,-⟩:=blkEA ba;clear hg hbx hcel hnd hR2 hv HR hin hRs hq' ga ba hhed hgd hsw;subst ea;go_upto_if 129 with fail;generalize wr.alloc (.cells #[.slice e0 f0 d0,.slice e1 f1 d1,.int .i64 pp.k,.int .i64 pp.n,.slice b1 m1 n1,.slice b2 m2 n2,.slice b3 m3 n3,.slice b4 m4 n4,.slice b5 m5 n5] 87)=wb at *;generalize wr.heap.size=p3 at *
     go_cut [] (fun wx=>Hid ((!decide (0 < hc.length) || cnOk ds hc hv2.length)=true∧wb.grownBy wx none))
     case first=>as_aux_lemma =>
      by_cases hz:f0=0
      ·
       have hng:¬ (f0:Int) > 0:=by omega
       have EZ:Hid (decide (0 < hc.length)=false):=by show _=_;exact decide_eq_false (by omega)
       clear hz;go_wp2;go_meet
       case rel=>exact ⟨by rw[EZ.out];rfl,grf _ _⟩
      have hng:(f0:Int) > 0:=by omega
      have EZ:Hid (decide (0 < hc.length)=true):=by show _=_;exact decide_eq_true (by omega)
      clear hz;go_wp2_with fail;refine Calls.mono C1.out ?_;rintro e u ⟨he,hg⟩;have gd:=grown_drew hg;have HU:Hid (wb.grownBy u.drew none∧u.drew.cell? ⟨p3,1,none⟩=some (.slice e1 f1 d1)):=⟨gd,(blkEA ((gd.block _ (lt_of_block LB.out.2) (by simp)).trans LB.out.2)).1.2.1⟩;have GU:Hid (w.grownBy u.drew none):=gtr HP.out.1 (gtr LB.out.1 gd);clear C1 hg gd y0 y1 y2 y3 y4 y5 y6 z0 z1 z2 z3 z4 z5 z6 z7 z8 k0 k1 k2 k3 k4 k5 k6 m0' m1';rcases cIx_cases hc ds with hx|⟨j2,k9,hx⟩
      ·
       have EV:Hid (l6E ds S p kids alts=false):=by show _=_;rw[HP.out.2.2.2.2.1,EZ.out,cn_no hx];rfl
       rw[hx] at he;subst he;clear hx;simp only[];go_wp2_with fail;refine wp_region_held_drew (S:=(fun u=>True)) (by kernel_rfl) trivial (fun hH=>?_);generalize u.drew=t0 at *;simp only[List.size_toArray,lB,lC,Nat.reduceAdd,Array.replicate,List.replicate];refine tk 0 ?_;refine tk 1 ?_;refine tk 2 ?_;refine tks 3 ?_;refine tks 4 ?_;refine tks 5 ?_;refine tks 6 ?_;refine tks 7 ?_;refine tks 8 ?_;refine tks 9 ?_;refine tks 10 ?_;refine tks 11 ?_;refine tks 12 ?_;refine tks 13 ?_;refine tks 14 ?_;refine tks 15 ?_;refine tks 16 ?_;refine tk 17 ?_;refine wpAnyH_done (by kernel_rfl) ?_ _;clear hH;go_wp2;go_ret;exact ⟨by rw[EV.out];rfl,GU.out⟩
      ·
       obtain ⟨b9,o9,b8,o8,m8,d8,y,a7,l7,c7,ead,hj2,k2',hk9,k3',hyl,hcc,hl7⟩:=con_cells (HS.out.2.2.1.none GU.out) hx
       have EC:Hid (cnOk ds hc hv2.length=decide (l7=f1)):=by show _=_;rw[hf1];exact cn_yes hcc hyl f1
       have HC:Hid (u.drew.cell? ⟨b9,o9+j2 * 3+2,none⟩=some (.slice (some ⟨b8,o8,none⟩) m8 d8)∧u.drew.cell? ⟨b8,o8+k9 * 2+1,none⟩=some (.slice a7 l7 c7)∧u.drew.cell? ⟨p3,1,none⟩=some (.slice e1 f1 d1)):=⟨k2',k3',HU.out.2⟩
       have hj':(j2:Int) < (ld:Int):=by omega
       have hk':(k9:Int) < (m8:Int):=by omega
       have hj0:¬ (j2:Int) < 0:=by omega
       have hjb:decide ((j2:Int) < 0)=false:=by simp
       rw[hx] at he;subst he;subst ead;clear hx k2' k3' hcc hyl;simp only[];by_cases h74:l7=f1
       ·
        subst h74
        have E2:Hid (cnOk ds hc hv2.length=true):=by show _=_;rw[EC.out];simp
        clear EC;go_wp2_with fail;refine wp_region_held_drew (S:=(fun u=>u.cell? ⟨b9,o9+j2 * 3+2,none⟩=some (.slice (some ⟨b8,o8,none⟩) m8 d8)∧u.cell? ⟨b8,o8+k9 * 2+1,none⟩=some (.slice a7 l7 c7)∧u.cell? ⟨p3,1,none⟩=some (.slice e1 l7 d1))) (by kernel_rfl) HC.out (fun hH=>?_);generalize u.drew=t0 at *;simp only[List.size_toArray,lB,lC,Nat.reduceAdd,Array.replicate,List.replicate];refine tk 0 ?_;refine tk 1 ?_;refine tk 2 ?_;refine tk 3 ?_;refine tk 4 ?_;refine tk 5 ?_;refine tk 6 ?_;refine tk 7 ?_;refine tk 8 ?_;refine tk 9 ?_;refine tk 10 ?_;refine tk 11 ?_;refine tk 12 ?_;refine tk 13 ?_;refine tk 14 ?_;refine tk 15 ?_;refine tk 16 ?_;refine tk 17 ?_;refine wpAnyH_done (by kernel_rfl) ?_ _;clear hH;go_wp2;go_meet
        case rel=>exact ⟨by rw[E2.out];simp,HU.out.1⟩
       ·
        have hne:¬ (l7:Int)=(f1:Int):=by omega
        have EV:Hid (l6E ds S p kids alts=false):=by show _=_;rw[HP.out.2.2.2.2.1,EZ.out,EC.out];simp [h74]
        clear h74 EC;go_wp2_with fail;refine wp_region_held_drew (S:=(fun u=>u.cell? ⟨b9,o9+j2 * 3+2,none⟩=some (.slice (some ⟨b8,o8,none⟩) m8 d8)∧u.cell? ⟨b8,o8+k9 * 2+1,none⟩=some (.slice a7 l7 c7)∧u.cell? ⟨p3,1,none⟩=some (.slice e1 f1 d1))) (by kernel_rfl) HC.out (fun hH=>?_);generalize u.drew=t0 at *;simp only[List.size_toArray,lB,lC,Nat.reduceAdd,Array.replicate,List.replicate];refine tk 0 ?_;refine tk 1 ?_;refine tk 2 ?_;refine tk 3 ?_;refine tk 4 ?_;refine tk 5 ?_;refine tk 6 ?_;refine tk 7 ?_;refine tk 8 ?_;refine tk 9 ?_;refine tk 10 ?_;refine tk 11 ?_;refine tk 12 ?_;refine tk 13 ?_;refine tk 14 ?_;refine tk 15 ?_;refine tk 16 ?_;refine tk 17 ?_;refine wpAnyH_done (by kernel_rfl) ?_ _;clear hH;go_wp2;go_ret;exact ⟨by rw[EV.out];rfl,GU.out⟩
     case rest =>
     have gd:=grown_drew hcut.out.2
     have hvv:l6E ds S p kids alts=(l6E ds (hv2++S) pp kk aa && l6G ds S true p.k p.name p.arg 0 R'):=by rw[HP.out.2.2.2.2.1,hcut.out.1,Bool.true_and]
     have HQ:Hid (w.grownBy wc.drew none∧wc.drew.heap[q0]? = some (Obj.cells #[.int .i64 p.k,.int .i64 p.n,.slice a1 l1 c1,.slice a2 l2 c2,.slice a3 l3 c3,.slice a4 j c4,.slice (some ⟨b,o,none⟩) l5 c5] 36)∧l6E ds S p kids alts=(l6E ds (hv2++S) pp kk aa && l6G ds S true p.k p.name p.arg 0 R')):=⟨gtr HP.out.1 (gtr LB.out.1 gd),((gtr LB.out.1 gd).block _ (lt_of_block HP.out.2.1) (by simp)).trans HP.out.2.1,hvv⟩
     have HT:Hid (∀ u,wc.drew.grownBy u none→u.cell? ⟨p3,0,none⟩=some (.slice e0 f0 d0)∧u.cell? ⟨p3,1,none⟩=some (.slice e1 f1 d1)∧u.cell? ⟨p3,2,none⟩=some (.int .i64 pp.k)∧u.cell? ⟨p3,3,none⟩=some (.int .i64 pp.n)∧u.cell? ⟨p3,4,none⟩=some (.slice b1 m1 n1)∧u.cell? ⟨p3,5,none⟩=some (.slice b2 m2 n2)∧u.cell? ⟨p3,6,none⟩=some (.slice b3 m3 n3)∧u.cell? ⟨p3,7,none⟩=some (.slice b4 m4 n4)∧u.cell? ⟨p3,8,none⟩=some (.slice b5 m5 n5)):=fun u hu=>(blkEA (((gtr gd hu).block _ (lt_of_block LB.out.2) (by simp)).trans LB.out.2)).1
     clear hcut gd hvv C1 LB y0 y1 y2 y3 y4 y5 y6 z0 z1 z2 z3 z4 z5 z6 z7 z8 k0 k1 k2 k3 k4 k5 k6 m0' m1';go_wp2_with fail;refine wp_region_held_drew (S:=(fun u=>u.cell? ⟨p3,0,none⟩=some (.slice e0 f0 d0)∧u.cell? ⟨p3,1,none⟩=some (.slice e1 f1 d1)∧u.cell? ⟨p3,2,none⟩=some (.int .i64 pp.k)∧u.cell? ⟨p3,3,none⟩=some (.int .i64 pp.n)∧u.cell? ⟨p3,4,none⟩=some (.slice b1 m1 n1)∧u.cell? ⟨p3,5,none⟩=some (.slice b2 m2 n2)∧u.cell? ⟨p3,6,none⟩=some (.slice b3 m3 n3)∧u.cell? ⟨p3,7,none⟩=some (.slice b4 m4 n4)∧u.cell? ⟨p3,8,none⟩=some (.slice b5 m5 n5))) (by kernel_rfl) (HT.out _ (grf _ _)) (fun hH=>?_);generalize wc.drew=t0 at *;simp only[List.size_toArray,lB,lC,Nat.reduceAdd,Array.replicate,List.replicate];refine tk 0 ?_;refine tk 1 ?_;refine tk 2 ?_;refine tk 4 ?_;refine tk 6 ?_;refine tk 7 ?_;refine rd 3 rfl (fun K hK=>?_);go_simp;have gn:=gal t0 (.cells #[] 23) none;have NW:Hid (OwNm t0.heap.size (t0.alloc (.cells #[] 23)) w (some ⟨t0.heap.size,0,none⟩) 0 0 []∧SlS2 (t0.alloc (.cells #[] 23)) w a l S∧0+l≤4194304∧t0.heap.size≤(t0.alloc (.cells #[] 23)).heap.size∧t0.grownBy (t0.alloc (.cells #[] 23)) none):=⟨OwNm.new t0 w,HS.out.2.1.two (CLe.grown (gtr HQ.out.1 gn)),by have h1:=HS.out.2.1.1;have h2:=HS.out.2.2.2.2;omega,gn.size,gn⟩
     refine hK.out _ _ (HT.out _ gn) ?_;clear gn;generalize t0.alloc (.cells #[] 23)=t1 at *;clear hK K hH;intro hH;simp only[Act.put,nA,nB,nC,nD,nE,nF];refine rd 5 rfl (fun K hK=>?_);refine step_of rfl (wp_appW w _ _ 85 rfl t0.heap.size i0 _ Tryz.underlying85 hi hz0 hz1 hz2 rfl _ 0 0 [] rfl NW.out.1 a l c S rfl NW.out.2.1 NW.out.2.2.1 NW.out.2.2.2.1 ?_);intro a6 n6 c6 u2 hn6 h1 h2;have K2:Hid (OwNm t0.heap.size u2 w a6 n6 c6 S∧t0.grownBy u2 none):=⟨h1,h2 t0 NW.out.2.2.2.2 (Nat.le_refl _)⟩;clear hn6 h1 h2 NW;refine hK.out _ _ (HT.out _ K2.out.2) ?_;clear hK K hH;intro hH;simp only[Act.put,nA,nB,nC,nD,nE,nF];refine rd 8 rfl (fun K hK=>?_);refine step_of rfl (wp_appW w _ _ 85 rfl t0.heap.size i0 _ Tryz.underlying85 hi hz0 hz1 hz2 rfl a6 n6 c6 S rfl K2.out.1 e1 f1 d1 hv2 rfl (HP.out.2.2.2.2.2.2.2.1.two (CLe.grown (gtr HQ.out.1 K2.out.2))) (by have h1:=K2.out.1.len;have h2:=HS.out.2.2.2.2;have h3:=HP.out.2.2.2.2.2.1;omega) K2.out.2.size ?_)
     intro a7 n7 c7 u3 hn7 h1 h2;have K3:Hid (OwNm t0.heap.size u3 w a7 n7 c7 (S++hv2)∧t0.grownBy u3 none):=⟨h1,h2 t0 K2.out.2 (Nat.le_refl _)⟩;clear hn7 h1 h2 K2;have GW:Hid (w.grownBy u3 none):=gtr HQ.out.1 K3.out.2
     have hn7:n7≤4194304:=by have h1:=K3.out.1.len;have h2:=HS.out.2.2.2.2;have h3:=HP.out.2.2.2.2.2.1;rw[lA] at h1;omega
     have CC:Hid _:=IH.out pp kk aa b1 m1 n1 b2 m2 n2 b3 m3 n3 b4 m4 n4 b5 m5 n5 (S++hv2) a7 n7 c7 u3 (by have h1:=HP.out.2.2.2.2.2.1;have h2:=HS.out.2.2.2.1;omega) (by have h1:=HP.out.2.2.2.2.2.1;have h2:=HS.out.2.2.2.2;rw[lA];omega) (HP.out.2.2.1.none GW.out) (K3.out.1.read (CLe.grown GW.out) hn7) (HS.out.2.2.1.none GW.out);rw[l6E_congr ds pp kk aa (T:=hv2++S) (fun z=>by rw[namV_app,namV_app,Bool.or_comm])] at CC;refine hK.out _ _ (HT.out _ K3.out.2) ?_;clear hn7;clear hK K hH;intro hH;simp only[Act.put,nA,nB,nC,nD,nE,nF];refine rd 9 rfl (fun K hK=>?_);go_simp;refine Calls.mono CC.out ?_;rintro e u5 ⟨he,hg⟩;subst he;refine hK.out _ _ (HT.out _ (gtr K3.out.2 hg)) ?_;have FY:Hid (w.grownBy u5 none∧u5.heap[q0]? = some (Obj.cells #[.int .i64 p.k,.int .i64 p.n,.slice a1 l1 c1,.slice a2 l2 c2,.slice a3 l3 c3,.slice a4 j c4,.slice (some ⟨b,o,none⟩) l5 c5] 36)):=⟨gtr GW.out hg,((gtr K3.out.2 hg).block _ (lt_of_block HQ.out.2.1) (by simp)).trans HQ.out.2.1⟩
     clear CC hg K3 GW HT;clear hK K hH;intro hH;simp only[Act.put,nA,nB,nC,nD,nE,nF];refine tk 10 ?_;refine wpAnyH_done (by kernel_rfl) ?_ _;clear hH
     cases hq:l6E ds (hv2++S) pp kk aa with
     | false =>
      have EV:Hid (l6E ds S p kids alts=false):=by show _=_;rw[HQ.out.2.2,hq];rfl
      clear hq;go_wp2;go_ret;exact ⟨by rw[EV.out];rfl,FY.out.1⟩
     | true =>
      have EV:Hid (l6E ds S p kids alts=l6G ds S true p.k p.name p.arg 0 R'):=by show _=_;rw[HQ.out.2.2,hq];rfl
      clear hq;go_wp2;go_roundw
      case rel=>exact ⟨t+1,R',by omega,by go_num,FY.out.1,FY.out.2,⟨by omega,.inr ⟨b,o,rfl,HP.out.2.2.2.1⟩⟩,by have:=HP.out.2.2.2.2.2.1;omega,EV.out⟩
      case measure=>simp [intOf];omega
    ·
     obtain rfl:t=l5:=by omega
     obtain ⟨hg,-,⟨hRl,-⟩,-,hv⟩:=HR.out;obtain rfl:R = .nil:=GE.nil_of_len (by omega);have EV:Hid (l6E ds S p kids alts=true∧w.grownBy wr none):=⟨hv,hg⟩;clear HR hg hv hRl;go_wp2;go_ret;exact ⟨by rw[EV.out.1];rfl,EV.out.2⟩
theorem l6T (ds:List Da) (ad:Option Addr) (ld cd:Nat):∀ M,L6A ds ad ld cd M
 | 0=>by intro p kids alts a1 l1 c1 a2 l2 c2 a3 l3 c3 a4 l4 c4 a5 l5 c5 S a l c w hM;exact absurd hM (Nat.not_lt_zero _)
 | M+1=>l6T_of ds ad ld cd M (l6T ds ad ld cd M)
end Go.Proofs.YtblbnillilbacaaGreatDoor.By
