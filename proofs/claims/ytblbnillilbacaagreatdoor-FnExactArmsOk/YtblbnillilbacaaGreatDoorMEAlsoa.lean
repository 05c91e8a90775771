/-
  No statement is proved here.
-/
import Derived.Test.YtblbnillilbacaaGreatDoorKCAlsoa
namespace Go.Proofs.YtblbnillilbacaaGreatDoor.By
set_option maxRecDepth 100000
set_option maxHeartbeats 16000000
open Go.RowKit
set_option linter.unusedVariables false
set_option linter.unusedSimpArgs false
def datY (ds:List Da) (x:Da):List Int:=[40,100,97,116,97,32]++x.name++32::decB x.vars.toNat++conXs ds x.cons++[41]
theorem datY_X (ds:List Da) (x:Da):datX ds x=datY ds x++[10]:=by simp [datX,datY]
theorem frm2 {w:World} {g:Nat} {t:TypeId} {c0 c1:Value} (h:w.heap[g]? = some (.cells #[c0,c1] t (0,0))):w.cell? ⟨g,0,none⟩=some c0∧w.cell? ⟨g,1,none⟩=some c1∧w.frozen? ⟨g,0,none⟩=false∧w.frozen? ⟨g,1,none⟩=false :=
 ⟨by rw[cell_of_row w g 0 _ _ (0,0) h];rfl,by rw[cell_of_row w g 1 _ _ (0,0) h];rfl,frozen_of_row w g _ _ _ h,frozen_of_row w g _ _ _ h⟩
theorem dataT (W0:World) (q:Nat) (da:Option Addr) (dl dc:Nat) (ds:List Da) (hbas:Bas W0) (hds:SlDa W0 da dl ds) (hG:NamG ds) (x:Da) (hx:daG ds x) (a:Option Addr) (n c:Nat) (a':Option Addr) (l' c':Nat) (hR:RdB W0 a n x.name) (hC:SlCo W0 a' l' x.cons)
  (v:Value) (zs:List Int) (w:World) (hb:Below W0.heap.size W0 w) (hW:WrP W0.heap.size q (.slice da dl dc) w v zs) (hz:gapZ zs=zs) (hlen:zs.length≤500000) :
  Calls Tryz.prog 69 #[.pointer (some ⟨q,0,none⟩),.agg #[.slice a n c,.int .i64 x.vars,.slice a' l' c']] w fun e u=>PrA W0.heap.size q (.slice da dl dc) w (zs++datY ds x) e u:=by
 have g0:=gal w (.cells #[.slice a n c,.int .i64 x.vars,.slice a' l' c'] 68) none;have b0:=heap_alloc_new w (.cells #[.slice a n c,.int .i64 x.vars,.slice a' l' c'] 68)
 have hqq:w.heap.size≠q:=fun e=>by have:=lt_of_block hW.box;omega
 have hqq2:q < w.heap.size:=lt_of_block hW.box
 have HB:Hid (∀ u,FrP W0.heap.size q w u→Below W0.heap.size W0 u):=fun u hu=>hb.trans hu.below
 have f0:FrP W0.heap.size q w (w.alloc (.cells #[.slice a n c,.int .i64 x.vars,.slice a' l' c'] 68)):=FrP.grown g0 hb.size;have HX:Hid (daG ds x):=hx;have HBs:Hid (Bas W0∧SlDa W0 da dl ds∧NamG ds):=⟨hbas,hds,hG⟩
 have HR:Hid (∀ u,FrP W0.heap.size q w u→(convert 23 9 (.slice a n c)).run Tryz.prog u = .ok (.string (strOfNums x.name)) u):=fun u hu=>conv_run (hR.le (cle_belowK (HB.out u hu))).1
 have HN:Hid (ofB (strOfNums x.name).data.toList=x.name):=ofB_str hR.2.1;have HC:Hid (SlCo W0 a' l' x.cons):=hC;have HZ:Hid (gapZ zs=zs):=hz;have hvr:=hx.2.1;have hnl:=hx.1.2;have hcl:=hx.2.2.1;have hdl:(decB x.vars.toNat).length≤1:=decB_len 0 _ (by omega);obtain ⟨hl1,hl2,-⟩:=hC;have AL:Hid (WrP W0.heap.size q (.slice da dl dc) (w.alloc (.cells #[.slice a n c,.int .i64 x.vars,.slice a' l' c'] 68)) v zs∧FrP W0.heap.size q w (w.alloc (.cells #[.slice a n c,.int .i64 x.vars,.slice a' l' c'] 68))∧(w.alloc (.cells #[.slice a n c,.int .i64 x.vars,.slice a' l' c'] 68)).heap[w.heap.size]? = some (.cells #[.slice a n c,.int .i64 x.vars,.slice a' l' c'] 68 (0,0))):=⟨hW.grown g0,f0,b0⟩;clear hbas hds hG hx hR hb hW hz g0 b0 f0;go_enter Tryz.func69,Tryz.ntmps69;go_upto_region 1 with fail;generalize w.alloc (.cells #[.slice a n c,.int .i64 x.vars,.slice a' l' c'] 68)=w1 at *;obtain ⟨q1,hq1⟩:∃ q1,q1=w.heap.size:=⟨_,rfl⟩
 simp only[← hq1] at *;clear hq1;have C0:Hid _:=openT2 W0.heap.size q (.slice da dl dc) v zs w1 AL.out.1 (by omega);go_wp2_with fail;refine Calls.mono C0.out ?_;rintro e u1 ⟨rfl,v1,hW,hF⟩;have A1:Hid (WrP W0.heap.size q (.slice da dl dc) u1 v1 (zs++[40])∧FrP W0.heap.size q w u1∧u1.heap[q1]? = some (.cells #[.slice a n c,.int .i64 x.vars,.slice a' l' c'] 68 (0,0))):=⟨hW.as (by rw[HZ.out]),AL.out.2.1.trans hF,hF.cells AL.out.2.2 (by decide) hqq⟩;clear C0 hW hF AL;have C1:Hid _:=wordT W0.heap.size q (.slice da dl dc) v1 (zs++[40]) ⟨#[100,97,116,97]⟩ [100,97,116,97] u1 A1.out.1 rfl (by simp only[lA,List.length_singleton,lB,lC];omega);simp only[];go_wp2_with fail;refine Calls.mono C1.out ?_;rintro e u2 ⟨rfl,v2,hW,hF⟩;have A2:Hid (WrP W0.heap.size q (.slice da dl dc) u2 v2 (zs++[40,100,97,116,97])∧FrP W0.heap.size q w u2∧u2.heap[q1]? = some (.cells #[.slice a n c,.int .i64 x.vars,.slice a' l' c'] 68 (0,0))):=⟨hW.as (by rw[gapZ_open];simp),A1.out.2.1.trans hF,hF.cells A1.out.2.2 (by decide) hqq⟩
 clear C1 hW hF A1;obtain ⟨⟨x0,x1,x2⟩,-⟩:=three A2.out.2.2;have C2:Hid _:=wordT W0.heap.size q (.slice da dl dc) v2 (zs++[40,100,97,116,97]) (strOfNums x.name) x.name u2 A2.out.1 HN.out (by simp only[lA,lB,lC];omega);have hcv:=HR.out u2 A2.out.2.1;simp only[];go_wp2_with fail;refine Calls.mono C2.out ?_;rintro e u3 ⟨rfl,v3,hW,hF⟩;have A3:Hid (WrP W0.heap.size q (.slice da dl dc) u3 v3 (zs++([40,100,97,116,97,32]++x.name))∧FrP W0.heap.size q w u3∧u3.heap[q1]? = some (.cells #[.slice a n c,.int .i64 x.vars,.slice a' l' c'] 68 (0,0))):=⟨hW.as (by rw[gapZ_good zs (t:=[40,100,97,116,97]) rfl];simp),A2.out.2.1.trans hF,hF.cells A2.out.2.2 (by decide) hqq⟩;clear C2 hW hF A2 x0 x1 x2 hcv;obtain ⟨⟨x0,x1,x2⟩,-⟩:=three A3.out.2.2;have C3:Hid _:=itoaT x.vars (by omega) (by omega) W0 u3 HBs.out.1 (HB.out _ A3.out.2.1);simp only[];go_wp2_with fail;refine Calls.mono C3.out ?_;rintro e u4 ⟨st,rfl,hst,hg⟩
 rw[intB_pos hvr.1] at hst;have C4:Hid _:=wordT W0.heap.size q (.slice da dl dc) v3 (zs++([40,100,97,116,97,32]++x.name)) st (decB x.vars.toNat) u4 (A3.out.1.grown hg) hst (by simp only[lA,lB,lC];omega);have A4:Hid (FrP W0.heap.size q w u4∧u4.heap[q1]? = some (.cells #[.slice a n c,.int .i64 x.vars,.slice a' l' c'] 68 (0,0))):=⟨A3.out.2.1.trans (FrP.grown hg A3.out.1.size),(hg.block _ (lt_of_block A3.out.2.2) (by simp)).trans A3.out.2.2⟩;clear C3 hst hg A3 x0 x1 x2;simp only[];go_wp2_with fail;refine Calls.mono C4.out ?_;rintro e u5 ⟨rfl,v5,hW,hF⟩;have A5:Hid (WrP W0.heap.size q (.slice da dl dc) u5 v5 (zs++([40,100,97,116,97,32]++x.name++32::decB x.vars.toNat))∧FrP W0.heap.size q w u5∧u5.heap[q1]? = some (.cells #[.slice a n c,.int .i64 x.vars,.slice a' l' c'] 68 (0,0))):=⟨hW.as (by rw[gapZ_good zs (gapB_app [40,100,97,116,97,32] HX.out.1.1)];simp),A4.out.1.trans hF,hF.cells A4.out.2 (by decide) hqq⟩
 clear C4 hW hF A4;obtain ⟨⟨x0,x1,x2⟩,-⟩:=three A5.out.2.2;obtain ⟨hd,hhd⟩:∃ hd,[40,100,97,116,97,32]++x.name++32::decB x.vars.toNat=hd:=⟨_,rfl⟩;have HH:Hid (gapB hd=true∧hd++conXs ds x.cons++[41]=datY ds x):=⟨by rw[← hhd];exact gapB_app _ (gapB_cons (decB_good _)),by rw[← hhd];rfl⟩
 have hhl:hd.length≤20:=by rw[← hhd];simp only[lA,lB,lC];omega
 rw[hhd] at A5;clear hhd;simp only[];go_wp2;clear x0 x1 x2
 go_loopw [25] (fun i wr=>∃ (j:Nat) (R:List Co) (pre:List Int) (v1:Value),j≤l'∧i = .int .i64 j∧R.length+j=l'∧pre.length≤20+2000 * j∧Hid ((R=[]∨∃ b o,a' = some ⟨b,o,none⟩∧InCo W0 W0 R b (o+j * 2))∧(∀ c ∈ R,conG x.vars ds c)∧gapB pre=true∧pre++conXs ds R=hd++conXs ds x.cons)∧Hid (WrP W0.heap.size q (.slice da dl dc) wr v1 (zs++pre)∧FrP W0.heap.size q w wr)) (fun i _=>l' - (intOf i).toNat)
 case atStart =>
  refine ⟨0,x.cons,hd,v5,Nat.zero_le _,rfl,by omega,by omega,⟨?_,HX.out.2.2.2,HH.out.1,rfl⟩,A5.out.1,A5.out.2.1⟩;rcases HC.out.cases with ⟨-,e⟩|⟨b,o,e,hin,-⟩
  ·
   exact .inl e
  ·
   exact .inr ⟨b,o,e,by simpa using hin⟩
 case round =>
  clear A5;obtain ⟨j,R,pre,v6,hj,rfl,hRl,hpl,HRR,AL⟩:=hrel;by_cases hlt:j < l'
  ·
   have hlt':(j:Int) < l':=by omega
   obtain ⟨y,R',rfl⟩:∃ y R',R=y::R':=by
    cases R with
    | nil=>simp at hRl;omega
    | cons y R'=>exact ⟨y,R',rfl⟩
   obtain ⟨hin,hcg,hgp,hP⟩:=HRR.out;rcases hin with e|⟨b,o,ea,hin⟩
   ·
    cases e
   obtain ⟨⟨a1,n1,c1,a2,l2,c2,z0,z1,hRn,hFl⟩,hin2⟩:=hin;rw[show o+j * 2+2=o+(j+1) * 2 by omega] at hin2;have hy:=hcg y (List.mem_cons_self ..);have cl:=cle_belowK (HB.out _ AL.out.2);have k0:=cl _ _ z0;have k1:=cl _ _ z1;have ga:=gal wr (.cells #[.slice a1 n1 c1,.slice a2 l2 c2] 73) none;have ba:=heap_alloc_new wr (.cells #[.slice a1 n1 c1,.slice a2 l2 c2] 73)
   have hq3:wr.heap.size≠q:=fun e=>by have:=lt_of_block AL.out.1.box;omega
   have B0:Hid (WrP W0.heap.size q (.slice da dl dc) (wr.alloc (.cells #[.slice a1 n1 c1,.slice a2 l2 c2] 73)) v6 (zs++pre)∧FrP W0.heap.size q w (wr.alloc (.cells #[.slice a1 n1 c1,.slice a2 l2 c2] 73))∧(wr.alloc (.cells #[.slice a1 n1 c1,.slice a2 l2 c2] 73)).heap[wr.heap.size]? = some (.cells #[.slice a1 n1 c1,.slice a2 l2 c2] 73 (0,0))):=⟨AL.out.1.grown ga,AL.out.2.trans (FrP.grown ga AL.out.1.size),ba⟩;have C0:Hid _:=openT2 W0.heap.size q (.slice da dl dc) v6 (zs++pre) _ B0.out.1 (by simp only[lA];omega);have FX:Hid ((R' = []∨∃ b o,a' = some ⟨b,o,none⟩∧InCo W0 W0 R' b (o+(j+1) * 2))∧(∀ c ∈ R',conG x.vars ds c)∧gapB (pre++conX ds y)=true∧(pre++conX ds y)++conXs ds R' = hd++conXs ds x.cons):=⟨.inr ⟨b,o,ea,hin2⟩,fun c hc=>hcg c (List.mem_cons_of_mem _ hc),gapB_app pre (conX_good ds y),by rw[← hP];simp [conXs]⟩;have hxl:=conX_len HBs.out.2.2 hy
   have hpl':(pre++conX ds y).length≤20+2000 * (j+1):=by rw[lA];omega
   have HY:Hid (conG x.vars ds y∧SlF W0 a2 l2 y.flds∧ofB (strOfNums y.name).data.toList=y.name∧gapB pre=true):=⟨hy,hFl,ofB_str hRn.2.1,hgp⟩
   have HR1:Hid (∀ u,FrP W0.heap.size q w u→(convert 23 9 (.slice a1 n1 c1)).run Tryz.prog u = .ok (.string (strOfNums y.name)) u):=fun u hu=>conv_run (hRn.le (cle_belowK (HB.out u hu))).1
   have hynl:=hy.1.2;have hyfl:=hy.2.1;have hfl2:=hFl.1;have hll2:=hFl.2.1;obtain ⟨r0,r1,rf0,rf1⟩:=frm2 ba;clear HRR hcg hgp hP hin2 z0 z1 hRn hFl cl ga ba AL hy hxl;subst ea;go_upto_region 8 with fail;clear k0 k1 r0 r1 rf0 rf1;generalize wr.alloc (.cells #[.slice a1 n1 c1,.slice a2 l2 c2] 73)=w2 at *;obtain ⟨q2,hq2⟩:∃ q2,q2=wr.heap.size:=⟨_,rfl⟩;simp only[← hq2] at *;clear hq2;go_wp2_with fail;refine Calls.mono C0.out ?_;rintro e u6 ⟨rfl,v7,hW,hF⟩;have B1:Hid (WrP W0.heap.size q (.slice da dl dc) u6 v7 (zs++(pre++[32])++[40])∧FrP W0.heap.size q w u6∧u6.heap[q2]? = some (.cells #[.slice a1 n1 c1,.slice a2 l2 c2] 73 (0,0))):=⟨hW.as (by rw[gapZ_good zs HY.out.2.2.2];simp),B0.out.2.1.trans hF,hF.cells B0.out.2.2 (by decide) hq3⟩;clear C0 hW hF B0;obtain ⟨r0,r1,-,-⟩:=frm2 B1.out.2.2;have C1:Hid _:=wordT W0.heap.size q (.slice da dl dc) v7 (zs++(pre++[32])++[40]) (strOfNums y.name) y.name u6 B1.out.1 HY.out.2.2.1 (by simp only[lA,lB,lC];omega)
   have hcv:=HR1.out u6 B1.out.2.1;simp only[];go_wp2_with fail;refine Calls.mono C1.out ?_;rintro e u7 ⟨rfl,v8,hW,hF⟩;have B2:Hid (WrP W0.heap.size q (.slice da dl dc) u7 v8 (zs++(pre++[32,40])++y.name)∧FrP W0.heap.size q w u7∧u7.heap[q2]? = some (.cells #[.slice a1 n1 c1,.slice a2 l2 c2] 73 (0,0))):=⟨hW.as (by rw[gapZ_open];simp),B1.out.2.1.trans hF,hF.cells B1.out.2.2 (by decide) hq3⟩;clear C1 hW hF B1 hcv r0 r1;obtain ⟨r0,r1,-,-⟩:=frm2 B2.out.2.2;simp only[];go_wp2;clear r0 r1
   go_loopw [39] (fun i wr=>∃ (j2:Nat) (R2:F) (pr2:List Int) (v9:Value),j2≤l2∧i = .int .i64 j2∧R2.len+j2=l2∧pr2.length≤8+700 * j2∧Hid ((R2 = .nil∨∃ b o,a2=some ⟨b,o,none⟩∧InF W0 R2 b (o+j2 * 3))∧fldG x.vars ds R2∧gapB pr2=true∧pr2++tyXF ds R2=y.name++tyXF ds y.flds)∧Hid (WrP W0.heap.size q (.slice da dl dc) wr v9 (zs++(pre++[32,40])++pr2)∧FrP W0.heap.size q w wr)) (fun i _=>l2 - (intOf i).toNat)
   case atStart =>
    refine ⟨0,y.flds,y.name,v8,Nat.zero_le _,rfl,by omega,by omega,⟨?_,HY.out.1.2.2,HY.out.1.1.1,rfl⟩,B2.out.1,B2.out.2.1⟩;rcases HY.out.2.1.cases with ⟨-,e⟩|⟨b,o,e,hin,-,-⟩
    ·
     exact .inl e
    ·
     exact .inr ⟨b,o,e,by simpa using hin⟩
   case round =>
    clear B2;obtain ⟨j2,R2,pr2,v9,hj2,rfl,hRl2,hpl2,HR2,AL2⟩:=hrel;by_cases hlt2:j2 < l2
    ·
     have hlt2':(j2:Int) < l2:=by omega
     obtain ⟨q5,hq5⟩:∃ q5,R2.len=q5+1:=⟨R2.len - 1,by omega⟩;obtain ⟨kk,nn,d',R3,rfl,hR3⟩:=F.cons_of_len hq5;obtain ⟨hin,hfg,hgp,hP⟩:=HR2.out;rcases hin with e|⟨b2,o2,ea,hin⟩
     ·
      cases e
     obtain ⟨a4,l4,c4,z0,z1,z2,hd2,hin2⟩:=hin.out;rw[show o2+j2 * 3+3=o2+(j2+1) * 3 by omega] at hin2;obtain ⟨⟨f1,f2,f3,f4⟩,f5⟩:=fldG_cons hfg;obtain ⟨y0,y1,y2⟩:=tri_below (W0:=W0) ⟨z0,z1,z2⟩ (HB.out _ AL2.out.2);have ga:=gal wr (.cells #[.int .i64 kk,.int .i64 nn,.slice a4 l4 c4] 79) none;have ba:=heap_alloc_new wr (.cells #[.int .i64 kk,.int .i64 nn,.slice a4 l4 c4] 79);have fa:=AL2.out.2.trans (FrP.grown ga AL2.out.1.size);have CC:Hid _:=tyT W0 q da dl dc ds x.vars HBs.out.1 HBs.out.2.1 HBs.out.2.2 (d'.size+1) d' kk nn a4 l4 c4 v9 (zs++(pre++[32,40])++pr2) _ 9 (by omega) hd2 (HB.out _ fa) (AL2.out.1.grown ga) f1 f2 f4 (by simp only[lA,lB,lC];omega);have hsl:=tyX_len HBs.out.2.2 f1 f2 f4;have hgd:=tyX_good HBs.out.2.2 f1 f4;have FX2:Hid ((R3 = .nil∨∃ b o,a2=some ⟨b,o,none⟩∧InF W0 R3 b (o+(j2+1) * 3))∧fldG x.vars ds R3∧gapB (pr2++32::tyX ds kk nn d')=true∧(pr2++32::tyX ds kk nn d')++tyXF ds R3=y.name++tyXF ds y.flds):=⟨.inr ⟨b2,o2,ea,hin2⟩,f5,gapB_app pr2 (gapB_cons hgd),by rw[← hP,tyXF_cons];simp⟩
     have FY:Hid (gapZ (zs++(pre++[32,40])++pr2)++tyX ds kk nn d' = zs++(pre++[32,40])++(pr2++32::tyX ds kk nn d')):=by show _=_;rw[gapZ_good _ hgp];simp
     have hpl3:(pr2++32::tyX ds kk nn d').length≤8+700 * (j2+1):=by simp only[lA,lB];omega
     have FA:Hid (FrP W0.heap.size q w _):=fa;obtain ⟨⟨r0,r1,r2⟩,rf,-,-⟩:=three ba;clear HR2 hin hin2 hfg hgp hP hd2 f1 f2 f3 f4 f5 z0 z1 z2 ga ba fa AL2 hsl hgd;subst ea;go_wp2_with fail;refine Calls.mono CC.out ?_;rintro e u8 ⟨rfl,v10,hW4,hF4⟩;have AN:Hid (WrP W0.heap.size q (.slice da dl dc) u8 v10 (zs++(pre++[32,40])++(pr2++32::tyX ds kk nn d'))∧FrP W0.heap.size q w u8):=⟨hW4.as FY.out,FA.out.trans hF4⟩;clear CC hW4 hF4 FA FY y0 y1 y2 r0 r1 r2 rf;simp only[];go_wp2;go_roundw
     case rel=>exact ⟨j2+1,R3,pr2++32::tyX ds kk nn d',v10,by omega,by go_num,by omega,hpl3,FX2,AN⟩
     case measure=>simp [intOf];omega
    ·
     obtain rfl:j2=l2:=by omega
     obtain rfl:R2 = .nil:=F.nil_of_len (by omega);obtain ⟨-,-,-,hP⟩:=HR2.out;simp only[tyXF,List.append_nil] at hP;have C9:Hid _:=closeT W0.heap.size q (.slice da dl dc) v9 (zs++(pre++[32,40])++pr2) wr AL2.out.1 (by simp only[lA,lB,lC];omega)
     have EF:Hid (zs++(pre++[32,40])++pr2++[41]=zs++(pre++conX ds y)):=by show _=_;rw[hP];simp [conX]
     clear HR2 hP;go_wp2_with fail;refine Calls.mono C9.out ?_;rintro e u9 ⟨rfl,v11,hW5,hF5⟩;have AN:Hid (WrP W0.heap.size q (.slice da dl dc) u9 v11 (zs++(pre++conX ds y))∧FrP W0.heap.size q w u9):=⟨hW5.as EF.out,AL2.out.2.trans hF5⟩;clear C9 hW5 hF5 AL2 EF;simp only[];go_wp2;go_roundw
     case rel=>exact ⟨j+1,R',pre++conX ds y,v11,by omega,by go_num,by simp only[lB] at hRl;omega,hpl',FX,AN⟩
     case measure=>simp [intOf];omega
  ·
   obtain rfl:j=l':=by omega
   obtain rfl:R=[]:=List.eq_nil_of_length_eq_zero (by omega);obtain ⟨-,-,-,hP⟩:=HRR.out;simp only[conXs,List.append_nil] at hP;have C9:Hid _:=closeT W0.heap.size q (.slice da dl dc) v6 (zs++pre) wr AL.out.1 (by simp only[lA];omega)
   have EF:Hid (zs++pre++[41]=zs++datY ds x):=by show _=_;rw[← HH.out.2,hP];simp
   clear HRR hP;go_wp2_with fail;refine Calls.mono C9.out ?_;rintro e u9 ⟨rfl,v11,hW5,hF5⟩;have FF:Hid (WrP W0.heap.size q (.slice da dl dc) u9 v11 (zs++datY ds x)∧FrP W0.heap.size q w u9):=⟨hW5.as EF.out,AL.out.2.trans hF5⟩;clear C9 hW5 hF5 AL EF;simp only[];go_wp2
   (try simp only[Exit.inBlock,Exit.then])
   refine bodyPost_end (results_noneK (P:=Tryz.prog) Tryz.results69 _ _) rfl ?_;exact ⟨rfl,v11,FF.out⟩
theorem FrP.iterAt {B q:Nat} {w u:World} (h:FrP B q w u) {k:Nat} (hk:w.heap.size≤k) (hB:B≤k) (s:ByteArray) (p:Nat):FrP B q w (u.iterAt k s p) :=
 ⟨Lib.below_iterAt h.below hB s p,fun i o hi ho hq=>by
  have hlt:=lt_of_block hi;rw[Lib.iterAt_other u k i s p (by omega)]
  exact h.other i o hi ho hq⟩
theorem WrP.iterAt {B q:Nat} {dv:Value} {u:World} {v:Value} {zs:List Int} (h:WrP B q dv u v zs) {k:Nat} {s:ByteArray} {p0:Nat} (hk:u.heap[k]? = some (.stringIter s p0)) (p:Nat):WrP B q dv (u.iterAt k s p) v zs:=by
 have hqk:q≠k:=by
  rintro rfl;have:=h.box;rw[hk] at this
  cases this
 refine ⟨(Lib.iterAt_other u k q s p hqk).trans h.box,?_,h.bq,by rw[Lib.iterAt_size];exact h.size⟩;obtain ⟨h1,h2⟩:=h.own;refine ⟨h1,?_⟩;rcases h2 with h2|⟨g,cap,cur,e,hB,hg,r⟩
 ·
  exact .inl h2
 ·
  have hgk:g≠k:=by
   rintro rfl;rw[hk] at hg
   cases hg
  exact .inr ⟨g,cap,cur,e,hB,(Lib.iterAt_other u k g s p hgk).trans hg,r⟩
theorem okG_one {hc:List Int} {hv:List (List Int)} {p:PE} {k a r:GE} {d:Nat} (h:okG (.cons hc hv p k a r) d=true):okE p k a d=true∧okG r d=true:=by
 simp only[okG,Bool.and_eq_true] at h;simp only[okE,Bool.and_eq_true];exact h
theorem InGE.nthK {w wp:World}:∀ {g:GE} {b off i d:Nat},InGE w wp false g b off→i < g.len→okG g d=true→∃ (pp:PE) (kk aa:GE) (b1:Option Addr) (m1 n1:Nat) (b2:Option Addr) (m2 n2:Nat) (b3:Option Addr) (m3 n3:Nat) (b4:Option Addr) (m4 n4:Nat) (b5:Option Addr) (m5 n5:Nat),CelE w b (off+i * 7) (.int .i64 pp.k) (.int .i64 pp.n) (.slice b1 m1 n1) (.slice b2 m2 n2) (.slice b3 m3 n3) (.slice b4 m4 n4) (.slice b5 m5 n5)∧NdE wp pp kk aa b1 m1 n1 b2 m2 n2 b3 m3 n3 b4 m4 n4 b5 m5 n5∧(exL false g).getD i []=exX pp kk aa∧1+kk.cnt+aa.cnt≤g.cnt∧okE pp kk aa d=true
 | .nil,b,off,i,d,_,hi,_=>by simp [GE.len] at hi
 | .cons hc hv p k a r,b,off,0,d,h,_,ho=>by
  obtain ⟨-,b1,m1,n1,b2,m2,n2,b3,m3,n3,b4,m4,n4,b5,m5,n5,hc2,hnd,hr⟩:=h.kid;exact ⟨p,k,a,b1,m1,n1,b2,m2,n2,b3,m3,n3,b4,m4,n4,b5,m5,n5,by simpa using hc2,hnd,rfl,by simp only[GE.cnt];omega,(okG_one ho).1⟩
 | .cons hc hv p k a r,b,off,i+1,d,h,hi,ho=>by
  obtain ⟨-,_,_,_,_,_,_,_,_,_,_,_,_,_,_,_,-,-,hr⟩:=h.kid;obtain ⟨pp,kk,aa,b1,m1,n1,b2,m2,n2,b3,m3,n3,b4,m4,n4,b5,m5,n5,h1,h2,h3,h4,h5⟩:=hr.nthK (i:=i) (by simpa [GE.len] using hi) (okG_one ho).2;refine ⟨pp,kk,aa,b1,m1,n1,b2,m2,n2,b3,m3,n3,b4,m4,n4,b5,m5,n5,by rw[show off+(i+1) * 7=off+7+i * 7 by omega];exact h1,h2,?_,by simp only[GE.cnt];omega,h5⟩;rw[← h3];rfl
def ExC (W0:World) (q:Nat) (dv:Value) (m:Nat):Prop:=∀ (p:PE) (kids alts:GE) (a1:Option Addr) (l1 c1:Nat) (a2:Option Addr) (l2 c2:Nat) (a3:Option Addr) (l3 c3:Nat) (a4:Option Addr) (l4 c4:Nat) (a5:Option Addr) (l5 c5:Nat) (v:Value) (zs:List Int) (w:World) (d:Nat),kids.cnt+alts.cnt < m→NdE W0 p kids alts a1 l1 c1 a2 l2 c2 a3 l3 c3 a4 l4 c4 a5 l5 c5→okE p kids alts d=true→Below W0.heap.size W0 w→WrP W0.heap.size q dv w v zs→zs.length+(exX p kids alts).length+1≤900000 →
  Calls Tryz.prog 71 #[.pointer (some ⟨q,0,none⟩),.agg #[.int .i64 p.k,.int .i64 p.n,.slice a1 l1 c1,.slice a2 l2 c2,.slice a3 l3 c3,.slice a4 l4 c4,.slice a5 l5 c5]] w fun e u=>PrA W0.heap.size q dv w (gapZ zs++exX p kids alts) e u
theorem armWordT (hc:List Int) (e0:Option Addr) (q0 d0:Nat) (v1 v2 v3 v4 v5 v6 v7 v8:Value) (w:World) (h:RdB w e0 q0 hc) :
  Calls Tryz.prog 157 #[.agg #[.slice e0 q0 d0,v1,v2,v3,v4,v5,v6,v7,v8]] w fun e u=>∃ st,e = .returned (.string st)∧ofB st.data.toList=(if hc.length=0 then [95] else hc)∧w.grownBy u none:=by
 have g0:=gal w (.cells #[.slice e0 q0 d0,v1,v2,v3,v4,v5,v6,v7,v8] 87) none;have b0:=heap_alloc_new w (.cells #[.slice e0 q0 d0,v1,v2,v3,v4,v5,v6,v7,v8] 87);have hcv:(convert 23 9 (.slice e0 q0 d0)).run Tryz.prog (w.alloc (.cells #[.slice e0 q0 d0,v1,v2,v3,v4,v5,v6,v7,v8] 87)) = .ok (.string (strOfNums hc)) (w.alloc (.cells #[.slice e0 q0 d0,v1,v2,v3,v4,v5,v6,v7,v8] 87)):=conv_run (h.none g0).1;have HG:Hid _:=g0;have hl:=h.1.1;have HN:Hid (ofB (strOfNums hc).data.toList=hc):=ofB_str h.2.1;obtain ⟨⟨y0,y1,y2,y3,y4,y5,y6,y7,y8⟩,-⟩:=blkEA b0;clear g0 b0 h;generalize strOfNums hc=st at *;by_cases h0:q0=0
 ·
  have E:Hid ((if hc.length=0 then [95] else hc)=[95]):=by show _=_;rw[if_pos (by omega)]
  subst h0;go_enter Tryz.func157,Tryz.ntmps157;go_wp2;go_ret;exact ⟨_,rfl,by first|rfl | (rw[E.out];rfl),HG.out⟩
 ·
  have E:Hid ((if hc.length=0 then [95] else hc)=hc):=by show _=_;rw[if_neg (by omega)]
  have h0':¬ (q0:Int)=0:=by omega
  have h0b:((q0:Int) == 0)=false:=by simpa using h0
  go_enter Tryz.func157,Tryz.ntmps157;go_wp2;go_ret;exact ⟨st,rfl,by first|exact HN.out | (rw[E.out];exact HN.out),HG.out⟩
theorem armPT (W0:World) (q:Nat) (dv:Value) (m:Nat) (IH0:ExC W0 q dv m) (hc:List Int) (hv:List (List Int)) (p:PE) (kids alts:GE) (e0:Option Addr) (q0 d0:Nat) (e1:Option Addr) (q1 d1:Nat) (a1:Option Addr) (l1 c1:Nat) (a2:Option Addr) (l2 c2:Nat) (a3:Option Addr) (l3 c3:Nat) (a4:Option Addr) (l4 c4:Nat) (a5:Option Addr) (l5 c5:Nat) (v:Value) (zs:List Int) (w:World) (d:Nat) (hm:kids.cnt+alts.cnt < m) (h0:RdB W0 e0 q0 hc) (h1:SlSC W0 e1 q1 d1 hv) (h:NdE W0 p kids alts a1 l1 c1 a2 l2 c2 a3 l3 c3 a4 l4 c4 a5 l5 c5) (ha:ArF hc hv) (ho:okE p kids alts d=true) (hb:Below W0.heap.size W0 w) (hW:WrP W0.heap.size q dv w v zs) (hlen:zs.length+(armX hc hv (exX p kids alts)).length+1≤900000) :
  Calls Tryz.prog 143 #[.pointer (some ⟨q,0,none⟩),.agg #[.slice e0 q0 d0,.slice e1 q1 d1,.int .i64 p.k,.int .i64 p.n,.slice a1 l1 c1,.slice a2 l2 c2,.slice a3 l3 c3,.slice a4 l4 c4,.slice a5 l5 c5]] w fun e u=>PrA W0.heap.size q dv w (gapZ zs++armX hc hv (exX p kids alts)) e u:=by
 have g0:=gal w (.cells #[.slice e0 q0 d0,.slice e1 q1 d1,.int .i64 p.k,.int .i64 p.n,.slice a1 l1 c1,.slice a2 l2 c2,.slice a3 l3 c3,.slice a4 l4 c4,.slice a5 l5 c5] 87) none;have b0:=heap_alloc_new w (.cells #[.slice e0 q0 d0,.slice e1 q1 d1,.int .i64 p.k,.int .i64 p.n,.slice a1 l1 c1,.slice a2 l2 c2,.slice a3 l3 c3,.slice a4 l4 c4,.slice a5 l5 c5] 87)
 have hqq:w.heap.size≠q:=fun e=>by have:=lt_of_block hW.box;omega
 have HB:Hid (∀ u,FrP W0.heap.size q w u→Below W0.heap.size W0 u):=fun u hu=>hb.trans hu.below
 have f0:FrP W0.heap.size q w (w.alloc (.cells #[.slice e0 q0 d0,.slice e1 q1 d1,.int .i64 p.k,.int .i64 p.n,.slice a1 l1 c1,.slice a2 l2 c2,.slice a3 l3 c3,.slice a4 l4 c4,.slice a5 l5 c5] 87)):=FrP.grown g0 hb.size;have HA:Hid (ArF hc hv∧okE p kids alts d=true∧NdE W0 p kids alts a1 l1 c1 a2 l2 c2 a3 l3 c3 a4 l4 c4 a5 l5 c5∧SlSS W0 e1 q1 hv):=⟨ha,ho,h,h1.1⟩
 have HR:Hid (∀ u,FrP W0.heap.size q w u→RdB u e0 q0 hc):=fun u hu=>h0.le (cle_belowK (HB.out u hu))
 have IH:Hid _:=IH0;have hgl:=gapZ_len zs;have hcs:=ha.short;have hfew:=ha.few;have hs1:=h1.1.1;have hs2:=h1.1.2.1
 have hwg:gapB (if hc.length=0 then [95] else hc)=true∧(if hc.length=0 then [95] else hc).length≤8:=by
  split
  ·
   exact ⟨rfl,by simp⟩
  ·
   exact ⟨ha.word (by assumption),ha.short⟩
 obtain ⟨aw,haw⟩:∃ aw,(if hc.length=0 then [95] else hc)=aw:=⟨_,rfl⟩;rw[haw] at hwg;have EX:Hid (armX hc hv (exX p kids alts)=[40]++aw++blz hv++[32]++exX p kids alts++[41]∧(if hc.length=0 then [95] else hc)=aw∧gapB aw=true):=⟨by rw[← haw];rfl,haw,hwg.1⟩;have hawl:=hwg.2;rw[EX.out.1] at hlen;simp only[lA,List.length_singleton] at hlen;have AL:Hid (WrP W0.heap.size q dv (w.alloc (.cells #[.slice e0 q0 d0,.slice e1 q1 d1,.int .i64 p.k,.int .i64 p.n,.slice a1 l1 c1,.slice a2 l2 c2,.slice a3 l3 c3,.slice a4 l4 c4,.slice a5 l5 c5] 87)) v zs∧FrP W0.heap.size q w (w.alloc (.cells #[.slice e0 q0 d0,.slice e1 q1 d1,.int .i64 p.k,.int .i64 p.n,.slice a1 l1 c1,.slice a2 l2 c2,.slice a3 l3 c3,.slice a4 l4 c4,.slice a5 l5 c5] 87))∧(w.alloc (.cells #[.slice e0 q0 d0,.slice e1 q1 d1,.int .i64 p.k,.int .i64 p.n,.slice a1 l1 c1,.slice a2 l2 c2,.slice a3 l3 c3,.slice a4 l4 c4,.slice a5 l5 c5] 87)).heap[w.heap.size]? = some (.cells #[.slice e0 q0 d0,.slice e1 q1 d1,.int .i64 p.k,.int .i64 p.n,.slice a1 l1 c1,.slice a2 l2 c2,.slice a3 l3 c3,.slice a4 l4 c4,.slice a5 l5 c5] 87 (0,0))):=⟨hW.grown g0,f0,b0⟩
 clear h0 h1 h ha ho hb hW g0 b0 f0 IH0 haw hwg;go_enter Tryz.func143,Tryz.ntmps143;go_upto_region 1 with fail;generalize w.alloc (.cells #[.slice e0 q0 d0,.slice e1 q1 d1,.int .i64 p.k,.int .i64 p.n,.slice a1 l1 c1,.slice a2 l2 c2,.slice a3 l3 c3,.slice a4 l4 c4,.slice a5 l5 c5] 87)=w1 at *;obtain ⟨qa,hqa⟩:∃ qa,qa=w.heap.size:=⟨_,rfl⟩;simp only[← hqa] at *;clear hqa;have C0:Hid _:=openT2 W0.heap.size q dv v zs w1 AL.out.1 (by omega);go_wp2_with fail;refine Calls.mono C0.out ?_;rintro e u1 ⟨rfl,v1,hW,hF⟩;have A1:Hid (WrP W0.heap.size q dv u1 v1 (gapZ zs++[40])∧FrP W0.heap.size q w u1∧u1.heap[qa]? = some (.cells #[.slice e0 q0 d0,.slice e1 q1 d1,.int .i64 p.k,.int .i64 p.n,.slice a1 l1 c1,.slice a2 l2 c2,.slice a3 l3 c3,.slice a4 l4 c4,.slice a5 l5 c5] 87 (0,0))):=⟨hW,AL.out.2.1.trans hF,hF.cells AL.out.2.2 (by decide) hqq⟩;clear C0 hW hF AL;obtain ⟨⟨y0,y1,y2,y3,y4,y5,y6,y7,y8⟩,-⟩:=blkEA A1.out.2.2
 have C1:Hid _:=armWordT hc e0 q0 d0 (.slice e1 q1 d1) (.int .i64 p.k) (.int .i64 p.n) (.slice a1 l1 c1) (.slice a2 l2 c2) (.slice a3 l3 c3) (.slice a4 l4 c4) (.slice a5 l5 c5) u1 (HR.out _ A1.out.2.1);simp only[];go_wp2_with fail;refine Calls.mono C1.out ?_;rintro e u2 ⟨st,rfl,hst,hg⟩;rw[EX.out.2.1] at hst;have C2:Hid _:=wordT W0.heap.size q dv v1 (gapZ zs++[40]) st aw u2 (A1.out.1.grown hg) hst (by simp only[lA,List.length_singleton];omega);have A2:Hid (FrP W0.heap.size q w u2∧u2.heap[qa]? = some (.cells #[.slice e0 q0 d0,.slice e1 q1 d1,.int .i64 p.k,.int .i64 p.n,.slice a1 l1 c1,.slice a2 l2 c2,.slice a3 l3 c3,.slice a4 l4 c4,.slice a5 l5 c5] 87 (0,0))):=⟨A1.out.2.1.trans (FrP.grown hg A1.out.1.size),(hg.block _ (lt_of_block A1.out.2.2) (by simp)).trans A1.out.2.2⟩;clear C1 hst hg A1 y0 y1 y2 y3 y4 y5 y6 y7 y8;simp only[];go_wp2_with fail;refine Calls.mono C2.out ?_;rintro e u3 ⟨rfl,v3,hW,hF⟩
 have A3:Hid (WrP W0.heap.size q dv u3 v3 (gapZ zs++[40]++aw)∧FrP W0.heap.size q w u3∧u3.heap[qa]? = some (.cells #[.slice e0 q0 d0,.slice e1 q1 d1,.int .i64 p.k,.int .i64 p.n,.slice a1 l1 c1,.slice a2 l2 c2,.slice a3 l3 c3,.slice a4 l4 c4,.slice a5 l5 c5] 87 (0,0))):=⟨hW.as (by rw[gapZ_open]),A2.out.1.trans hF,hF.cells A2.out.2 (by decide) hqq⟩;clear C2 hW hF A2;obtain ⟨⟨y0,y1,y2,y3,y4,y5,y6,y7,y8⟩,-⟩:=blkEA A3.out.2.2;simp only[];go_wp2;clear y0 y1 y2 y3 y4 y5 y6 y7 y8
 go_loopw [15] (fun i wr=>∃ (j:Nat) (R:List (List Int)) (pre:List Int) (v4:Value),j≤q1∧i = .int .i64 j∧R.length+j=q1∧pre.length≤8+9 * j∧Hid ((R=[]∨∃ b o,e1=some ⟨b,o,none⟩∧InSS W0 W0 R b (o+j))∧(∀ x ∈ R,gapB x=true∧x.length≤8)∧gapB pre=true∧pre++blz R=aw++blz hv)∧Hid (WrP W0.heap.size q dv wr v4 (gapZ zs++[40]++pre)∧FrP W0.heap.size q w wr∧wr.heap[qa]? = some (.cells #[.slice e0 q0 d0,.slice e1 q1 d1,.int .i64 p.k,.int .i64 p.n,.slice a1 l1 c1,.slice a2 l2 c2,.slice a3 l3 c3,.slice a4 l4 c4,.slice a5 l5 c5] 87 (0,0)))) (fun i _=>q1 - (intOf i).toNat)
 case atStart =>
  refine ⟨0,hv,aw,v3,Nat.zero_le _,rfl,by omega,by omega,⟨?_,fun x hx=>⟨HA.out.1.names x hx,HA.out.1.nlen x hx⟩,EX.out.2.2,rfl⟩,A3.out⟩;rcases HA.out.2.2.2.cases with ⟨-,e⟩|⟨b,o,e,hin,-⟩
  ·
   exact .inl e
  ·
   exact .inr ⟨b,o,e,by simpa using hin⟩
 case round =>
  clear A3;obtain ⟨j,R,pre,v4,hj,rfl,hRl,hpl,HRR,AL⟩:=hrel;by_cases hlt:j < q1
  ·
   have hlt':(j:Int) < q1:=by omega
   obtain ⟨y,R',rfl⟩:∃ y R',R=y::R':=by
    cases R with
    | nil=>simp at hRl;omega
    | cons y R'=>exact ⟨y,R',rfl⟩
   obtain ⟨hin,hng,hgp,hP⟩:=HRR.out;rcases hin with e|⟨b,o,ea,hin⟩
   ·
    cases e
   obtain ⟨⟨a9,n9,c9,z0,hRn⟩,hin2⟩:=hin;rw[show o+j+1=o+(j+1) by omega] at hin2;have hy:=hng y (List.mem_cons_self ..);have cl:=cle_belowK (HB.out _ AL.out.2.1);have k0:=cl _ _ z0;have hcv:(convert 23 9 (.slice a9 n9 c9)).run Tryz.prog wr = .ok (.string (strOfNums y)) wr:=conv_run (hRn.le cl).1;have C3:Hid _:=wordT W0.heap.size q dv v4 (gapZ zs++[40]++pre) (strOfNums y) y wr AL.out.1 (ofB_str hRn.2.1) (by simp only[lA,List.length_singleton];omega);have FX:Hid ((R' = []∨∃ b o,e1=some ⟨b,o,none⟩∧InSS W0 W0 R' b (o+(j+1)))∧(∀ x ∈ R',gapB x=true∧x.length≤8)∧gapB (pre++32::y)=true∧(pre++32::y)++blz R' = aw++blz hv):=⟨.inr ⟨b,o,ea,hin2⟩,fun x hx=>hng x (List.mem_cons_of_mem _ hx),gapB_app pre (gapB_cons hy.1),by rw[← hP];simp [blz]⟩
   have FY:Hid (gapZ (gapZ zs++[40]++pre)++y=gapZ zs++[40]++(pre++32::y)):=by show _=_;rw[gapZ_good _ hgp];simp
   have hpl':(pre++32::y).length≤8+9 * (j+1):=by have:=hy.2;simp only[lA,lB];omega
   clear HRR hng hgp hP hin2 z0 hRn cl hy;subst ea;go_wp2_with fail;refine Calls.mono C3.out ?_;rintro e u4 ⟨rfl,v5,hW,hF⟩;have AN9:Hid (WrP W0.heap.size q dv u4 v5 (gapZ zs++[40]++(pre++32::y))∧FrP W0.heap.size q w u4∧u4.heap[qa]? = some (.cells #[.slice e0 q0 d0,.slice (some ⟨b,o,none⟩) q1 d1,.int .i64 p.k,.int .i64 p.n,.slice a1 l1 c1,.slice a2 l2 c2,.slice a3 l3 c3,.slice a4 l4 c4,.slice a5 l5 c5] 87 (0,0))):=⟨hW.as FY.out,AL.out.2.1.trans hF,hF.cells AL.out.2.2 (by decide) hqq⟩;clear C3 hW hF AL FY k0 hcv;simp only[];go_wp2;go_roundw
   case rel=>exact ⟨j+1,R',pre++32::y,v5,by omega,by go_num,by simp only[lB] at hRl;omega,hpl',FX,AN9⟩
   case measure=>simp [intOf];omega
  ·
   obtain rfl:j=q1:=by omega
   obtain rfl:R=[]:=List.eq_nil_of_length_eq_zero (by omega);obtain ⟨-,-,hgp,hP⟩:=HRR.out;simp only[blz,List.append_nil] at hP;obtain ⟨⟨y0,y1,y2,y3,y4,y5,y6,y7,y8⟩,-⟩:=blkEA AL.out.2.2
   have hPl:pre.length=aw.length+(blz hv).length:=by rw[hP,lA]
   have C4:Hid _:=IH.out p kids alts a1 l1 c1 a2 l2 c2 a3 l3 c3 a4 l4 c4 a5 l5 c5 v4 (gapZ zs++[40]++pre) wr d hm HA.out.2.2.1 HA.out.2.1 (HB.out _ AL.out.2.1) AL.out.1 (by simp only[lA,List.length_singleton];omega)
   have E1:Hid (gapZ (gapZ zs++[40]++pre)++exX p kids alts=gapZ zs++[40]++pre++[32]++exX p kids alts):=by show _=_;rw[gapZ_good _ hgp]
   have E2:Hid (gapZ zs++[40]++pre++[32]++exX p kids alts++[41]=gapZ zs++armX hc hv (exX p kids alts)):=by show _=_;rw[EX.out.1,hP];simp
   clear HRR hgp hP;go_wp2_with fail;refine Calls.mono C4.out ?_;rintro e u5 ⟨rfl,v6,hW,hF⟩;have A5:Hid (WrP W0.heap.size q dv u5 v6 (gapZ zs++[40]++pre++[32]++exX p kids alts)∧FrP W0.heap.size q w u5):=⟨hW.as E1.out,AL.out.2.1.trans hF⟩;clear C4 hW hF AL E1 y0 y1 y2 y3 y4 y5 y6 y7 y8;have C5:Hid _:=closeT W0.heap.size q dv v6 (gapZ zs++[40]++pre++[32]++exX p kids alts) u5 A5.out.1 (by simp only[lA,List.length_singleton];omega);simp only[];go_wp2_with fail;refine Calls.mono C5.out ?_;rintro e u6 ⟨rfl,v7,hW,hF⟩;have FF:Hid (WrP W0.heap.size q dv u6 v7 (gapZ zs++armX hc hv (exX p kids alts))∧FrP W0.heap.size q w u6):=⟨hW.as E2.out,A5.out.2.trans hF⟩;clear C5 hW hF A5 E2;simp only[];go_wp2
   (try simp only[Exit.inBlock,Exit.then])
   refine bodyPost_end (results_noneK (P:=Tryz.prog) Tryz.results143 _ _) rfl ?_;exact ⟨rfl,v7,FF.out⟩
def Nin (q:Nat) (x0 x1 v0 v1 v2 v3 v4 v5 v6:Value) (w:World):Prop:=w.cell? ⟨q,0,none⟩=some x0∧w.cell? ⟨q,1,none⟩=some x1∧w.cell? ⟨q,2,none⟩=some v0∧w.cell? ⟨q,3,none⟩=some v1∧w.cell? ⟨q,4,none⟩=some v2∧w.cell? ⟨q,5,none⟩=some v3∧w.cell? ⟨q,6,none⟩=some v4∧w.cell? ⟨q,7,none⟩=some v5∧w.cell? ⟨q,8,none⟩=some v6
theorem headB_len {k n:Int} (h0:0≤k) (h1:k≤20) (h19:k=19→0≤n∧n≤6) (h20:k=20→0≤n∧n≤4):(headB k n).length≤8:=by
 by_cases e19:k=19
 ·
  have:=h19 e19;subst e19
  have hn:n=0∨n=1∨n=2∨n=3∨n=4∨n=5∨n=6:=by omega
  rcases hn with rfl|rfl|rfl|rfl|rfl|rfl|rfl <;> decide
 by_cases e20:k=20
 ·
  have:=h20 e20;subst e20
  have hn:n=0∨n=1∨n=2∨n=3∨n=4:=by omega
  rcases hn with rfl|rfl|rfl|rfl|rfl <;> decide
 unfold headB;rw[if_neg e19,if_neg e20]
 have hk:k=0∨k=1∨k=2∨k=3∨k=4∨k=5∨k=6∨k=7∨k=8∨k=9∨k=10∨k=11∨k=12∨k=13∨k=14∨k=15∨k=16∨k=17∨k=18:=by omega
 clear h0 h1 h19 h20 e19 e20;rcases hk with rfl|rfl|rfl|rfl|rfl|rfl|rfl|rfl|rfl|rfl|rfl|rfl|rfl|rfl|rfl|rfl|rfl|rfl|rfl <;> decide
def SaC (W0:World) (m:Nat):Prop:=∀ (p:PE) (kids alts:GE) (a1:Option Addr) (l1 c1:Nat) (a2:Option Addr) (l2 c2:Nat) (a3:Option Addr) (l3 c3:Nat) (a4:Option Addr) (l4 c4:Nat) (a5:Option Addr) (l5 c5:Nat) (v:Value) (zs:List Int) (w:World) (d:Nat),kids.cnt+alts.cnt < m→NdE W0 p kids alts a1 l1 c1 a2 l2 c2 a3 l3 c3 a4 l4 c4 a5 l5 c5→okE p kids alts d=true→Below W0.heap.size W0 w→w.ownsRow W0.heap.size 5 1 v zs.length (vals zs)→zs.length+(exX p kids alts).length≤900000 →
  Calls Tryz.prog 56 #[v,.agg #[.int .i64 p.k,.int .i64 p.n,.slice a1 l1 c1,.slice a2 l2 c2,.slice a3 l3 c3,.slice a4 l4 c4,.slice a5 l5 c5]] w fun e u=>∃ v',e = .returned v'∧SayG W0.heap.size w v v' (zs++exX p kids alts) u
def SaQ (W0:World) (m:Nat) (Q:Int→Prop):Prop:=∀ (p:PE) (kids alts:GE) (a1:Option Addr) (l1 c1:Nat) (a2:Option Addr) (l2 c2:Nat) (a3:Option Addr) (l3 c3:Nat) (a4:Option Addr) (l4 c4:Nat) (a5:Option Addr) (l5 c5:Nat) (v:Value) (zs:List Int) (w:World) (d:Nat),Q p.k→kids.cnt+alts.cnt < m→NdE W0 p kids alts a1 l1 c1 a2 l2 c2 a3 l3 c3 a4 l4 c4 a5 l5 c5→okE p kids alts d=true→Below W0.heap.size W0 w→w.ownsRow W0.heap.size 5 1 v zs.length (vals zs)→zs.length+(exX p kids alts).length≤900000 →
  Calls Tryz.prog 56 #[v,.agg #[.int .i64 p.k,.int .i64 p.n,.slice a1 l1 c1,.slice a2 l2 c2,.slice a3 l3 c3,.slice a4 l4 c4,.slice a5 l5 c5]] w fun e u=>∃ v',e = .returned v'∧SayG W0.heap.size w v v' (zs++exX p kids alts) u
end Go.Proofs.YtblbnillilbacaaGreatDoor.By
