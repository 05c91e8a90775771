/-
  No statement is proved here.
-/
import Derived.Test.YtnmlbeefjjohfaaGreatDoorTBytesAlsoSh
namespace Go.Proofs.YtnmlbeefjjohfaaGreatDoor.By
set_option maxRecDepth 100000
set_option maxHeartbeats 16000000
open Go.RowKit
set_option linter.unusedVariables false
set_option linter.unusedSimpArgs false
theorem addBytesT (W0:World) (m:Nat):∀ (d:F) (k n:Int) (a:Option Addr) (l c:Nat) (v:Value) (zs:List Int) (w:World) (p:Nat),d.size < m→SlF W0 a l d→Below W0.heap.size W0 w→w.ownsRow W0.heap.size 5 1 v zs.length (vals zs)→fitsB k n l=true→okF d p=true→zs.length+11 * (1+d.size)≤1000000 →
  Calls Tryz.prog 113 #[v,.agg #[.int .i64 k,.int .i64 n,.slice a l c]] w fun e u=>∃ v',e = .returned v'∧Acc W0.heap.size u v' (zs++tyB k n d)∧Fr W0.heap.size w u:=by
 induction m with
 | zero=>intro d k n a l c v zs w p hm;exact absurd hm (Nat.not_lt_zero _)
 | succ m ih =>
  intro d k n a l c v zs w p hm h hb ho hf hok hlen;obtain ⟨i0,hi,hz0,hz1,hz2⟩:=info_parts info5;have hfl:=h.1;have hl:=h.2.1;have hk:=fits_range hf;have hB:=hb.size
  -- the box of the tree,then the byte of its kind
  have g0:=gal w (.cells #[.int .i64 k,.int .i64 n,.slice a l c] 46) none;have b0:=hnw w (.cells #[.int .i64 k,.int .i64 n,.slice a l c] 46);have ho1:=ho.kept g0 (Classical.em _);have HO:Hid (World.ownsRow _ W0.heap.size 5 1 v zs.length (vals zs)):=ho1
  have E1:Hid (zs.length+1≤maxLen):=by show _≤_;unfold maxLen;omega
  have E2:Hid ((zs.length+1) * 1≤140737488355328):=by show _≤_;omega
  have E3:∀ o,Hid (W0.heap.size≤((w.alloc (.cells #[.int .i64 k,.int .i64 n,.slice a l c] 46)).alloc o).heap.size):=by intro o;show _≤_;simp;omega
  have hkw:IntKind.u8.wrap k=k:=IntWalk.u8_in k (by omega)
  have HC:Hid (∀ j u,[Value.int .u8 k][j]? = some u→((w.alloc (.cells #[.int .i64 k,.int .i64 n,.slice a l c] 46)).alloc (.cells #[.int .u8 k] 5)).cell? ((⟨w.heap.size+1,0,none⟩:Addr).add j)=some u):=by
   have e:(w.alloc (.cells #[.int .i64 k,.int .i64 n,.slice a l c] 46)).heap.size=w.heap.size+1:=by simp
   have hc:=cell_one_new (w.alloc (.cells #[.int .i64 k,.int .i64 n,.slice a l c] 46)) (.int .u8 k) 5;rw[e] at hc;exact hc
  have IH:Hid _:=ih;have HS:Hid (SlF W0 a l d∧Below W0.heap.size W0 w):=⟨h,hb⟩;have FX:Hid (w.grownBy _ none∧_=some (Obj.cells #[.int .i64 k,.int .i64 n,.slice a l c] 46)∧W0.heap.size≤w.heap.size):=⟨g0,b0,hB⟩;have HF:Hid (fitsB k n l=true∧okF d p=true∧zs.length+11 * (1+d.size)≤1000000):=⟨hf,hok,hlen⟩;clear ih h hb g0 b0 hB ho ho1 hf hok hlen;go_enter Tryz.func113,Tryz.ntmps113;go_upto_region 2 with (at_builtin;go_must (refine wpList_append_own _ rfl (.tmp 7) (.tmp 11) 22 rfl W0.heap.size 5 i0 (.int .u8 0) 1 1 Tryz.underlying22 hi hz0 hz1 hz2 rfl (by decide) v zs.length (vals zs) rfl (HO.out.alloc _) ⟨w.heap.size+1,0,none⟩ 1 1 [.int .u8 k] rfl rfl HC.out (by simp [Value.oneCell']) E1.out E2.out (E3 _).out ?_);intro v1 w1 hown1 hgrow1 hnil1)
  have A1:Hid (Acc W0.heap.size w1 v1 (zs++[k])):=by
   refine And.intro ?_ (fun e=>by have:=(hnil1.1 e).2;omega);have e:=own_step hown1;simpa using e
  have FY:Hid (Fr W0.heap.size w w1∧w1.heap[w.heap.size]? = some (Obj.cells #[.int .i64 k,.int .i64 n,.slice a l c] 46)):=by
   obtain ⟨g0,b0,hB⟩:=FX.out;have ga:=gal (w.alloc (.cells #[.int .i64 k,.int .i64 n,.slice a l c] 46)) (.cells #[.int .u8 k] 5) none;have f1:=Fr.own hgrow1 (HO.out.alloc _) (E3 _).out;exact ⟨(Fr.grown (gtr g0 ga) hB).trans f1,f1.three ((ga.block _ (lbk b0) (by simp)).trans b0) (by decide)⟩
  clear hown1 hgrow1 hnil1 HC HO E1 E2 E3 hi hz0 hz1 hz2;have hB:W0.heap.size≤w.heap.size:=FX.out.2.2;clear FX;generalize ep:w.heap.size=q at *;obtain ⟨⟨x0,x1,x2⟩,-⟩:=three FY.out.2;obtain ⟨gr,cap,hv1,hgB,hrow,hcm⟩:=A1.out.row
  have e11:(zs++[k]).length=zs.length+1:=by simp
  rw[e11] at hv1;subst hv1;have hlen:=HF.out.2.2;have CS:Hid _:=shpT k w1;generalize hN1:zs.length+1=N1 at *;have E11:Hid ((zs++[k]).length=N1∧zs.length+1=N1):=⟨e11,hN1⟩;clear e11 hN1;go_wp2_with fail;refine Calls.mono CS.out ?_;rintro e w2 ⟨rfl,hg⟩;have FZ:Hid (Fr W0.heap.size w w2∧w2.heap[q]? = some (Obj.cells #[.int .i64 k,.int .i64 n,.slice a l c] 46)):=⟨FY.out.1.trans (Fr.grown hg (by have:=FY.out.1.below.size;omega)),(hg.block _ (lbk FY.out.2) (by simp)).trans FY.out.2⟩;have A2:Hid (Acc W0.heap.size w2 (.slice (some ⟨gr,0,none⟩) N1 cap) (zs++[k])):=A1.out.fr hg;have hrow:=hrow.kept hg (by simp)
  have hB2:W0.heap.size≤w2.heap.size:=by have:=hg.size;have:=FY.out.1.below.size;omega
  clear hg CS A1 FY x0 x1 x2;obtain ⟨⟨x0,x1,x2⟩,-⟩:=three FZ.out.2;simp only[];by_cases h7:k=7
  ·
   have CC:Hid _:=implPut (some ⟨gr,0,none⟩) N1 cap (zs++[k]) n w2 (hrow.reads' E11.out.1) (by have:=E11.out.2;omega);have hf:=HF.out.1;subst h7
   have hl0:l=0:=by rw[fits7] at hf;simp only[bA9,dE9] at hf;exact hf.1
   subst hl0;obtain rfl:d = .nil:=F.nil_of_len hfl;have E:shpV 7 = .iface 155 (.agg #[]):=rfl;rw[E];have t1:=asVarVar;clear hrow hlen hf E IH A2;go_wp2_with fail;refine Calls.mono CC.out ?_;rintro e u ⟨g,rfl,hg,hgs,hr⟩
   have AL:Hid (Acc W0.heap.size u (.slice (some ⟨g,0,none⟩) (N1+(numB n).length) (N1+(numB n).length)) (zs++tyB 7 n .nil)):=by
    show Acc _ _ _ _
    have e:zs++tyB 7 n .nil=zs++[7]++numB n:=by simp [tyB,headB,bytesF]
    have h5:=numB_len n;have h6:=E11.out.2;have:=Acc.of_row (B:=W0.heap.size) hr (by omega) (by unfold maxLen;have:=HF.out.2.2;omega);rw[e]
    have e2:(zs++[7]++numB n).length=N1+(numB n).length:=by rw[lA,E11.out.1]
    rw[e2] at this;exact this
   have FL:Hid (Fr W0.heap.size w u):=FZ.out.1.trans (Fr.grown hg hB2);clear hg hgs hr CC x0 x1 x2 FZ;simp only[];go_wp2;go_ret;exact ⟨_,rfl,AL.out,FL.out⟩
  by_cases h6:k=6
  ·
   have hL5:Hid ((numB n).length≤5∧N1≤1000000):=⟨numB_len n,by have:=E11.out.2;omega⟩;have gd:=grown_drew (grf w2 none);have hrow2:=hrow.kept gd (by simp);have CC:Hid _:=implPut (some ⟨gr,0,none⟩) N1 cap (zs++[k]) n w2.drew (hrow2.reads' E11.out.1) (by have:=hL5.out;omega);subst h6;have E:shpV 6 = .iface 156 (.agg #[]):=rfl;rw[E];have t1:=asVarData;have t2:=asDataData;have T0:Hid (Tri q 0 (.int .i64 6) (.int .i64 n) (.slice a l c) w2.drew):=Tri.none (three FZ.out.2).1 gd;have FD:Hid (Fr W0.heap.size w w2.drew∧w2.drew.heap[q]? = some (Obj.cells #[.int .i64 6,.int .i64 n,.slice a l c] 46)∧W0.heap.size≤w2.drew.heap.size):=⟨FZ.out.1.trans (Fr.grown gd hB2),FZ.out.2,hB2⟩;clear hrow hrow2 hlen E gd A2 h7;go_wp2_with fail;clear x0 x1 x2 FZ hB2;refine wp_region_held_drew (S:=(fun u=>Tri q 0 (.int .i64 6) (.int .i64 n) (.slice a l c) u)) (by kernel_rfl) T0.out (fun hH=>?_);generalize w2.drew=u0 at *
   simp only[sA9,lB,lC,Nat.reduceAdd,Array.replicate,List.replicate];refine tk 0 ?_;refine tk 1 ?_;refine tk 2 ?_;refine tk 4 ?_;refine tk 5 ?_;refine tk 6 ?_;refine rd 3 rfl (fun K hK=>?_);go_simp;refine Calls.mono CC.out ?_;rintro e u ⟨g,rfl,hg,hgs,hr⟩;refine hK.out _ _ (Tri.none T0.out hg) ?_;clear hK K hH;intro hH;have T1:Hid (Tri q 0 (.int .i64 6) (.int .i64 n) (.slice a l c) u):=Tri.none T0.out hg;have FE:Hid (Fr W0.heap.size w u∧u.heap[q]? = some (Obj.cells #[.int .i64 6,.int .i64 n,.slice a l c] 46)∧W0.heap.size≤u.heap.size):=⟨FD.out.1.trans (Fr.grown hg FD.out.2.2),(hg.block _ (lbk FD.out.2.1) (by simp)).trans FD.out.2.1,Nat.le_trans FD.out.2.2 hg.size⟩;have C2:Hid _:=implPut (some ⟨g,0,none⟩) (N1+(numB n).length) (N1+(numB n).length) (zs++[6]++numB n) (l:Int) u (hr.reads' (by rw[lA,E11.out.1])) (by have:=hL5.out;omega);clear hg hgs hr CC T0 FD;simp only[Act.put,nA,nB,nC,nD,nE,nF]
   refine rd 7 rfl (fun K hK=>?_);go_simp;refine Calls.mono C2.out ?_;rintro e u2 ⟨g2,rfl,hg,hgs,hr⟩;refine hK.out _ _ (Tri.none T1.out hg) ?_;clear hK K hH;intro hH
   have AL:Hid (Acc W0.heap.size u2 (.slice (some ⟨g2,0,none⟩) (N1+(numB n).length+(numB (l:Int)).length) (N1+(numB n).length+(numB (l:Int)).length)) (zs++headB 6 n l)):=by
    show Acc _ _ _ _
    have e:zs++headB 6 n l=zs++[6]++numB n++numB (l:Int):=by simp [headB]
    have h5:=numB_len (l:Int);have h6:=hL5.out;have h7:=FE.out.2.2;have:=Acc.of_row (B:=W0.heap.size) hr (by omega) (by unfold maxLen;omega);rw[e]
    have e2:(zs++[6]++numB n++numB (l:Int)).length=N1+(numB n).length+(numB (l:Int)).length:=by rw[lA,lA,E11.out.1]
    rw[e2] at this;exact this
   have FL:Hid (Fr W0.heap.size w u2∧u2.heap[q]? = some (Obj.cells #[.int .i64 6,.int .i64 n,.slice a l c] 46)):=⟨FE.out.1.trans (Fr.grown hg FE.out.2.2),(hg.block _ (lbk FE.out.2.1) (by simp)).trans FE.out.2.1⟩;clear hg hgs hr C2 FE T1;simp only[Act.put,nA,nB,nC,nD,nE,nF];generalize Value.slice (some ⟨g2,0,none⟩) (N1+(numB n).length+(numB (l:Int)).length) (N1+(numB n).length+(numB (l:Int)).length)=vl at *;refine tk 8 ?_;refine wpAnyH_done (by kernel_rfl) ?_ _;clear hL5 E11;rcases HS.out.1.cases with ⟨rfl,rfl⟩|⟨b,o,rfl,hin,-,hpos⟩
   ·
    obtain ⟨⟨y0,y1,y2⟩,-⟩:=three FL.out.2
    have FIN:Hid (Acc W0.heap.size u2 vl (zs++tyB 6 n .nil)):=by
     show Acc _ _ _ _
     have e:zs++tyB 6 n .nil=zs++headB 6 n 0:=by simp [tyB,bytesF,F.len]
     rw[e];exact AL.out
    clear IH AL;go_wp2;refine wp_loop_rounds 1 ?_;rw[rounds_succ];go_wp2;go_ret;exact ⟨_,rfl,FIN.out,FL.out.1⟩
   have IN:Hid (InF W0 d b o):=hin;have HB:Hid (Below W0.heap.size W0 w):=HS.out.2
   have PR:Hid (headB 6 n l++bytesF d=tyB 6 n d):=by show _=_;rw[tyB,hfl]
   have hhl:(headB 6 n l).length≤11:=headB_len _ _ _;have hokd:okF d p=true:=HF.out.2.1;have hlen2:zs.length+11 * (1+d.size)≤1000000:=HF.out.2.2;clear hin HS;have Q0:=three FL.out.2;obtain ⟨⟨y0,y1,y2⟩,-⟩:=Q0;go_wp2;clear y0 y1 y2
   go_loopw [0,37] (fun v i wr=>∃ (j:Nat) (R:F) (pre:List Int),j≤l∧i = .int .i64 j∧R.len+j=l∧R.size≤d.size∧Hid (InF W0 R b (o+j * 3))∧Hid (Acc W0.heap.size wr v (zs++pre))∧Hid (pre++bytesF R=tyB 6 n d)∧Hid (Fr W0.heap.size w wr∧wr.heap[q]? = some (Obj.cells #[.int .i64 6,.int .i64 n,.slice (some ⟨b,o,none⟩) l c] 46))∧Hid (zs.length+pre.length+11 * R.size≤1000000)∧Hid (okF R p=true)) (fun _ i _=>l - (intOf i).toNat)
   case atStart=>exact ⟨0,d,headB 6 n l,Nat.zero_le _,rfl,by omega,Nat.le_refl _,by simpa using IN,AL,PR,FL,by show _≤_;omega,hokd⟩
   case round =>
    clear AL FL;obtain ⟨j,R,pre,hj,rfl,hRl,hRs,hR,hA,hP,hFr,hN,hokR⟩:=hrel;by_cases hlt:j < l
    ·
     obtain ⟨q1,hq1⟩:∃ q,R.len=q+1:=⟨R.len - 1,by omega⟩;obtain ⟨kk,nn,d',R',rfl,hR'⟩:=F.cons_of_len hq1;have hbw:=HB.out.trans hFr.out.1.below;obtain ⟨a',l',c',-,-,-,hd,hR2⟩:=hR.out.out;obtain ⟨a2,l2,c2,z0,z1,z2,hd2,-⟩:=(hR.out.below hbw).out;have hokc:=hokR.out;simp only[okF,bA9,dE9] at hokc
     have e3:o+j * 3+3=o+(j+1) * 3:=by omega
     rw[e3] at hR2
     have hds:d'.size < m:=by simp only[F.size] at hRs hm;omega
     have hRs':R'.size≤d.size:=by simp only[F.size] at hRs;omega
     have hNN:=hN.out;simp only[F.size] at hNN;obtain ⟨a3,l3,c3,w0',w1',w2',hd3,-⟩:=hR.out.out;have hlt0:=block_lt_of_cell w2';have e5:=(hbw.cell (p:=⟨b,o+j * 3+2,none⟩) hlt0).trans w2';rw[z2] at e5;injection e5 with e5;injection e5 with e6 e7 e8;subst e6 e7 e8;have CC:Hid _:=IH.out d' kk nn a2 l2 c2 u0 (zs++pre) _ (p - 1) hds hd3 (hbw.alloc hbw.size (.cells #[.int .i64 kk,.int .i64 nn,.slice a2 l2 c2] 46)) (hA.out.1.alloc _) (by rw[← hd3.1];exact hokc.1.1.2) hokc.1.2 (by rw[lA];omega)
     have FX:Hid (InF W0 R' b (o+(j+1) * 3)∧okF R' p=true∧zs.length+(pre++tyB kk nn d').length+11 * R'.size≤1000000∧(pre++tyB kk nn d')++bytesF R' = tyB 6 n d):=by
      refine ⟨hR2,hokc.2,?_,?_⟩
      ·
       have h1:=headB_len kk nn d'.len;have h2:=bytesF_len d';rw[lA,tyB,lA];omega
      ·
       rw[← hP.out,bytesF,tyB];simp only[lD9]
     clear hR hR2 hd hd2 hd3 hP hbw hokc w0' w1' w2' hN hNN hokR IN IH PR hhl hokd hlen2;go_wp2_with fail;refine Calls.mono CC.out ?_;rintro e u ⟨v',rfl,hA2,hF2⟩
     have AC:Hid (Acc W0.heap.size u v' (zs++(pre++tyB kk nn d'))):=by show Acc _ _ _ _;rw[← lD9];exact hA2
     have ga:=gal wr (.cells #[.int .i64 kk,.int .i64 nn,.slice a2 l2 c2] 46) none;have hF3:=(Fr.grown ga (Nat.le_trans HB.out.size hFr.out.1.below.size)).trans hF2;have FR:Hid (Fr W0.heap.size w u∧u.heap[q]? = some (Obj.cells #[.int .i64 6,.int .i64 n,.slice (some ⟨b,o,none⟩) l c] 46)):=⟨hFr.out.1.trans hF3,hF3.three hFr.out.2 (by decide)⟩;clear ga hF3;clear hA2 hF2 CC z0 z1 z2 hFr hA;simp only[];go_wp2;go_roundw
     case rel=>exact ⟨j+1,R',pre++tyB kk nn d',by omega,by go_num,by omega,hRs',FX.out.1,AC,FX.out.2.2.2,FR,FX.out.2.2.1,FX.out.2.1⟩
     case measure=>simp [intOf];omega
    ·
     obtain rfl:j=l:=by omega
     obtain rfl:R = .nil:=F.nil_of_len (by omega)
     have FIN:Hid (Acc W0.heap.size wr u0 (zs++tyB 6 n d)):=by
      show Acc _ _ _ _
      have e:=hP.out;simp only[bytesF,List.append_nil] at e;rw[← e];exact hA.out
     clear hP hA;go_wp2;go_ret;exact ⟨_,rfl,FIN.out,hFr.out.1⟩
  have E:shpV k = .iface 153 (fixV k):=by unfold shpV;rw[if_neg h6,if_neg h7,if_neg (by omega)]
  rw[E]
  have AL:Hid (Acc W0.heap.size w2 (.slice (some ⟨gr,0,none⟩) N1 cap) (zs++headB k n l)):=by
   show Acc _ _ _ _
   have e:headB k n l=[k]:=by simp [headB,h6,h7]
   rw[e];exact A2.out
  have FL:=FZ;generalize Value.slice (some ⟨gr,0,none⟩) N1 cap=vl at *;generalize fixV k=fv at *;have t1:=asVarFix fv;have t2:=asDataFix fv;clear A2 FZ E11 hrow hlen h6 h7 E;rcases HS.out.1.cases with ⟨rfl,rfl⟩|⟨b,o,rfl,hin,-,hpos⟩
  ·
   obtain ⟨⟨y0,y1,y2⟩,-⟩:=three FL.out.2
   have FIN:Hid (Acc W0.heap.size w2 vl (zs++tyB k n .nil)):=by
    show Acc _ _ _ _
    have e:zs++tyB k n .nil=zs++headB k n 0:=by simp [tyB,bytesF,F.len]
    rw[e];exact AL.out
   clear IH AL;go_wp2;refine wp_loop_rounds 1 ?_;rw[rounds_succ];go_wp2;go_ret;exact ⟨_,rfl,FIN.out,FL.out.1⟩
  have IN:Hid (InF W0 d b o):=hin;have HB:Hid (Below W0.heap.size W0 w):=HS.out.2
  have PR:Hid (headB k n l++bytesF d=tyB k n d):=by show _=_;rw[tyB,hfl]
  have hhl:(headB k n l).length≤11:=headB_len _ _ _;have hokd:okF d p=true:=HF.out.2.1;have hlen2:zs.length+11 * (1+d.size)≤1000000:=HF.out.2.2;clear hin HS;have Q0:=three FL.out.2;obtain ⟨⟨y0,y1,y2⟩,-⟩:=Q0;go_wp2;clear y0 y1 y2
  go_loopw [0,37] (fun v i wr=>∃ (j:Nat) (R:F) (pre:List Int),j≤l∧i = .int .i64 j∧R.len+j=l∧R.size≤d.size∧Hid (InF W0 R b (o+j * 3))∧Hid (Acc W0.heap.size wr v (zs++pre))∧Hid (pre++bytesF R=tyB k n d)∧Hid (Fr W0.heap.size w wr∧wr.heap[q]? = some (Obj.cells #[.int .i64 k,.int .i64 n,.slice (some ⟨b,o,none⟩) l c] 46))∧Hid (zs.length+pre.length+11 * R.size≤1000000)∧Hid (okF R p=true)) (fun _ i _=>l - (intOf i).toNat)
  case atStart=>exact ⟨0,d,headB k n l,Nat.zero_le _,rfl,by omega,Nat.le_refl _,by simpa using IN,AL,PR,FL,by show _≤_;omega,hokd⟩
  case round =>
   clear AL FL;obtain ⟨j,R,pre,hj,rfl,hRl,hRs,hR,hA,hP,hFr,hN,hokR⟩:=hrel;by_cases hlt:j < l
   ·
    obtain ⟨q1,hq1⟩:∃ q,R.len=q+1:=⟨R.len - 1,by omega⟩;obtain ⟨kk,nn,d',R',rfl,hR'⟩:=F.cons_of_len hq1;have hbw:=HB.out.trans hFr.out.1.below;obtain ⟨a',l',c',-,-,-,hd,hR2⟩:=hR.out.out;obtain ⟨a2,l2,c2,z0,z1,z2,hd2,-⟩:=(hR.out.below hbw).out;have hokc:=hokR.out;simp only[okF,bA9,dE9] at hokc
    have e3:o+j * 3+3=o+(j+1) * 3:=by omega
    rw[e3] at hR2
    have hds:d'.size < m:=by simp only[F.size] at hRs hm;omega
    have hRs':R'.size≤d.size:=by simp only[F.size] at hRs;omega
    have hNN:=hN.out;simp only[F.size] at hNN;obtain ⟨a3,l3,c3,w0',w1',w2',hd3,-⟩:=hR.out.out;have hlt0:=block_lt_of_cell w2';have e5:=(hbw.cell (p:=⟨b,o+j * 3+2,none⟩) hlt0).trans w2';rw[z2] at e5;injection e5 with e5;injection e5 with e6 e7 e8;subst e6 e7 e8;have CC:Hid _:=IH.out d' kk nn a2 l2 c2 u0 (zs++pre) _ (p - 1) hds hd3 (hbw.alloc hbw.size (.cells #[.int .i64 kk,.int .i64 nn,.slice a2 l2 c2] 46)) (hA.out.1.alloc _) (by rw[← hd3.1];exact hokc.1.1.2) hokc.1.2 (by rw[lA];omega)
    have FX:Hid (InF W0 R' b (o+(j+1) * 3)∧okF R' p=true∧zs.length+(pre++tyB kk nn d').length+11 * R'.size≤1000000∧(pre++tyB kk nn d')++bytesF R' = tyB k n d):=by
     refine ⟨hR2,hokc.2,?_,?_⟩
     ·
      have h1:=headB_len kk nn d'.len;have h2:=bytesF_len d';rw[lA,tyB,lA];omega
     ·
      rw[← hP.out,bytesF,tyB];simp only[lD9]
    clear hR hR2 hd hd2 hd3 hP hbw hokc w0' w1' w2' hN hNN hokR IN IH PR hhl hokd hlen2;go_wp2_with fail;refine Calls.mono CC.out ?_;rintro e u ⟨v',rfl,hA2,hF2⟩
    have AC:Hid (Acc W0.heap.size u v' (zs++(pre++tyB kk nn d'))):=by show Acc _ _ _ _;rw[← lD9];exact hA2
    have ga:=gal wr (.cells #[.int .i64 kk,.int .i64 nn,.slice a2 l2 c2] 46) none;have hF3:=(Fr.grown ga (Nat.le_trans HB.out.size hFr.out.1.below.size)).trans hF2;have FR:Hid (Fr W0.heap.size w u∧u.heap[q]? = some (Obj.cells #[.int .i64 k,.int .i64 n,.slice (some ⟨b,o,none⟩) l c] 46)):=⟨hFr.out.1.trans hF3,hF3.three hFr.out.2 (by decide)⟩;clear ga hF3;clear hA2 hF2 CC z0 z1 z2 hFr hA;simp only[];go_wp2;go_roundw
    case rel=>exact ⟨j+1,R',pre++tyB kk nn d',by omega,by go_num,by omega,hRs',FX.out.1,AC,FX.out.2.2.2,FR,FX.out.2.2.1,FX.out.2.1⟩
    case measure=>simp [intOf];omega
   ·
    obtain rfl:j=l:=by omega
    obtain rfl:R = .nil:=F.nil_of_len (by omega)
    have FIN:Hid (Acc W0.heap.size wr u0 (zs++tyB k n d)):=by
     show Acc _ _ _ _
     have e:=hP.out;simp only[bytesF,List.append_nil] at e;rw[← e];exact hA.out
    clear hP hA;go_wp2;go_ret;exact ⟨_,rfl,FIN.out,hFr.out.1⟩
def bytesV (k n:Int) (d:F):List Int:=if okT k n d=true then tyB k n d else []
def OwB (B:Nat) (w:World) (a:Option Addr) (n c:Nat) (zs:List Int):Prop:=w.ownsRow B 5 1 (.slice a n c) n (vals zs)∧zs.length=n
theorem OwB.reads {B n c:Nat} {w:World} {a:Option Addr} {zs:List Int} (h:OwB B w a n c zs):Reads w a n zs:=by
 obtain ⟨h,hl⟩:=h;rcases h.2 with ⟨_,h0⟩|⟨g,cap,cur,e,_,hg,hn,_,hs,ht⟩
 ·
  exact ⟨hl,.inl h0⟩
 ·
  injection e with e1 e2 e3;subst e1;have hr:Row w g cap zs:=⟨cur,hg,by omega,by rw[hl];simpa using ht,by omega⟩;exact hr.reads' hl
theorem OwB.mono {B B' n c:Nat} {w:World} {a:Option Addr} {zs:List Int} (h:OwB B w a n c zs) (hB:B'≤B):OwB B' w a n c zs:=by
 obtain ⟨⟨h1,h⟩,hl⟩:=h;refine ⟨⟨h1,?_⟩,hl⟩;rcases h with h|⟨g,cap,cur,e,hb,r⟩
 ·
  exact .inl h
 ·
  exact .inr ⟨g,cap,cur,e,Nat.le_trans hB hb,r⟩
theorem OwB.nil (B:Nat) (w:World):OwB B w none 0 0 []:=⟨⟨rfl,.inl ⟨rfl,rfl⟩⟩,rfl⟩
theorem Acc.owB {B:Nat} {w:World} {v:Value} {zs:List Int} (h:Acc B w v zs):∃ a c,v = .slice a zs.length c∧OwB B w a zs.length c zs:=by
 obtain ⟨g,cap,rfl,hB,hr,hm⟩:=h.row;exact ⟨_,_,rfl,h.1,rfl⟩
theorem implTyBytesT (d:F) (k n:Int) (a:Option Addr) (l c:Nat) (w:World) (h:SlF w a l d) :
  Calls Tryz.prog 104 #[.agg #[.int .i64 k,.int .i64 n,.slice a l c]] w fun e u=>∃ a' c',e = .returned (.slice a' (bytesV k n d).length c')∧w.grownBy u none∧OwB w.heap.size u a' (bytesV k n d).length c' (bytesV k n d):=by
 have g0:w.grownBy (w.alloc (.cells #[.int .i64 k,.int .i64 n,.slice a l c] 46)) none:=gal _ _ _;have b0:=hnw w (.cells #[.int .i64 k,.int .i64 n,.slice a l c] 46);have CC:Hid _:=implTyOkT d k n a l c _ (h.none g0);have FX:Hid (w.grownBy _ none∧SlF _ a l d∧_=some (Obj.cells #[.int .i64 k,.int .i64 n,.slice a l c] 46)):=⟨g0,h.none g0,b0⟩;have hfl:=h.1;clear h g0 b0;go_enter Tryz.func104,Tryz.ntmps104;go_wp2_with fail;refine Calls.mono CC.out ?_;rintro e u ⟨rfl,hg⟩;obtain ⟨g0,h,b0⟩:=FX.out;have FY:Hid (w.grownBy u none∧SlF u a l d∧_=some (Obj.cells #[.int .i64 k,.int .i64 n,.slice a l c] 46)):=⟨gtr g0 hg,h.none hg,(hg.block _ (lbk b0) (by simp)).trans b0⟩;clear FX hg CC g0 h b0;simp only[]
 cases hb:okT k n d with
 | false =>
  have E:Hid (bytesV k n d=[]):=by show _=_;unfold bytesV;rw[hb];rfl
  go_wp2;go_ret;exact ⟨none,0,by rw[E.out];rfl,FY.out.1,by rw[E.out];exact OwB.nil _ _⟩
 | true =>
  have E:Hid (bytesV k n d=tyB k n d):=by show _=_;unfold bytesV;rw[if_pos hb]
  have hb':=hb;simp only[okT,bA9,dE9] at hb';have C2:Hid _:=addBytesT u (d.size+1) d k n a l c (.slice none 0 0) [] u 9 (Nat.lt_succ_self _) FY.out.2.1 (Below.refl _ _) ⟨rfl,.inl ⟨rfl,rfl⟩⟩ (by rw[← hfl];exact hb'.1.1) hb'.1.2 (by simp;omega);obtain ⟨⟨x0,x1,x2⟩,-⟩:=three FY.out.2.2;clear hb' hb;go_wp2_with fail;refine Calls.mono C2.out ?_;rintro e u2 ⟨v',rfl,hA,hF⟩;simp only[List.nil_append] at hA;obtain ⟨a',c',rfl,hO⟩:=hA.owB;have FIN:Hid (w.grownBy u2 none∧OwB w.heap.size u2 a' (tyB k n d).length c' (tyB k n d)):=⟨gtr FY.out.1 (grown_of_below hF.below),hO.mono FY.out.1.size⟩;clear C2 FY hA hF hO x0 x1 x2;simp only[];go_wp2;go_ret;exact ⟨a',c',by rw[E.out];rfl,FIN.out.1,by rw[E.out];exact FIN.out.2⟩
theorem bytesV_len (k n:Int) (d:F):(bytesV k n d).length≤660:=by
 unfold bytesV;by_cases h:okT k n d=true
 ·
  rw[if_pos h];simp only[okT,bA9,dE9] at h;have h1:=headB_len k n d.len;have h2:=bytesF_len d;rw[tyB,lA];omega
 ·
  rw[if_neg h];simp
end Go.Proofs.YtnmlbeefjjohfaaGreatDoor.By
