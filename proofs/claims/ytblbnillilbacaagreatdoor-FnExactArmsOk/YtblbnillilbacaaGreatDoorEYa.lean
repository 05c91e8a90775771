/-
  No statement is proved here.
-/
import Derived.Test.YtblbnillilbacaaGreatDoorETa
namespace Go.Proofs.YtblbnillilbacaaGreatDoor.By
set_option maxRecDepth 100000
set_option maxHeartbeats 16000000
open Go.RowKit
set_option linter.unusedVariables false
set_option linter.unusedSimpArgs false
def Lty (V:Int) (ds:List Da) (m:Nat):Prop:=∀ (d:F) (k n:Int) (a:Option Addr) (l c p:Nat) (ad:Option Addr) (ld cd:Nat) (w:World),d.size < m→d.size≤100000→SlF w a l d→fitsB k n l=true→okF d p=true→SlDa w ad ld ds →
  Calls Tryz.prog 49 #[.agg #[.int .i64 k,.int .i64 n,.slice a l c],.int .i64 V,.slice ad ld cd] w fun e u=>e = .returned (.bool (tyD V ds k n d))∧w.grownBy u none
theorem l5tyT (V:Int) (ds:List Da) (m:Nat):Lty V ds m:=by
 induction m with
 | zero=>intro d k n a l c p ad ld cd w hm;exact absurd hm (Nat.not_lt_zero _)
 | succ m ih =>
  intro d k n a l c p ad ld cd w hm hm2 h hf hok hD;have hfl:=h.1;have hl:=h.2.1;have hdl:=hD.1;have hdm:=hD.2.1;have g0:=gal w (.cells #[.int .i64 k,.int .i64 n,.slice a l c] 79) none;have b0:=heap_alloc_new w (.cells #[.int .i64 k,.int .i64 n,.slice a l c] 79);have IH:Hid (Lty V ds m):=ih;have HS:Hid (SlF w a l d∧okF d p=true∧SlDa w ad ld ds):=⟨h,hok,hD⟩;have HG:Hid (w.grownBy (w.alloc (.cells #[.int .i64 k,.int .i64 n,.slice a l c] 79)) none):=g0;have HB:Hid ((w.alloc (.cells #[.int .i64 k,.int .i64 n,.slice a l c] 79)).heap[w.heap.size]? = some (Obj.cells #[.int .i64 k,.int .i64 n,.slice a l c] 79)):=b0;have HF:Hid (fitsB k n l=true):=hf;clear ih h hf hok hD g0 b0;by_cases h7:k=7
  ·
   have hf:=HF.out
   have hl0:d = .nil:=by
    rw[h7,fits7] at hf;simp only[Bool.and_eq_true,decide_eq_true_eq] at hf;exact F.nil_of_len (by omega)
   have hk7:(k == 7)=true:=by simpa using h7
   have hk6:(k == 6)=false:=by simp;omega
   have EQ:tyD V ds k n d=decide (n < V):=by unfold tyD;rw[if_pos h7]
   have ET0:tyDF V ds d=true:=by rw[hl0];rfl
   obtain ⟨⟨x0,x1,x2⟩,-⟩:=three HB.out;clear HF h7 hf;by_cases hv:n ≥ V
   ·
    have EV:Hid (tyD V ds k n d=false):=by show _=_;rw[EQ];simp;omega
    have hvb:decide (n ≥ V)=true:=by simpa using hv
    clear EQ ET0;go_enter Tryz.func49,Tryz.ntmps49;go_wp2;go_ret;exact ⟨by rw[EV.out];rfl,HG.out⟩
   ·
    have EV:Hid (tyD V ds k n d=tyDF V ds d):=by show _=_;rw[EQ,ET0];simp;omega
    have hvb:decide (n ≥ V)=false:=by simpa using hv
    clear EQ ET0;go_enter Tryz.func49,Tryz.ntmps49;go_upto_region 3 with fail;clear x0 x1 x2;generalize w.alloc (.cells #[.int .i64 k,.int .i64 n,.slice a l c] 79)=W0 at *;generalize w.heap.size=p0 at *;have gd:=grown_drew (grf W0 none);have HG1:Hid (w.grownBy W0.drew none):=gtr HG.out gd;have HB1:Hid (W0.drew.heap[p0]? = some (Obj.cells #[.int .i64 k,.int .i64 n,.slice a l c] 79)):=(gd.block _ (lt_of_block HB.out) (by simp)).trans HB.out;clear HG HB gd;refine wp_region_held_drew (S:=(fun u=>Tri p0 0 (.int .i64 k) (.int .i64 n) (.slice a l c) u)) (by kernel_rfl) (three HB1.out).1 (fun hH=>?_);generalize W0.drew=W1 at *;have HG:Hid (w.grownBy W1 none):=HG1.out;have HB:Hid (W1.heap[p0]? = some (Obj.cells #[.int .i64 k,.int .i64 n,.slice a l c] 79)):=HB1.out;clear HG1 HB1;simp only[List.size_toArray,lB,lC,Nat.reduceAdd,Array.replicate,List.replicate];refine tk 0 ?_;refine tk 1 ?_;refine tk 2 ?_
    refine tk 3 ?_;refine tks 4 ?_;refine tks 5 ?_;refine tks 6 ?_;refine tks 7 ?_;refine tks 8 ?_;refine tks 9 ?_;refine tks 10 ?_;refine tks 11 ?_;refine tks 12 ?_;refine tks 13 ?_;refine tks 14 ?_;refine tks 15 ?_;refine tks 16 ?_;refine tks 17 ?_;refine tks 18 ?_;refine tks 19 ?_;refine tks 20 ?_;refine tk 21 ?_;refine wpAnyH_done (by kernel_rfl) ?_ _;clear hH;rcases HS.out.1.cases with ⟨h1,h2⟩|⟨b,o,h1,hin,-,hpos⟩
    ·
     subst h1 h2;have GF:Hid (w.grownBy W1 none):=HG.out;obtain ⟨⟨x0,x1,x2⟩,-⟩:=three HB.out;go_wp2;refine wp_loop_rounds 1 ?_;rw[rounds_succ];go_wp2;go_ret;exact ⟨by rw[EV.out];rfl,GF.out⟩
    ·
     subst h1;have IN:Hid (InF W1 d b o):=hin.none HG.out;clear hin;go_wp2
     go_loopw [7] (fun i wr=>∃ (j:Nat) (R:F),j≤l∧i = .int .i64 j∧R.len+j=l∧R.size≤d.size∧Hid (W1.grownBy wr none∧InF W1 R b (o+j * 3)∧okF R p=true∧tyDF V ds d=tyDF V ds R)) (fun i _=>l - (intOf i).toNat)
     case atStart=>exact ⟨0,d,Nat.zero_le _,rfl,by omega,Nat.le_refl _,grf _ _,by simpa using IN.out,HS.out.2.1,rfl⟩
     case round =>
      obtain ⟨j,R,hj,rfl,hRl,hRs,HR⟩:=hrel;obtain ⟨⟨x0,x1,x2⟩,-⟩:=three ((HR.out.1.block _ (lt_of_block HB.out) (by simp)).trans HB.out);by_cases hlt:j < l
      ·
       obtain ⟨q1,hq1⟩:∃ q1,R.len=q1+1:=⟨R.len - 1,by omega⟩;obtain ⟨kk,nn,d',R',rfl,hR'⟩:=F.cons_of_len hq1;obtain ⟨hg,hR,hokR,hv⟩:=HR.out;obtain ⟨a',l',c',c0,c1,c2',hd,hR2⟩:=hR.out;rw[show o+j * 3+3=o+(j+1) * 3 by omega] at hR2;simp only[okF,Bool.and_eq_true,decide_eq_true_eq] at hokR;have c0:=hg.cell c0 (by simp);have c1:=hg.cell c1 (by simp);have c2':=hg.cell c2' (by simp);have gw:=gtr HG.out hg;simp only[F.size] at hRs;have CC:Hid _:=IH.out d' kk nn a' l' c' (p - 1) ad ld cd wr (by omega) (by omega) (hd.none hg) (by rw[← hd.1];exact hokR.1.1.2) hokR.1.2 (HS.out.2.2.none gw);have FX:Hid (W1.grownBy wr none∧InF W1 R' b (o+(j+1) * 3)∧okF R' p=true∧tyDF V ds d=(tyD V ds kk nn d' && tyDF V ds R')):=⟨hg,hR2,hokR.2,by rw[hv,tyDF_cons]⟩;clear hg hR hokR hv hd hR2 gw HR IN
       have hlt':(j:Int) < (l:Int):=by omega
       go_wp2_with fail;refine Calls.mono CC.out ?_;rintro e v ⟨he,hgv⟩;subst he;have FY:Hid (W1.grownBy v none):=gtr FX.out.1 hgv;clear CC hgv c0 c1 c2' x0 x1 x2;simp only[]
       cases hq:tyD V ds kk nn d' with
       | false =>
        have E2:Hid (tyD V ds k n d=false):=by show _=_;rw[EV.out,FX.out.2.2.2,hq];rfl
        clear hq;go_wp2;go_ret;exact ⟨by rw[E2.out];rfl,gtr HG.out FY.out⟩
       | true =>
        have E2:Hid (tyDF V ds d=tyDF V ds R'):=by show _=_;rw[FX.out.2.2.2,hq];rfl
        clear hq;go_wp2;go_roundw
        case rel=>exact ⟨j+1,R',by omega,by go_num,by omega,by omega,FY.out,FX.out.2.1,FX.out.2.2.1,E2.out⟩
        case measure=>simp [intOf];omega
      ·
       obtain rfl:j=l:=by omega
       obtain rfl:R = .nil:=F.nil_of_len (by omega);have E2:Hid (tyD V ds k n d=true∧w.grownBy wr none):=⟨by rw[EV.out,HR.out.2.2.2];rfl,gtr HG.out HR.out.1⟩;clear HR IN;go_wp2;go_ret;exact ⟨by rw[E2.out.1];rfl,E2.out.2⟩
  ·
   by_cases h6:k=6
   ·
    have hf:=HF.out
    have hn0:0≤n:=by
     rw[h6] at hf;by_cases hl3:l≤3
     ·
      rw[fits6 hl3] at hf;simp only[Bool.and_eq_true,decide_eq_true_eq] at hf;omega
     ·
      rw[fits6x hl3] at hf
      cases hf
    have hk7:(k == 7)=false:=by simpa using h7
    have hk6:(k == 6)=true:=by simpa using h6
    have ED:tyD V ds k n d=(dtV ds n d.len && tyDF V ds d):=by unfold tyD;rw[if_neg h7,if_pos h6]
    clear hf h7 h6 HF;obtain ⟨nn0,rfl⟩:∃ nn0:Nat,n=(nn0:Int):=⟨n.toNat,by omega⟩;obtain ⟨⟨x0,x1,x2⟩,-⟩:=three HB.out;by_cases hlen:nn0 < ld
    ·
     obtain ⟨bD,oD,rfl,hinD,-⟩:∃ bD oD,ad=some ⟨bD,oD,none⟩∧InDa w w ds bD oD∧0 < ld:=by
      rcases HS.out.2.2.cases with ⟨z1,z2⟩|h
      ·
       omega
      ·
       exact h
     obtain ⟨x,a1,n1,c1,a2,l2,c2,hx,-,y1,-,-,-⟩:=hinD.nth (i:=nn0) (by omega)
     have EX:dtV ds (nn0:Int) d.len=decide ((l:Int)=x.vars):=by unfold dtV;rw[Int.toNat_natCast,hx,hfl]
     have hge:¬ ((nn0:Int) ≥ (ld:Int)):=by omega
     have hgeb:decide ((nn0:Int) ≥ (ld:Int))=false:=by simp;omega
     have HY:Hid (∀ u,w.grownBy u none→u.cell? ⟨bD,oD+nn0 * 3+1,none⟩=some (.int .i64 x.vars)):=fun u hu=>hu.cell y1 (by simp)
     have hlt':(nn0:Int) < (ld:Int):=by omega
     clear hinD y1 hx;go_enter Tryz.func49,Tryz.ntmps49;go_upto_region 3 with fail;clear x0 x1 x2;generalize w.alloc (.cells #[.int .i64 k,.int .i64 (nn0:Int),.slice a l c] 79)=W0 at *;generalize w.heap.size=p0 at *;have gd:=grown_drew (grf W0 none);have HG1:Hid (w.grownBy W0.drew none):=gtr HG.out gd;have HB1:Hid (W0.drew.heap[p0]? = some (Obj.cells #[.int .i64 k,.int .i64 (nn0:Int),.slice a l c] 79)):=(gd.block _ (lt_of_block HB.out) (by simp)).trans HB.out;clear HG HB gd;refine wp_region_held_drew (S:=(fun u=>Tri p0 0 (.int .i64 k) (.int .i64 (nn0:Int)) (.slice a l c) u∧u.cell? ⟨bD,oD+nn0 * 3+1,none⟩=some (.int .i64 x.vars))) (by kernel_rfl) ⟨(three HB1.out).1,HY.out _ HG1.out⟩ (fun hH=>?_);generalize W0.drew=W1 at *;have HG:Hid (w.grownBy W1 none):=HG1.out;have HB:Hid (W1.heap[p0]? = some (Obj.cells #[.int .i64 k,.int .i64 (nn0:Int),.slice a l c] 79)):=HB1.out;clear HG1 HB1;simp only[List.size_toArray,lB,lC,Nat.reduceAdd,Array.replicate,List.replicate]
     refine tk 0 ?_;refine tk 1 ?_;refine tk 2 ?_;refine tk 3 ?_;refine tk 4 ?_;refine tk 5 ?_;refine tk 6 ?_;refine tk 7 ?_;refine tk 8 ?_;refine tk 9 ?_;refine tk 10 ?_;refine tk 11 ?_;refine tk 12 ?_;refine tk 13 ?_;refine tk 14 ?_;refine tk 15 ?_;refine tk 16 ?_;refine tk 17 ?_;refine tk 18 ?_;refine tk 19 ?_;refine tk 20 ?_;refine tk 21 ?_;refine wpAnyH_done (by kernel_rfl) ?_ _;clear hH;by_cases hlv:(l:Int)=x.vars
     ·
      have EV:Hid (tyD V ds k (nn0:Int) d=tyDF V ds d):=by show _=_;rw[ED,EX];simp [hlv]
      have hne:((l:Int) != x.vars)=false:=by simp [hlv]
      try rw[hne]
      clear ED EX hlv;rcases HS.out.1.cases with ⟨h1,h2⟩|⟨b,o,h1,hin,-,hpos⟩
      ·
       subst h1 h2;have GF:Hid (w.grownBy W1 none):=HG.out;obtain ⟨⟨x0,x1,x2⟩,-⟩:=three HB.out;go_wp2;refine wp_loop_rounds 1 ?_;rw[rounds_succ];go_wp2;go_ret;exact ⟨by rw[EV.out];rfl,GF.out⟩
      ·
       subst h1;have IN:Hid (InF W1 d b o):=hin.none HG.out;clear hin;go_wp2
       go_loopw [7] (fun i wr=>∃ (j:Nat) (R:F),j≤l∧i = .int .i64 j∧R.len+j=l∧R.size≤d.size∧Hid (W1.grownBy wr none∧InF W1 R b (o+j * 3)∧okF R p=true∧tyDF V ds d=tyDF V ds R)) (fun i _=>l - (intOf i).toNat)
       case atStart=>exact ⟨0,d,Nat.zero_le _,rfl,by omega,Nat.le_refl _,grf _ _,by simpa using IN.out,HS.out.2.1,rfl⟩
       case round =>
        obtain ⟨j,R,hj,rfl,hRl,hRs,HR⟩:=hrel;obtain ⟨⟨x0,x1,x2⟩,-⟩:=three ((HR.out.1.block _ (lt_of_block HB.out) (by simp)).trans HB.out);by_cases hlt:j < l
        ·
         obtain ⟨q1,hq1⟩:∃ q1,R.len=q1+1:=⟨R.len - 1,by omega⟩;obtain ⟨kk,nn,d',R',rfl,hR'⟩:=F.cons_of_len hq1;obtain ⟨hg,hR,hokR,hv⟩:=HR.out;obtain ⟨a',l',c',c0,c1,c2',hd,hR2⟩:=hR.out;rw[show o+j * 3+3=o+(j+1) * 3 by omega] at hR2;simp only[okF,Bool.and_eq_true,decide_eq_true_eq] at hokR;have c0:=hg.cell c0 (by simp);have c1:=hg.cell c1 (by simp);have c2':=hg.cell c2' (by simp);have gw:=gtr HG.out hg;simp only[F.size] at hRs;have CC:Hid _:=IH.out d' kk nn a' l' c' (p - 1) (some ⟨bD,oD,none⟩) ld cd wr (by omega) (by omega) (hd.none hg) (by rw[← hd.1];exact hokR.1.1.2) hokR.1.2 (HS.out.2.2.none gw);have FX:Hid (W1.grownBy wr none∧InF W1 R' b (o+(j+1) * 3)∧okF R' p=true∧tyDF V ds d=(tyD V ds kk nn d' && tyDF V ds R')):=⟨hg,hR2,hokR.2,by rw[hv,tyDF_cons]⟩;clear hg hR hokR hv hd hR2 gw HR IN
         have hlt':(j:Int) < (l:Int):=by omega
         go_wp2_with fail;refine Calls.mono CC.out ?_;rintro e v ⟨he,hgv⟩;subst he;have FY:Hid (W1.grownBy v none):=gtr FX.out.1 hgv;clear CC hgv c0 c1 c2' x0 x1 x2;simp only[]
         cases hq:tyD V ds kk nn d' with
         | false =>
          have E2:Hid (tyD V ds k (nn0:Int) d=false):=by show _=_;rw[EV.out,FX.out.2.2.2,hq];rfl
          clear hq;go_wp2;go_ret;exact ⟨by rw[E2.out];rfl,gtr HG.out FY.out⟩
         | true =>
          have E2:Hid (tyDF V ds d=tyDF V ds R'):=by show _=_;rw[FX.out.2.2.2,hq];rfl
          clear hq;go_wp2;go_roundw
          case rel=>exact ⟨j+1,R',by omega,by go_num,by omega,by omega,FY.out,FX.out.2.1,FX.out.2.2.1,E2.out⟩
          case measure=>simp [intOf];omega
        ·
         obtain rfl:j=l:=by omega
         obtain rfl:R = .nil:=F.nil_of_len (by omega);have E2:Hid (tyD V ds k (nn0:Int) d=true∧w.grownBy wr none):=⟨by rw[EV.out,HR.out.2.2.2];rfl,gtr HG.out HR.out.1⟩;clear HR IN;go_wp2;go_ret;exact ⟨by rw[E2.out.1];rfl,E2.out.2⟩
     ·
      have EV:Hid (tyD V ds k (nn0:Int) d=false):=by show _=_;rw[ED,EX];simp [hlv]
      have hne:((l:Int) != x.vars)=true:=by simp [hlv]
      try rw[hne]
      clear ED EX;go_wp2;go_ret;exact ⟨by rw[EV.out];rfl,HG.out⟩
    ·
     have EX:dtV ds (nn0:Int) d.len=false:=by
      unfold dtV;rw[Int.toNat_natCast,List.getElem?_eq_none (by omega)]
     have EV:Hid (tyD V ds k (nn0:Int) d=false):=by show _=_;rw[ED,EX];rfl
     have hge:(nn0:Int) ≥ (ld:Int):=by omega
     have hgeb:decide ((nn0:Int) ≥ (ld:Int))=true:=by simp;omega
     clear ED EX;go_enter Tryz.func49,Tryz.ntmps49;go_upto_region 3 with fail;clear x0 x1 x2;generalize w.alloc (.cells #[.int .i64 k,.int .i64 (nn0:Int),.slice a l c] 79)=W0 at *;generalize w.heap.size=p0 at *;have gd:=grown_drew (grf W0 none);have HG1:Hid (w.grownBy W0.drew none):=gtr HG.out gd;have HB1:Hid (W0.drew.heap[p0]? = some (Obj.cells #[.int .i64 k,.int .i64 (nn0:Int),.slice a l c] 79)):=(gd.block _ (lt_of_block HB.out) (by simp)).trans HB.out;clear HG HB gd;refine wp_region_held_drew (S:=(fun u=>Tri p0 0 (.int .i64 k) (.int .i64 (nn0:Int)) (.slice a l c) u)) (by kernel_rfl) (three HB1.out).1 (fun hH=>?_);generalize W0.drew=W1 at *;have HG:Hid (w.grownBy W1 none):=HG1.out;have HB:Hid (W1.heap[p0]? = some (Obj.cells #[.int .i64 k,.int .i64 (nn0:Int),.slice a l c] 79)):=HB1.out;clear HG1 HB1;simp only[List.size_toArray,lB,lC,Nat.reduceAdd,Array.replicate,List.replicate];refine tk 0 ?_
     refine tk 1 ?_;refine tk 2 ?_;refine tk 3 ?_;refine tk 4 ?_;refine tk 5 ?_;refine tk 6 ?_;refine tk 7 ?_;refine tk 8 ?_;refine tk 9 ?_;refine tks 10 ?_;refine tks 11 ?_;refine tks 12 ?_;refine tks 13 ?_;refine tks 14 ?_;refine tks 15 ?_;refine tks 16 ?_;refine tks 17 ?_;refine tks 18 ?_;refine tks 19 ?_;refine tk 20 ?_;refine tk 21 ?_;refine wpAnyH_done (by kernel_rfl) ?_ _;clear hH;go_wp2;go_ret;exact ⟨by rw[EV.out];rfl,HG.out⟩
   ·
    have EV:Hid (tyD V ds k n d=tyDF V ds d):=by show _=_;unfold tyD;rw[if_neg h7,if_neg h6]
    obtain ⟨⟨x0,x1,x2⟩,-⟩:=three HB.out
    have hk7:(k == 7)=false:=by simpa using h7
    have hk6:(k == 6)=false:=by simpa using h6
    clear HF;go_enter Tryz.func49,Tryz.ntmps49;go_upto_region 3 with fail;clear x0 x1 x2;generalize w.alloc (.cells #[.int .i64 k,.int .i64 n,.slice a l c] 79)=W0 at *;generalize w.heap.size=p0 at *;have gd:=grown_drew (grf W0 none);have HG1:Hid (w.grownBy W0.drew none):=gtr HG.out gd;have HB1:Hid (W0.drew.heap[p0]? = some (Obj.cells #[.int .i64 k,.int .i64 n,.slice a l c] 79)):=(gd.block _ (lt_of_block HB.out) (by simp)).trans HB.out;clear HG HB gd;refine wp_region_held_drew (S:=(fun u=>Tri p0 0 (.int .i64 k) (.int .i64 n) (.slice a l c) u)) (by kernel_rfl) (three HB1.out).1 (fun hH=>?_);generalize W0.drew=W1 at *;have HG:Hid (w.grownBy W1 none):=HG1.out;have HB:Hid (W1.heap[p0]? = some (Obj.cells #[.int .i64 k,.int .i64 n,.slice a l c] 79)):=HB1.out;clear HG1 HB1;simp only[List.size_toArray,lB,lC,Nat.reduceAdd,Array.replicate,List.replicate];refine tk 0 ?_;refine tk 1 ?_;refine tk 2 ?_
    refine tk 3 ?_;refine tks 4 ?_;refine tks 5 ?_;refine tks 6 ?_;refine tks 7 ?_;refine tks 8 ?_;refine tks 9 ?_;refine tks 10 ?_;refine tks 11 ?_;refine tks 12 ?_;refine tks 13 ?_;refine tks 14 ?_;refine tks 15 ?_;refine tks 16 ?_;refine tks 17 ?_;refine tks 18 ?_;refine tks 19 ?_;refine tks 20 ?_;refine tk 21 ?_;refine wpAnyH_done (by kernel_rfl) ?_ _;clear hH;rcases HS.out.1.cases with ⟨h1,h2⟩|⟨b,o,h1,hin,-,hpos⟩
    ·
     subst h1 h2;have GF:Hid (w.grownBy W1 none):=HG.out;obtain ⟨⟨x0,x1,x2⟩,-⟩:=three HB.out;go_wp2;refine wp_loop_rounds 1 ?_;rw[rounds_succ];go_wp2;go_ret;exact ⟨by rw[EV.out];rfl,GF.out⟩
    ·
     subst h1;have IN:Hid (InF W1 d b o):=hin.none HG.out;clear hin;go_wp2
     go_loopw [7] (fun i wr=>∃ (j:Nat) (R:F),j≤l∧i = .int .i64 j∧R.len+j=l∧R.size≤d.size∧Hid (W1.grownBy wr none∧InF W1 R b (o+j * 3)∧okF R p=true∧tyDF V ds d=tyDF V ds R)) (fun i _=>l - (intOf i).toNat)
     case atStart=>exact ⟨0,d,Nat.zero_le _,rfl,by omega,Nat.le_refl _,grf _ _,by simpa using IN.out,HS.out.2.1,rfl⟩
     case round =>
      obtain ⟨j,R,hj,rfl,hRl,hRs,HR⟩:=hrel;obtain ⟨⟨x0,x1,x2⟩,-⟩:=three ((HR.out.1.block _ (lt_of_block HB.out) (by simp)).trans HB.out);by_cases hlt:j < l
      ·
       obtain ⟨q1,hq1⟩:∃ q1,R.len=q1+1:=⟨R.len - 1,by omega⟩;obtain ⟨kk,nn,d',R',rfl,hR'⟩:=F.cons_of_len hq1;obtain ⟨hg,hR,hokR,hv⟩:=HR.out;obtain ⟨a',l',c',c0,c1,c2',hd,hR2⟩:=hR.out;rw[show o+j * 3+3=o+(j+1) * 3 by omega] at hR2;simp only[okF,Bool.and_eq_true,decide_eq_true_eq] at hokR;have c0:=hg.cell c0 (by simp);have c1:=hg.cell c1 (by simp);have c2':=hg.cell c2' (by simp);have gw:=gtr HG.out hg;simp only[F.size] at hRs;have CC:Hid _:=IH.out d' kk nn a' l' c' (p - 1) ad ld cd wr (by omega) (by omega) (hd.none hg) (by rw[← hd.1];exact hokR.1.1.2) hokR.1.2 (HS.out.2.2.none gw);have FX:Hid (W1.grownBy wr none∧InF W1 R' b (o+(j+1) * 3)∧okF R' p=true∧tyDF V ds d=(tyD V ds kk nn d' && tyDF V ds R')):=⟨hg,hR2,hokR.2,by rw[hv,tyDF_cons]⟩;clear hg hR hokR hv hd hR2 gw HR IN
       have hlt':(j:Int) < (l:Int):=by omega
       go_wp2_with fail;refine Calls.mono CC.out ?_;rintro e v ⟨he,hgv⟩;subst he;have FY:Hid (W1.grownBy v none):=gtr FX.out.1 hgv;clear CC hgv c0 c1 c2' x0 x1 x2;simp only[]
       cases hq:tyD V ds kk nn d' with
       | false =>
        have E2:Hid (tyD V ds k n d=false):=by show _=_;rw[EV.out,FX.out.2.2.2,hq];rfl
        clear hq;go_wp2;go_ret;exact ⟨by rw[E2.out];rfl,gtr HG.out FY.out⟩
       | true =>
        have E2:Hid (tyDF V ds d=tyDF V ds R'):=by show _=_;rw[FX.out.2.2.2,hq];rfl
        clear hq;go_wp2;go_roundw
        case rel=>exact ⟨j+1,R',by omega,by go_num,by omega,by omega,FY.out,FX.out.2.1,FX.out.2.2.1,E2.out⟩
        case measure=>simp [intOf];omega
      ·
       obtain rfl:j=l:=by omega
       obtain rfl:R = .nil:=F.nil_of_len (by omega);have E2:Hid (tyD V ds k n d=true∧w.grownBy wr none):=⟨by rw[EV.out,HR.out.2.2.2];rfl,gtr HG.out HR.out.1⟩;clear HR IN;go_wp2;go_ret;exact ⟨by rw[E2.out.1];rfl,E2.out.2⟩
end Go.Proofs.YtblbnillilbacaaGreatDoor.By
