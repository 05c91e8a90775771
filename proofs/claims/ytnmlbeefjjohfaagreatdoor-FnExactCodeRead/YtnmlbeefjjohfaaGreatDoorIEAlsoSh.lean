/-
  No statement is proved here.
-/
import Derived.Test.YtnmlbeefjjohfaaGreatDoorGO3AlsoSh
namespace Go.Proofs.YtnmlbeefjjohfaaGreatDoor.By
set_option maxRecDepth 100000
set_option maxHeartbeats 16000000
open Go.RowKit
set_option linter.unusedVariables false
set_option linter.unusedSimpArgs false
def Clo (M m:Nat):Prop:=∀ (d:F) (k n:Int) (a:Option Addr) (l c:Nat) (w:World),d.size < m→SlF w a l d →
  Calls Tryz.prog 76 #[.agg #[.int .i64 k,.int .i64 n,.slice a l c],.int .i64 (M:Int)] w fun e u=>e = .returned (.bool (lowT M k n d))∧w.grownBy u none
theorem l7closedT (M m:Nat):Clo M m:=by
 induction m with
 | zero=>intro d k n a l c w hm;exact absurd hm (Nat.not_lt_zero _)
 | succ m ih =>
  intro d k n a l c w hm h;have hfl:=h.1;have hl:=h.2.1;have IH:Hid (Clo M m):=ih;have HS:Hid (SlF w a l d):=h;have HG:Hid (w.grownBy (w.alloc (.cells #[.int .i64 k,.int .i64 n,.slice a l c] 46)) none):=gal w (.cells #[.int .i64 k,.int .i64 n,.slice a l c] 46) none;have HB:Hid ((w.alloc (.cells #[.int .i64 k,.int .i64 n,.slice a l c] 46)).heap[w.heap.size]? = some (Obj.cells #[.int .i64 k,.int .i64 n,.slice a l c] 46)):=hnw w (.cells #[.int .i64 k,.int .i64 n,.slice a l c] 46);clear ih h;go_enter Tryz.func76,Tryz.ntmps76;go_upto_region 1 with fail;generalize w.alloc (.cells #[.int .i64 k,.int .i64 n,.slice a l c] 46)=W0 at *;generalize w.heap.size=p0 at *;by_cases h7:k=7
  ·
   have EV:Hid (lowT M k n d=false):=by show _=_;unfold lowT;rw[if_pos h7]
   obtain ⟨⟨x0,x1,x2⟩,-⟩:=three HB.out
   have hk7:(k == 7)=true:=by simpa using h7
   clear h7;go_wp2;go_ret;exact ⟨by rw[EV.out];rfl,HG.out⟩
  have hk7:(k == 7)=false:=by simpa using h7
  by_cases h6:k=6
  ·
   have hk6:(k == 6)=true:=by simpa using h6
   have ED:lowT M k n d=(decide (n < M) && decide (d.len=0) && lowF M d):=by unfold lowT;rw[if_neg h7,if_pos h6]
   clear h7 h6;by_cases hn:n ≥ (M:Int)
   ·
    have EV:Hid (lowT M k n d=false):=by show _=_;rw[ED,decide_eq_false (show ¬ n < (M:Int) by omega)];rfl
    obtain ⟨⟨x0,x1,x2⟩,-⟩:=three HB.out;clear ED;go_wp2;go_ret;exact ⟨by rw[EV.out];rfl,HG.out⟩
   by_cases hz:0 < l
   ·
    have hz':(l:Int) > 0:=by omega
    have EV:Hid (lowT M k n d=false):=by show _=_;rw[ED,hfl,decide_eq_false (show ¬ l=0 by omega)];simp
    obtain ⟨⟨x0,x1,x2⟩,-⟩:=three HB.out;clear ED;go_wp2;go_ret;exact ⟨by rw[EV.out];rfl,HG.out⟩
   have hz':¬ (l:Int) > 0:=by omega
   obtain rfl:d = .nil:=F.nil_of_len (by omega)
   have EV:Hid (lowT M k n .nil=true):=by show _=_;rw[ED,decide_eq_true (show n < (M:Int) by omega)];rfl
   obtain ⟨⟨x0,x1,x2⟩,-⟩:=three HB.out
   have hl0:¬ (0:Int) < (l:Int):=by omega
   clear ED;go_wp2;refine wp_loop_rounds 1 ?_;rw[rounds_succ];go_wp2;go_ret;exact ⟨by rw[EV.out];rfl,HG.out⟩
  have hk6:(k == 6)=false:=by simpa using h6
  have EV:Hid (lowT M k n d=lowF M d):=by show _=_;unfold lowT;rw[if_neg h7,if_neg h6]
  clear h7 h6;rcases HS.out.cases with ⟨h1,h2⟩|⟨b,o,h1,hin,-,hpos⟩
  ·
   subst h1 h2;obtain ⟨⟨x0,x1,x2⟩,-⟩:=three HB.out;go_wp2;refine wp_loop_rounds 1 ?_;rw[rounds_succ];go_wp2;go_ret;exact ⟨by rw[EV.out];rfl,HG.out⟩
  ·
   subst h1;have IN:Hid (InF w d b o):=hin;obtain ⟨⟨x0,x1,x2⟩,-⟩:=three HB.out;clear hin;go_wp2;clear x0 x1 x2
   go_loopw [5] (fun i wr=>∃ (j:Nat) (R:F),j≤l∧i = .int .i64 j∧R.len+j=l∧R.size≤d.size∧Hid (w.grownBy wr none∧wr.heap[p0]? = some (Obj.cells #[.int .i64 k,.int .i64 n,.slice (some ⟨b,o,none⟩) l c] 46)∧InF w R b (o+j * 3)∧lowF M d=lowF M R)) (fun i _=>l - (intOf i).toNat)
   case atStart=>exact ⟨0,d,Nat.zero_le _,rfl,by omega,Nat.le_refl _,HG.out,HB.out,by simpa using IN.out,rfl⟩
   case round =>
    obtain ⟨j,R,hj,rfl,hRl,hRs,HR⟩:=hrel;obtain ⟨⟨x0,x1,x2⟩,-⟩:=three HR.out.2.1;by_cases hlt:j < l
    ·
     obtain ⟨q1,hq1⟩:∃ q1,R.len=q1+1:=⟨R.len - 1,by omega⟩;obtain ⟨kk,nn,d',R',rfl,hR'⟩:=F.cons_of_len hq1;obtain ⟨hg,hb,hR,hv⟩:=HR.out;obtain ⟨a',l',c',c0,c1,c2',hd,hR2⟩:=hR.out;rw[show o+j * 3+3=o+(j+1) * 3 by omega] at hR2;have c0:=hg.cell c0 (by simp);have c1:=hg.cell c1 (by simp);have c2':=hg.cell c2' (by simp);simp only[F.size] at hRs
     have hji:(j:Int) < (l:Int):=by omega
     have CC:Hid _:=IH.out d' kk nn a' l' c' wr (by omega) (hd.none hg);have FX:Hid (w.grownBy wr none∧wr.heap[p0]? = some (Obj.cells #[.int .i64 k,.int .i64 n,.slice (some ⟨b,o,none⟩) l c] 46)∧InF w R' b (o+(j+1) * 3)∧lowF M d=(lowT M kk nn d' && lowF M R')):=⟨hg,hb,hR2,by rw[hv,lowF_cons]⟩;clear hg hb hR hv hd hR2 HR IN;go_wp2_with fail;refine Calls.mono CC.out ?_;rintro e v ⟨he,hgv⟩;subst he;have FY:Hid (w.grownBy v none∧v.heap[p0]? = some (Obj.cells #[.int .i64 k,.int .i64 n,.slice (some ⟨b,o,none⟩) l c] 46)):=⟨gtr FX.out.1 hgv,(hgv.block _ (lbk FX.out.2.1) (by simp)).trans FX.out.2.1⟩;clear CC hgv c0 c1 c2' x0 x1 x2;simp only[]
     cases hq:lowT M kk nn d' with
     | false =>
      have E2:Hid (lowT M k n d=false):=by show _=_;rw[EV.out,FX.out.2.2.2,hq];rfl
      clear hq;go_wp2;go_ret;exact ⟨by rw[E2.out];rfl,FY.out.1⟩
     | true =>
      have E2:Hid (lowF M d=lowF M R'):=by show _=_;rw[FX.out.2.2.2,hq];rfl
      clear hq;go_wp2;go_roundw
      case rel=>exact ⟨j+1,R',by omega,by go_num,by simp only[F.len] at hRl;omega,by omega,FY.out.1,FY.out.2,FX.out.2.2.1,E2.out⟩
      case measure=>simp [intOf];omega
    ·
     obtain rfl:j=l:=by omega
     obtain rfl:R = .nil:=F.nil_of_len (by omega);have E2:Hid (lowT M k n d=true∧w.grownBy wr none):=⟨by rw[EV.out,HR.out.2.2.2];rfl,HR.out.1⟩;clear HR IN;go_wp2;go_ret;exact ⟨by rw[E2.out.1];rfl,E2.out.2⟩
theorem l8tysOkT (d:F) (a:Option Addr) (l c:Nat) (most M:Nat) (w:World) (h:SlF w a l d) :
  Calls Tryz.prog 55 #[.slice a l c,.int .i64 (most:Int),.int .i64 (M:Int)] w fun e u=>e = .returned (.bool (decide (d.len≤most) && lwF M d))∧w.grownBy u none:=by
 have hfl:=h.1;have hl:=h.2.1;by_cases hm:most < l
 ·
  have hm':(l:Int) > (most:Int):=by omega
  have E:Hid ((decide (d.len≤most) && lwF M d)=false):=by show _=_;rw[hfl,decide_eq_false (by omega)];rfl
  clear h;go_enter Tryz.func55,Tryz.ntmps55;go_wp2;go_ret;exact ⟨by rw[E.out];rfl,grf _ _⟩
 have hm':¬ (l:Int) > (most:Int):=by omega
 have EV:Hid ((decide (d.len≤most) && lwF M d)=lwF M d):=by show _=_;rw[hfl,decide_eq_true (by omega)];rfl
 rcases h.cases with ⟨rfl,rfl⟩|⟨b,o,rfl,hin,-,hpos⟩
 ·
  clear h;go_enter Tryz.func55,Tryz.ntmps55;go_wp2;refine wp_loop_rounds 1 ?_;rw[rounds_succ];go_wp2;go_ret;exact ⟨by rw[EV.out];rfl,grf _ _⟩
 have IN:Hid (InF w d b o):=hin;clear hin h;go_enter Tryz.func55,Tryz.ntmps55;go_wp2
 go_loopw [7] (fun i wr=>∃ (j:Nat) (R:F),j≤l∧i = .int .i64 j∧R.len+j=l∧Hid (w.grownBy wr none∧InF w R b (o+j * 3)∧lwF M d=lwF M R)) (fun i _=>l - (intOf i).toNat)
 case atStart=>exact ⟨0,d,Nat.zero_le _,rfl,by omega,grf _ _,by simpa using IN.out,rfl⟩
 case round =>
  obtain ⟨j,R,hj,rfl,hRl,HR⟩:=hrel;by_cases hlt:j < l
  ·
   obtain ⟨q1,hq1⟩:∃ q1,R.len=q1+1:=⟨R.len - 1,by omega⟩;obtain ⟨kk,nn,d',R',rfl,hR'⟩:=F.cons_of_len hq1;obtain ⟨hg,hR,hv⟩:=HR.out;obtain ⟨a',l',c',c0,c1,c2',hd,hR2⟩:=hR.out;rw[show o+j * 3+3=o+(j+1) * 3 by omega] at hR2
   have KK:Hid (∀ u,w.grownBy u none→u.cell? ⟨b,o+j * 3,none⟩=some (.int .i64 kk)∧u.cell? ⟨b,o+j * 3+1,none⟩=some (.int .i64 nn)∧u.cell? ⟨b,o+j * 3+2,none⟩=some (.slice a' l' c')):=fun u hu=>⟨hu.cell c0 (by simp),hu.cell c1 (by simp),hu.cell c2' (by simp)⟩
   clear c0 c1 c2';obtain ⟨c0,c1,c2'⟩:=KK.out wr hg
   have hji:(j:Int) < (l:Int):=by omega
   have CC:Hid _:=specTyOkT d' kk nn a' l' c' wr (hd.none hg);have FX:Hid (w.grownBy wr none∧InF w R' b (o+(j+1) * 3)∧lwF M d=(lwT M kk nn d' && lwF M R')∧SlF w a' l' d'):=⟨hg,hR2,hv,hd⟩;clear hg hR hv hd hR2 HR IN;go_wp2_with fail;refine Calls.mono CC.out ?_;rintro e v ⟨he,hgv⟩;subst he;have FY:Hid (w.grownBy v none):=gtr FX.out.1 hgv;clear CC hgv c0 c1 c2';simp only[];obtain ⟨c0,c1,c2'⟩:=KK.out v FY.out
   cases hok:okT kk nn d' with
   | false =>
    have E2:Hid ((decide (d.len≤most) && lwF M d)=false):=by show _=_;rw[EV.out,FX.out.2.2.1];unfold lwT;rw[hok];rfl
    clear hok;go_wp2;go_ret;exact ⟨by rw[E2.out];rfl,FY.out⟩
   | true =>
    have EL:Hid (lwT M kk nn d' = lowT M kk nn d'):=by show _=_;unfold lwT;rw[hok];rfl
    have C2:Hid _:=l7closedT M (d'.size+1) d' kk nn a' l' c' v (Nat.lt_succ_self _) (FX.out.2.2.2.none FY.out);clear hok;go_wp2_with fail;refine Calls.mono C2.out ?_;rintro e v2 ⟨he,hgv⟩;subst he;have FZ:Hid (w.grownBy v2 none):=gtr FY.out hgv;clear C2 hgv c0 c1 c2';simp only[]
    cases hq:lowT M kk nn d' with
    | false =>
     have E2:Hid ((decide (d.len≤most) && lwF M d)=false):=by show _=_;rw[EV.out,FX.out.2.2.1,EL.out,hq];rfl
     clear hq;go_wp2;go_ret;exact ⟨by rw[E2.out];rfl,FZ.out⟩
    | true =>
     have E2:Hid (lwF M d=lwF M R'):=by show _=_;rw[FX.out.2.2.1,EL.out,hq];rfl
     clear hq;go_wp2;go_roundw
     case rel=>exact ⟨j+1,R',by omega,by go_num,by simp only[F.len] at hRl;omega,FZ.out,FX.out.2.1,E2.out⟩
     case measure=>simp [intOf];omega
  ·
   obtain rfl:j=l:=by omega
   obtain rfl:R = .nil:=F.nil_of_len (by omega);have E2:Hid ((decide (d.len≤most) && lwF M d)=true∧w.grownBy wr none):=⟨by rw[EV.out,HR.out.2.2];rfl,HR.out.1⟩;clear HR IN;go_wp2;go_ret;exact ⟨by rw[E2.out.1];rfl,E2.out.2⟩
theorem l7layoutsOkT (xs:List RLayout) (a:Option Addr) (l c:Nat) (w:World) (h:SlLayout w a l xs) :
    Calls Tryz.prog 54 #[.slice a l c] w fun e u=>e = .returned (.bool (laysV xs))∧w.grownBy u none:=by
  have hl:=h.2.1;have hfl:=h.1;by_cases h20:20 < l
  · have h20':(l:Int) > 20:=by omega
    have E:Hid (laysV xs=false):=by show _=_;unfold laysV;rw[hfl];simp;omega
    clear h;go_enter Tryz.func54,Tryz.ntmps54;go_wp2;go_ret;exact ⟨by rw[E.out];rfl,grf _ _⟩
  have h20':¬ (l:Int) > 20:=by omega
  have EV:Hid (laysV xs=xs.all (layV l)):=by show _=_;unfold laysV;rw[hfl];simp;omega
  rcases h.cases with ⟨rfl,rfl⟩|⟨b,o,rfl,hin,hpos⟩
  · clear h
    go_enter Tryz.func54,Tryz.ntmps54;go_wp2;refine wp_loop_rounds 1 ?_;rw[rounds_succ];go_wp2;go_ret;exact ⟨by rw[EV.out];rfl,grf _ _⟩
  have IN:Hid (InLayout w w xs b o):=hin;clear hin h;go_enter Tryz.func54,Tryz.ntmps54;go_wp2
  go_loopw [3] (fun i wr=>∃ (j:Nat) (R:List RLayout),j≤l∧i = .int .i64 j∧R.length+j=l∧Hid (w.grownBy wr none∧InLayout w w R b (o+j * 1)∧laysV xs=R.all (layV l))) (fun i _=>l - (intOf i).toNat)
  case atStart=>exact ⟨0,xs,Nat.zero_le _,rfl,by omega,grf _ _,by simpa using IN.out,EV.out⟩
  case round =>
    obtain ⟨j,R,hj,rfl,hRl,HR⟩:=hrel;by_cases hlt:j < l
    · obtain ⟨x,R',rfl⟩:∃ x R',R=x::R':=by
        cases R with
        | nil=>simp at hRl;omega
        | cons x R'=>exact ⟨x,R',rfl⟩
      obtain ⟨hg,⟨⟨a1,l1,c1,k0,hd⟩,hR2⟩,hv⟩:=HR.out;have hd':SlTys w a1 l1 x.cons:=hd;rw[show o+j * 1+1=o+(j+1) * 1 by omega] at hR2;simp only[Nat.mul_one] at k0
      have KL:Hid (∀ u,w.grownBy u none→u.cell? ⟨b,o+j,none⟩=some (.slice a1 l1 c1)):=fun u hu=>hu.cell k0 (by simp)
      clear k0;have k0:=KL.out wr hg;simp only[List.all_cons] at hv;simp only[lB] at hRl;have hcl:=hd'.1;have hcm:=hd'.2.1
      have hji:(j:Int) < (l:Int):=by omega
      have FX:Hid (w.grownBy wr none∧InLayout w w R' b (o+(j+1) * 1)∧laysV xs=(layV l x && R'.all (layV l))∧SlTys w a1 l1 x.cons):=⟨hg,hR2,hv,hd'⟩;clear hg hd hd' hR2 hv HR IN EV;by_cases q1:l1 < 1
      · have E:Hid (laysV xs=false):=by show _=_;rw[FX.out.2.2.1];have:layV l x=false:=(by (unfold layV;rw[hcl];simp;omega));rw[this];rfl
        have q1':(l1:Int) < 1:=by omega
        go_wp2;go_ret;exact ⟨by rw[E.out];rfl,FX.out.1⟩
      have q1':¬ (l1:Int) < 1:=by omega
      by_cases q5:5 < l1
      · have E:Hid (laysV xs=false):=by show _=_;rw[FX.out.2.2.1];have:layV l x=false:=(by (unfold layV;rw[hcl];simp;omega));rw[this];rfl
        have q5':(l1:Int) > 5:=by omega
        go_wp2;go_ret;exact ⟨by rw[E.out];rfl,FX.out.1⟩
      have q5':¬ (l1:Int) > 5:=by omega
      have EL:Hid (layV l x=x.cons.all (conV l)):=by show _=_;unfold layV;rw[hcl];have e1:decide (1≤l1)=true:=(by simp;omega);have e2:decide (l1≤5)=true:=(by simp;omega);rw[e1,e2];rfl
      obtain ⟨b1,o1,rfl,hin1⟩:∃ b1 o1,a1=some ⟨b1,o1,none⟩∧InTys w w x.cons b1 o1:=by
        rcases FX.out.2.2.2.2.2 with h|h
        · omega
        · exact h
      have I1:Hid (InTys w w x.cons b1 o1):=hin1;clear hin1;go_wp2
      go_loopw [4] (fun i ww=>∃ (m:Nat) (Q:List F),m≤l1∧i = .int .i64 m∧Q.length+m=l1∧Hid (w.grownBy ww none∧InTys w w Q b1 (o1+m * 1)∧layV l x=Q.all (conV l))) (fun i _=>l1 - (intOf i).toNat)
      case atStart=>exact ⟨0,x.cons,Nat.zero_le _,rfl,by omega,FX.out.1,by simpa using I1.out,EL.out⟩
      case round =>
        clear k0;obtain ⟨m,Q,hm,rfl,hQl,HQ⟩:=hrel;have k0:=KL.out wr HQ.out.1;by_cases hlt2:m < l1
        · obtain ⟨y,Q',rfl⟩:∃ x R',Q=x::R':=by
            cases Q with
            | nil=>simp at hQl;omega
            | cons x R'=>exact ⟨x,R',rfl⟩
          obtain ⟨hg,⟨⟨a2,l2,c2,z0,hy⟩,hQ2⟩,hv⟩:=HQ.out;rw[show o1+m * 1+1=o1+(m+1) * 1 by omega] at hQ2;simp only[Nat.mul_one] at z0
          have KC:Hid (∀ u,w.grownBy u none→u.cell? ⟨b1,o1+m,none⟩=some (.slice a2 l2 c2)):=fun u hu=>hu.cell z0 (by simp)
          clear z0;have z0:=KC.out wr hg;simp only[List.all_cons] at hv;simp only[lB] at hQl;have hyl:=hy.1;have hym:=hy.2.1
          have hmi:(m:Int) < (l1:Int):=by omega
          by_cases q3:3 < l2
          · have E:Hid (laysV xs=false∧w.grownBy wr none):=⟨by rw[FX.out.2.2.1,hv];have:conV l y=false:=(by (unfold conV;rw[hyl];simp;omega));rw[this];rfl,hg⟩
            have q3':(l2:Int) > 3:=by omega
            clear hg hy hQ2 hv HQ;go_wp2;go_ret;exact ⟨by rw[E.out.1];rfl,E.out.2⟩
          have q3':¬ (l2:Int) > 3:=by omega
          have EC:Hid (conV l y=lwF l y):=by show _=_;unfold conV;rw[hyl];have e1:decide (l2≤3)=true:=(by simp;omega);rw[e1];rfl
          have FQ:Hid (w.grownBy wr none∧InTys w w Q' b1 (o1+(m+1) * 1)∧layV l x=(conV l y && Q'.all (conV l))∧SlF w a2 l2 y):=⟨hg,hQ2,hv,hy⟩;clear hg hy hQ2 hv HQ
          have IL:Hid (∀ b2 o2,a2=some ⟨b2,o2,none⟩→0 < l2→InF w y b2 o2):=fun b2 o2 e hp=>by
            rcases FQ.out.2.2.2.cases with ⟨h,_⟩|⟨b',o',h,hi,_⟩
            · omega
            · rw[e] at h;injection h with h;injection h with h1 h2;subst h1 h2;exact hi
          have IA:Hid (0 < l2→∃ b2 o2,a2=some ⟨b2,o2,none⟩):=fun hp=>by
            rcases FQ.out.2.2.2.cases with ⟨h,_⟩|⟨b',o',h,hi,_⟩
            · omega
            · exact ⟨b',o',h⟩
          go_wp2
          go_loopw [5] (fun i ww=>∃ (t:Nat) (S:F),t≤l2∧i = .int .i64 t∧S.len+t=l2∧Hid (w.grownBy ww none∧(∀ b2 o2,a2=some ⟨b2,o2,none⟩→0 < l2→InF w S b2 (o2+t * 3))∧conV l y=lwF l S)) (fun i _=>l2 - (intOf i).toNat)
          case atStart=>exact ⟨0,y,Nat.zero_le _,rfl,by omega,FQ.out.1,fun b2 o2 e hp=>by simpa using IL.out b2 o2 e hp,EC.out⟩
          case round =>
            clear k0 z0;obtain ⟨t,S,ht,rfl,hSl,HT⟩:=hrel;have k0:=KL.out wr HT.out.1;have z0:=KC.out wr HT.out.1;by_cases hlt3:t < l2
            · obtain ⟨b2,o2,rfl⟩:=IA.out (by omega)
              obtain ⟨q9,hq9⟩:∃ q9,S.len=q9+1:=⟨S.len - 1,by omega⟩;obtain ⟨kk,nn,d',S',rfl,hS'⟩:=F.cons_of_len hq9;obtain ⟨hg,hS,hv⟩:=HT.out;obtain ⟨a',l',c',c0,c1',c2',hd,hS2⟩:=(hS b2 o2 rfl (by omega)).out;rw[show o2+t * 3+3=o2+(t+1) * 3 by omega] at hS2
              have KK:Hid (∀ u,w.grownBy u none→u.cell? ⟨b2,o2+t * 3,none⟩=some (.int .i64 kk)∧u.cell? ⟨b2,o2+t * 3+1,none⟩=some (.int .i64 nn)∧u.cell? ⟨b2,o2+t * 3+2,none⟩=some (.slice a' l' c')):=fun u hu=>⟨hu.cell c0 (by simp),hu.cell c1' (by simp),hu.cell c2' (by simp)⟩
              clear c0 c1' c2';obtain ⟨c0,c1',c2'⟩:=KK.out wr hg
              have hti:(t:Int) < (l2:Int):=by omega
              have CC:Hid _:=specTyOkT d' kk nn a' l' c' wr (hd.none hg);have FT:Hid (w.grownBy wr none∧(∀ b2' o2',some (⟨b2,o2,none⟩:Addr)=some ⟨b2',o2',none⟩→0 < l2→InF w S' b2' (o2' + (t+1) * 3))∧conV l y=(lwT l kk nn d' && lwF l S')∧SlF w a' l' d'):=⟨hg,fun b' o' e _=>by injection e with e;injection e with h1 h2;subst h1 h2;exact hS2,hv,hd⟩;clear hg hS hv hd hS2 HT;go_wp2_with fail;refine Calls.mono CC.out ?_;rintro e v ⟨he,hgv⟩;subst he;have FY:Hid (w.grownBy v none):=gtr FT.out.1 hgv;clear CC hgv c0 c1' c2' k0 z0;simp only[];have k0:=KL.out v FY.out;have z0:=KC.out v FY.out;obtain ⟨c0,c1',c2'⟩:=KK.out v FY.out
              cases hok:okT kk nn d' with
              | false =>
                have E2:Hid (laysV xs=false):=by show _=_;rw[FX.out.2.2.1,FQ.out.2.2.1,FT.out.2.2.1];unfold lwT;rw[hok];rfl
                clear hok;go_wp2;go_ret;exact ⟨by rw[E2.out];rfl,FY.out⟩
              | true =>
                have EK:Hid (lwT l kk nn d' = lowT l kk nn d'):=by show _=_;unfold lwT;rw[hok];rfl
                have C2:Hid _:=l7closedT l (d'.size+1) d' kk nn a' l' c' v (Nat.lt_succ_self _) (FT.out.2.2.2.none FY.out);clear hok;go_wp2_with fail;refine Calls.mono C2.out ?_;rintro e v2 ⟨he,hgv⟩;subst he;have FZ:Hid (w.grownBy v2 none):=gtr FY.out hgv;clear C2 hgv c0 c1' c2' k0 z0;simp only[]
                cases hq:lowT l kk nn d' with
                | false =>
                  have E2:Hid (laysV xs=false):=by show _=_;rw[FX.out.2.2.1,FQ.out.2.2.1,FT.out.2.2.1,EK.out,hq];rfl
                  clear hq;go_wp2;go_ret;exact ⟨by rw[E2.out];rfl,FZ.out⟩
                | true =>
                  have E2:Hid (conV l y=lwF l S'):=by show _=_;rw[FT.out.2.2.1,EK.out,hq];rfl
                  clear hq;go_wp2;go_roundw
                  case rel=>exact ⟨t+1,S',by omega,by go_num,by simp only[F.len] at hSl;omega,FZ.out,FT.out.2.1,E2.out⟩
                  case measure=>simp [intOf];omega
            · obtain rfl:t=l2:=by omega
              obtain rfl:S = .nil:=F.nil_of_len (by omega);have FW:Hid (w.grownBy wr none∧InTys w w Q' b1 (o1+(m+1) * 1)∧layV l x=Q'.all (conV l)):=⟨HT.out.1,FQ.out.2.1,by rw[FQ.out.2.2.1,HT.out.2.2];rfl⟩;clear HT FQ;go_wp2;go_roundw
              case rel=>exact ⟨m+1,Q',by omega,by go_num,by omega,FW⟩
              case measure=>simp [intOf];omega
        · obtain rfl:m=l1:=by omega
          obtain rfl:Q=[]:=lz0 (by omega);have FZ:Hid (w.grownBy wr none∧InLayout w w R' b (o+(j+1) * 1)∧laysV xs=R'.all (layV l)):=⟨HQ.out.1,FX.out.2.1,by rw[FX.out.2.2.1,HQ.out.2.2];rfl⟩;clear HQ FX;go_wp2;go_roundw
          case rel=>exact ⟨j+1,R',by omega,by go_num,by omega,FZ⟩
          case measure=>simp [intOf];omega
    · obtain rfl:j=l:=by omega
      obtain rfl:R=[]:=lz0 (by omega);have E2:Hid (laysV xs=true∧w.grownBy wr none):=⟨HR.out.2.2,HR.out.1⟩;clear HR IN;go_wp2;go_ret;exact ⟨by rw[E2.out.1];rfl,E2.out.2⟩
theorem specInsT (x:RIns) (a1:Option Addr) (l1 c1:Nat) (a2:Option Addr) (l2 c2:Nat) (w:World) (h:RdIns w x a1 l1 a2 l2) :
  Calls Tryz.prog 57 #[.agg #[.int .i64 x.op,.int .i64 x.a,.int .i64 x.b,.slice a1 l1 c1,.slice a2 l2 c2]] w fun e u=>e = .returned (.bool (specIns x))∧w.grownBy u none:=by
 have g0:=gal w (.cells #[.int .i64 x.op,.int .i64 x.a,.int .i64 x.b,.slice a1 l1 c1,.slice a2 l2 c2] 52) none;have b0:=hnw w (.cells #[.int .i64 x.op,.int .i64 x.a,.int .i64 x.b,.slice a1 l1 c1,.slice a2 l2 c2] 52);obtain ⟨⟨y0,y1,y2,y3,y4⟩,-⟩:=blk5 b0;have G0:Hid (w.grownBy (w.alloc (.cells #[.int .i64 x.op,.int .i64 x.a,.int .i64 x.b,.slice a1 l1 c1,.slice a2 l2 c2] 52)) none):=g0;have HLT:Hid (RdB (w.alloc (.cells #[.int .i64 x.op,.int .i64 x.a,.int .i64 x.b,.slice a1 l1 c1,.slice a2 l2 c2] 52)) a1 l1 x.lit):=h.1.none g0;have HL2:Hid (x.tos.length=l2):=h.2.1.1;have hl1:=h.1.1.1;have hl2:=h.2.1.1;have hm1:=h.1.2.2;have hm2:=h.2.2;have TT:Hid True:=trivial
 have HCS:Hid ((l2=0∧x.tos=[])∨∃ b o,a2=some ⟨b,o,none⟩∧DrI (w.alloc (.cells #[.int .i64 x.op,.int .i64 x.a,.int .i64 x.b,.slice a1 l1 c1,.slice a2 l2 c2] 52)) b o x.tos∧0 < l2):=by
  show _∨_
  by_cases h0:l2=0
  ·
   exact .inl ⟨h0,lz0 (by omega)⟩
  ·
   rcases (h.2.none g0).1.2 with h2|⟨b,o,e,h2⟩
   ·
    exact absurd h2 h0
   ·
    exact .inr ⟨b,o,e,fun i hi=>h2 i (by omega),by omega⟩
 have HP:Hid _:=l8partsT x.op (w.alloc (.cells #[.int .i64 x.op,.int .i64 x.a,.int .i64 x.b,.slice a1 l1 c1,.slice a2 l2 c2] 52))
 have HSI:Hid (specIns x=(opOk x.op && (if x.op=1 then wholeV x.a else !cA x.a (partV x.op)) && !c9 x.b l1 l2 (partV x.op) && !x.tos.any noNum && litV x.lit)):=by show _=_;unfold specIns;rw[hl1,hl2]
 have HWH:Hid _:=l5intOkT x.a (w.alloc (.cells #[.int .i64 x.op,.int .i64 x.a,.int .i64 x.b,.slice a1 l1 c1,.slice a2 l2 c2] 52));clear h g0 b0 hl1 hl2;obtain ⟨op,a,b,lit,tos⟩:=x;simp only[] at *;go_enter Tryz.func57,Tryz.ntmps57;go_upto_region 1 with fail;generalize w.alloc (.cells #[.int .i64 op,.int .i64 a,.int .i64 b,.slice a1 l1 c1,.slice a2 l2 c2] 52)=w0 at *;generalize w.heap.size=p0 at *;by_cases h1:op < 0
 ·
  have E:Hid (specIns ⟨op,a,b,lit,tos⟩=false):=by
   show _=_
   have:opOk op=false:=by simp [opOk];omega
   rw[HSI.out,this];rfl
  go_wp2;go_ret;exact ⟨by rw[E.out];rfl,G0.out⟩
 by_cases h2:op > 31
 ·
  have E:Hid (specIns ⟨op,a,b,lit,tos⟩=false):=by
   show _=_
   have:opOk op=false:=by simp [opOk];omega
   rw[HSI.out,this];rfl
  go_wp2;go_ret;exact ⟨by rw[E.out];rfl,G0.out⟩
 have HO:Hid (opOk op=true):=by show _=_;simp [opOk];omega
 go_wp2_with fail;refine Calls.mono HP.out ?_;rintro e u ⟨rfl,hx⟩;obtain rfl:w0=u:=hx.symm;clear HP
 have HSJ:Hid (specIns ⟨op,a,b,lit,tos⟩=((if op=1 then wholeV a else !cA a (partV op)) && !c9 b l1 l2 (partV op) && !tos.any noNum && litV lit)):=by show _=_;rw[HSI.out,HO.out,Bool.true_and]
 clear HSI HO;simp only[];generalize hk:partV op=k at *;clear hk;by_cases ho:op=1
 ·
  subst ho;go_wp2_with fail;refine Calls.mono HWH.out ?_;rintro e u' ⟨rfl,hx⟩;obtain rfl:w0=u':=hx.symm;clear HWH;simp only[]
  cases hw:wholeV a with
  | false =>
   have E:Hid (specIns ⟨1,a,b,lit,tos⟩=false):=by show _=_;rw[HSJ.out];simp [hw]
   go_wp2;go_ret;exact ⟨by rw[E.out];rfl,G0.out⟩
  | true =>
   have EA1:Hid ((c9 b l1 l2 k=true→specIns ⟨1,a,b,lit,tos⟩=false)∧(c9 b l1 l2 k=false→specIns ⟨1,a,b,lit,tos⟩=(!tos.any noNum && litV lit))):=by
    refine ⟨fun h=>?_,fun h=>?_⟩ <;> (rw[HSJ.out];simp [hw,h])
   clear HSJ hw;go_upto_region 9 with fail
   go_cut [91] (fun s wx=>s = .bool (c9 b l1 l2 k)∧wx=w0)
   case first=>as_aux_lemma =>
    by_cases hb0:b < 0
    ·
     skip
     go_wp2;go_meet
     case rel=>exact ⟨by rw[c9];simp [hb0],rfl⟩
    by_cases hb1:b > 2147483647
    ·
     have hb1':2147483647 < b:=hb1;go_wp2;go_meet
     case rel=>exact ⟨by rw[c9];simp [hb1'],rfl⟩
    have hb0':0≤b:=by omega
    have hb1':b≤2147483647:=by omega
    by_cases hbz:b=0
    ·
     subst hbz;by_cases hz:0 < l1
     ·
      have hz':(l1:Int) > 0:=by omega
      by_cases h4:k=4
      ·
       subst h4;by_cases h20:20 < l1
       ·
        have h20':(l1:Int) > 20:=by omega
        go_wp2;go_meet
        case rel=>exact ⟨by rw[c9];simp [Bool.not_true,h20],rfl⟩
       ·
        have h20':¬ (l1:Int) > 20:=by omega
        have hl20:l1≤20:=by omega
        by_cases h5:5 < l2
        ·
         have h5':(l2:Int) > 5:=by omega
         go_wp2;go_meet
         case rel=>exact ⟨by simp [c9,h5],rfl⟩
        ·
         have h5':¬ (l2:Int) > 5:=by omega
         have hl5:l2≤5:=by omega
         by_cases h0:0 < l2
         ·
          have h0':(l2:Int) > 0:=by omega
          go_wp2;go_meet
          case rel=>exact ⟨by rw[c9];simp [Bool.not_true,h20,hl20,h5,h0,hl5],rfl⟩
         ·
          have h0':¬ (l2:Int) > 0:=by omega
          go_wp2;go_meet
          case rel=>exact ⟨by rw[c9];simp [Bool.not_true,h20,hl20,h5,h0,hl5],rfl⟩
      ·
       have k4:(k != 4)=true:=by simpa using h4
       go_wp2;go_meet
       case rel=>exact ⟨by rw[c9];simp [Bool.not_true,hz,h4],rfl⟩
     ·
      have hz':¬ (l1:Int) > 0:=by omega
      have h20':¬ (l1:Int) > 20:=by omega
      have h20:¬ 20 < l1:=by omega
      by_cases h5:5 < l2
      ·
       have h5':(l2:Int) > 5:=by omega
       go_wp2;go_meet
       case rel=>exact ⟨by simp [c9,h5],rfl⟩
      ·
       have h5':¬ (l2:Int) > 5:=by omega
       have hl5:l2≤5:=by omega
       by_cases h0:0 < l2
       ·
        have h0':(l2:Int) > 0:=by omega
        by_cases h3:k=3
        ·
         subst h3;go_wp2;go_meet
         case rel=>exact ⟨by rw[c9];simp [Bool.not_true,hz,h20,h5,h0,hl5],rfl⟩
        ·
         have k3:(k == 3)=false:=by simpa using h3
         go_wp2;go_meet
         case rel=>exact ⟨by rw[c9];simp [Bool.not_true,hz,h20,h3,h5,h0,hl5],rfl⟩
       ·
        have h0':¬ (l2:Int) > 0:=by omega
        by_cases h3:k=3
        ·
         subst h3;go_wp2;go_meet
         case rel=>exact ⟨by rw[c9];simp [Bool.not_true,hz,h20,h5,h0,hl5],rfl⟩
        ·
         have k3:(k == 3)=false:=by simpa using h3
         go_wp2;go_meet
         case rel=>exact ⟨by rw[c9];simp [Bool.not_true,hz,h20,h3,h5,h0,hl5],rfl⟩
    ·
     have hbn:(b != 0)=true:=by simpa using hbz
     by_cases h2:k=2
     ·
      subst h2;by_cases hz:0 < l1
      ·
       have hz':(l1:Int) > 0:=by omega
       go_wp2;go_meet
       case rel=>exact ⟨by rw[c9];simp [hb0',hb1',hz],rfl⟩
      ·
       have hz':¬ (l1:Int) > 0:=by omega
       have h20':¬ (l1:Int) > 20:=by omega
       have h20:¬ 20 < l1:=by omega
       by_cases h5:5 < l2
       ·
        have h5':(l2:Int) > 5:=by omega
        go_wp2;go_meet
        case rel=>exact ⟨by simp [c9,h5],rfl⟩
       ·
        have h5':¬ (l2:Int) > 5:=by omega
        have hl5:l2≤5:=by omega
        by_cases h0:0 < l2
        ·
         have h0':(l2:Int) > 0:=by omega
         go_wp2;go_meet
         case rel=>exact ⟨by rw[c9];simp [hb0',hb1',hz,h20,h5,h0,hl5],rfl⟩
        ·
         have h0':¬ (l2:Int) > 0:=by omega
         go_wp2;go_meet
         case rel=>exact ⟨by rw[c9];simp [hb0',hb1',hz,h20,h5,h0,hl5],rfl⟩
     ·
      have k2:(k != 2)=true:=by simpa using h2
      go_wp2;go_meet
      case rel=>exact ⟨by rw[c9];simp [hbz,h2],rfl⟩
   case rest =>
    obtain ⟨rfl,hx⟩:=hcut;obtain rfl:w0=wc:=hx.symm
    cases hc9:c9 b l1 l2 k with
    | true =>
     have E:Hid (specIns ⟨1,a,b,lit,tos⟩=false):=EA1.out.1 hc9;go_wp2;go_ret;exact ⟨by rw[E.out];rfl,G0.out⟩
    | false =>
     have EB:Hid (specIns ⟨1,a,b,lit,tos⟩=(!tos.any noNum && litV lit)):=EA1.out.2 hc9;clear EA1 hc9;have CL:Hid _:=TT.out;rcases HCS.out with ⟨rfl,ht⟩|⟨bb,oo,rfl,hin,hpos⟩
     ·
      have CC:Hid _:=l5litT a1 l1 c1 lit w0 HLT.out
      have ES:Hid (specIns ⟨1,a,b,lit,tos⟩=litV lit):=by show _=_;rw[EB.out,ht];simp
      go_wp2_with fail;refine wp_loop_rounds 1 ?_;rw[rounds_succ];go_wp2_with fail;refine Calls.mono CC.out ?_;rintro e u ⟨rfl,hg⟩;have G9:Hid (w.grownBy u none):=gtr G0.out hg;clear CC hg;simp only[];go_wp2;go_ret;exact ⟨by rw[ES.out];rfl,G9.out⟩
     have IN:Hid (DrI w0 bb oo tos):=hin;clear hin;go_wp2_with fail
     go_loopw [4] (fun i wr=>∃ (j:Nat) (R:List Int),j≤l2∧i = .int .i64 j∧R.length+j=l2∧wr=w0∧Hid (DrI w0 bb (oo+j) R∧tos.any noNum=R.any noNum)) (fun i _=>l2 - (intOf i).toNat)
     case atStart=>exact ⟨0,tos,Nat.zero_le _,rfl,by have:=HL2.out;omega,rfl,by simpa using IN.out,rfl⟩
     case round =>
      obtain ⟨j,R,hj,rfl,hRl,hx,HR⟩:=hrel;obtain rfl:w0=wr:=hx.symm;by_cases hlt:j < l2
      ·
       obtain ⟨z,R',rfl⟩:∃ x R',R=x::R':=by
        cases R with
        | nil=>simp at hRl;omega
        | cons x R'=>exact ⟨x,R',rfl⟩
       obtain ⟨hR,hv⟩:=HR.out;obtain ⟨k0,hT⟩:=hR.tl;rw[show oo+j+1=oo+(j+1) by omega] at hT;simp only[List.any_cons] at hv;simp only[lB] at hRl;have FX:Hid (DrI w0 bb (oo+(j+1)) R'∧tos.any noNum=(noNum z || R'.any noNum)):=⟨hT,hv⟩;clear hR hT hv HR IN
       have hji:(j:Int) < (l2:Int):=by omega
       by_cases z0:z < 0
       ·
        have ES:Hid (specIns ⟨1,a,b,lit,tos⟩=false):=by
         show _=_
         have:noNum z=true:=by simp [noNum,numV];omega
         rw[EB.out,FX.out.2,this];rfl
        go_wp2;go_ret;exact ⟨by rw[ES.out];rfl,G0.out⟩
       by_cases z1:z > 2147483647
       ·
        have ES:Hid (specIns ⟨1,a,b,lit,tos⟩=false):=by
         show _=_
         have:noNum z=true:=by simp [noNum,numV];omega
         rw[EB.out,FX.out.2,this];rfl
        go_wp2;go_ret;exact ⟨by rw[ES.out];rfl,G0.out⟩
       have FY:Hid (DrI w0 bb (oo+(j+1)) R'∧tos.any noNum=R'.any noNum):=⟨FX.out.1,by
        have:noNum z=false:=by simp [noNum,numV];omega
        rw[FX.out.2,this,Bool.false_or]⟩
       clear FX;go_wp2;go_roundw
       case rel=>exact ⟨j+1,R',by omega,by go_num,by omega,by first|rfl|trivial,FY⟩
       case measure=>simp [intOf];omega
      ·
       obtain rfl:j=l2:=by omega
       obtain rfl:R=[]:=lz0 (by omega);have CC:Hid _:=l5litT a1 l1 c1 lit w0 HLT.out
       have ES:Hid (specIns ⟨1,a,b,lit,tos⟩=litV lit):=by show _=_;rw[EB.out,HR.out.2];simp
       go_wp2_with fail;refine Calls.mono CC.out ?_;rintro e u ⟨rfl,hg⟩;have G9:Hid (w.grownBy u none):=gtr G0.out hg;clear CC hg;simp only[];go_wp2;go_ret;exact ⟨by rw[ES.out];rfl,G9.out⟩
 ·
  have ho1:(op == 1)=false:=by simpa using ho
  go_upto_region 7 with fail
  go_cut [43] (fun s wx=>s = .bool (cA a k)∧wx=w0)
  case first=>as_aux_lemma =>
   by_cases a0:a < 0
   ·
    skip
    go_wp2;go_meet
    case rel=>exact ⟨by simp [cA,a0],rfl⟩
   by_cases a1:a > 2147483647
   ·
    have a1':2147483647 < a:=a1;go_wp2;go_meet
    case rel=>exact ⟨by simp [cA,a1'],rfl⟩
   have a1':¬ 2147483647 < a:=a1;by_cases az:a=0
   ·
    subst az;go_wp2;go_meet
    case rel=>exact ⟨by simp [cA],rfl⟩
   have an:(a != 0)=true:=by simpa using az
   by_cases k0:k=0
   ·
    subst k0;go_wp2;go_meet
    case rel=>exact ⟨by simp [cA,a0,a1',az],rfl⟩
   have k0':(k == 0)=false:=by simpa using k0
   by_cases k4:k=4
   ·
    subst k4;go_wp2;go_meet
    case rel=>exact ⟨by simp [cA,a0,a1',az],rfl⟩
   have k4':(k == 4)=false:=by simpa using k4
   go_wp2;go_meet
   case rel=>exact ⟨by simp [cA,a0,a1',az,k0,k4],rfl⟩
  case rest =>
   obtain ⟨rfl,hx⟩:=hcut;obtain rfl:w0=wc:=hx.symm
   cases hw:cA a k with
   | true =>
    have E:Hid (specIns ⟨op,a,b,lit,tos⟩=false):=by show _=_;rw[HSJ.out,if_neg ho,hw];rfl
    go_wp2;go_ret;exact ⟨by rw[E.out];rfl,G0.out⟩
   | false =>
    have EA2:Hid ((c9 b l1 l2 k=true→specIns ⟨op,a,b,lit,tos⟩=false)∧(c9 b l1 l2 k=false→specIns ⟨op,a,b,lit,tos⟩=(!tos.any noNum && litV lit))):=by
     refine ⟨fun h=>?_,fun h=>?_⟩ <;> (rw[HSJ.out,if_neg ho,hw,h];rfl)
    clear HSJ hw;go_upto_region 9 with fail
    go_cut [91] (fun s wx=>s = .bool (c9 b l1 l2 k)∧wx=w0)
    case first=>as_aux_lemma =>
     by_cases hb0:b < 0
     ·
      skip
      go_wp2;go_meet
      case rel=>exact ⟨by rw[c9];simp [hb0],rfl⟩
     by_cases hb1:b > 2147483647
     ·
      have hb1':2147483647 < b:=hb1;go_wp2;go_meet
      case rel=>exact ⟨by rw[c9];simp [hb1'],rfl⟩
     have hb0':0≤b:=by omega
     have hb1':b≤2147483647:=by omega
     by_cases hbz:b=0
     ·
      subst hbz;by_cases hz:0 < l1
      ·
       have hz':(l1:Int) > 0:=by omega
       by_cases h4:k=4
       ·
        subst h4;by_cases h20:20 < l1
        ·
         have h20':(l1:Int) > 20:=by omega
         go_wp2;go_meet
         case rel=>exact ⟨by rw[c9];simp [Bool.not_true,h20],rfl⟩
        ·
         have h20':¬ (l1:Int) > 20:=by omega
         have hl20:l1≤20:=by omega
         by_cases h5:5 < l2
         ·
          have h5':(l2:Int) > 5:=by omega
          go_wp2;go_meet
          case rel=>exact ⟨by simp [c9,h5],rfl⟩
         ·
          have h5':¬ (l2:Int) > 5:=by omega
          have hl5:l2≤5:=by omega
          by_cases h0:0 < l2
          ·
           have h0':(l2:Int) > 0:=by omega
           go_wp2;go_meet
           case rel=>exact ⟨by rw[c9];simp [Bool.not_true,h20,hl20,h5,h0,hl5],rfl⟩
          ·
           have h0':¬ (l2:Int) > 0:=by omega
           go_wp2;go_meet
           case rel=>exact ⟨by rw[c9];simp [Bool.not_true,h20,hl20,h5,h0,hl5],rfl⟩
       ·
        have k4:(k != 4)=true:=by simpa using h4
        go_wp2;go_meet
        case rel=>exact ⟨by rw[c9];simp [Bool.not_true,hz,h4],rfl⟩
      ·
       have hz':¬ (l1:Int) > 0:=by omega
       have h20':¬ (l1:Int) > 20:=by omega
       have h20:¬ 20 < l1:=by omega
       by_cases h5:5 < l2
       ·
        have h5':(l2:Int) > 5:=by omega
        go_wp2;go_meet
        case rel=>exact ⟨by simp [c9,h5],rfl⟩
       ·
        have h5':¬ (l2:Int) > 5:=by omega
        have hl5:l2≤5:=by omega
        by_cases h0:0 < l2
        ·
         have h0':(l2:Int) > 0:=by omega
         by_cases h3:k=3
         ·
          subst h3;go_wp2;go_meet
          case rel=>exact ⟨by rw[c9];simp [Bool.not_true,hz,h20,h5,h0,hl5],rfl⟩
         ·
          have k3:(k == 3)=false:=by simpa using h3
          go_wp2;go_meet
          case rel=>exact ⟨by rw[c9];simp [Bool.not_true,hz,h20,h3,h5,h0,hl5],rfl⟩
        ·
         have h0':¬ (l2:Int) > 0:=by omega
         by_cases h3:k=3
         ·
          subst h3;go_wp2;go_meet
          case rel=>exact ⟨by rw[c9];simp [Bool.not_true,hz,h20,h5,h0,hl5],rfl⟩
         ·
          have k3:(k == 3)=false:=by simpa using h3
          go_wp2;go_meet
          case rel=>exact ⟨by rw[c9];simp [Bool.not_true,hz,h20,h3,h5,h0,hl5],rfl⟩
     ·
      have hbn:(b != 0)=true:=by simpa using hbz
      by_cases h2:k=2
      ·
       subst h2;by_cases hz:0 < l1
       ·
        have hz':(l1:Int) > 0:=by omega
        go_wp2;go_meet
        case rel=>exact ⟨by rw[c9];simp [hb0',hb1',hz],rfl⟩
       ·
        have hz':¬ (l1:Int) > 0:=by omega
        have h20':¬ (l1:Int) > 20:=by omega
        have h20:¬ 20 < l1:=by omega
        by_cases h5:5 < l2
        ·
         have h5':(l2:Int) > 5:=by omega
         go_wp2;go_meet
         case rel=>exact ⟨by simp [c9,h5],rfl⟩
        ·
         have h5':¬ (l2:Int) > 5:=by omega
         have hl5:l2≤5:=by omega
         by_cases h0:0 < l2
         ·
          have h0':(l2:Int) > 0:=by omega
          go_wp2;go_meet
          case rel=>exact ⟨by rw[c9];simp [hb0',hb1',hz,h20,h5,h0,hl5],rfl⟩
         ·
          have h0':¬ (l2:Int) > 0:=by omega
          go_wp2;go_meet
          case rel=>exact ⟨by rw[c9];simp [hb0',hb1',hz,h20,h5,h0,hl5],rfl⟩
      ·
       have k2:(k != 2)=true:=by simpa using h2
       go_wp2;go_meet
       case rel=>exact ⟨by rw[c9];simp [hbz,h2],rfl⟩
    case rest =>
     obtain ⟨rfl,hx⟩:=hcut;obtain rfl:w0=wc:=hx.symm
     cases hc9:c9 b l1 l2 k with
     | true =>
      have E:Hid (specIns ⟨op,a,b,lit,tos⟩=false):=EA2.out.1 hc9;go_wp2;go_ret;exact ⟨by rw[E.out];rfl,G0.out⟩
     | false =>
      have EB:Hid (specIns ⟨op,a,b,lit,tos⟩=(!tos.any noNum && litV lit)):=EA2.out.2 hc9;clear EA2 hc9;have CL:Hid _:=TT.out;rcases HCS.out with ⟨rfl,ht⟩|⟨bb,oo,rfl,hin,hpos⟩
      ·
       have CC:Hid _:=l5litT a1 l1 c1 lit w0 HLT.out
       have ES:Hid (specIns ⟨op,a,b,lit,tos⟩=litV lit):=by show _=_;rw[EB.out,ht];simp
       go_wp2_with fail;refine wp_loop_rounds 1 ?_;rw[rounds_succ];go_wp2_with fail;refine Calls.mono CC.out ?_;rintro e u ⟨rfl,hg⟩;have G9:Hid (w.grownBy u none):=gtr G0.out hg;clear CC hg;simp only[];go_wp2;go_ret;exact ⟨by rw[ES.out];rfl,G9.out⟩
      have IN:Hid (DrI w0 bb oo tos):=hin;clear hin;go_wp2_with fail
      go_loopw [4] (fun i wr=>∃ (j:Nat) (R:List Int),j≤l2∧i = .int .i64 j∧R.length+j=l2∧wr=w0∧Hid (DrI w0 bb (oo+j) R∧tos.any noNum=R.any noNum)) (fun i _=>l2 - (intOf i).toNat)
      case atStart=>exact ⟨0,tos,Nat.zero_le _,rfl,by have:=HL2.out;omega,rfl,by simpa using IN.out,rfl⟩
      case round =>
       obtain ⟨j,R,hj,rfl,hRl,hx,HR⟩:=hrel;obtain rfl:w0=wr:=hx.symm;by_cases hlt:j < l2
       ·
        obtain ⟨z,R',rfl⟩:∃ x R',R=x::R':=by
         cases R with
         | nil=>simp at hRl;omega
         | cons x R'=>exact ⟨x,R',rfl⟩
        obtain ⟨hR,hv⟩:=HR.out;obtain ⟨k0,hT⟩:=hR.tl;rw[show oo+j+1=oo+(j+1) by omega] at hT;simp only[List.any_cons] at hv;simp only[lB] at hRl;have FX:Hid (DrI w0 bb (oo+(j+1)) R'∧tos.any noNum=(noNum z || R'.any noNum)):=⟨hT,hv⟩;clear hR hT hv HR IN
        have hji:(j:Int) < (l2:Int):=by omega
        by_cases z0:z < 0
        ·
         have ES:Hid (specIns ⟨op,a,b,lit,tos⟩=false):=by
          show _=_
          have:noNum z=true:=by simp [noNum,numV];omega
          rw[EB.out,FX.out.2,this];rfl
         go_wp2;go_ret;exact ⟨by rw[ES.out];rfl,G0.out⟩
        by_cases z1:z > 2147483647
        ·
         have ES:Hid (specIns ⟨op,a,b,lit,tos⟩=false):=by
          show _=_
          have:noNum z=true:=by simp [noNum,numV];omega
          rw[EB.out,FX.out.2,this];rfl
         go_wp2;go_ret;exact ⟨by rw[ES.out];rfl,G0.out⟩
        have FY:Hid (DrI w0 bb (oo+(j+1)) R'∧tos.any noNum=R'.any noNum):=⟨FX.out.1,by
         have:noNum z=false:=by simp [noNum,numV];omega
         rw[FX.out.2,this,Bool.false_or]⟩
        clear FX;go_wp2;go_roundw
        case rel=>exact ⟨j+1,R',by omega,by go_num,by omega,by first|rfl|trivial,FY⟩
        case measure=>simp [intOf];omega
       ·
        obtain rfl:j=l2:=by omega
        obtain rfl:R=[]:=lz0 (by omega);have CC:Hid _:=l5litT a1 l1 c1 lit w0 HLT.out
        have ES:Hid (specIns ⟨op,a,b,lit,tos⟩=litV lit):=by show _=_;rw[EB.out,HR.out.2];simp
        go_wp2_with fail;refine Calls.mono CC.out ?_;rintro e u ⟨rfl,hg⟩;have G9:Hid (w.grownBy u none):=gtr G0.out hg;clear CC hg;simp only[];go_wp2;go_ret;exact ⟨by rw[ES.out];rfl,G9.out⟩
end Go.Proofs.YtnmlbeefjjohfaaGreatDoor.By
