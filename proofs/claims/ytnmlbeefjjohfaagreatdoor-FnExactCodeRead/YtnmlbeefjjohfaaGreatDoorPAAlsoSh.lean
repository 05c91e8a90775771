/-
  No statement is proved here.
-/
import Derived.Test.YtnmlbeefjjohfaaGreatDoorTSizeSh
import Derived.Laws.EntriesVeiled
import Derived.Test.YtnmlbeefjjohfaaGreatDoorSBlockAlsoSh
namespace Go.Proofs.YtnmlbeefjjohfaaGreatDoor.By
set_option maxRecDepth 100000
set_option maxHeartbeats 16000000
open Go.RowKit
set_option linter.unusedVariables false
set_option linter.unusedSimpArgs false
def lowF (M:Nat):F→Bool
 | .nil=>true
 | .cons k n d r=>(if k=7 then false else if k=6 then (decide (n < M) && decide (d.len=0) && lowF M d) else lowF M d) && lowF M r
def lowT (M:Nat) (k n:Int) (d:F):Bool:=if k=7 then false else if k=6 then (decide (n < M) && decide (d.len=0) && lowF M d) else lowF M d
theorem lowF_cons (M:Nat) (k n:Int) (d r:F):lowF M (.cons k n d r)=(lowT M k n d && lowF M r):=rfl
def Zer (w:World) (ad:Option Addr) (M:Nat):Prop:=M≤9223372036854775807∧(M=0∨∃ b o,ad=some ⟨b,o,none⟩∧∀ i,i < M→w.cell? ⟨b,o+i * 3+1,none⟩=some (.int .i64 0))
theorem Zer.none {w u:World} {ad:Option Addr} {M:Nat} (h:Zer w ad M) (k:w.grownBy u Option.none):Zer u ad M:=by
 obtain ⟨h1,h2⟩:=h;refine ⟨h1,?_⟩;rcases h2 with h2|⟨b,o,e,h2⟩
 ·
  exact .inl h2
 ·
  exact .inr ⟨b,o,e,fun i hi=>k.cell (h2 i hi) (by simp)⟩
theorem searchNil (n:Int) (w:World) :
  Calls Tryz.prog 119 #[.slice none 0 0,.int .i64 n] w fun e u=>(∃ r:Int,e = .returned (.tuple #[.int .i64 r,.bool false]))∧w.grownBy u none:=by
 go_enter Tryz.func119,Tryz.ntmps119;go_wp2;refine wp_loop_rounds 1 ?_;rw[rounds_succ];go_wp2;go_ret2;exact ⟨⟨_,rfl⟩,grf _ _⟩
theorem openLT (q:Nat) (n:Int) (w:World) (hq:w.cell? ⟨q,0,none⟩=some (.slice none 0 0)) :
  Calls Tryz.prog 118 #[.int .i64 n,.pointer (some ⟨q,0,none⟩)] w fun e u=>e = .returned (.bool false)∧w.grownBy u none:=by
 have CC:Hid _:=searchNil n w;go_enter Tryz.func118,Tryz.ntmps118;go_wp2_with fail;refine Calls.mono CC.out ?_;rintro e u ⟨⟨r,rfl⟩,hg⟩;have G:Hid (w.grownBy u none):=hg;clear CC hg;simp only[];go_wp2;go_ret;exact ⟨rfl,G.out⟩
def StnL (M:Nat) (q m:Nat):Prop:=∀ (d:F) (k n:Int) (a:Option Addr) (l c p:Nat) (ad:Option Addr) (cd:Nat) (w:World),d.size < m→d.size≤100000→SlF w a l d→fitsB k n l=true→okF d p=true→Zer w ad M→w.cell? ⟨q,0,none⟩=some (.slice none 0 0) →
  Calls Tryz.prog 122 #[.agg #[.int .i64 k,.int .i64 n,.slice a l c],.slice ad M cd,.func (Fn.func 118) #[] #[.pointer (some ⟨q,0,none⟩)]] w fun e u=>e = .returned (.bool (lowT M k n d))∧w.grownBy u none
theorem standsLT (M:Nat) (q m:Nat):StnL M q m:=by
 induction m with
 | zero=>intro d k n a l c p ad cd w hm;exact absurd hm (Nat.not_lt_zero _)
 | succ m ih =>
  intro d k n a l c p ad cd w hm hm2 h hf hok hD hq;have hfl:=h.1;have hl:=h.2.1;have hdm:=hD.1;have g0:=gal w (.cells #[.int .i64 k,.int .i64 n,.slice a l c] 46) none;have b0:=hnw w (.cells #[.int .i64 k,.int .i64 n,.slice a l c] 46);have IH:Hid (StnL M q m):=ih;have HS:Hid (SlF w a l d∧okF d p=true∧Zer w ad M∧w.cell? ⟨q,0,none⟩=some (.slice none 0 0)):=⟨h,hok,hD,hq⟩;have HG:Hid (w.grownBy (w.alloc (.cells #[.int .i64 k,.int .i64 n,.slice a l c] 46)) none):=g0;have HB:Hid ((w.alloc (.cells #[.int .i64 k,.int .i64 n,.slice a l c] 46)).heap[w.heap.size]? = some (Obj.cells #[.int .i64 k,.int .i64 n,.slice a l c] 46)):=b0;have HF:Hid (fitsB k n l=true):=hf;clear ih h hf hok hD hq g0 b0;by_cases h7:k=7
  ·
   have CO:Hid _:=openLT q n (w.alloc (.cells #[.int .i64 k,.int .i64 n,.slice a l c] 46)) (HG.out.cell HS.out.2.2.2 (by simp))
   have EV:Hid (lowT M k n d=false):=by show _=_;unfold lowT;rw[if_pos h7]
   obtain ⟨⟨x0,x1,x2⟩,-⟩:=three HB.out
   have hk7:(k == 7)=true:=by simpa using h7
   clear HF IH h7;go_enter Tryz.func122,Tryz.ntmps122;go_wp2_with fail;refine Calls.mono CO.out ?_;rintro e v ⟨he,hv⟩;subst he;have G9:Hid (w.grownBy v none):=gtr HG.out hv;clear CO hv;simp only[];go_wp2;go_ret;exact ⟨by rw[EV.out];rfl,G9.out⟩
  ·
   by_cases h6:k=6
   ·
    have hf:=HF.out
    have hn0:0≤n:=by
     rw[h6] at hf;by_cases hl3:l≤3
     ·
      rw[fits6 hl3] at hf;simp only[bA9,dE9] at hf;omega
     ·
      rw[fits6x hl3] at hf
      cases hf
    have hk7:(k == 7)=false:=by simpa using h7
    have hk6:(k == 6)=true:=by simpa using h6
    have ED:lowT M k n d=(decide (n < M) && decide (d.len=0) && lowF M d):=by unfold lowT;rw[if_neg h7,if_pos h6]
    clear hf h7 h6 HF;obtain ⟨nn0,rfl⟩:∃ nn0:Nat,n=(nn0:Int):=⟨n.toNat,by omega⟩;obtain ⟨⟨x0,x1,x2⟩,-⟩:=three HB.out;by_cases hlen:nn0 < M
    ·
     obtain ⟨bD,oD,rfl,hz⟩:∃ bD oD,ad=some ⟨bD,oD,none⟩∧∀ i,i < M→w.cell? ⟨bD,oD+i * 3+1,none⟩=some (.int .i64 0):=by
      rcases HS.out.2.2.1.2 with h|h
      ·
       omega
      ·
       exact h
     have y1:=hz nn0 hlen
     have EX:(decide (((nn0:Nat):Int) < M) && decide (d.len=0))=decide ((l:Int)=0):=by rw[hfl];simp;omega
     have hge:¬ ((nn0:Int) ≥ (M:Int)):=by omega
     have hgeb:decide ((nn0:Int) ≥ (M:Int))=false:=by simp;omega
     have HY:Hid (∀ u,w.grownBy u none→u.cell? ⟨bD,oD+nn0 * 3+1,none⟩=some (.int .i64 0)):=fun u hu=>hu.cell y1 (by simp)
     have hlt':(nn0:Int) < (M:Int):=by omega
     clear hz y1;go_enter Tryz.func122,Tryz.ntmps122;go_upto_region 5 with fail;clear x0 x1 x2;generalize w.alloc (.cells #[.int .i64 k,.int .i64 (nn0:Int),.slice a l c] 46)=W0 at *;generalize w.heap.size=p0 at *;have gd:=grown_drew (grf W0 none);have HG1:Hid (w.grownBy W0.drew none):=gtr HG.out gd;have HB1:Hid (W0.drew.heap[p0]? = some (Obj.cells #[.int .i64 k,.int .i64 (nn0:Int),.slice a l c] 46)):=(gd.block _ (lbk HB.out) (by simp)).trans HB.out;clear HG HB gd;refine wp_region_held_drew (S:=(fun u=>Tri p0 0 (.int .i64 k) (.int .i64 (nn0:Int)) (.slice a l c) u∧u.cell? ⟨bD,oD+nn0 * 3+1,none⟩=some (.int .i64 0))) (by kernel_rfl) ⟨(three HB1.out).1,HY.out _ HG1.out⟩ (fun hH=>?_);generalize W0.drew=W1 at *;have HG:Hid (w.grownBy W1 none):=HG1.out;have HB:Hid (W1.heap[p0]? = some (Obj.cells #[.int .i64 k,.int .i64 (nn0:Int),.slice a l c] 46)):=HB1.out;clear HG1 HB1;simp only[sA9,lB,lC,Nat.reduceAdd,Array.replicate,List.replicate]
     refine tk 0 ?_;refine tk 1 ?_;refine tk 2 ?_;refine tk 3 ?_;refine tk 4 ?_;refine tk 5 ?_;refine tk 6 ?_;refine tk 7 ?_;refine tk 8 ?_;refine tk 9 ?_;refine tk 10 ?_;refine tk 11 ?_;refine tk 12 ?_;refine tk 13 ?_;refine tk 14 ?_;refine tk 15 ?_;refine tk 16 ?_;refine wpAnyH_done (by kernel_rfl) ?_ _;clear hH;by_cases hlv:(l:Int)=0
     ·
      have EV:Hid (lowT M k (nn0:Int) d=lowF M d):=by show _=_;rw[ED,EX];simp [hlv]
      have hne:((l:Int) != 0)=false:=by simp [hlv]
      try rw[hne]
      clear ED EX hlv;go_upto_region 7 with fail;rcases HS.out.1.cases with ⟨h1,h2⟩|⟨b,o,h1,hin,-,hpos⟩
      ·
       subst h1 h2;have GF:Hid (w.grownBy W1 none):=HG.out;obtain ⟨⟨x0,x1,x2⟩,-⟩:=three HB.out;go_wp2;refine wp_loop_rounds 1 ?_;rw[rounds_succ];go_wp2;go_ret;exact ⟨by rw[EV.out];rfl,GF.out⟩
      ·
       subst h1;have IN:Hid (InF W1 d b o):=hin.none HG.out;obtain ⟨⟨x0,x1,x2⟩,-⟩:=three HB.out;clear hin;go_wp2;clear x0 x1 x2
       go_loopw [39] (fun i wr=>∃ (j:Nat) (R:F),j≤l∧i = .int .i64 j∧R.len+j=l∧R.size≤d.size∧Hid (W1.grownBy wr none∧InF W1 R b (o+j * 3)∧okF R p=true∧lowF M d=lowF M R)) (fun i _=>l - (intOf i).toNat)
       case atStart=>exact ⟨0,d,Nat.zero_le _,rfl,by omega,Nat.le_refl _,grf _ _,by simpa using IN.out,HS.out.2.1,rfl⟩
       case round =>
        obtain ⟨j,R,hj,rfl,hRl,hRs,HR⟩:=hrel;by_cases hlt:j < l
        ·
         obtain ⟨q1,hq1⟩:∃ q1,R.len=q1+1:=⟨R.len - 1,by omega⟩;obtain ⟨kk,nn,d',R',rfl,hR'⟩:=F.cons_of_len hq1;obtain ⟨hg,hR,hokR,hv⟩:=HR.out;obtain ⟨a',l',c',c0,c1,c2',hd,hR2⟩:=hR.out;rw[show o+j * 3+3=o+(j+1) * 3 by omega] at hR2;simp only[okF,bA9,dE9] at hokR;have c0:=hg.cell c0 (by simp);have c1:=hg.cell c1 (by simp);have c2':=hg.cell c2' (by simp);have ga:=gal wr (.cells #[.int .i64 kk,.int .i64 nn,.slice a' l' c'] 46) none;have gw:=gtr HG.out (gtr hg ga);simp only[F.size] at hRs;have CC:Hid _:=IH.out d' kk nn a' l' c' (p - 1) (some ⟨bD,oD,none⟩) cd (wr.alloc (.cells #[.int .i64 kk,.int .i64 nn,.slice a' l' c'] 46)) (by omega) (by omega) (hd.none (gtr hg ga)) (by rw[← hd.1];exact hokR.1.1.2) hokR.1.2 (HS.out.2.2.1.none gw) (gw.cell HS.out.2.2.2 (by simp));have FX:Hid (W1.grownBy (wr.alloc (.cells #[.int .i64 kk,.int .i64 nn,.slice a' l' c'] 46)) none∧InF W1 R' b (o+(j+1) * 3)∧okF R' p=true∧lowF M d=(lowT M kk nn d' && lowF M R')):=⟨gtr hg ga,hR2,hokR.2,by rw[hv,lowF_cons]⟩
         clear hg hR hokR hv hd hR2 ga gw HR IN;go_wp2_with fail;refine Calls.mono CC.out ?_;rintro e v ⟨he,hgv⟩;subst he;have FY:Hid (W1.grownBy v none):=gtr FX.out.1 hgv;clear CC hgv c0 c1 c2';simp only[]
         cases hq:lowT M kk nn d' with
         | false =>
          have E2:Hid (lowT M k (nn0:Int) d=false):=by show _=_;rw[EV.out,FX.out.2.2.2,hq];rfl
          clear hq;go_wp2;go_ret;exact ⟨by rw[E2.out];rfl,gtr HG.out FY.out⟩
         | true =>
          have E2:Hid (lowF M d=lowF M R'):=by show _=_;rw[FX.out.2.2.2,hq];rfl
          clear hq;go_wp2;go_roundw
          case rel=>exact ⟨j+1,R',by omega,by go_num,by omega,by omega,FY.out,FX.out.2.1,FX.out.2.2.1,E2.out⟩
          case measure=>simp [intOf];omega
        ·
         obtain rfl:j=l:=by omega
         obtain rfl:R = .nil:=F.nil_of_len (by omega);have E2:Hid (lowT M k (nn0:Int) d=true∧w.grownBy wr none):=⟨by rw[EV.out,HR.out.2.2.2];rfl,gtr HG.out HR.out.1⟩;clear HR IN;go_wp2;go_ret;exact ⟨by rw[E2.out.1];rfl,E2.out.2⟩
     ·
      have EV:Hid (lowT M k (nn0:Int) d=false):=by show _=_;rw[ED,EX,decide_eq_false hlv];rfl
      have hne:((l:Int) != 0)=true:=bne_iff_ne.2 hlv
      try rw[hne]
      clear ED EX;go_wp2;go_ret;exact ⟨by rw[EV.out];rfl,HG.out⟩
    ·
     have EX:(decide (((nn0:Nat):Int) < M) && decide (d.len=0))=false:=by simp;omega
     have EV:Hid (lowT M k (nn0:Int) d=false):=by show _=_;rw[ED,EX];rfl
     have hge:(nn0:Int) ≥ (M:Int):=by omega
     have hgeb:decide ((nn0:Int) ≥ (M:Int))=true:=by simp;omega
     clear ED EX;go_enter Tryz.func122,Tryz.ntmps122;go_upto_region 5 with fail;clear x0 x1 x2;generalize w.alloc (.cells #[.int .i64 k,.int .i64 (nn0:Int),.slice a l c] 46)=W0 at *;generalize w.heap.size=p0 at *;have gd:=grown_drew (grf W0 none);have HG1:Hid (w.grownBy W0.drew none):=gtr HG.out gd;have HB1:Hid (W0.drew.heap[p0]? = some (Obj.cells #[.int .i64 k,.int .i64 (nn0:Int),.slice a l c] 46)):=(gd.block _ (lbk HB.out) (by simp)).trans HB.out;clear HG HB gd;refine wp_region_held_drew (S:=(fun u=>Tri p0 0 (.int .i64 k) (.int .i64 (nn0:Int)) (.slice a l c) u)) (by kernel_rfl) (three HB1.out).1 (fun hH=>?_);generalize W0.drew=W1 at *;have HG:Hid (w.grownBy W1 none):=HG1.out;clear HG1 HB1;simp only[sA9,lB,lC,Nat.reduceAdd,Array.replicate,List.replicate];refine tk 0 ?_;refine tk 1 ?_;refine tk 2 ?_;refine tk 3 ?_;refine tk 4 ?_;refine tk 5 ?_;refine tks 6 ?_;refine tks 7 ?_;refine tks 8 ?_
     refine tks 9 ?_;refine tks 10 ?_;refine tks 11 ?_;refine tks 12 ?_;refine tks 13 ?_;refine tks 14 ?_;refine tks 15 ?_;refine tk 16 ?_;refine wpAnyH_done (by kernel_rfl) ?_ _;clear hH;go_wp2;go_ret;exact ⟨by rw[EV.out];rfl,HG.out⟩
   ·
    have EV:Hid (lowT M k n d=lowF M d):=by show _=_;unfold lowT;rw[if_neg h7,if_neg h6]
    obtain ⟨⟨x0,x1,x2⟩,-⟩:=three HB.out
    have hk7:(k == 7)=false:=by simpa using h7
    have hk6:(k == 6)=false:=by simpa using h6
    clear HF;go_enter Tryz.func122,Tryz.ntmps122;go_upto_region 7 with fail;clear x0 x1 x2;generalize w.alloc (.cells #[.int .i64 k,.int .i64 n,.slice a l c] 46)=W0 at *;generalize w.heap.size=p0 at *;rcases HS.out.1.cases with ⟨h1,h2⟩|⟨b,o,h1,hin,-,hpos⟩
    ·
     subst h1 h2;have GF:Hid (w.grownBy W0 none):=HG.out;obtain ⟨⟨x0,x1,x2⟩,-⟩:=three HB.out;go_wp2;refine wp_loop_rounds 1 ?_;rw[rounds_succ];go_wp2;go_ret;exact ⟨by rw[EV.out];rfl,GF.out⟩
    ·
     subst h1;have IN:Hid (InF W0 d b o):=hin.none HG.out;obtain ⟨⟨x0,x1,x2⟩,-⟩:=three HB.out;clear hin;go_wp2;clear x0 x1 x2
     go_loopw [39] (fun i wr=>∃ (j:Nat) (R:F),j≤l∧i = .int .i64 j∧R.len+j=l∧R.size≤d.size∧Hid (W0.grownBy wr none∧InF W0 R b (o+j * 3)∧okF R p=true∧lowF M d=lowF M R)) (fun i _=>l - (intOf i).toNat)
     case atStart=>exact ⟨0,d,Nat.zero_le _,rfl,by omega,Nat.le_refl _,grf _ _,by simpa using IN.out,HS.out.2.1,rfl⟩
     case round =>
      obtain ⟨j,R,hj,rfl,hRl,hRs,HR⟩:=hrel;by_cases hlt:j < l
      ·
       obtain ⟨q1,hq1⟩:∃ q1,R.len=q1+1:=⟨R.len - 1,by omega⟩;obtain ⟨kk,nn,d',R',rfl,hR'⟩:=F.cons_of_len hq1;obtain ⟨hg,hR,hokR,hv⟩:=HR.out;obtain ⟨a',l',c',c0,c1,c2',hd,hR2⟩:=hR.out;rw[show o+j * 3+3=o+(j+1) * 3 by omega] at hR2;simp only[okF,bA9,dE9] at hokR;have c0:=hg.cell c0 (by simp);have c1:=hg.cell c1 (by simp);have c2':=hg.cell c2' (by simp);have ga:=gal wr (.cells #[.int .i64 kk,.int .i64 nn,.slice a' l' c'] 46) none;have gw:=gtr HG.out (gtr hg ga);simp only[F.size] at hRs;have CC:Hid _:=IH.out d' kk nn a' l' c' (p - 1) ad cd (wr.alloc (.cells #[.int .i64 kk,.int .i64 nn,.slice a' l' c'] 46)) (by omega) (by omega) (hd.none (gtr hg ga)) (by rw[← hd.1];exact hokR.1.1.2) hokR.1.2 (HS.out.2.2.1.none gw) (gw.cell HS.out.2.2.2 (by simp));have FX:Hid (W0.grownBy (wr.alloc (.cells #[.int .i64 kk,.int .i64 nn,.slice a' l' c'] 46)) none∧InF W0 R' b (o+(j+1) * 3)∧okF R' p=true∧lowF M d=(lowT M kk nn d' && lowF M R')):=⟨gtr hg ga,hR2,hokR.2,by rw[hv,lowF_cons]⟩
       clear hg hR hokR hv hd hR2 ga gw HR IN;go_wp2_with fail;refine Calls.mono CC.out ?_;rintro e v ⟨he,hgv⟩;subst he;have FY:Hid (W0.grownBy v none):=gtr FX.out.1 hgv;clear CC hgv c0 c1 c2';simp only[]
       cases hq:lowT M kk nn d' with
       | false =>
        have E2:Hid (lowT M k n d=false):=by show _=_;rw[EV.out,FX.out.2.2.2,hq];rfl
        clear hq;go_wp2;go_ret;exact ⟨by rw[E2.out];rfl,gtr HG.out FY.out⟩
       | true =>
        have E2:Hid (lowF M d=lowF M R'):=by show _=_;rw[FX.out.2.2.2,hq];rfl
        clear hq;go_wp2;go_roundw
        case rel=>exact ⟨j+1,R',by omega,by go_num,by omega,by omega,FY.out,FX.out.2.1,FX.out.2.2.1,E2.out⟩
        case measure=>simp [intOf];omega
      ·
       obtain rfl:j=l:=by omega
       obtain rfl:R = .nil:=F.nil_of_len (by omega);have E2:Hid (lowT M k n d=true∧w.grownBy wr none):=⟨by rw[EV.out,HR.out.2.2.2];rfl,gtr HG.out HR.out.1⟩;clear HR IN;go_wp2;go_ret;exact ⟨by rw[E2.out.1];rfl,E2.out.2⟩
def lwT (M:Nat) (k n:Int) (d:F):Bool:=okT k n d && lowT M k n d
def lwF (M:Nat):F→Bool
 | .nil=>true
 | .cons k n d r=>lwT M k n d && lwF M r
def Cap2 (w:World) (qd qo q:Nat) (ad:Option Addr) (M cd:Nat):Prop :=
 w.cell? ⟨qd,0,none⟩=some (.slice ad M cd)∧w.cell? ⟨qo,0,none⟩=some (.func (Fn.func 118) #[] #[.pointer (some ⟨q,0,none⟩)])∧w.cell? ⟨q,0,none⟩=some (.slice none 0 0)∧Zer w ad M
theorem Cap2.none {w u:World} {qd qo q:Nat} {ad:Option Addr} {M cd:Nat} (h:Cap2 w qd qo q ad M cd) (k:w.grownBy u Option.none):Cap2 u qd qo q ad M cd :=
 ⟨k.cell h.1 (by simp),k.cell h.2.1 (by simp),k.cell h.2.2.1 (by simp),h.2.2.2.none k⟩
theorem stand2T (d:F) (k n:Int) (a:Option Addr) (l c:Nat) (qd qo q:Nat) (ad:Option Addr) (M cd:Nat) (w:World) (h:SlF w a l d) (hC:Cap2 w qd qo q ad M cd) :
  Calls Tryz.prog 121 #[.agg #[.int .i64 k,.int .i64 n,.slice a l c],.pointer (some ⟨qd,0,none⟩),.pointer (some ⟨qo,0,none⟩)] w fun e u=>e = .returned (.bool (!lwT M k n d))∧w.grownBy u none:=by
 have g0:=gal w (.cells #[.int .i64 k,.int .i64 n,.slice a l c] 46) none;have b0:=hnw w (.cells #[.int .i64 k,.int .i64 n,.slice a l c] 46);have C0:Hid _:=implTyOkT d k n a l c _ (h.none g0);have hfl:=h.1
 have HN:Hid (∀ u,w.grownBy u none→SlF u a l d∧Cap2 u qd qo q ad M cd):=fun u hu=>⟨h.none hu,hC.none hu⟩
 have L0:Hid (w.grownBy _ none∧_=some (Obj.cells #[.int .i64 k,.int .i64 n,.slice a l c] 46)):=⟨g0,b0⟩;obtain ⟨⟨x0,x1,x2⟩,-⟩:=three b0;clear h hC g0 b0;go_enter Tryz.func121,Tryz.ntmps121;go_wp2_with fail;refine Calls.mono C0.out ?_;rintro e u ⟨he,hg⟩;subst he;have L1:Hid (w.grownBy u none∧u.heap[w.heap.size]? = some (Obj.cells #[.int .i64 k,.int .i64 n,.slice a l c] 46)):=⟨gtr L0.out.1 hg,(hg.block _ (lbk L0.out.2) (by simp)).trans L0.out.2⟩;clear C0 L0 hg x0 x1 x2;generalize w.heap.size=p0 at *;simp only[]
 cases hok:okT k n d with
 | false =>
  have E:Hid (lwT M k n d=false):=by show _=_;unfold lwT;rw[hok];rfl
  clear hok;go_wp2;go_ret;exact ⟨by rw[E.out];rfl,L1.out.1⟩
 | true =>
  have ho:=hok;simp only[okT,bA9,dE9] at ho;obtain ⟨hS,hC⟩:=HN.out _ L1.out.1;obtain ⟨c1,c2,c3,hZ⟩:=hC;have CS:Hid _:=standsLT M q (d.size+1) d k n a l c 9 ad cd u (Nat.lt_succ_self _) (by omega) hS (by rw[← hfl];exact ho.1.1) ho.1.2 hZ c3
  have E:Hid (lwT M k n d=lowT M k n d):=by show _=_;unfold lwT;rw[hok];rfl
  obtain ⟨⟨x0,x1,x2⟩,-⟩:=three L1.out.2;clear hok ho hS hZ;go_wp2_with fail;refine Calls.mono CS.out ?_;rintro e v ⟨he,hg⟩;subst he;have G9:Hid (w.grownBy v none):=gtr L1.out.1 hg;clear CS hg L1 x0 x1 x2 c1 c2 c3;simp only[];go_wp2;go_ret;exact ⟨by rw[E.out];rfl,G9.out⟩
theorem indexTT (d:F) (a:Option Addr) (l c:Nat) (qd qo q:Nat) (ad:Option Addr) (M cd:Nat) (w:World) (h:SlF w a l d) (hC:Cap2 w qd qo q ad M cd) :
  Calls Tryz.prog 131 #[.slice a l c,.func (.func 121) #[] #[.pointer (some ⟨qd,0,none⟩),.pointer (some ⟨qo,0,none⟩)]] w fun e u=>(∃ r:Int,e = .returned (.int .i64 r)∧AtP (!lwF M d) r)∧w.grownBy u none:=by
 have hl:=h.2.1;have hfl:=h.1;rcases h.cases with ⟨rfl,rfl⟩|⟨b,o,rfl,hin,-,hpos⟩
 ·
  go_enter Tryz.func131,Tryz.ntmps131;go_wp2;refine wp_loop_rounds 1 ?_;rw[rounds_succ];go_wp2;go_ret;exact ⟨⟨-1,rfl,by unfold AtP;exact rfl⟩,grf _ _⟩
 have IN:Hid (InF w d b o):=hin;have HC:Hid (Cap2 w qd qo q ad M cd):=hC;clear hin h hC;go_enter Tryz.func131,Tryz.ntmps131;go_wp2
 go_loopw [8] (fun i wr=>∃ (j:Nat) (R:F),j≤l∧i = .int .i64 j∧R.len+j=l∧Hid (w.grownBy wr none∧InF w R b (o+j * 3)∧lwF M d=lwF M R)) (fun i _=>l - (intOf i).toNat)
 case atStart=>exact ⟨0,d,Nat.zero_le _,rfl,by omega,grf _ _,by simpa using IN.out,rfl⟩
 case round =>
  obtain ⟨j,R,hj,rfl,hRl,HR⟩:=hrel;by_cases hlt:j < l
  ·
   obtain ⟨q1,hq1⟩:∃ q1,R.len=q1+1:=⟨R.len - 1,by omega⟩;obtain ⟨kk,nn,d',R',rfl,hR'⟩:=F.cons_of_len hq1;obtain ⟨hg,hR,hv⟩:=HR.out;obtain ⟨a',l',c',c0,c1,c2',hd,hR2⟩:=hR.out;rw[show o+j * 3+3=o+(j+1) * 3 by omega] at hR2;have c0:=hg.cell c0 (by simp);have c1:=hg.cell c1 (by simp);have c2':=hg.cell c2' (by simp);have CC:Hid _:=stand2T d' kk nn a' l' c' qd qo q ad M cd wr (hd.none hg) (HC.out.none hg);have FX:Hid (w.grownBy wr none∧InF w R' b (o+(j+1) * 3)∧lwF M d=(lwT M kk nn d' && lwF M R')):=⟨hg,hR2,hv⟩;clear hg hR hv hd hR2 HR IN;go_wp2_with fail;refine Calls.mono CC.out ?_;rintro e v ⟨he,hgv⟩;subst he;have FY:Hid (w.grownBy v none):=gtr FX.out.1 hgv;clear CC hgv c0 c1 c2';simp only[]
   cases hq:lwT M kk nn d' with
   | false =>
    have E2:Hid (lwF M d=false):=by show _=_;rw[FX.out.2.2,hq];rfl
    clear hq;simp only[Bool.not_false];go_wp2;go_ret;exact ⟨⟨(j:Int),rfl,by unfold AtP;rw[E2.out];show 0≤(j:Int);omega⟩,FY.out⟩
   | true =>
    have E2:Hid (lwF M d=lwF M R'):=by show _=_;rw[FX.out.2.2,hq];rfl
    clear hq;simp only[Bool.not_true];go_wp2;go_roundw
    case rel=>exact ⟨j+1,R',by omega,by go_num,by simp only[F.len] at hRl;omega,FY.out,FX.out.2.1,E2.out⟩
    case measure=>simp [intOf];omega
  ·
   obtain rfl:j=l:=by omega
   obtain rfl:R = .nil:=F.nil_of_len (by omega);have E2:Hid (lwF M d=true∧w.grownBy wr none):=⟨HR.out.2.2,HR.out.1⟩;clear HR IN;go_wp2;go_ret;exact ⟨⟨-1,rfl,by unfold AtP;rw[E2.out.1,if_neg (by simp)]⟩,E2.out.2⟩
theorem containsTT (d:F) (a:Option Addr) (l c:Nat) (qd qo q:Nat) (ad:Option Addr) (M cd:Nat) (w:World) (h:SlF w a l d) (hC:Cap2 w qd qo q ad M cd) :
  Calls Tryz.prog 120 #[.slice a l c,.func (.func 121) #[] #[.pointer (some ⟨qd,0,none⟩),.pointer (some ⟨qo,0,none⟩)]] w fun e u=>e = .returned (.bool (!lwF M d))∧w.grownBy u none:=by
 have CC:Hid _:=indexTT d a l c qd qo q ad M cd w h hC;clear h hC;go_enter Tryz.func120,Tryz.ntmps120;go_wp2_with fail;refine Calls.mono CC.out ?_;rintro e u ⟨⟨r,rfl,hr⟩,hg⟩;have G:Hid (w.grownBy u none):=hg;clear hg CC;unfold AtP at hr;simp only[]
 cases hb:(!lwF M d) with
 | true =>
  rw[hb,if_pos rfl] at hr;go_wp2;go_ret;refine ⟨?_,G.out⟩;rw[hb]
  first|rfl | (simp;done) | (simp;omega)
 | false =>
  rw[hb,if_neg (by simp)] at hr;subst hr;go_wp2;go_ret;refine ⟨?_,G.out⟩;rw[hb]
  first|rfl | (simp;done)
theorem allStandT (d:F) (a:Option Addr) (l c:Nat) (ad:Option Addr) (M cd:Nat) (w:World) (h:SlF w a l d) (hZ:Zer w ad M) :
  Calls Tryz.prog 107 #[.slice ad M cd,.slice none 0 0,.slice a l c] w fun e u=>e = .returned (.bool (lwF M d))∧w.grownBy u none:=by
 obtain ⟨b0,b1,b2,bsz⟩:=alloc3_blocks w (.cells #[.slice ad M cd] 144) (.cells #[.slice none 0 0] 25) (.cells #[.func (Fn.func 118) #[] #[.pointer (some ⟨w.heap.size+1,0,none⟩)]] 110);have g0:=grown_alloc (grown_alloc (grown_alloc (grf w none) (.cells #[.slice ad M cd] 144)) (.cells #[.slice none 0 0] 25)) (.cells #[.func (Fn.func 118) #[] #[.pointer (some ⟨w.heap.size+1,0,none⟩)]] 110);have CC:Hid _:=containsTT d a l c w.heap.size (w.heap.size+1+1) (w.heap.size+1) ad M cd _ (h.none g0) ⟨by rw[cell_of_row _ _ _ _ _ (0,0) b0];rfl,by rw[cell_of_row _ _ _ _ _ (0,0) b2];rfl,by rw[cell_of_row _ _ _ _ _ (0,0) b1];rfl,hZ.none g0⟩;have G0:Hid _:=g0;clear h hZ b0 b1 b2 bsz g0;go_enter Tryz.func107,Tryz.ntmps107;go_wp2_with fail;refine Calls.mono CC.out ?_;rintro e u ⟨he,hg⟩;subst he;have G9:Hid (w.grownBy u none):=gtr G0.out hg;clear CC hg G0;simp only[];go_wp2;go_ret;exact ⟨by simp,G9.out⟩
theorem infoDa:(Tryz.prog.info? 169).map (fun i=>(i.zero,i.size,i.bytes))=some (some (.agg #[.slice none 0 0,.int .i64 0,.slice none 0 0]),3,56):=by kernel_rfl
theorem makeDa (n:Nat) (hn:n≤4194304) (w:World):(Instr.makeSlice 144 (.int .i64 (n:Int)) (.int .i64 (n:Int))).run Tryz.prog w = .ok (.slice (some ⟨w.heap.size,0,none⟩) n n) (w.alloc (.cells (madeCells #[.slice none 0 0,.int .i64 0,.slice none 0 0] (n * 3)) 169)):=by
 obtain ⟨i0,hi,hz0,hz1,hz2⟩:=info_parts infoDa;have h:=run_make (P:=Tryz.prog) (w:=w) 144 169 i0 _ Tryz.underlying144 hi hz0 .i64 .i64 (n:Int) (n:Int) (by omega) (by omega) (by rw[hz2];omega) (by omega);rw[hz1] at h;simpa [Value.cells] using h
theorem zer_made (w:World) (n:Nat) (hn:n≤4194304):Zer (w.alloc (.cells (madeCells #[.slice none 0 0,.int .i64 0,.slice none 0 0] (n * 3)) 169)) (some ⟨w.heap.size,0,none⟩) n:=by
 refine ⟨by omega,.inr ⟨w.heap.size,0,rfl,fun i hi=>?_⟩⟩;rw[cell_of_row _ _ _ _ _ (0,0) (hnw w _)]
 have h1:0+i * 3+1 < n * 3:=by omega
 have h2:(0+i * 3+1) % 3=1:=by omega
 unfold madeCells;rw[Array.getElem?_map,Array.getElem?_range];simp only[h1,if_true,Option.map_some]
 show some (#[Value.slice none 0 0,Value.int IntKind.i64 0,Value.slice none 0 0][(0+i * 3+1) % 3]!)=_
 rw[h2];rfl
theorem areLowT (d:F) (a:Option Addr) (l c:Nat) (M:Nat) (w:World) (h:SlF w a l d) (hM:M≤4194304) :
  Calls Tryz.prog 98 #[.int .i64 (M:Int),.slice a l c] w fun e u=>e = .returned (.bool (lwF M d))∧w.grownBy u none:=by
 have hmk:=makeDa M hM;have g0:=gal w (.cells (madeCells #[.slice none 0 0,.int .i64 0,.slice none 0 0] (M * 3)) 169) none;have CC:Hid _:=allStandT d a l c (some ⟨w.heap.size,0,none⟩) M M _ (h.none g0) (zer_made w M hM);have G0:Hid _:=g0;clear h g0;go_enter Tryz.func98,Tryz.ntmps98;go_wp2_with fail;refine Calls.mono CC.out ?_;rintro e u ⟨he,hg⟩;subst he;have G9:Hid (w.grownBy u none):=gtr G0.out hg;clear CC hg G0 hmk;simp only[];go_wp2;go_ret;exact ⟨rfl,G9.out⟩
def conV (M:Nat) (f:F):Bool:=decide (f.len≤3) && lwF M f
def layV (M:Nat) (x:RLayout):Bool:=decide (1≤x.cons.length) && decide (x.cons.length≤5) && x.cons.all (conV M)
def laysV (ls:List RLayout):Bool:=decide (ls.length≤20) && ls.all (layV ls.length)
theorem layoutsOkT (xs:List RLayout) (a:Option Addr) (l c:Nat) (w:World) (h:SlLayout w a l xs) :
    Calls Tryz.prog 86 #[.slice a l c] w fun e u=>e = .returned (.bool (laysV xs))∧w.grownBy u none:=by
  have hl:=h.2.1;have hfl:=h.1;by_cases h20:20 < l
  · have h20':(l:Int) > 20:=by omega
    have E:Hid (laysV xs=false):=by show _=_;unfold laysV;rw[hfl];simp;omega
    clear h;go_enter Tryz.func86,Tryz.ntmps86;go_wp2;go_ret;exact ⟨by rw[E.out];rfl,grf _ _⟩
  have h20':¬ (l:Int) > 20:=by omega
  have EV:Hid (laysV xs=xs.all (layV l)):=by show _=_;unfold laysV;rw[hfl];simp;omega
  rcases h.cases with ⟨rfl,rfl⟩|⟨b,o,rfl,hin,hpos⟩
  · clear h
    go_enter Tryz.func86,Tryz.ntmps86;go_wp2;refine wp_loop_rounds 1 ?_;rw[rounds_succ];go_wp2;go_ret;exact ⟨by rw[EV.out];rfl,grf _ _⟩
  have IN:Hid (InLayout w w xs b o):=hin;clear hin h;go_enter Tryz.func86,Tryz.ntmps86;go_wp2
  go_loopw [12] (fun i wr=>∃ (j:Nat) (R:List RLayout),j≤l∧i = .int .i64 j∧R.length+j=l∧Hid (w.grownBy wr none∧InLayout w w R b (o+j * 1)∧laysV xs=R.all (layV l))) (fun i _=>l - (intOf i).toNat)
  case atStart=>exact ⟨0,xs,Nat.zero_le _,rfl,by omega,grf _ _,by simpa using IN.out,EV.out⟩
  case round =>
    obtain ⟨j,R,hj,rfl,hRl,HR⟩:=hrel;by_cases hlt:j < l
    · obtain ⟨x,R',rfl⟩:∃ x R',R=x::R':=by
        cases R with
        | nil=>simp at hRl;omega
        | cons x R'=>exact ⟨x,R',rfl⟩
      obtain ⟨hg,⟨⟨a1,l1,c1,k0,hd⟩,hR2⟩,hv⟩:=HR.out;have hd':SlTys w a1 l1 x.cons:=hd;rw[show o+j * 1+1=o+(j+1) * 1 by omega] at hR2;have k0:=hg.cell k0 (by simp);simp only[Nat.mul_one] at k0;simp only[List.all_cons] at hv;simp only[lB] at hRl;have ga:=gal wr (.cells #[.slice a1 l1 c1] 42) none;have ba:=hnw wr (.cells #[.slice a1 l1 c1] 42);have hcl:=hd'.1;have hcm:=hd'.2.1;have FX:Hid (w.grownBy (wr.alloc (.cells #[.slice a1 l1 c1] 42)) none∧InLayout w w R' b (o+(j+1) * 1)∧laysV xs=(layV l x && R'.all (layV l))∧SlTys w a1 l1 x.cons):=⟨gtr hg ga,hR2,hv,hd'⟩;obtain y0:=(blkLayout ba).1;clear hg hd hd' hR2 hv HR IN ga ba EV;by_cases q1:l1 < 1
      · have E:Hid (laysV xs=false):=by show _=_;rw[FX.out.2.2.1];have:layV l x=false:=(by (unfold layV;rw[hcl];simp;omega));rw[this];rfl
        have q1':(l1:Int) < 1:=by omega
        go_wp2;go_ret;exact ⟨by rw[E.out];rfl,FX.out.1⟩
      have q1':¬ (l1:Int) < 1:=by omega
      by_cases q5:5 < l1
      · have E:Hid (laysV xs=false):=by show _=_;rw[FX.out.2.2.1];have:layV l x=false:=(by (unfold layV;rw[hcl];simp;omega));rw[this];rfl
        have q5':(l1:Int) > 5:=by omega
        go_wp2;go_ret;exact ⟨by rw[E.out];rfl,FX.out.1⟩
      have q5':¬ (l1:Int) > 5:=by omega
      have EL:Hid (layV l x=x.cons.all (conV l)):=by show _=_;unfold layV;rw[hcl];have e1:decide (1≤l1)=true:=(by simp;omega);have e2:decide (l1≤5)=true:=(by simp;omega);rw[e1,e2];rfl
      obtain ⟨b1,o1,rfl,hin1⟩:∃ b1 o1,a1=some ⟨b1,o1,none⟩∧InTys w w x.cons b1 o1:=by
        rcases FX.out.2.2.2.2.2 with h|h
        · omega
        · exact h
      have I1:Hid (InTys w w x.cons b1 o1):=hin1;clear hin1;go_upto_region 8 with fail;generalize wr.alloc (.cells #[.slice (some ⟨b1,o1,none⟩) l1 c1] 42)=v at *;generalize wr.heap.size=p9 at *;go_wp2
      go_loopw [29] (fun i ww=>∃ (m:Nat) (Q:List F),m≤l1∧i = .int .i64 m∧Q.length+m=l1∧Hid (w.grownBy ww none∧InTys w w Q b1 (o1+m * 1)∧layV l x=Q.all (conV l))) (fun i _=>l1 - (intOf i).toNat)
      case atStart=>exact ⟨0,x.cons,Nat.zero_le _,rfl,by omega,FX.out.1,by simpa using I1.out,EL.out⟩
      case round =>
        obtain ⟨m,Q,hm,rfl,hQl,HQ⟩:=hrel;by_cases hlt2:m < l1
        · obtain ⟨y,Q',rfl⟩:∃ x R',Q=x::R':=by
            cases Q with
            | nil=>simp at hQl;omega
            | cons x R'=>exact ⟨x,R',rfl⟩
          obtain ⟨hg,⟨⟨a2,l2,c2,z0,hy⟩,hQ2⟩,hv⟩:=HQ.out;rw[show o1+m * 1+1=o1+(m+1) * 1 by omega] at hQ2;have z0:=hg.cell z0 (by simp);simp only[Nat.mul_one] at z0;simp only[List.all_cons] at hv;simp only[lB] at hQl;have hyl:=hy.1;have hym:=hy.2.1;by_cases q3:3 < l2
          · have E:Hid (laysV xs=false∧w.grownBy wr none):=⟨by rw[FX.out.2.2.1,hv];have:conV l y=false:=(by (unfold conV;rw[hyl];simp;omega));rw[this];rfl,hg⟩
            have q3':(l2:Int) > 3:=by omega
            clear hg hy hQ2 hv HQ;go_wp2;go_ret;exact ⟨by rw[E.out.1];rfl,E.out.2⟩
          have q3':¬ (l2:Int) > 3:=by omega
          have EC:Hid (conV l y=lwF l y):=by show _=_;unfold conV;rw[hyl];have e1:decide (l2≤3)=true:=(by simp;omega);rw[e1];rfl
          have CC:Hid _:=areLowT y a2 l2 c2 l wr (hy.none hg) (by omega);have FQ:Hid (w.grownBy wr none∧InTys w w Q' b1 (o1+(m+1) * 1)∧layV l x=(conV l y && Q'.all (conV l))):=⟨hg,hQ2,hv⟩;clear hg hy hQ2 hv HQ;go_wp2_with fail;refine Calls.mono CC.out ?_;rintro e u ⟨he,hgu⟩;subst he;have GU:Hid (w.grownBy u none):=gtr FQ.out.1 hgu;clear CC hgu z0;simp only[]
          cases hq:lwF l y with
          | false =>
            have E:Hid (laysV xs=false):=by show _=_;rw[FX.out.2.2.1,FQ.out.2.2,EC.out,hq];rfl
            clear hq;go_wp2;go_ret;exact ⟨by rw[E.out];rfl,GU.out⟩
          | true =>
            have E:Hid (layV l x=Q'.all (conV l)):=by show _=_;rw[FQ.out.2.2,EC.out,hq];rfl
            clear hq;go_wp2;go_roundw
            case rel=>exact ⟨m+1,Q',by omega,by go_num,by omega,GU.out,FQ.out.2.1,E.out⟩
            case measure=>simp [intOf];omega
        · obtain rfl:m=l1:=by omega
          obtain rfl:Q=[]:=lz0 (by omega);have FZ:Hid (w.grownBy wr none∧InLayout w w R' b (o+(j+1) * 1)∧laysV xs=R'.all (layV l)):=⟨HQ.out.1,FX.out.2.1,by rw[FX.out.2.2.1,HQ.out.2.2];rfl⟩;clear HQ FX;go_wp2;go_roundw
          case rel=>exact ⟨j+1,R',by omega,by go_num,by omega,FZ⟩
          case measure=>simp [intOf];omega
    · obtain rfl:j=l:=by omega
      obtain rfl:R=[]:=lz0 (by omega);have E2:Hid (laysV xs=true∧w.grownBy wr none):=⟨HR.out.2.2,HR.out.1⟩;clear HR IN;go_wp2;go_ret;exact ⟨by rw[E2.out.1];rfl,E2.out.2⟩
def capsR (first:Bool) (prev:Int):List Int→Bool
 | []=>true
 | z::r=>decide (0≤z) && decide (z≤4) && (first || decide (prev < z)) && capsR false z r
def capsV (zs:List Int):Bool:=capsR true 0 zs
theorem capsR_step (zs:List Int) (j:Nat) (first:Bool) (prev:Int) (hj:j < zs.length):capsR first prev (zs.drop j)=(decide (0≤zs.getD j 0) && decide (zs.getD j 0≤4) && (first || decide (prev < zs.getD j 0)) && capsR false (zs.getD j 0) (zs.drop (j+1))):=by
 rw[List.drop_eq_getElem_cons hj]
 have e:zs.getD j 0=zs[j]:=by rw[List.getD_eq_getElem?_getD,List.getElem?_eq_getElem hj];rfl
 rw[e];rfl
theorem capsOkT (zs:List Int) (a:Option Addr) (l c:Nat) (w:World) (h:RdI w a l zs) :
    Calls Tryz.prog 87 #[.slice a l c] w fun e u=>e = .returned (.bool (capsV zs))∧w.grownBy u none:=by
  have hl:=h.2;have hfl:=h.1.1;by_cases h0:l=0
  · subst h0
    obtain rfl:=lz0 hfl;clear h;go_enter Tryz.func87,Tryz.ntmps87;go_wp2;refine wp_loop_rounds 1 ?_;rw[rounds_succ];go_wp2;go_ret;exact ⟨rfl,grf _ _⟩
  obtain ⟨b,o,rfl,hc⟩:∃ b o,a=some ⟨b,o,none⟩∧∀ i,i < l→w.cell? ⟨b,o+i,none⟩=some (.int .i64 (zs.getD i 0)):=by
    rcases h.1.2 with h|h
    · exact absurd h h0
    · exact h
  have IN:Hid (∀ i,i < l→w.cell? ⟨b,o+i,none⟩=some (.int .i64 (zs.getD i 0))):=hc;clear hc h;go_enter Tryz.func87,Tryz.ntmps87;go_wp2
  go_loopw [7] (fun i wr=>∃ (j:Nat) (pv:Int),j≤l∧i = .int .i64 j∧wr=w∧Hid (capsV zs=capsR (decide (j=0)) pv (zs.drop j)∧(∀ m,j=m+1→pv=zs.getD m 0))) (fun i _=>l - (intOf i).toNat)
  case atStart=>exact ⟨0,0,Nat.zero_le _,rfl,rfl,rfl,fun m hm=>by omega⟩
  case round =>
    obtain ⟨j,pv,hj,rfl,hx,HR⟩:=hrel;obtain rfl:w=wr:=hx.symm;by_cases hlt:j < l
    · have k0:=IN.out j hlt
      have hst:=capsR_step zs j (decide (j=0)) pv (by omega);have HS:Hid (capsV zs=(decide (0≤zs.getD j 0) && decide (zs.getD j 0≤4) && (decide (j=0) || decide (pv < zs.getD j 0)) && capsR false (zs.getD j 0) (zs.drop (j+1)))):=HR.out.1.trans hst;have HP:=HR.out.2
      have HZ:Hid (∀ m,j+1=m+1→zs.getD j 0=zs.getD m 0):=fun m hm=>by rw[show j=m by omega]
      clear HR hst
      have hji:(j:Int) < (l:Int):=by omega
      generalize zs.getD j 0=z at *;by_cases z0:z < 0
      · have E:Hid (capsV zs=false):=by show _=_;rw[HS.out];have:decide (0≤z)=false:=(by simp;omega);rw[this];rfl
        clear HP;go_wp2;go_ret;exact ⟨by rw[E.out];rfl,grf _ _⟩
      by_cases z4:z > 4
      · have E:Hid (capsV zs=false):=by show _=_;rw[HS.out];have:decide (z≤4)=false:=(by simp;omega);rw[this];simp
        clear HP;go_wp2;go_ret;exact ⟨by rw[E.out];rfl,grf _ _⟩
      have e0:decide (0≤z)=true:=by simp;omega
      have e4:decide (z≤4)=true:=by simp;omega
      cases j with
      | zero =>
        have E:Hid (capsV zs=capsR (decide (0+1=0)) z (zs.drop (0+1))):=by show _=_;rw[HS.out,e0,e4];rfl
        clear HS HP e0 e4;rw[Nat.add_zero] at k0;go_wp2;go_roundw
        case rel=>exact ⟨0+1,z,by omega,by go_num,by first|rfl|trivial,E.out,HZ.out⟩
        case measure=>simp [intOf];omega
      | succ m =>
        obtain rfl:=HP m rfl;have k1:=IN.out m (by omega);clear HP;generalize zs.getD m 0=y at *
        have hpos:((m:Int)+1) > 0:=by omega
        by_cases hzy:z≤y
        · have E:Hid (capsV zs=false):=by show _=_;rw[HS.out,e0,e4];have:decide (y < z)=false:=(by simp;omega);rw[this];simp
          clear HS e0 e4;go_wp2;go_ret;exact ⟨by rw[E.out];rfl,grf _ _⟩
        · have E:Hid (capsV zs=capsR (decide (m+1+1=0)) z (zs.drop (m+1+1))):=by
            show _=_
            rw[HS.out,e0,e4]
            have e5:decide (y < z)=true:=by simp;omega
            rw[e5];simp
          clear HS e0 e4;go_wp2;go_roundw
          case rel=>exact ⟨m+1+1,z,by omega,by go_num,by first|rfl|trivial,E.out,HZ.out⟩
          case measure=>simp [intOf];omega
    · obtain rfl:j=l:=by omega
      have E2:Hid (capsV zs=true):=by show _=_;rw[HR.out.1,List.drop_of_length_le (by omega)];rfl
      clear HR IN;go_wp2;go_ret;exact ⟨by rw[E2.out];rfl,grf _ _⟩
end Go.Proofs.YtnmlbeefjjohfaaGreatDoor.By
