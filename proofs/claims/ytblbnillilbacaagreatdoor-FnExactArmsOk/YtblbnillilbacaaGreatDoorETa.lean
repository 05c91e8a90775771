/-
  No statement is proved here.
-/
import Derived.Test.YtblbnillilbacaaGreatDoorEHa
import Derived.Test.YtblbnillilbacaaGreatDoorTShapeAlsoa
namespace Go.Proofs.YtblbnillilbacaaGreatDoor.By
set_option maxRecDepth 100000
set_option maxHeartbeats 16000000
open Go.RowKit
set_option linter.unusedVariables false
set_option linter.unusedSimpArgs false
def dtV (ds:List Da) (n:Int) (l:Nat):Bool:=match ds[n.toNat]? with
 | some x=>decide ((l:Int)=x.vars)
 | none=>false
def tyDF (V:Int) (ds:List Da):F→Bool
 | .nil=>true
 | .cons k n d r=>(if k=7 then decide (n < V) else if k=6 then (dtV ds n d.len && tyDF V ds d) else tyDF V ds d) && tyDF V ds r
def tyD (V:Int) (ds:List Da) (k n:Int) (d:F):Bool:=if k=7 then decide (n < V) else if k=6 then (dtV ds n d.len && tyDF V ds d) else tyDF V ds d
theorem tyDF_cons (V:Int) (ds:List Da) (k n:Int) (d r:F):tyDF V ds (.cons k n d r)=(tyD V ds k n d && tyDF V ds r):=rfl
theorem openT (q:Nat) (V n:Int) (w:World) (hq:w.cell? ⟨q,1,none⟩=some (.int .i64 V)) :
  Calls Tryz.prog 96 #[.int .i64 n,.pointer (some ⟨q,0,none⟩)] w fun e u=>e = .returned (.bool (decide (n < V)))∧u=w:=by
 by_cases h:n < V
 ·
  go_enter Tryz.func96,Tryz.ntmps96;go_wp2;go_ret;exact ⟨by simp [h],rfl⟩
 ·
  go_enter Tryz.func96,Tryz.ntmps96;go_wp2;go_ret;exact ⟨by simp [h],rfl⟩
theorem InDa.nth {w wp:World}:∀ {ds:List Da} {b off i:Nat},InDa w wp ds b off→i < ds.length→∃ x a n c a' l' c',ds[i]? = some x∧w.cell? ⟨b,off+i * 3,none⟩=some (.slice a n c)∧w.cell? ⟨b,off+i * 3+1,none⟩=some (.int .i64 x.vars)∧w.cell? ⟨b,off+i * 3+2,none⟩=some (.slice a' l' c')∧RdB wp a n x.name∧SlCo wp a' l' x.cons
 | [],_,_,i,_,h=>by simp at h
 | x::r,b,off,0,h,_=>by
  obtain ⟨⟨a,n,c,a',l',c',h0,h1,h2,h3,h4⟩,-⟩:=h;exact ⟨x,a,n,c,a',l',c',rfl,by simpa using h0,by simpa using h1,by simpa using h2,h3,h4⟩
 | x::r,b,off,i+1,h,hi=>by
  obtain ⟨x',a,n,c,a',l',c',g0,g1,g2,g3,g4,g5⟩:=InDa.nth h.2 (i:=i) (by simp at hi;omega);rw[show off+3+i * 3=off+(i+1) * 3 by omega] at g1 g2 g3;exact ⟨x',a,n,c,a',l',c',by simpa using g0,g1,g2,g3,g4,g5⟩
def Stn (V:Int) (ds:List Da) (q m:Nat):Prop:=∀ (d:F) (k n:Int) (a:Option Addr) (l c p:Nat) (ad:Option Addr) (ld cd:Nat) (w:World),d.size < m→d.size≤100000→SlF w a l d→fitsB k n l=true→okF d p=true→SlDa w ad ld ds→w.cell? ⟨q,1,none⟩=some (.int .i64 V) →
  Calls Tryz.prog 99 #[.agg #[.int .i64 k,.int .i64 n,.slice a l c],.slice ad ld cd,.func (Fn.func 96) #[] #[.pointer (some ⟨q,0,none⟩)]] w fun e u=>e = .returned (.bool (tyD V ds k n d))∧w.grownBy u none
theorem standsT (V:Int) (ds:List Da) (q m:Nat):Stn V ds q m:=by
 induction m with
 | zero=>intro d k n a l c p ad ld cd w hm;exact absurd hm (Nat.not_lt_zero _)
 | succ m ih =>
  intro d k n a l c p ad ld cd w hm hm2 h hf hok hD hq;have hfl:=h.1;have hl:=h.2.1;have hdl:=hD.1;have hdm:=hD.2.1;have g0:=gal w (.cells #[.int .i64 k,.int .i64 n,.slice a l c] 79) none;have b0:=heap_alloc_new w (.cells #[.int .i64 k,.int .i64 n,.slice a l c] 79);have IH:Hid (Stn V ds q m):=ih;have HS:Hid (SlF w a l d∧okF d p=true∧SlDa w ad ld ds∧w.cell? ⟨q,1,none⟩=some (.int .i64 V)):=⟨h,hok,hD,hq⟩;have HG:Hid (w.grownBy (w.alloc (.cells #[.int .i64 k,.int .i64 n,.slice a l c] 79)) none):=g0;have HB:Hid ((w.alloc (.cells #[.int .i64 k,.int .i64 n,.slice a l c] 79)).heap[w.heap.size]? = some (Obj.cells #[.int .i64 k,.int .i64 n,.slice a l c] 79)):=b0;have HF:Hid (fitsB k n l=true):=hf;clear ih h hf hok hD hq g0 b0;by_cases h7:k=7
  ·
   have CO:Hid _:=openT q V n (w.alloc (.cells #[.int .i64 k,.int .i64 n,.slice a l c] 79)) (HG.out.cell HS.out.2.2.2 (by simp))
   have EV:Hid (tyD V ds k n d=decide (n < V)):=by show _=_;unfold tyD;rw[if_pos h7]
   obtain ⟨⟨x0,x1,x2⟩,-⟩:=three HB.out
   have hk7:(k == 7)=true:=by simpa using h7
   clear HF IH h7;go_enter Tryz.func99,Tryz.ntmps99;go_wp2_with fail;refine Calls.mono CO.out ?_;rintro e v ⟨he,hv⟩;subst he hv;simp only[];go_wp2;go_ret;exact ⟨by rw[EV.out];rfl,HG.out⟩
  ·
   by_cases h6:k=6
   ·
    have hf:=HF.out
    have hn0:0≤n:=by
     rw[h6] at hf;by_cases hl3:l≤3
     ·
      rw[fits6 hl3] at hf;simp only[Bool.and_eq_true,decide_eq_true_eq] at hf;omega
     ·
      rw[fits6x hl3] at hf
      cases hf
    have hk7:(k == 7)=false:=by simpa using h7
    have hk6:(k == 6)=true:=by simpa using h6
    have ED:tyD V ds k n d=(dtV ds n d.len && tyDF V ds d):=by unfold tyD;rw[if_neg h7,if_pos h6]
    clear hf h7 h6 HF;obtain ⟨nn0,rfl⟩:∃ nn0:Nat,n=(nn0:Int):=⟨n.toNat,by omega⟩;obtain ⟨⟨x0,x1,x2⟩,-⟩:=three HB.out;by_cases hlen:nn0 < ld
    ·
     obtain ⟨bD,oD,rfl,hinD,-⟩:∃ bD oD,ad=some ⟨bD,oD,none⟩∧InDa w w ds bD oD∧0 < ld:=by
      rcases HS.out.2.2.1.cases with ⟨z1,z2⟩|h
      ·
       omega
      ·
       exact h
     obtain ⟨x,a1,n1,c1,a2,l2,c2,hx,-,y1,-,-,-⟩:=hinD.nth (i:=nn0) (by omega)
     have EX:dtV ds (nn0:Int) d.len=decide ((l:Int)=x.vars):=by unfold dtV;rw[Int.toNat_natCast,hx,hfl]
     have hge:¬ ((nn0:Int) ≥ (ld:Int)):=by omega
     have hgeb:decide ((nn0:Int) ≥ (ld:Int))=false:=by simp;omega
     have HY:Hid (∀ u,w.grownBy u none→u.cell? ⟨bD,oD+nn0 * 3+1,none⟩=some (.int .i64 x.vars)):=fun u hu=>hu.cell y1 (by simp)
     have hlt':(nn0:Int) < (ld:Int):=by omega
     clear hinD y1 hx;go_enter Tryz.func99,Tryz.ntmps99;go_upto_region 5 with fail;clear x0 x1 x2;generalize w.alloc (.cells #[.int .i64 k,.int .i64 (nn0:Int),.slice a l c] 79)=W0 at *;generalize w.heap.size=p0 at *;have gd:=grown_drew (grf W0 none);have HG1:Hid (w.grownBy W0.drew none):=gtr HG.out gd;have HB1:Hid (W0.drew.heap[p0]? = some (Obj.cells #[.int .i64 k,.int .i64 (nn0:Int),.slice a l c] 79)):=(gd.block _ (lt_of_block HB.out) (by simp)).trans HB.out;clear HG HB gd;refine wp_region_held_drew (S:=(fun u=>Tri p0 0 (.int .i64 k) (.int .i64 (nn0:Int)) (.slice a l c) u∧u.cell? ⟨bD,oD+nn0 * 3+1,none⟩=some (.int .i64 x.vars))) (by kernel_rfl) ⟨(three HB1.out).1,HY.out _ HG1.out⟩ (fun hH=>?_);generalize W0.drew=W1 at *;have HG:Hid (w.grownBy W1 none):=HG1.out;have HB:Hid (W1.heap[p0]? = some (Obj.cells #[.int .i64 k,.int .i64 (nn0:Int),.slice a l c] 79)):=HB1.out;clear HG1 HB1;simp only[List.size_toArray,lB,lC,Nat.reduceAdd,Array.replicate,List.replicate]
     refine tk 0 ?_;refine tk 1 ?_;refine tk 2 ?_;refine tk 3 ?_;refine tk 4 ?_;refine tk 5 ?_;refine tk 6 ?_;refine tk 7 ?_;refine tk 8 ?_;refine tk 9 ?_;refine tk 10 ?_;refine tk 11 ?_;refine tk 12 ?_;refine tk 13 ?_;refine tk 14 ?_;refine tk 15 ?_;refine tk 16 ?_;refine wpAnyH_done (by kernel_rfl) ?_ _;clear hH;by_cases hlv:(l:Int)=x.vars
     ·
      have EV:Hid (tyD V ds k (nn0:Int) d=tyDF V ds d):=by show _=_;rw[ED,EX];simp [hlv]
      have hne:((l:Int) != x.vars)=false:=by simp [hlv]
      try rw[hne]
      clear ED EX hlv;go_upto_region 7 with fail;rcases HS.out.1.cases with ⟨h1,h2⟩|⟨b,o,h1,hin,-,hpos⟩
      ·
       subst h1 h2;have GF:Hid (w.grownBy W1 none):=HG.out;obtain ⟨⟨x0,x1,x2⟩,-⟩:=three HB.out;go_wp2;refine wp_loop_rounds 1 ?_;rw[rounds_succ];go_wp2;go_ret;exact ⟨by rw[EV.out];rfl,GF.out⟩
      ·
       subst h1;have IN:Hid (InF W1 d b o):=hin.none HG.out;obtain ⟨⟨x0,x1,x2⟩,-⟩:=three HB.out;clear hin;go_wp2;clear x0 x1 x2
       go_loopw [39] (fun i wr=>∃ (j:Nat) (R:F),j≤l∧i = .int .i64 j∧R.len+j=l∧R.size≤d.size∧Hid (W1.grownBy wr none∧InF W1 R b (o+j * 3)∧okF R p=true∧tyDF V ds d=tyDF V ds R)) (fun i _=>l - (intOf i).toNat)
       case atStart=>exact ⟨0,d,Nat.zero_le _,rfl,by omega,Nat.le_refl _,grf _ _,by simpa using IN.out,HS.out.2.1,rfl⟩
       case round =>
        obtain ⟨j,R,hj,rfl,hRl,hRs,HR⟩:=hrel;by_cases hlt:j < l
        ·
         obtain ⟨q1,hq1⟩:∃ q1,R.len=q1+1:=⟨R.len - 1,by omega⟩;obtain ⟨kk,nn,d',R',rfl,hR'⟩:=F.cons_of_len hq1;obtain ⟨hg,hR,hokR,hv⟩:=HR.out;obtain ⟨a',l',c',c0,c1,c2',hd,hR2⟩:=hR.out;rw[show o+j * 3+3=o+(j+1) * 3 by omega] at hR2;simp only[okF,Bool.and_eq_true,decide_eq_true_eq] at hokR;have c0:=hg.cell c0 (by simp);have c1:=hg.cell c1 (by simp);have c2':=hg.cell c2' (by simp);have ga:=gal wr (.cells #[.int .i64 kk,.int .i64 nn,.slice a' l' c'] 79) none;have gw:=gtr HG.out (gtr hg ga);simp only[F.size] at hRs;have CC:Hid _:=IH.out d' kk nn a' l' c' (p - 1) (some ⟨bD,oD,none⟩) ld cd (wr.alloc (.cells #[.int .i64 kk,.int .i64 nn,.slice a' l' c'] 79)) (by omega) (by omega) (hd.none (gtr hg ga)) (by rw[← hd.1];exact hokR.1.1.2) hokR.1.2 (HS.out.2.2.1.none gw) (gw.cell HS.out.2.2.2 (by simp));have FX:Hid (W1.grownBy (wr.alloc (.cells #[.int .i64 kk,.int .i64 nn,.slice a' l' c'] 79)) none∧InF W1 R' b (o+(j+1) * 3)∧okF R' p=true∧tyDF V ds d=(tyD V ds kk nn d' && tyDF V ds R')):=⟨gtr hg ga,hR2,hokR.2,by rw[hv,tyDF_cons]⟩
         clear hg hR hokR hv hd hR2 ga gw HR IN;go_wp2_with fail;refine Calls.mono CC.out ?_;rintro e v ⟨he,hgv⟩;subst he;have FY:Hid (W1.grownBy v none):=gtr FX.out.1 hgv;clear CC hgv c0 c1 c2';simp only[]
         cases hq:tyD V ds kk nn d' with
         | false =>
          have E2:Hid (tyD V ds k (nn0:Int) d=false):=by show _=_;rw[EV.out,FX.out.2.2.2,hq];rfl
          clear hq;go_wp2;go_ret;exact ⟨by rw[E2.out];rfl,gtr HG.out FY.out⟩
         | true =>
          have E2:Hid (tyDF V ds d=tyDF V ds R'):=by show _=_;rw[FX.out.2.2.2,hq];rfl
          clear hq;go_wp2;go_roundw
          case rel=>exact ⟨j+1,R',by omega,by go_num,by omega,by omega,FY.out,FX.out.2.1,FX.out.2.2.1,E2.out⟩
          case measure=>simp [intOf];omega
        ·
         obtain rfl:j=l:=by omega
         obtain rfl:R = .nil:=F.nil_of_len (by omega);have E2:Hid (tyD V ds k (nn0:Int) d=true∧w.grownBy wr none):=⟨by rw[EV.out,HR.out.2.2.2];rfl,gtr HG.out HR.out.1⟩;clear HR IN;go_wp2;go_ret;exact ⟨by rw[E2.out.1];rfl,E2.out.2⟩
     ·
      have EV:Hid (tyD V ds k (nn0:Int) d=false):=by show _=_;rw[ED,EX];simp [hlv]
      have hne:((l:Int) != x.vars)=true:=by simp [hlv]
      try rw[hne]
      clear ED EX;go_wp2;go_ret;exact ⟨by rw[EV.out];rfl,HG.out⟩
    ·
     have EX:dtV ds (nn0:Int) d.len=false:=by
      unfold dtV;rw[Int.toNat_natCast,List.getElem?_eq_none (by omega)]
     have EV:Hid (tyD V ds k (nn0:Int) d=false):=by show _=_;rw[ED,EX];rfl
     have hge:(nn0:Int) ≥ (ld:Int):=by omega
     have hgeb:decide ((nn0:Int) ≥ (ld:Int))=true:=by simp;omega
     clear ED EX;go_enter Tryz.func99,Tryz.ntmps99;go_upto_region 5 with fail;clear x0 x1 x2;generalize w.alloc (.cells #[.int .i64 k,.int .i64 (nn0:Int),.slice a l c] 79)=W0 at *;generalize w.heap.size=p0 at *;have gd:=grown_drew (grf W0 none);have HG1:Hid (w.grownBy W0.drew none):=gtr HG.out gd;have HB1:Hid (W0.drew.heap[p0]? = some (Obj.cells #[.int .i64 k,.int .i64 (nn0:Int),.slice a l c] 79)):=(gd.block _ (lt_of_block HB.out) (by simp)).trans HB.out;clear HG HB gd;refine wp_region_held_drew (S:=(fun u=>Tri p0 0 (.int .i64 k) (.int .i64 (nn0:Int)) (.slice a l c) u)) (by kernel_rfl) (three HB1.out).1 (fun hH=>?_);generalize W0.drew=W1 at *;have HG:Hid (w.grownBy W1 none):=HG1.out;clear HG1 HB1;simp only[List.size_toArray,lB,lC,Nat.reduceAdd,Array.replicate,List.replicate];refine tk 0 ?_;refine tk 1 ?_;refine tk 2 ?_;refine tk 3 ?_;refine tk 4 ?_;refine tk 5 ?_;refine tks 6 ?_;refine tks 7 ?_
     refine tks 8 ?_;refine tks 9 ?_;refine tks 10 ?_;refine tks 11 ?_;refine tks 12 ?_;refine tks 13 ?_;refine tks 14 ?_;refine tks 15 ?_;refine tk 16 ?_;refine wpAnyH_done (by kernel_rfl) ?_ _;clear hH;go_wp2;go_ret;exact ⟨by rw[EV.out];rfl,HG.out⟩
   ·
    have EV:Hid (tyD V ds k n d=tyDF V ds d):=by show _=_;unfold tyD;rw[if_neg h7,if_neg h6]
    obtain ⟨⟨x0,x1,x2⟩,-⟩:=three HB.out
    have hk7:(k == 7)=false:=by simpa using h7
    have hk6:(k == 6)=false:=by simpa using h6
    clear HF;go_enter Tryz.func99,Tryz.ntmps99;go_upto_region 7 with fail;clear x0 x1 x2;generalize w.alloc (.cells #[.int .i64 k,.int .i64 n,.slice a l c] 79)=W0 at *;generalize w.heap.size=p0 at *;rcases HS.out.1.cases with ⟨h1,h2⟩|⟨b,o,h1,hin,-,hpos⟩
    ·
     subst h1 h2;have GF:Hid (w.grownBy W0 none):=HG.out;obtain ⟨⟨x0,x1,x2⟩,-⟩:=three HB.out;go_wp2;refine wp_loop_rounds 1 ?_;rw[rounds_succ];go_wp2;go_ret;exact ⟨by rw[EV.out];rfl,GF.out⟩
    ·
     subst h1;have IN:Hid (InF W0 d b o):=hin.none HG.out;obtain ⟨⟨x0,x1,x2⟩,-⟩:=three HB.out;clear hin;go_wp2;clear x0 x1 x2
     go_loopw [39] (fun i wr=>∃ (j:Nat) (R:F),j≤l∧i = .int .i64 j∧R.len+j=l∧R.size≤d.size∧Hid (W0.grownBy wr none∧InF W0 R b (o+j * 3)∧okF R p=true∧tyDF V ds d=tyDF V ds R)) (fun i _=>l - (intOf i).toNat)
     case atStart=>exact ⟨0,d,Nat.zero_le _,rfl,by omega,Nat.le_refl _,grf _ _,by simpa using IN.out,HS.out.2.1,rfl⟩
     case round =>
      obtain ⟨j,R,hj,rfl,hRl,hRs,HR⟩:=hrel;by_cases hlt:j < l
      ·
       obtain ⟨q1,hq1⟩:∃ q1,R.len=q1+1:=⟨R.len - 1,by omega⟩;obtain ⟨kk,nn,d',R',rfl,hR'⟩:=F.cons_of_len hq1;obtain ⟨hg,hR,hokR,hv⟩:=HR.out;obtain ⟨a',l',c',c0,c1,c2',hd,hR2⟩:=hR.out;rw[show o+j * 3+3=o+(j+1) * 3 by omega] at hR2;simp only[okF,Bool.and_eq_true,decide_eq_true_eq] at hokR;have c0:=hg.cell c0 (by simp);have c1:=hg.cell c1 (by simp);have c2':=hg.cell c2' (by simp);have ga:=gal wr (.cells #[.int .i64 kk,.int .i64 nn,.slice a' l' c'] 79) none;have gw:=gtr HG.out (gtr hg ga);simp only[F.size] at hRs;have CC:Hid _:=IH.out d' kk nn a' l' c' (p - 1) ad ld cd (wr.alloc (.cells #[.int .i64 kk,.int .i64 nn,.slice a' l' c'] 79)) (by omega) (by omega) (hd.none (gtr hg ga)) (by rw[← hd.1];exact hokR.1.1.2) hokR.1.2 (HS.out.2.2.1.none gw) (gw.cell HS.out.2.2.2 (by simp));have FX:Hid (W0.grownBy (wr.alloc (.cells #[.int .i64 kk,.int .i64 nn,.slice a' l' c'] 79)) none∧InF W0 R' b (o+(j+1) * 3)∧okF R' p=true∧tyDF V ds d=(tyD V ds kk nn d' && tyDF V ds R')):=⟨gtr hg ga,hR2,hokR.2,by rw[hv,tyDF_cons]⟩
       clear hg hR hokR hv hd hR2 ga gw HR IN;go_wp2_with fail;refine Calls.mono CC.out ?_;rintro e v ⟨he,hgv⟩;subst he;have FY:Hid (W0.grownBy v none):=gtr FX.out.1 hgv;clear CC hgv c0 c1 c2';simp only[]
       cases hq:tyD V ds kk nn d' with
       | false =>
        have E2:Hid (tyD V ds k n d=false):=by show _=_;rw[EV.out,FX.out.2.2.2,hq];rfl
        clear hq;go_wp2;go_ret;exact ⟨by rw[E2.out];rfl,gtr HG.out FY.out⟩
       | true =>
        have E2:Hid (tyDF V ds d=tyDF V ds R'):=by show _=_;rw[FX.out.2.2.2,hq];rfl
        clear hq;go_wp2;go_roundw
        case rel=>exact ⟨j+1,R',by omega,by go_num,by omega,by omega,FY.out,FX.out.2.1,FX.out.2.2.1,E2.out⟩
        case measure=>simp [intOf];omega
      ·
       obtain rfl:j=l:=by omega
       obtain rfl:R = .nil:=F.nil_of_len (by omega);have E2:Hid (tyD V ds k n d=true∧w.grownBy wr none):=⟨by rw[EV.out,HR.out.2.2.2];rfl,gtr HG.out HR.out.1⟩;clear HR IN;go_wp2;go_ret;exact ⟨by rw[E2.out.1];rfl,E2.out.2⟩
end Go.Proofs.YtblbnillilbacaaGreatDoor.By
