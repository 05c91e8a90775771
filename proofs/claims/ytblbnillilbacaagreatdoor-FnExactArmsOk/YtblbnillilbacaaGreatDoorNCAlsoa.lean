/-
  No statement is proved here.
-/
import Derived.Test.YtblbnillilbacaaGreatDoorENAlsoa
namespace Go.Proofs.YtblbnillilbacaaGreatDoor.By
set_option maxRecDepth 100000
set_option maxHeartbeats 16000000
open Go.RowKit
set_option linter.unusedVariables false
set_option linter.unusedSimpArgs false
def wholeV (n:Int):Bool:=decide (-1073741824≤n) && decide (n≤1073741823)
theorem isWholeT (n:Int) (w:World) :
    Calls Tryz.prog 133 #[.int .i64 n] w fun e u=>e = .returned (.bool (wholeV n))∧u=w:=by
  by_cases h1:-1073741824≤n
  · by_cases h2:n≤1073741823
    · go_enter Tryz.func133,Tryz.ntmps133
      go_wp2;go_ret;exact ⟨by simp [wholeV,h1,h2],rfl⟩
    · go_enter Tryz.func133,Tryz.ntmps133
      go_wp2;go_ret;exact ⟨by simp [wholeV,h1,h2],rfl⟩
  · go_enter Tryz.func133,Tryz.ntmps133
    go_wp2;go_ret
    exact ⟨by have e:wholeV n=false:=by (simp [wholeV];omega)
              rw[e];rfl,rfl⟩
def noLit (z:Int):Bool:=decide (z < 32) || decide (126 < z) || decide (z=34) || decide (z=92)
def litV (zs:List Int):Bool:=decide (zs.length≤20) && !zs.any noLit
theorem isNoLitT (z:Int) (w:World) :
    Calls Tryz.prog 163 #[.int .u8 z] w fun e u=>e = .returned (.bool (noLit z))∧u=w:=by
  by_cases h1:z < 32
  · go_enter Tryz.func163,Tryz.ntmps163
    go_wp2;go_ret;exact ⟨by simp [noLit,h1],rfl⟩
  by_cases h2:126 < z
  · have h2':z > 126:=h2
    go_enter Tryz.func163,Tryz.ntmps163;go_wp2;go_ret;exact ⟨by simp [noLit,h2],rfl⟩
  have h2':¬ z > 126:=h2;by_cases h3:z=34
  · go_enter Tryz.func163,Tryz.ntmps163
    go_wp2;go_ret;exact ⟨by simp [noLit,h3],rfl⟩
  by_cases h4:z=92
  · go_enter Tryz.func163,Tryz.ntmps163
    go_wp2;go_ret;exact ⟨by simp [noLit,h4],rfl⟩
  go_enter Tryz.func163,Tryz.ntmps163;go_wp2;go_ret
  exact ⟨by have e:noLit z=false:=by (simp [noLit,h3,h4];omega)
            simp [e,h3,h4],rfl⟩
def AtP (b:Bool) (r:Int):Prop:=if b=true then 0≤r else r = -1
def DrB (w:World) (b o:Nat) (R:List Int):Prop:=∀ i,i < R.length→w.cell? ⟨b,o+i,none⟩=some (.int .u8 (R.getD i 0))
theorem DrB.le {w u:World} {b o:Nat} {R:List Int} (h:DrB w b o R) (k:CLe w u):DrB u b o R:=fun i hi=>k _ _ (h i hi)
theorem DrB.tl {w:World} {b o:Nat} {z:Int} {R:List Int} (h:DrB w b o (z::R)):w.cell? ⟨b,o,none⟩=some (.int .u8 z)∧DrB w b (o+1) R:=by
 refine ⟨by simpa using h 0 (by simp),fun i hi=>?_⟩;have:=h (i+1) (by simp;omega);rw[show o+1+i=o+(i+1) by omega];simpa using this
theorem indexBT (zs:List Int) (a:Option Addr) (l c:Nat) (w:World) (h:RdB w a l zs) :
  Calls Tryz.prog 173 #[.slice a l c,.func (.func 163) #[] #[]] w fun e u=>(∃ r:Int,e = .returned (.int .i64 r)∧AtP (zs.any noLit) r)∧w.grownBy u none:=by
 have hl:=h.2.2;have hfl:=h.1.1
 have hcs:(l=0∧zs=[])∨∃ b o,a=some ⟨b,o,none⟩∧DrB w b o zs∧0 < l:=by
  by_cases h0:l=0
  ·
   exact .inl ⟨h0,List.eq_nil_of_length_eq_zero (by omega)⟩
  ·
   rcases h.1.2 with h2|⟨b,o,e,h2⟩
   ·
    exact absurd h2 h0
   ·
    exact .inr ⟨b,o,e,fun i hi=>h2 i (by omega),by omega⟩
 rcases hcs with ⟨rfl,rfl⟩|⟨b,o,rfl,hin,hpos⟩
 ·
  go_enter Tryz.func173,Tryz.ntmps173;go_wp2;refine wp_loop_rounds 1 ?_;rw[rounds_succ];go_wp2;go_ret;exact ⟨⟨-1,rfl,by unfold AtP;exact rfl⟩,grf _ _⟩
 have IN:Hid (DrB w b o zs):=hin;clear hin h;go_enter Tryz.func173,Tryz.ntmps173;go_wp2
 go_loopw [8] (fun i wr=>∃ (j:Nat) (R:List Int),j≤l∧i = .int .i64 j∧R.length+j=l∧Hid (w.grownBy wr none∧DrB wr b (o+j) R∧(zs.any noLit)=R.any noLit)) (fun i _=>l - (intOf i).toNat)
 case atStart=>exact ⟨0,zs,Nat.zero_le _,rfl,by omega,grf _ _,by simpa using IN.out,rfl⟩
 case round =>
  obtain ⟨j,R,hj,rfl,hRl,HR⟩:=hrel;by_cases hlt:j < l
  ·
   obtain ⟨z,R',rfl⟩:∃ x R',R=x::R':=by
    cases R with
    | nil=>simp at hRl;omega
    | cons x R'=>exact ⟨x,R',rfl⟩
   obtain ⟨hg,hR,hv⟩:=HR.out;obtain ⟨k0,hT⟩:=hR.tl;rw[show o+j+1=o+(j+1) by omega] at hT;have hd:True:=trivial;simp only[List.any_cons] at hv
   have CC:Hid (Calls Tryz.prog 163 #[.int .u8 z] wr fun e u=>e = .returned (.bool (noLit z))∧wr.grownBy u none):=(isNoLitT z wr).mono fun e u hh=>⟨hh.1,by rw[hh.2];exact grf _ _⟩
   have FX:Hid (w.grownBy wr none∧DrB wr b (o+(j+1)) R'∧(zs.any noLit)=(noLit z || R'.any noLit)):=⟨hg,hT,hv⟩;clear hg hR hv hd hT HR IN;simp only[lB] at hRl;go_wp2_with fail;refine Calls.mono CC.out ?_;rintro e u2 ⟨rfl,hgu⟩;have FY:Hid (w.grownBy u2 none∧DrB u2 b (o+(j+1)) R'∧(zs.any noLit)=(noLit z || R'.any noLit)):=⟨gtr FX.out.1 hgu,FX.out.2.1.le (CLe.grown hgu),FX.out.2.2⟩;clear FX hgu CC k0;simp only[]
   cases hb:noLit z with
   | false =>
    have FZ:Hid (w.grownBy u2 none∧DrB u2 b (o+(j+1)) R'∧(zs.any noLit)=R'.any noLit):=⟨FY.out.1,FY.out.2.1,by rw[FY.out.2.2,hb,Bool.false_or]⟩;clear FY hb;go_wp2;go_roundw
    case rel=>exact ⟨j+1,R',by omega,by go_num,by omega,FZ⟩
    case measure=>simp [intOf];omega
   | true =>
    have FZ:Hid (w.grownBy u2 none∧(zs.any noLit)=true):=⟨FY.out.1,by rw[FY.out.2.2,hb,Bool.true_or]⟩;clear FY hb;go_wp2;go_ret;exact ⟨⟨(j:Int),rfl,by unfold AtP;rw[if_pos FZ.out.2];omega⟩,FZ.out.1⟩
  ·
   obtain rfl:j=l:=by omega
   obtain rfl:R=[]:=List.eq_nil_of_length_eq_zero (by omega);have FZ:Hid (w.grownBy wr none∧(zs.any noLit)=false):=⟨HR.out.1,HR.out.2.2⟩;clear HR;go_wp2;go_ret;exact ⟨⟨-1,rfl,by unfold AtP;rw[if_neg (by rw[FZ.out.2];simp)]⟩,FZ.out.1⟩
theorem containsBT (zs:List Int) (a:Option Addr) (l c:Nat) (w:World) (h:RdB w a l zs) :
  Calls Tryz.prog 162 #[.slice a l c,.func (.func 163) #[] #[]] w fun e u=>e = .returned (.bool (zs.any noLit))∧w.grownBy u none:=by
 have CC:Hid _:=indexBT zs a l c w h;clear h;go_enter Tryz.func162,Tryz.ntmps162;go_wp2_with fail;refine Calls.mono CC.out ?_;rintro e u ⟨⟨r,rfl,hr⟩,hg⟩;have G:Hid (w.grownBy u none):=hg;clear hg CC;unfold AtP at hr;simp only[]
 cases hb:(zs.any noLit) with
 | true =>
  rw[hb,if_pos rfl] at hr;go_wp2;go_ret;refine ⟨?_,G.out⟩;rw[hb]
  first|rfl | (simp;done) | (simp;omega)
 | false =>
  rw[hb,if_neg (by simp)] at hr;subst hr;go_wp2;go_ret;refine ⟨?_,G.out⟩;rw[hb]
  first|rfl | (simp;done)
theorem isLiteralT (a:Option Addr) (n c:Nat) (zs:List Int) (w:World) (h:RdB w a n zs) :
  Calls Tryz.prog 152 #[.slice a n c] w fun e u=>e = .returned (.bool (litV zs))∧w.grownBy u none:=by
 have CC:Hid _:=containsBT zs a n c w h;have hn:=h.1.1;clear h;by_cases hl:n≤20
 ·
  have hl':(n:Int)≤20:=by omega
  go_enter Tryz.func152,Tryz.ntmps152;go_wp2_with fail;refine Calls.mono CC.out ?_;rintro e u ⟨rfl,hg⟩;have G:Hid (w.grownBy u none):=hg;clear CC hg;simp only[];go_wp2;go_ret;refine ⟨?_,G.out⟩
  have e:litV zs = !zs.any noLit:=by unfold litV;rw[hn];simp [hl]
  rw[e];rfl
 ·
  have hl':¬ (n:Int)≤20:=by omega
  clear CC;go_enter Tryz.func152,Tryz.ntmps152;go_wp2;go_ret;refine ⟨?_,grf _ _⟩
  have e:litV zs=false:=by unfold litV;rw[hn];simp [hl]
  rw[e];rfl
theorem isNoNameT (a:Option Addr) (n c:Nat) (zs:List Int) (w:World) (h:RdB w a n zs) :
  Calls Tryz.prog 167 #[.slice a n c] w fun e u=>e = .returned (.bool (!nameV zs))∧w.grownBy u none:=by
 have CC:Hid _:=isNameT a n c zs w h;clear h;go_enter Tryz.func167,Tryz.ntmps167;go_wp2_with fail;refine Calls.mono CC.out ?_;rintro e u ⟨rfl,hg⟩;have G:Hid (w.grownBy u none):=hg;clear CC hg;simp only[];go_wp2;go_ret;exact ⟨rfl,G.out⟩
theorem indexWT (xs:List (List Int)) (a:Option Addr) (l c:Nat) (w:World) (h:SlSS w a l xs) :
  Calls Tryz.prog 174 #[.slice a l c,.func (.func 167) #[] #[]] w fun e u=>(∃ r:Int,e = .returned (.int .i64 r)∧AtP (xs.any fun x=>!nameV x) r)∧w.grownBy u none:=by
 have hl:=h.2.1;have hfl:=h.1;rcases h.cases with ⟨rfl,rfl⟩|⟨b,o,rfl,hin,hpos⟩
 ·
  go_enter Tryz.func174,Tryz.ntmps174;go_wp2;refine wp_loop_rounds 1 ?_;rw[rounds_succ];go_wp2;go_ret;exact ⟨⟨-1,rfl,by unfold AtP;exact rfl⟩,grf _ _⟩
 have IN:Hid (InSS w w xs b o):=hin;clear hin h;go_enter Tryz.func174,Tryz.ntmps174;go_wp2
 go_loopw [8] (fun i wr=>∃ (j:Nat) (R:List (List Int)),j≤l∧i = .int .i64 j∧R.length+j=l∧Hid (w.grownBy wr none∧InSS wr wr R b (o+j)∧(xs.any fun x=>!nameV x)=(R.any fun x=>!nameV x))) (fun i _=>l - (intOf i).toNat)
 case atStart=>exact ⟨0,xs,Nat.zero_le _,rfl,by omega,grf _ _,by simpa using IN.out,rfl⟩
 case round =>
  obtain ⟨j,R,hj,rfl,hRl,HR⟩:=hrel;by_cases hlt:j < l
  ·
   obtain ⟨z,R',rfl⟩:∃ x R',R=x::R':=by
    cases R with
    | nil=>simp at hRl;omega
    | cons x R'=>exact ⟨x,R',rfl⟩
   obtain ⟨hg,hR,hv⟩:=HR.out;obtain ⟨⟨a1,n1,c1,k0,hd⟩,hT⟩:=hR;rw[show o+j+1=o+(j+1) by omega] at hT;simp only[List.any_cons] at hv;have hR:True:=trivial;have CC:Hid _:=isNoNameT a1 n1 c1 z wr hd;have FX:Hid (w.grownBy wr none∧InSS wr wr R' b (o+(j+1))∧(xs.any fun x=>!nameV x)=((!nameV z) || (R'.any fun x=>!nameV x))):=⟨hg,hT,hv⟩;clear hg hR hv hd hT HR IN;simp only[lB] at hRl;go_wp2_with fail;refine Calls.mono CC.out ?_;rintro e u2 ⟨rfl,hgu⟩;have FY:Hid (w.grownBy u2 none∧InSS u2 u2 R' b (o+(j+1))∧(xs.any fun x=>!nameV x)=((!nameV z) || (R'.any fun x=>!nameV x))):=⟨gtr FX.out.1 hgu,FX.out.2.1.le (CLe.grown hgu) (CLe.grown hgu),FX.out.2.2⟩;clear FX hgu CC k0;simp only[]
   cases hb:(!nameV z) with
   | false =>
    have FZ:Hid (w.grownBy u2 none∧InSS u2 u2 R' b (o+(j+1))∧(xs.any fun x=>!nameV x)=(R'.any fun x=>!nameV x)):=⟨FY.out.1,FY.out.2.1,by rw[FY.out.2.2,hb,Bool.false_or]⟩;clear FY hb;go_wp2;go_roundw
    case rel=>exact ⟨j+1,R',by omega,by go_num,by omega,FZ⟩
    case measure=>simp [intOf];omega
   | true =>
    have FZ:Hid (w.grownBy u2 none∧(xs.any fun x=>!nameV x)=true):=⟨FY.out.1,by rw[FY.out.2.2,hb,Bool.true_or]⟩;clear FY hb;go_wp2;go_ret;exact ⟨⟨(j:Int),rfl,by unfold AtP;rw[if_pos FZ.out.2];omega⟩,FZ.out.1⟩
  ·
   obtain rfl:j=l:=by omega
   obtain rfl:R=[]:=List.eq_nil_of_length_eq_zero (by omega);have FZ:Hid (w.grownBy wr none∧(xs.any fun x=>!nameV x)=false):=⟨HR.out.1,HR.out.2.2⟩;clear HR;go_wp2;go_ret;exact ⟨⟨-1,rfl,by unfold AtP;rw[if_neg (by rw[FZ.out.2];simp)]⟩,FZ.out.1⟩
theorem containsWT (xs:List (List Int)) (a:Option Addr) (l c:Nat) (w:World) (h:SlSS w a l xs) :
  Calls Tryz.prog 166 #[.slice a l c,.func (.func 167) #[] #[]] w fun e u=>e = .returned (.bool (xs.any fun x=>!nameV x))∧w.grownBy u none:=by
 have CC:Hid _:=indexWT xs a l c w h;clear h;go_enter Tryz.func166,Tryz.ntmps166;go_wp2_with fail;refine Calls.mono CC.out ?_;rintro e u ⟨⟨r,rfl,hr⟩,hg⟩;have G:Hid (w.grownBy u none):=hg;clear hg CC;unfold AtP at hr;simp only[]
 cases hb:(xs.any fun x=>!nameV x) with
 | true =>
  rw[hb,if_pos rfl] at hr;go_wp2;go_ret;refine ⟨?_,G.out⟩;rw[hb]
  first|rfl | (simp;done) | (simp;omega)
 | false =>
  rw[hb,if_neg (by simp)] at hr;subst hr;go_wp2;go_ret;refine ⟨?_,G.out⟩;rw[hb]
  first|rfl | (simp;done)
def armV (hc:List Int) (hv:List (List Int)):Bool :=
 if hc.length=0 then decide (hv.length=0) else wordV 65 90 hc && decide (hv.length≤3) && !(hv.any fun x=>!nameV x) && unV [] hv
theorem isNoArmT (hc:List Int) (hv:List (List Int)) (p:PE) (e0:Option Addr) (q0 d0:Nat) (e1:Option Addr) (q1 d1:Nat) (v2 v3 v4 v5 v6 v7 v8:Value) (w:World) (h0:RdB w e0 q0 hc) (h1:SlSC w e1 q1 d1 hv) :
  Calls Tryz.prog 154 #[.agg #[.slice e0 q0 d0,.slice e1 q1 d1,v2,v3,v4,v5,v6,v7,v8]] w fun e u=>e = .returned (.bool (!armV hc hv))∧w.grownBy u none:=by
 have g0:=gal w (.cells #[.slice e0 q0 d0,.slice e1 q1 d1,v2,v3,v4,v5,v6,v7,v8] 87) none;have b0:=heap_alloc_new w (.cells #[.slice e0 q0 d0,.slice e1 q1 d1,v2,v3,v4,v5,v6,v7,v8] 87);have hl0:=h0.1.1;have hl1:=h1.1.1
 have HS:Hid (∀ u,w.grownBy u none→RdB u e0 q0 hc∧SlSC u e1 q1 d1 hv):=fun u hu=>⟨h0.none hu,h1.none hu⟩
 have L0:Hid (w.grownBy _ none∧_=some (Obj.cells #[.slice e0 q0 d0,.slice e1 q1 d1,v2,v3,v4,v5,v6,v7,v8] 87)):=⟨g0,b0⟩;have C0:Hid _:=isGreatT e0 q0 d0 hc _ (h0.none g0);obtain ⟨⟨y0,y1,y2,y3,y4,y5,y6,y7,y8⟩,-⟩:=blkEA b0;clear g0 b0 h0 h1;by_cases hz:q0=0
 ·
  have e:armV hc hv=decide (q1=0):=by unfold armV;rw[hl0,hl1,if_pos hz]
  rw[e];subst hz;clear C0;by_cases hz1:q1=0
  ·
   subst hz1;go_enter Tryz.func154,Tryz.ntmps154;go_wp2;go_ret;exact ⟨rfl,L0.out.1⟩
  ·
   have hz2:(q1:Int) > 0:=by omega
   go_enter Tryz.func154,Tryz.ntmps154;go_wp2;go_ret;exact ⟨by simp [hz1];omega,L0.out.1⟩
 have hz':¬ (q0:Int)=0:=by omega
 have e:armV hc hv=(wordV 65 90 hc && decide (q1≤3) && !(hv.any fun x=>!nameV x) && unV [] hv):=by unfold armV;rw[hl0,hl1,if_neg hz]
 rw[e];clear e;go_enter Tryz.func154,Tryz.ntmps154;go_wp2_with fail;refine Calls.mono C0.out ?_;rintro e u ⟨rfl,hg⟩;have L1:Hid (w.grownBy u none∧u.heap[w.heap.size]? = some (Obj.cells #[.slice e0 q0 d0,.slice e1 q1 d1,v2,v3,v4,v5,v6,v7,v8] 87)):=⟨gtr L0.out.1 hg,(hg.block _ (lt_of_block L0.out.2) (by simp)).trans L0.out.2⟩;clear C0 hg L0 y0 y1 y2 y3 y4 y5 y6 y7 y8;obtain ⟨⟨y0,y1,y2,y3,y4,y5,y6,y7,y8⟩,-⟩:=blkEA L1.out.2;simp only[]
 cases hb:wordV 65 90 hc with
 | false =>
  go_wp2;go_ret;exact ⟨by rw[hb];rfl,L1.out.1⟩
 | true =>
  by_cases hq:q1≤3
  ·
   have hq':¬ (q1:Int) > 3:=by omega
   have C1:Hid _:=containsWT hv e1 q1 d1 u (HS.out _ L1.out.1).2.1;go_wp2_with fail;refine Calls.mono C1.out ?_;rintro e u2 ⟨rfl,hg⟩;have L2:Hid (w.grownBy u2 none∧u2.heap[w.heap.size]? = some (Obj.cells #[.slice e0 q0 d0,.slice e1 q1 d1,v2,v3,v4,v5,v6,v7,v8] 87)):=⟨gtr L1.out.1 hg,(hg.block _ (lt_of_block L1.out.2) (by simp)).trans L1.out.2⟩;clear C1 hg L1 y0 y1 y2 y3 y4 y5 y6 y7 y8;obtain ⟨⟨y0,y1,y2,y3,y4,y5,y6,y7,y8⟩,-⟩:=blkEA L2.out.2;simp only[]
   cases hn:(hv.any fun x=>!nameV x) with
   | true =>
    go_wp2;go_ret;exact ⟨by rw[hb,hn];simp,L2.out.1⟩
   | false =>
    have C2:Hid _:=allUnT hv e1 q1 d1 u2 (HS.out _ L2.out.1).2.1 (HS.out _ L2.out.1).2.2;go_wp2_with fail;refine Calls.mono C2.out ?_;rintro e u3 ⟨rfl,hg⟩;have L3:Hid (w.grownBy u3 none):=gtr L2.out.1 hg;clear C2 hg L2 y0 y1 y2 y3 y4 y5 y6 y7 y8;simp only[];go_wp2;go_ret;exact ⟨by rw[hb,hn];simp [hq],L3.out⟩
  ·
   have hq':(q1:Int) > 3:=by omega
   go_wp2;go_ret;exact ⟨by rw[hb];simp [hq],L1.out.1⟩
def badA:GE→Bool
 | .nil=>false
 | .cons hc hv _ _ _ r=>!armV hc hv || badA r
theorem indexAT (g:GE) (a:Option Addr) (l c:Nat) (w:World) (h:SlGE w true a l c g) :
  Calls Tryz.prog 146 #[.slice a l c,.func (.func 154) #[] #[]] w fun e u=>(∃ r:Int,e = .returned (.int .i64 r)∧AtP (badA g) r)∧w.grownBy u none:=by
 have hl:=h.2.1;have hfl:=h.1;rcases h.cases with ⟨rfl,rfl⟩|⟨b,o,rfl,hin,hpos⟩
 ·
  go_enter Tryz.func146,Tryz.ntmps146;go_wp2;refine wp_loop_rounds 1 ?_;rw[rounds_succ];go_wp2;go_ret;exact ⟨⟨-1,rfl,by unfold AtP;exact rfl⟩,grf _ _⟩
 have IN:Hid (InGE w w true g b o):=hin;clear hin h;go_enter Tryz.func146,Tryz.ntmps146;go_wp2
 go_loopw [8] (fun i wr=>∃ (j:Nat) (R:GE),j≤l∧i = .int .i64 j∧R.len+j=l∧Hid (w.grownBy wr none∧InGE wr wr true R b (o+j * 9)∧(badA g)=badA R)) (fun i _=>l - (intOf i).toNat)
 case atStart=>exact ⟨0,g,Nat.zero_le _,rfl,by omega,grf _ _,by simpa using IN.out,rfl⟩
 case round =>
  obtain ⟨j,R,hj,rfl,hRl,HR⟩:=hrel;by_cases hlt:j < l
  ·
   obtain ⟨q,hq⟩:∃ q,R.len=q+1:=⟨R.len - 1,by omega⟩;obtain ⟨hc,hv2,p,kids,alts,R',rfl,hR'⟩:=GE.cons_of_len hq;obtain ⟨hg,hR,hv⟩:=HR.out;obtain ⟨e0,q0,d0,e1,q1,d1,a1,l1,c1,a2,l2,c2,a3,l3,c3,a4,l4,c4,a5,l5,c5,⟨m0,m1⟩,hgd,⟨k0,k1,k2,k3,k4,k5,k6⟩,hd,hT⟩:=hR.alt;rw[show o+j * 9+9=o+(j+1) * 9 by omega] at hT;simp only[badA] at hv;have CC:Hid _:=isNoArmT hc hv2 p e0 q0 d0 e1 q1 d1 (.int .i64 p.k) (.int .i64 p.n) (.slice a1 l1 c1) (.slice a2 l2 c2) (.slice a3 l3 c3) (.slice a4 l4 c4) (.slice a5 l5 c5) wr hgd.1 hgd.2;have FX:Hid (w.grownBy wr none∧InGE wr wr true R' b (o+(j+1) * 9)∧(badA g)=((!armV hc hv2) || badA R')):=⟨hg,hT,hv⟩;clear hg hR hv hd hT HR IN hgd;simp only[GE.len] at hRl;go_wp2_with fail;refine Calls.mono CC.out ?_;rintro e u2 ⟨rfl,hgu⟩;have FY:Hid (w.grownBy u2 none∧InGE u2 u2 true R' b (o+(j+1) * 9)∧(badA g)=((!armV hc hv2) || badA R')):=⟨gtr FX.out.1 hgu,FX.out.2.1.le (CLe.grown hgu) (CLe.grown hgu),FX.out.2.2⟩
   clear FX hgu CC k0 k1 k2 k3 k4 k5 k6 m0 m1;simp only[]
   cases hb:(!armV hc hv2) with
   | false =>
    have FZ:Hid (w.grownBy u2 none∧InGE u2 u2 true R' b (o+(j+1) * 9)∧(badA g)=badA R'):=⟨FY.out.1,FY.out.2.1,by rw[FY.out.2.2,hb,Bool.false_or]⟩;clear FY hb;go_wp2;go_roundw
    case rel=>exact ⟨j+1,R',by omega,by go_num,by omega,FZ⟩
    case measure=>simp [intOf];omega
   | true =>
    have FZ:Hid (w.grownBy u2 none∧(badA g)=true):=⟨FY.out.1,by rw[FY.out.2.2,hb,Bool.true_or]⟩;clear FY hb;go_wp2;go_ret;exact ⟨⟨(j:Int),rfl,by unfold AtP;rw[if_pos FZ.out.2];omega⟩,FZ.out.1⟩
  ·
   obtain rfl:j=l:=by omega
   obtain rfl:R = .nil:=GE.nil_of_len (by omega);have FZ:Hid (w.grownBy wr none∧(badA g)=false):=⟨HR.out.1,HR.out.2.2⟩;clear HR;go_wp2;go_ret;exact ⟨⟨-1,rfl,by unfold AtP;rw[if_neg (by rw[FZ.out.2];simp)]⟩,FZ.out.1⟩
theorem containsAT (g:GE) (a:Option Addr) (l c:Nat) (w:World) (h:SlGE w true a l c g) :
  Calls Tryz.prog 116 #[.slice a l c,.func (.func 154) #[] #[]] w fun e u=>e = .returned (.bool (badA g))∧w.grownBy u none:=by
 have CC:Hid _:=indexAT g a l c w h;clear h;go_enter Tryz.func116,Tryz.ntmps116;go_wp2_with fail;refine Calls.mono CC.out ?_;rintro e u ⟨⟨r,rfl,hr⟩,hg⟩;have G:Hid (w.grownBy u none):=hg;clear hg CC;unfold AtP at hr;simp only[]
 cases hb:(badA g) with
 | true =>
  rw[hb,if_pos rfl] at hr;go_wp2;go_ret;refine ⟨?_,G.out⟩;rw[hb]
  first|rfl | (simp;done) | (simp;omega)
 | false =>
  rw[hb,if_neg (by simp)] at hr;subst hr;go_wp2;go_ret;refine ⟨?_,G.out⟩;rw[hb]
  first|rfl | (simp;done)
end Go.Proofs.YtblbnillilbacaaGreatDoor.By
