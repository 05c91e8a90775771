/-
  No statement is proved here.
-/
import Derived.Test.YtblbnillilbacaaGreatDoorNCAlsoa
namespace Go.Proofs.YtblbnillilbacaaGreatDoor.By
set_option maxRecDepth 100000
set_option maxHeartbeats 16000000
open Go.RowKit
set_option linter.unusedVariables false
set_option linter.unusedSimpArgs false
theorem lowerT (z:Int) (w:World):Calls Tryz.prog 86 #[.int .u8 z] w fun e u=>e = .returned (.bool (decide (97≤z) && decide (z≤122)))∧u=w:=by
 by_cases h1:97≤z
 ·
  by_cases h2:z≤122
  ·
   go_enter Tryz.func86,Tryz.ntmps86;go_wp2;go_ret;exact ⟨by simp [h1,h2],rfl⟩
  ·
   go_enter Tryz.func86,Tryz.ntmps86;go_wp2;go_ret;exact ⟨by simp [h1,h2],rfl⟩
 ·
  go_enter Tryz.func86,Tryz.ntmps86;go_wp2;go_ret;exact ⟨by simp;omega,rfl⟩
theorem upperT (z:Int) (w:World):Calls Tryz.prog 85 #[.int .u8 z] w fun e u=>e = .returned (.bool (decide (65≤z) && decide (z≤90)))∧u=w:=by
 by_cases h1:65≤z
 ·
  by_cases h2:z≤90
  ·
   go_enter Tryz.func85,Tryz.ntmps85;go_wp2;go_ret;exact ⟨by simp [h1,h2],rfl⟩
  ·
   go_enter Tryz.func85,Tryz.ntmps85;go_wp2;go_ret;exact ⟨by simp [h1,h2],rfl⟩
 ·
  go_enter Tryz.func85,Tryz.ntmps85;go_wp2;go_ret;exact ⟨by simp;omega,rfl⟩
theorem digitT (z:Int) (w:World):Calls Tryz.prog 87 #[.int .u8 z] w fun e u=>e = .returned (.bool (decide (48≤z) && decide (z≤57)))∧u=w:=by
 by_cases h1:48≤z
 ·
  by_cases h2:z≤57
  ·
   go_enter Tryz.func87,Tryz.ntmps87;go_wp2;go_ret;exact ⟨by simp [h1,h2],rfl⟩
  ·
   go_enter Tryz.func87,Tryz.ntmps87;go_wp2;go_ret;exact ⟨by simp [h1,h2],rfl⟩
 ·
  go_enter Tryz.func87,Tryz.ntmps87;go_wp2;go_ret;exact ⟨by simp;omega,rfl⟩
theorem lod_split (z:Int):lodB z=((decide (97≤z) && decide (z≤122)) || (decide (48≤z) && decide (z≤57))):=rfl
def loG (g:Bool):Int:=if g then 65 else 97
def hiG (g:Bool):Int:=if g then 90 else 122
theorem l5wordT (a:Option Addr) (n c:Nat) (zs:List Int) (g:Bool) (w:World) (h:RdB w a n zs) :
  Calls Tryz.prog 46 #[.slice a n c,.bool g] w fun e u=>e = .returned (.bool (wordV (loG g) (hiG g) zs))∧w.grownBy u none:=by
 have hl:=h.1.1;have hz:=h.2.1;have hrd:=h.1.2;clear h;by_cases hn:1≤n∧n≤8
 rotate_left
 ·
  have E:Hid (wordV (loG g) (hiG g) zs=false):=by
   show _=_
   unfold wordV;rw[hl];by_cases h1:1≤n
   ·
    have:¬ n≤8:=fun h2=>hn ⟨h1,h2⟩
    simp [this]
   ·
    simp [h1]
  by_cases h0:n=0
  ·
   subst h0;go_enter Tryz.func46,Tryz.ntmps46;go_wp2;go_ret;exact ⟨by rw[E.out];rfl,grf _ _⟩
  ·
   have h8:(n:Int) > 8:=by omega
   have h00:¬ (n:Int) < 1:=by omega
   go_enter Tryz.func46,Tryz.ntmps46;go_wp2;go_ret;exact ⟨by rw[E.out];rfl,grf _ _⟩
 obtain ⟨hn1,hn8⟩:=hn;rcases hrd with h0|⟨b,o,rfl,hc⟩
 ·
  omega
 have E:Hid (wordV (loG g) (hiG g) zs=wordR (loG g) (hiG g) 0 zs):=by show _=_;unfold wordV;simp [hl,hn1,hn8]
 have HC:Hid (∀ i,i < n→w.cell? ⟨b,o+i,none⟩=some (.int .u8 (zs.getD i 0))):=hc
 have h00:¬ (n:Int) < 1:=by omega
 have h8:¬ (n:Int) > 8:=by omega
 clear hc hz;have CL:Hid _:=lowerT;have CU:Hid _:=upperT;have CD:Hid _:=digitT;go_enter Tryz.func46,Tryz.ntmps46;go_wp2
 go_loopw [5] (fun i wr=>∃ (j:Nat) (R:List Int),j≤n∧i = .int .i64 j∧R.length+j=n∧wr=w∧Hid (zs.drop j=R∧wordR (loG g) (hiG g) 0 zs=wordR (loG g) (hiG g) j R)) (fun i _=>n - (intOf i).toNat)
 case atStart=>exact ⟨0,zs,Nat.zero_le _,rfl,by omega,rfl,rfl,rfl⟩
 case round =>
  obtain ⟨j,R,hj,rfl,hRl,rfl,HR⟩:=hrel;by_cases hlt:j < n
  ·
   obtain ⟨z,R',rfl⟩:∃ z R',R=z::R':=by
    cases R with
    | nil=>simp at hRl;omega
    | cons z R'=>exact ⟨z,R',rfl⟩
   have hjz:zs.getD j 0=z:=by
    have h1:=HR.out.1;rw[List.getD_eq_getElem?_getD,← By.List.getElem?_drop_zero_of zs j,h1];rfl
   have c0:=HC.out j hlt;rw[hjz] at c0;have HW:Hid (zs.drop (j+1)=R'∧wordR (loG g) (hiG g) 0 zs=((if j=0 then decide (loG g≤z) && decide (z≤hiG g) else lodB z) && wordR (loG g) (hiG g) (j+1) R')):=⟨by have:=congrArg List.tail HR.out.1;simpa using this,by rw[HR.out.2,wordR_step]⟩;simp only[lB] at hRl;clear HR hjz
   have hlt':(j:Int) < (n:Int):=by omega
   by_cases hj0:j=0
   ·
    subst hj0;rw[Nat.add_zero] at c0;have HW2:=HW.out.2;rw[if_pos rfl] at HW2
    cases g with
    | true =>
     have hb:(decide (loG true≤z) && decide (z≤hiG true))=(decide (65≤z) && decide (z≤90)):=rfl;rw[hb] at HW2;have HW3:Hid _:=HW2;clear HW2 hb;go_wp2_with fail;refine Calls.mono (CU.out z _) ?_;rintro e v ⟨he,hv⟩;subst he hv;simp only[]
     cases hq:(decide (65≤z) && decide (z≤90)) with
     | true =>
      have HV:Hid (wordR (loG true) (hiG true) 0 zs=wordR (loG true) (hiG true) (0+1) R'):=by show _=_;rw[HW3.out,hq];rfl
      clear HW3 hq;go_wp2;go_roundw
      case rel=>exact ⟨0+1,R',by omega,by go_num,by omega,by first|rfl|trivial,HW.out.1,HV.out⟩
      case measure=>simp [intOf];omega
     | false =>
      have HV:Hid (wordR (loG true) (hiG true) 0 zs=false):=by show _=_;rw[HW3.out,hq];rfl
      clear HW3 hq;go_wp2;go_ret;exact ⟨by rw[E.out,HV.out];rfl,grf _ _⟩
    | false =>
     have hb:(decide (loG false≤z) && decide (z≤hiG false))=(decide (97≤z) && decide (z≤122)):=rfl;rw[hb] at HW2;have HW3:Hid _:=HW2;clear HW2 hb;go_wp2_with fail;refine Calls.mono (CL.out z _) ?_;rintro e v ⟨he,hv⟩;subst he hv;simp only[]
     cases hq:(decide (97≤z) && decide (z≤122)) with
     | true =>
      have HV:Hid (wordR (loG false) (hiG false) 0 zs=wordR (loG false) (hiG false) (0+1) R'):=by show _=_;rw[HW3.out,hq];rfl
      clear HW3 hq;go_wp2;go_roundw
      case rel=>exact ⟨0+1,R',by omega,by go_num,by omega,by first|rfl|trivial,HW.out.1,HV.out⟩
      case measure=>simp [intOf];omega
     | false =>
      have HV:Hid (wordR (loG false) (hiG false) 0 zs=false):=by show _=_;rw[HW3.out,hq];rfl
      clear HW3 hq;go_wp2;go_ret;exact ⟨by rw[E.out,HV.out];rfl,grf _ _⟩
   ·
    have hj1:¬ (j:Int)=0:=by omega
    have hj2:(j:Int) > 0:=by omega
    have hj3:((j:Int) == 0)=false:=by simp;omega
    have HW2:=HW.out.2;rw[if_neg hj0,lod_split] at HW2;have HW3:Hid _:=HW2;clear HW2;go_wp2_with fail;refine Calls.mono (CL.out z _) ?_;rintro e v ⟨he,hv⟩;subst he hv;simp only[]
    cases hq:(decide (97≤z) && decide (z≤122)) with
    | true =>
     have HV:Hid (wordR (loG g) (hiG g) 0 zs=wordR (loG g) (hiG g) (j+1) R'):=by show _=_;rw[HW3.out,hq];rfl
     clear HW3 hq;go_wp2;go_roundw
     case rel=>exact ⟨j+1,R',by omega,by go_num,by omega,by first|rfl|trivial,HW.out.1,HV.out⟩
     case measure=>simp [intOf];omega
    | false =>
     rw[hq] at HW3;clear hq;go_wp2_with fail;refine Calls.mono (CD.out z _) ?_;rintro e v ⟨he,hv⟩;subst he hv;simp only[]
     cases hq:(decide (48≤z) && decide (z≤57)) with
     | true =>
      have HV:Hid (wordR (loG g) (hiG g) 0 zs=wordR (loG g) (hiG g) (j+1) R'):=by show _=_;rw[HW3.out,hq];rfl
      clear HW3 hq;go_wp2;go_roundw
      case rel=>exact ⟨j+1,R',by omega,by go_num,by omega,by first|rfl|trivial,HW.out.1,HV.out⟩
      case measure=>simp [intOf];omega
     | false =>
      have HV:Hid (wordR (loG g) (hiG g) 0 zs=false):=by show _=_;rw[HW3.out,hq];rfl
      clear HW3 hq;go_wp2;go_ret;exact ⟨by rw[E.out,HV.out];rfl,grf _ _⟩
  ·
   obtain rfl:j=n:=by omega
   obtain rfl:R=[]:=List.eq_nil_of_length_eq_zero (by omega)
   have HV:Hid (wordR (loG g) (hiG g) 0 zs=true):=by show _=_;rw[HR.out.2,wordR_end]
   clear HR;go_wp2;go_ret;exact ⟨by rw[E.out,HV.out];rfl,grf _ _⟩
theorem l5nameT (a:Option Addr) (n c:Nat) (zs:List Int) (w:World) (h:RdB w a n zs) :
  Calls Tryz.prog 44 #[.slice a n c] w fun e u=>e = .returned (.bool (nameV zs))∧w.grownBy u none:=by
 have C0:Hid _:=l5wordT a n c zs false w h;have HZ:Hid (RdB w a n zs):=h;have ew:wordV (loG false) (hiG false) zs=wordV 97 122 zs:=rfl;rw[ew] at C0;clear h ew;go_enter Tryz.func44,Tryz.ntmps44;go_wp2_with fail;refine Calls.mono C0.out ?_;rintro e u ⟨he,hg⟩;subst he;have G1:Hid (w.grownBy u none):=hg;clear C0 hg;simp only[]
 cases hw:wordV 97 122 zs with
 | false =>
  have E:Hid (nameV zs=false):=by show _=_;unfold nameV;rw[hw];rfl
  clear hw;go_wp2;go_ret;exact ⟨by rw[E.out];rfl,G1.out⟩
 | true =>
  have C1:Hid _:=l5keyT a n c zs u (HZ.out.none G1.out)
  have E:Hid (nameV zs = !keyV zs):=by show _=_;unfold nameV;rw[hw];rfl
  clear hw;go_wp2_with fail;refine Calls.mono C1.out ?_;rintro e v ⟨he,hg⟩;subst he;have G2:Hid (w.grownBy v none):=gtr G1.out hg;clear C1 hg;simp only[];go_wp2;go_ret;exact ⟨by rw[E.out];rfl,G2.out⟩
theorem l5intOkT (n:Int) (w:World) :
    Calls Tryz.prog 51 #[.int .i64 n] w fun e u=>e = .returned (.bool (wholeV n))∧u=w:=by
  by_cases h1:-1073741824≤n
  · by_cases h2:n≤1073741823
    · go_enter Tryz.func51,Tryz.ntmps51
      go_wp2;go_ret;exact ⟨by simp [wholeV,h1,h2],rfl⟩
    · go_enter Tryz.func51,Tryz.ntmps51
      go_wp2;go_ret;exact ⟨by simp [wholeV,h1,h2],rfl⟩
  · go_enter Tryz.func51,Tryz.ntmps51
    go_wp2;go_ret
    exact ⟨by have e:wholeV n=false:=by (simp [wholeV];omega)
              rw[e];rfl,rfl⟩
theorem l5litT (a:Option Addr) (n c:Nat) (zs:List Int) (w:World) (h:RdB w a n zs) :
  Calls Tryz.prog 52 #[.slice a n c] w fun e u=>e = .returned (.bool (litV zs))∧w.grownBy u none:=by
 have hl:=h.2.2;have hfl:=h.1.1;by_cases h20:n≤20
 ·
  have hE:Hid (litV zs = !zs.any noLit):=by show _=_;unfold litV;rw[hfl];simp [h20]
  have h20':¬ (n:Int) > 20:=by omega
  have hcs:(n=0∧zs=[])∨∃ b o,a=some ⟨b,o,none⟩∧DrB w b o zs∧0 < n:=by
   by_cases h0:n=0
   ·
    exact .inl ⟨h0,List.eq_nil_of_length_eq_zero (by omega)⟩
   ·
    rcases h.1.2 with h2|⟨b,o,e,h2⟩
    ·
     exact absurd h2 h0
    ·
     exact .inr ⟨b,o,e,fun i hi=>h2 i (by omega),by omega⟩
  rcases hcs with ⟨rfl,rfl⟩|⟨b,o,rfl,hin,hpos⟩
  ·
   clear h;go_enter Tryz.func52,Tryz.ntmps52;go_wp2;refine wp_loop_rounds 1 ?_;rw[rounds_succ];go_wp2;go_ret;exact ⟨by rw[hE.out];rfl,grf _ _⟩
  have IN:Hid (DrB w b o zs):=hin;clear hin h;go_enter Tryz.func52,Tryz.ntmps52;go_wp2
  go_loopw [3] (fun i wr=>∃ (j:Nat) (R:List Int),j≤n∧i = .int .i64 j∧R.length+j=n∧Hid (w.grownBy wr none∧DrB wr b (o+j) R∧zs.any noLit=R.any noLit)) (fun i _=>n - (intOf i).toNat)
  case atStart=>exact ⟨0,zs,Nat.zero_le _,rfl,by omega,grf _ _,by simpa using IN.out,rfl⟩
  case round =>
   obtain ⟨j,R,hj,rfl,hRl,HR⟩:=hrel;by_cases hlt:j < n
   ·
    obtain ⟨z,R',rfl⟩:∃ x R',R=x::R':=by
     cases R with
     | nil=>simp at hRl;omega
     | cons x R'=>exact ⟨x,R',rfl⟩
    obtain ⟨hg,hR,hv⟩:=HR.out;obtain ⟨k0,hT⟩:=hR.tl;rw[show o+j+1=o+(j+1) by omega] at hT;simp only[List.any_cons] at hv;simp only[lB] at hRl;have FX:Hid (w.grownBy wr none∧DrB wr b (o+(j+1)) R'∧zs.any noLit=(noLit z || R'.any noLit)):=⟨hg,hT,hv⟩;clear hg hR hv hT HR IN
    cases hb:noLit z with
    | true =>
     have FZ:Hid (litV zs=false∧w.grownBy wr none):=⟨by rw[hE.out,FX.out.2.2,hb];rfl,FX.out.1⟩;clear FX hE;simp only[noLit,Bool.or_eq_true,decide_eq_true_eq] at hb;by_cases h1:z < 32
     ·
      go_wp2;go_ret;exact ⟨by rw[FZ.out.1];rfl,FZ.out.2⟩
     by_cases h2:z > 126
     ·
      go_wp2;go_ret;exact ⟨by rw[FZ.out.1];rfl,FZ.out.2⟩
     by_cases h3:z=34
     ·
      subst h3;go_wp2;go_ret;exact ⟨by rw[FZ.out.1];rfl,FZ.out.2⟩
     ·
      obtain rfl:z=92:=by omega
      go_wp2;go_ret;exact ⟨by rw[FZ.out.1];rfl,FZ.out.2⟩
    | false =>
     have FZ:Hid (w.grownBy wr none∧DrB wr b (o+(j+1)) R'∧zs.any noLit=R'.any noLit):=⟨FX.out.1,FX.out.2.1,by rw[FX.out.2.2,hb,Bool.false_or]⟩;clear FX;simp only[noLit,Bool.or_eq_false_iff,decide_eq_false_iff_not] at hb;obtain ⟨⟨⟨h1,h2⟩,h3⟩,h4⟩:=hb;have h2':¬ z > 126:=h2
     have h3b:(z == 34)=false:=by simpa using h3
     have h4b:(z == 92)=false:=by simpa using h4
     go_wp2;go_roundw
     case rel=>exact ⟨j+1,R',by omega,by go_num,by omega,FZ⟩
     case measure=>simp [intOf];omega
   ·
    obtain rfl:j=n:=by omega
    obtain rfl:R=[]:=List.eq_nil_of_length_eq_zero (by omega);have FZ:Hid (litV zs=true∧w.grownBy wr none):=⟨by rw[hE.out,HR.out.2.2];rfl,HR.out.1⟩;clear HR;go_wp2;go_ret;exact ⟨by rw[FZ.out.1];rfl,FZ.out.2⟩
 ·
  have hE:Hid (litV zs=false):=by show _=_;unfold litV;rw[hfl];simp [h20]
  have h20':(n:Int) > 20:=by omega
  clear h;go_enter Tryz.func52,Tryz.ntmps52;go_wp2;go_ret;exact ⟨by rw[hE.out];rfl,grf _ _⟩
def shapeV (k n:Int) (nk:Nat):Int × Bool × Bool :=
 if k=0 then (0,false,false) else if k=1 then (0,false,false) else if k=2 then (0,false,false) else if k=3 then (0,true,false) else if k=4 then (1,true,false) else if k=5 then (2,false,false)
 else if k=6 then (2,true,false) else if k=7 then (2,true,true) else if k=8 then (3,false,false) else if k=9 then (2,false,false) else if k=10 then (1,false,false) else if k=11 then (1,false,false)
 else if k=12 then (1,false,false) else if k=13 then (1,false,false) else if k=14 then (2,false,false) else if k=15 then ((nk:Int),true,false) else if k=16 then (1,false,false) else if k=17 then (1,false,false)
 else if k=18 then (2,true,false) else if k=19 then (if n < 0 then (-1,false,false) else if 6 < n then (-1,false,false) else if n=6 then (1,false,false) else (2,false,false))
 else if k=20 then (if n=1 then (0,false,false) else if n=0 then (1,false,false) else if n=2 then (1,false,false) else if n=3 then (1,false,false) else if n=4 then (2,false,false) else (-1,false,false)) else (-1,false,false)
theorem l5shapeT (k n:Int) (v2 v3 v4 v6:Value) (a:Option Addr) (l c:Nat) (w:World) :
  Calls Tryz.prog 50 #[.agg #[.int .i64 k,.int .i64 n,v2,v3,v4,.slice a l c,v6]] w fun e u=>e = .returned (.tuple #[.int .i64 (shapeV k n l).1,.bool (shapeV k n l).2.1,.bool (shapeV k n l).2.2])∧w.grownBy u none:=by
 have G0:Hid (w.grownBy (w.alloc (.cells #[.int .i64 k,.int .i64 n,v2,v3,v4,.slice a l c,v6] 36)) none):=gal w (.cells #[.int .i64 k,.int .i64 n,v2,v3,v4,.slice a l c,v6] 36) none;have b0:=heap_alloc_new w (.cells #[.int .i64 k,.int .i64 n,v2,v3,v4,.slice a l c,v6] 36);obtain ⟨⟨y0,y1,y2,y3,y4,y5,y6⟩,-⟩:=blkE b0;clear b0
 have HV:Hid (∀ k n l,shapeV k n l=shapeV k n l):=fun _ _ _=>rfl
 by_cases h0:k=0
 ·
  subst h0;have HE:Hid (shapeV 0 n l=(0,false,false)):=rfl;go_enter Tryz.func50,Tryz.ntmps50;go_wp2;go_ret3;exact ⟨by rw[HE.out];rfl,G0.out⟩
 by_cases h1:k=1
 ·
  subst h1;have HE:Hid (shapeV 1 n l=(0,false,false)):=rfl;go_enter Tryz.func50,Tryz.ntmps50;go_wp2;go_ret3;exact ⟨by rw[HE.out];rfl,G0.out⟩
 by_cases h2:k=2
 ·
  subst h2;have HE:Hid (shapeV 2 n l=(0,false,false)):=rfl;go_enter Tryz.func50,Tryz.ntmps50;go_wp2;go_ret3;exact ⟨by rw[HE.out];rfl,G0.out⟩
 by_cases h3:k=3
 ·
  subst h3;have HE:Hid (shapeV 3 n l=(0,true,false)):=rfl;go_enter Tryz.func50,Tryz.ntmps50;go_wp2;go_ret3;exact ⟨by rw[HE.out];rfl,G0.out⟩
 by_cases h4:k=4
 ·
  subst h4;have HE:Hid (shapeV 4 n l=(1,true,false)):=rfl;go_enter Tryz.func50,Tryz.ntmps50;go_wp2;go_ret3;exact ⟨by rw[HE.out];rfl,G0.out⟩
 by_cases h5:k=5
 ·
  subst h5;have HE:Hid (shapeV 5 n l=(2,false,false)):=rfl;go_enter Tryz.func50,Tryz.ntmps50;go_wp2;go_ret3;exact ⟨by rw[HE.out];rfl,G0.out⟩
 by_cases h6:k=6
 ·
  subst h6;have HE:Hid (shapeV 6 n l=(2,true,false)):=rfl;go_enter Tryz.func50,Tryz.ntmps50;go_wp2;go_ret3;exact ⟨by rw[HE.out];rfl,G0.out⟩
 by_cases h7:k=7
 ·
  subst h7;have HE:Hid (shapeV 7 n l=(2,true,true)):=rfl;go_enter Tryz.func50,Tryz.ntmps50;go_wp2;go_ret3;exact ⟨by rw[HE.out];rfl,G0.out⟩
 by_cases h8:k=8
 ·
  subst h8;have HE:Hid (shapeV 8 n l=(3,false,false)):=rfl;go_enter Tryz.func50,Tryz.ntmps50;go_wp2;go_ret3;exact ⟨by rw[HE.out];rfl,G0.out⟩
 by_cases h9:k=9
 ·
  subst h9;have HE:Hid (shapeV 9 n l=(2,false,false)):=rfl;go_enter Tryz.func50,Tryz.ntmps50;go_wp2;go_ret3;exact ⟨by rw[HE.out];rfl,G0.out⟩
 by_cases h10:k=10
 ·
  subst h10;have HE:Hid (shapeV 10 n l=(1,false,false)):=rfl;go_enter Tryz.func50,Tryz.ntmps50;go_wp2;go_ret3;exact ⟨by rw[HE.out];rfl,G0.out⟩
 by_cases h11:k=11
 ·
  subst h11;have HE:Hid (shapeV 11 n l=(1,false,false)):=rfl;go_enter Tryz.func50,Tryz.ntmps50;go_wp2;go_ret3;exact ⟨by rw[HE.out];rfl,G0.out⟩
 by_cases h12:k=12
 ·
  subst h12;have HE:Hid (shapeV 12 n l=(1,false,false)):=rfl;go_enter Tryz.func50,Tryz.ntmps50;go_wp2;go_ret3;exact ⟨by rw[HE.out];rfl,G0.out⟩
 by_cases h13:k=13
 ·
  subst h13;have HE:Hid (shapeV 13 n l=(1,false,false)):=rfl;go_enter Tryz.func50,Tryz.ntmps50;go_wp2;go_ret3;exact ⟨by rw[HE.out];rfl,G0.out⟩
 by_cases h14:k=14
 ·
  subst h14;have HE:Hid (shapeV 14 n l=(2,false,false)):=rfl;go_enter Tryz.func50,Tryz.ntmps50;go_wp2;go_ret3;exact ⟨by rw[HE.out];rfl,G0.out⟩
 by_cases h15:k=15
 ·
  subst h15;have HE:Hid (shapeV 15 n l=((l:Int),true,false)):=rfl;go_enter Tryz.func50,Tryz.ntmps50;go_wp2;go_ret3;exact ⟨by rw[HE.out];rfl,G0.out⟩
 by_cases h16:k=16
 ·
  subst h16;have HE:Hid (shapeV 16 n l=(1,false,false)):=rfl;go_enter Tryz.func50,Tryz.ntmps50;go_wp2;go_ret3;exact ⟨by rw[HE.out];rfl,G0.out⟩
 by_cases h17:k=17
 ·
  subst h17;have HE:Hid (shapeV 17 n l=(1,false,false)):=rfl;go_enter Tryz.func50,Tryz.ntmps50;go_wp2;go_ret3;exact ⟨by rw[HE.out];rfl,G0.out⟩
 by_cases h18:k=18
 ·
  subst h18;have HE:Hid (shapeV 18 n l=(2,true,false)):=rfl;go_enter Tryz.func50,Tryz.ntmps50;go_wp2;go_ret3;exact ⟨by rw[HE.out];rfl,G0.out⟩
 by_cases h19:k=19
 ·
  subst h19;by_cases n0:n < 0
  ·
   have HE:Hid (shapeV 19 n l=(-1,false,false)):=by (show _=_;simp [shapeV,n0])
   go_enter Tryz.func50,Tryz.ntmps50;go_wp2;go_ret3;exact ⟨by rw[HE.out];rfl,G0.out⟩
  by_cases n6:6 < n
  ·
   have n6':n > 6:=n6
   have HE:Hid (shapeV 19 n l=(-1,false,false)):=by (show _=_;simp [shapeV,n0,n6])
   go_enter Tryz.func50,Tryz.ntmps50;go_wp2;go_ret3;exact ⟨by rw[HE.out];rfl,G0.out⟩
  have n6':¬ n > 6:=n6;by_cases ne:n=6
  ·
   subst ne;have HE:Hid (shapeV 19 6 l=(1,false,false)):=rfl;go_enter Tryz.func50,Tryz.ntmps50;go_wp2;go_ret3;exact ⟨by rw[HE.out];rfl,G0.out⟩
  ·
   have HE:Hid (shapeV 19 n l=(2,false,false)):=by (show _=_;simp [shapeV,n0,n6,ne])
   go_enter Tryz.func50,Tryz.ntmps50;go_wp2;go_ret3;exact ⟨by rw[HE.out];rfl,G0.out⟩
 by_cases h20:k=20
 ·
  subst h20;by_cases n1:n=1
  ·
   subst n1;have HE:Hid (shapeV 20 1 l=(0,false,false)):=rfl;go_enter Tryz.func50,Tryz.ntmps50;go_wp2;go_ret3;exact ⟨by rw[HE.out];rfl,G0.out⟩
  by_cases n0:n=0
  ·
   subst n0;have HE:Hid (shapeV 20 0 l=(1,false,false)):=rfl;go_enter Tryz.func50,Tryz.ntmps50;go_wp2;go_ret3;exact ⟨by rw[HE.out];rfl,G0.out⟩
  by_cases n2:n=2
  ·
   subst n2;have HE:Hid (shapeV 20 2 l=(1,false,false)):=rfl;go_enter Tryz.func50,Tryz.ntmps50;go_wp2;go_ret3;exact ⟨by rw[HE.out];rfl,G0.out⟩
  by_cases n3:n=3
  ·
   subst n3;have HE:Hid (shapeV 20 3 l=(1,false,false)):=rfl;go_enter Tryz.func50,Tryz.ntmps50;go_wp2;go_ret3;exact ⟨by rw[HE.out];rfl,G0.out⟩
  by_cases n4:n=4
  ·
   subst n4;have HE:Hid (shapeV 20 4 l=(2,false,false)):=rfl;go_enter Tryz.func50,Tryz.ntmps50;go_wp2;go_ret3;exact ⟨by rw[HE.out];rfl,G0.out⟩
  ·
   have HE:Hid (shapeV 20 n l=(-1,false,false)):=by (show _=_;simp [shapeV,n1,n0,n2,n3,n4])
   go_enter Tryz.func50,Tryz.ntmps50;go_wp2;go_ret3;exact ⟨by rw[HE.out];rfl,G0.out⟩
 have HE:Hid (shapeV k n l=(-1,false,false)):=by (show _=_;simp [shapeV,h0,h1,h2,h3,h4,h5,h6,h7,h8,h9,h10,h11,h12,h13,h14,h15,h16,h17,h18,h19,h20])
 go_enter Tryz.func50,Tryz.ntmps50;go_wp2;go_ret3;exact ⟨by rw[HE.out];rfl,G0.out⟩
end Go.Proofs.YtblbnillilbacaaGreatDoor.By
