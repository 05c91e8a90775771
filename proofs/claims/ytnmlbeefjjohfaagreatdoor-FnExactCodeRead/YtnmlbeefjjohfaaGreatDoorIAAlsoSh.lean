/-
  No statement is proved here.
-/
import Derived.Test.YtnmlbeefjjohfaaGreatDoorRows
import Derived.Test.YtnmlbeefjjohfaaGreatDoorEBAlsoSh
import Derived.BigQuiet
import Derived.Handy
namespace Go.Proofs.YtnmlbeefjjohfaaGreatDoor.By
set_option maxRecDepth 100000
set_option maxHeartbeats 16000000
open Go.RowKit
set_option linter.unusedVariables false
theorem info5:(Tryz.prog.info? 5).map (fun i=>(i.zero,i.size,i.bytes))=some (some (.int .u8 0),1,1):=by kernel_rfl
theorem make_run (n:Nat) (hn:n≤4194304) (w:World):(Instr.makeSlice 22 (.int .i64 (n:Int)) (.int .i64 (n:Int))).run Tryz.prog w = .ok (.slice (some ⟨w.heap.size,0,none⟩) n n) (w.alloc (.cells (madeCells #[.int .u8 0] n) 5)):=by
 obtain ⟨i0,hi,hz0,hz1,hz2⟩:=info_parts info5;have h:=run_make (P:=Tryz.prog) (w:=w) 22 5 i0 (.int .u8 0) Tryz.underlying22 hi hz0 .i64 .i64 (n:Int) (n:Int) (by omega) (by omega) (by rw[hz2];omega) (by omega);rw[hz1] at h;simpa [Value.cells] using h
theorem make_run0 (w:World):(Instr.makeSlice 22 (.int .i64 0) (.int .i64 0)).run Tryz.prog w = .ok (.slice (some ⟨w.heap.size,0,none⟩) 0 0) (w.alloc (.cells (madeCells #[.int .u8 0] 0) 5)):=make_run 0 (by omega) w
theorem toB0 (a:Option Addr) (n cap:Nat) (zs:List Int) (w:World) (h:Reads w a n zs) (hn:n≤1048576) :
  Calls Tryz.prog 5 #[.slice a n cap] w fun e w'=>e = .returned (.slice (some ⟨w.heap.size,0,none⟩) n n)∧w.grownBy w' none∧w'.heap.size=w.heap.size+1∧Row w' w.heap.size n zs:=by
 obtain ⟨hl,h⟩:=h;have hmk:=make_run n (by omega);have hr0:=made_row w n;rcases h with h0|⟨b,off,rfl,hc⟩
 ·
  subst h0;obtain rfl:zs=[]:=lz0 hl;clear hmk;have hmk:=make_run0;go_enter Tryz.func5,Tryz.ntmps5;go_wp2;refine wp_loop_rounds 1 ?_;rw[rounds_succ];go_wp2;go_ret;exact ⟨rfl,gal _ _ _,by simp,hr0⟩
 ·
  go_enter Tryz.func5,Tryz.ntmps5;go_wp2
  go_loopw [4] (fun i wr=>∃ k:Nat,k≤n∧i = .int .i64 k∧w.grownBy wr none∧wr.heap.size=w.heap.size+1∧Row wr w.heap.size n (zs.take k++List.replicate (n - k) 0)) (fun i _=>n - (intOf i).toNat)
  case atStart=>exact ⟨0,Nat.zero_le _,rfl,gal _ _ _,by simp,by simpa using hr0⟩
  case round =>
   obtain ⟨k,hk,rfl,hg,hs,hrow⟩:=hrel;have hlt0:k < n→w.cell? ⟨b,off+k,none⟩=some (.int .u8 (zs.getD k 0)):=hc k;by_cases hlt:k < n
   ·
    have hcb:=hg.cell (hc k hlt) (by simp)
    have hlen:(zs.take k++List.replicate (n - k) 0).length=n:=by simp;omega
    have hco:=hrow.cell k (by omega);have hfr:=hrow.free k;have hst:=hrow.store k (zs.getD k 0)
    have hrow':Row (wr.setCell ⟨w.heap.size,k,none⟩ (.int .u8 (zs.getD k 0))) w.heap.size n (zs.take (k+1)++List.replicate (n - (k+1)) 0):=by
     have e:(zs.take k++List.replicate (n - k) 0).set k (zs.getD k 0)=zs.take (k+1)++List.replicate (n - (k+1)) 0:=set_step zs n k hl hlt;rw[← e];exact hst
    have HR:Hid (Row (wr.setCell ⟨w.heap.size,k,none⟩ (.int .u8 (zs.getD k 0))) w.heap.size n (zs.take (k+1)++List.replicate (n - (k+1)) 0)):=hrow';have HG:Hid (w.grownBy (wr.setCell ⟨w.heap.size,k,none⟩ (.int .u8 (zs.getD k 0))) none):=grown_own hg _ (Nat.le_refl _) _ _;clear hst hrow' hmk hr0 hrow hlen
    have hkz:k < zs.length:=by omega
    go_wp2;go_roundw
    case rel=>exact ⟨k+1,by omega,by go_num,by simpa [hkz] using HG.out,by simpa [World.setCell] using hs,by simpa [hkz] using HR.out⟩
    case measure=>simp [intOf];omega
   ·
    obtain rfl:k=n:=by omega
    clear hmk hr0;go_wp2;go_ret;exact ⟨rfl,hg,hs,by simpa [List.take_of_length_le (Nat.le_of_eq hl)] using hrow⟩
theorem toB (a:Option Addr) (n cap:Nat) (zs:List Int) (w:World) (h:Reads w a n zs) (hn:n≤1048576) :
  Calls Tryz.prog 5 #[.slice a n cap] w fun e w'=>∃ g,e = .returned (.slice (some ⟨g,0,none⟩) n n)∧w.grownBy w' none∧w.heap.size≤g∧Row w' g n zs :=
 (toB0 a n cap zs w h hn).mono fun e w' ⟨he,hg,_,hr⟩=>⟨_,he,hg,Nat.le_refl _,hr⟩
theorem eqT (a a':Option Addr) (n cap cap':Nat) (zs:List Int) (w:World) (h:Reads w a n zs) (h':Reads w a' n zs) (hn:n≤4194304) :
  Calls Tryz.prog 8 #[.slice a n cap,.slice a' n cap'] w fun e w'=>e = .returned (.bool true)∧∃ m,w' = w.drewN m:=by
 obtain ⟨hl,h⟩:=h;obtain ⟨-,h'⟩:=h';by_cases h0:n=0
 ·
  subst h0;clear h h';go_enter Tryz.func8,Tryz.ntmps8;go_wp2;refine wp_loop_rounds 1 ?_;rw[rounds_succ];go_wp2;go_ret;exact ⟨rfl,0,rfl⟩
 ·
  rcases h with h|⟨b,off,rfl,hc⟩
  ·
   exact absurd h h0
  rcases h' with h' | ⟨b',off',rfl,hc'⟩
  ·
   exact absurd h' h0
  go_enter Tryz.func8,Tryz.ntmps8;go_wp2
  go_loopw [5] (fun i wr=>∃ k m:Nat,k≤n∧i = .int .i64 k∧wr=w.drewN m) (fun i _=>n - (intOf i).toNat)
  case atStart=>exact ⟨0,0,Nat.zero_le _,rfl,rfl⟩
  case round =>
   obtain ⟨k,m,hk,rfl,rfl⟩:=hrel;by_cases hlt:k < n
   ·
    have c1:=hc k hlt;have c2:=hc' k hlt
    have hki:(k:Int) < (n:Int):=by omega
    go_wp2;go_quiet (fail);go_wp2;go_roundw
    case rel=>exact ⟨k+1,_,by omega,by go_num,rfl⟩
    case measure=>simp [intOf];omega
   ·
    go_wp2;go_ret;exact ⟨rfl,m,rfl⟩
theorem markT (g n cap:Nat) (zs:List Int) (k0:Int) (w:World) (h:Row w g cap zs) (hl:zs.length=n) (hn:n≤4194304) (hk0:0≤k0) (hk1:k0≤4194304) :
  Calls Tryz.prog 9 #[.slice (some ⟨g,0,none⟩) n cap,.int .i64 k0] w fun e w'=>e = .returned (.int .i64 (k0+n))∧w.grownBy w' (some g)∧w'.heap.size=w.heap.size∧Row w' g cap (marks k0 n):=by
 go_enter Tryz.func9,Tryz.ntmps9;go_wp2
 go_loopw [1,5] (fun v i wr=>∃ k:Nat,k≤n∧i = .int .i64 k∧v = .int .i64 (k0+k)∧w.grownBy wr (some g)∧wr.heap.size=w.heap.size∧Row wr g cap (half zs k0 k)) (fun _ i _=>n - (intOf i).toNat)
 case atStart=>exact ⟨0,Nat.zero_le _,rfl,by simp,grf _ _,rfl,by rw[half_zero];exact h⟩
 case round =>
  obtain ⟨k,hk,rfl,rfl,hg,hs,hrow⟩:=hrel;by_cases hlt:k < n
  ·
   have hco:=hrow.cell k (by rw[half_len _ _ _ (by omega)];omega);have hfr:=hrow.free k;have hst:=hrow.store k ((k0+k) % 256);rw[half_step _ _ _ (by omega)] at hst;have HR:Hid (Row (wr.setCell ⟨g,k,none⟩ (.int .u8 ((k0+k) % 256))) g cap (half zs k0 (k+1))):=hst;have HG:Hid (w.grownBy (wr.setCell ⟨g,k,none⟩ (.int .u8 ((k0+k) % 256))) (some g)):=gtr hg (gsc _ _ _ _);obtain ⟨old,hold⟩:∃ x,wr.cell? ⟨g,k,none⟩=some (.int .u8 x):=⟨_,hco⟩;clear hst hrow hco h;go_wp2;go_roundw
   case rel=>exact ⟨k+1,by omega,by go_num,by go_num,HG.out,by simpa [World.setCell] using hs,HR.out⟩
   case measure=>simp [intOf];omega
  ·
   obtain rfl:k=n:=by omega
   go_wp2;go_ret;refine ⟨rfl,hg,hs,?_⟩;rw[← hl] at hrow ⊢;rw[half_all] at hrow;exact hrow
theorem infoT:(Tryz.prog.info? 46).map (fun i=>(i.zero,i.size,i.bytes))=some (some (.agg #[.int .i64 0,.int .i64 0,.slice none 0 0]),3,40):=by kernel_rfl
set_option linter.unusedSimpArgs false
def wholeV (n:Int):Bool:=decide (-1073741824≤n) && decide (n≤1073741823)
theorem isWholeT (n:Int) (w:World) :
    Calls Tryz.prog 132 #[.int .i64 n] w fun e u=>e = .returned (.bool (wholeV n))∧u=w:=by
  by_cases h1:-1073741824≤n
  · by_cases h2:n≤1073741823
    · go_enter Tryz.func132,Tryz.ntmps132
      go_wp2;go_ret;exact ⟨by simp [wholeV,h1,h2],rfl⟩
    · go_enter Tryz.func132,Tryz.ntmps132
      go_wp2;go_ret;exact ⟨by simp [wholeV,h1,h2],rfl⟩
  · go_enter Tryz.func132,Tryz.ntmps132
    go_wp2;go_ret
    exact ⟨by have e:wholeV n=false:=by (simp [wholeV];omega)
              rw[e];rfl,rfl⟩
def noLit (z:Int):Bool:=decide (z < 32) || decide (126 < z) || decide (z=34) || decide (z=92)
def litV (zs:List Int):Bool:=decide (zs.length≤20) && !zs.any noLit
theorem isNoLitT (z:Int) (w:World) :
    Calls Tryz.prog 139 #[.int .u8 z] w fun e u=>e = .returned (.bool (noLit z))∧u=w:=by
  by_cases h1:z < 32
  · go_enter Tryz.func139,Tryz.ntmps139
    go_wp2;go_ret;exact ⟨by simp [noLit,h1],rfl⟩
  by_cases h2:126 < z
  · have h2':z > 126:=h2
    go_enter Tryz.func139,Tryz.ntmps139;go_wp2;go_ret;exact ⟨by simp [noLit,h2],rfl⟩
  have h2':¬ z > 126:=h2;by_cases h3:z=34
  · go_enter Tryz.func139,Tryz.ntmps139
    go_wp2;go_ret;exact ⟨by simp [noLit,h3],rfl⟩
  by_cases h4:z=92
  · go_enter Tryz.func139,Tryz.ntmps139
    go_wp2;go_ret;exact ⟨by simp [noLit,h4],rfl⟩
  go_enter Tryz.func139,Tryz.ntmps139;go_wp2;go_ret
  exact ⟨by have e:noLit z=false:=by (simp [noLit,h3,h4];omega)
            simp [e,h3,h4],rfl⟩
def AtP (b:Bool) (r:Int):Prop:=if b=true then 0≤r else r = -1
def DrB (w:World) (b o:Nat) (R:List Int):Prop:=∀ i,i < R.length→w.cell? ⟨b,o+i,none⟩=some (.int .u8 (R.getD i 0))
theorem DrB.le {w u:World} {b o:Nat} {R:List Int} (h:DrB w b o R) (k:CLe w u):DrB u b o R:=fun i hi=>k _ _ (h i hi)
theorem DrB.tl {w:World} {b o:Nat} {z:Int} {R:List Int} (h:DrB w b o (z::R)):w.cell? ⟨b,o,none⟩=some (.int .u8 z)∧DrB w b (o+1) R:=by
 refine ⟨by simpa using h 0 (by simp),fun i hi=>?_⟩;have:=h (i+1) (by simp;omega);rw[show o+1+i=o+(i+1) by omega];simpa using this
theorem indexBT (zs:List Int) (a:Option Addr) (l c:Nat) (w:World) (h:RdB w a l zs) :
  Calls Tryz.prog 141 #[.slice a l c,.func (.func 139) #[] #[]] w fun e u=>(∃ r:Int,e = .returned (.int .i64 r)∧AtP (zs.any noLit) r)∧w.grownBy u none:=by
 have hl:=h.2.2;have hfl:=h.1.1
 have hcs:(l=0∧zs=[])∨∃ b o,a=some ⟨b,o,none⟩∧DrB w b o zs∧0 < l:=by
  by_cases h0:l=0
  ·
   exact .inl ⟨h0,lz0 (by omega)⟩
  ·
   rcases h.1.2 with h2|⟨b,o,e,h2⟩
   ·
    exact absurd h2 h0
   ·
    exact .inr ⟨b,o,e,fun i hi=>h2 i (by omega),by omega⟩
 rcases hcs with ⟨rfl,rfl⟩|⟨b,o,rfl,hin,hpos⟩
 ·
  go_enter Tryz.func141,Tryz.ntmps141;go_wp2;refine wp_loop_rounds 1 ?_;rw[rounds_succ];go_wp2;go_ret;exact ⟨⟨-1,rfl,by unfold AtP;exact rfl⟩,grf _ _⟩
 have IN:Hid (DrB w b o zs):=hin;clear hin h;go_enter Tryz.func141,Tryz.ntmps141;go_wp2
 go_loopw [8] (fun i wr=>∃ (j:Nat) (R:List Int),j≤l∧i = .int .i64 j∧R.length+j=l∧Hid (w.grownBy wr none∧DrB wr b (o+j) R∧(zs.any noLit)=R.any noLit)) (fun i _=>l - (intOf i).toNat)
 case atStart=>exact ⟨0,zs,Nat.zero_le _,rfl,by omega,grf _ _,by simpa using IN.out,rfl⟩
 case round =>
  obtain ⟨j,R,hj,rfl,hRl,HR⟩:=hrel;by_cases hlt:j < l
  ·
   obtain ⟨z,R',rfl⟩:∃ x R',R=x::R':=by
    cases R with
    | nil=>simp at hRl;omega
    | cons x R'=>exact ⟨x,R',rfl⟩
   obtain ⟨hg,hR,hv⟩:=HR.out;obtain ⟨k0,hT⟩:=hR.tl;rw[show o+j+1=o+(j+1) by omega] at hT;have hd:True:=trivial;simp only[List.any_cons] at hv
   have CC:Hid (Calls Tryz.prog 139 #[.int .u8 z] wr fun e u=>e = .returned (.bool (noLit z))∧wr.grownBy u none):=(isNoLitT z wr).mono fun e u hh=>⟨hh.1,by rw[hh.2];exact grf _ _⟩
   have FX:Hid (w.grownBy wr none∧DrB wr b (o+(j+1)) R'∧(zs.any noLit)=(noLit z || R'.any noLit)):=⟨hg,hT,hv⟩;clear hg hR hv hd hT HR IN;simp only[lB] at hRl;go_wp2_with fail;refine Calls.mono CC.out ?_;rintro e u2 ⟨rfl,hgu⟩;have FY:Hid (w.grownBy u2 none∧DrB u2 b (o+(j+1)) R'∧(zs.any noLit)=(noLit z || R'.any noLit)):=⟨gtr FX.out.1 hgu,FX.out.2.1.le (CLe.grown hgu),FX.out.2.2⟩;clear FX hgu CC k0;simp only[]
   cases hb:noLit z with
   | false =>
    have FZ:Hid (w.grownBy u2 none∧DrB u2 b (o+(j+1)) R'∧(zs.any noLit)=R'.any noLit):=⟨FY.out.1,FY.out.2.1,by rw[FY.out.2.2,hb,Bool.false_or]⟩;clear FY hb;go_wp2;go_roundw
    case rel=>exact ⟨j+1,R',by omega,by go_num,by omega,FZ⟩
    case measure=>simp [intOf];omega
   | true =>
    have FZ:Hid (w.grownBy u2 none∧(zs.any noLit)=true):=⟨FY.out.1,by rw[FY.out.2.2,hb,Bool.true_or]⟩;clear FY hb;go_wp2;go_ret;exact ⟨⟨(j:Int),rfl,by unfold AtP;rw[if_pos FZ.out.2];omega⟩,FZ.out.1⟩
  ·
   obtain rfl:j=l:=by omega
   obtain rfl:R=[]:=lz0 (by omega);have FZ:Hid (w.grownBy wr none∧(zs.any noLit)=false):=⟨HR.out.1,HR.out.2.2⟩;clear HR;go_wp2;go_ret;exact ⟨⟨-1,rfl,by unfold AtP;rw[if_neg (by rw[FZ.out.2];simp)]⟩,FZ.out.1⟩
theorem containsBT (zs:List Int) (a:Option Addr) (l c:Nat) (w:World) (h:RdB w a l zs) :
  Calls Tryz.prog 138 #[.slice a l c,.func (.func 139) #[] #[]] w fun e u=>e = .returned (.bool (zs.any noLit))∧w.grownBy u none:=by
 have CC:Hid _:=indexBT zs a l c w h;clear h;go_enter Tryz.func138,Tryz.ntmps138;go_wp2_with fail;refine Calls.mono CC.out ?_;rintro e u ⟨⟨r,rfl,hr⟩,hg⟩;have G:Hid (w.grownBy u none):=hg;clear hg CC;unfold AtP at hr;simp only[]
 cases hb:(zs.any noLit) with
 | true =>
  rw[hb,if_pos rfl] at hr;go_wp2;go_ret;refine ⟨?_,G.out⟩;rw[hb]
  first|rfl | (simp;done) | (simp;omega)
 | false =>
  rw[hb,if_neg (by simp)] at hr;subst hr;go_wp2;go_ret;refine ⟨?_,G.out⟩;rw[hb]
  first|rfl | (simp;done)
theorem isLiteralT (a:Option Addr) (n c:Nat) (zs:List Int) (w:World) (h:RdB w a n zs) :
  Calls Tryz.prog 134 #[.slice a n c] w fun e u=>e = .returned (.bool (litV zs))∧w.grownBy u none:=by
 have CC:Hid _:=containsBT zs a n c w h;have hn:=h.1.1;clear h;by_cases hl:n≤20
 ·
  have hl':(n:Int)≤20:=by omega
  go_enter Tryz.func134,Tryz.ntmps134;go_wp2_with fail;refine Calls.mono CC.out ?_;rintro e u ⟨rfl,hg⟩;have G:Hid (w.grownBy u none):=hg;clear CC hg;simp only[];go_wp2;go_ret;refine ⟨?_,G.out⟩
  have e:litV zs = !zs.any noLit:=by unfold litV;rw[hn];simp [hl]
  rw[e];rfl
 ·
  have hl':¬ (n:Int)≤20:=by omega
  clear CC;go_enter Tryz.func134,Tryz.ntmps134;go_wp2;go_ret;refine ⟨?_,grf _ _⟩
  have e:litV zs=false:=by unfold litV;rw[hn];simp [hl]
  rw[e];rfl
def RdI (w:World) (a:Option Addr) (n:Nat) (zs:List Int):Prop:=ReadsI w a n zs∧n≤9223372036854775807
theorem RdI.le {w u:World} {a:Option Addr} {n:Nat} {zs:List Int} (h:RdI w a n zs) (k:CLe w u):RdI u a n zs:=by
 obtain ⟨⟨h1,h2⟩,h3⟩:=h;refine ⟨⟨h1,?_⟩,h3⟩;rcases h2 with h2|⟨b,o,e,h2⟩
 ·
  exact .inl h2
 ·
  exact .inr ⟨b,o,e,fun i hi=>k _ _ (h2 i hi)⟩
theorem RdI.none {w u:World} {a:Option Addr} {n:Nat} {zs:List Int} (h:RdI w a n zs) (k:w.grownBy u Option.none):RdI u a n zs:=h.le (CLe.grown k)
def numV (n:Int):Bool:=decide (0≤n) && decide (n≤2147483647)
def noNum (n:Int):Bool:=!numV n
theorem isNumT (n:Int) (w:World) :
    Calls Tryz.prog 133 #[.int .i64 n] w fun e u=>e = .returned (.bool (numV n))∧u=w:=by
  by_cases h1:0≤n
  · by_cases h2:n≤2147483647
    · go_enter Tryz.func133,Tryz.ntmps133
      go_wp2;go_ret;exact ⟨by simp [numV,h1,h2],rfl⟩
    · go_enter Tryz.func133,Tryz.ntmps133
      go_wp2;go_ret;exact ⟨by simp [numV,h1,h2],rfl⟩
  · go_enter Tryz.func133,Tryz.ntmps133
    go_wp2;go_ret
    exact ⟨by have e:numV n=false:=by (simp [numV];omega)
              rw[e];rfl,rfl⟩
theorem isNoNumT (n:Int) (w:World) :
  Calls Tryz.prog 136 #[.int .i64 n] w fun e u=>e = .returned (.bool (noNum n))∧u=w:=by
 have CC:Hid _:=isNumT n w;go_enter Tryz.func136,Tryz.ntmps136;go_wp2_with fail;refine Calls.mono CC.out ?_;rintro e u ⟨rfl,rfl⟩;clear CC;simp only[];go_wp2;go_ret;exact ⟨rfl,rfl⟩
def DrI (w:World) (b o:Nat) (R:List Int):Prop:=∀ i,i < R.length→w.cell? ⟨b,o+i,none⟩=some (.int .i64 (R.getD i 0))
theorem DrI.le {w u:World} {b o:Nat} {R:List Int} (h:DrI w b o R) (k:CLe w u):DrI u b o R:=fun i hi=>k _ _ (h i hi)
theorem DrI.tl {w:World} {b o:Nat} {z:Int} {R:List Int} (h:DrI w b o (z::R)):w.cell? ⟨b,o,none⟩=some (.int .i64 z)∧DrI w b (o+1) R:=by
 refine ⟨by simpa using h 0 (by simp),fun i hi=>?_⟩;have:=h (i+1) (by simp;omega);rw[show o+1+i=o+(i+1) by omega];simpa using this
theorem indexNT (zs:List Int) (a:Option Addr) (l c:Nat) (w:World) (h:RdI w a l zs) :
  Calls Tryz.prog 140 #[.slice a l c,.func (.func 136) #[] #[]] w fun e u=>(∃ r:Int,e = .returned (.int .i64 r)∧AtP (zs.any noNum) r)∧w.grownBy u none:=by
 have hl:=h.2;have hfl:=h.1.1
 have hcs:(l=0∧zs=[])∨∃ b o,a=some ⟨b,o,none⟩∧DrI w b o zs∧0 < l:=by
  by_cases h0:l=0
  ·
   exact .inl ⟨h0,lz0 (by omega)⟩
  ·
   rcases h.1.2 with h2|⟨b,o,e,h2⟩
   ·
    exact absurd h2 h0
   ·
    exact .inr ⟨b,o,e,fun i hi=>h2 i (by omega),by omega⟩
 rcases hcs with ⟨rfl,rfl⟩|⟨b,o,rfl,hin,hpos⟩
 ·
  go_enter Tryz.func140,Tryz.ntmps140;go_wp2;refine wp_loop_rounds 1 ?_;rw[rounds_succ];go_wp2;go_ret;exact ⟨⟨-1,rfl,by unfold AtP;exact rfl⟩,grf _ _⟩
 have IN:Hid (DrI w b o zs):=hin;clear hin h;go_enter Tryz.func140,Tryz.ntmps140;go_wp2
 go_loopw [8] (fun i wr=>∃ (j:Nat) (R:List Int),j≤l∧i = .int .i64 j∧R.length+j=l∧Hid (w.grownBy wr none∧DrI wr b (o+j) R∧(zs.any noNum)=R.any noNum)) (fun i _=>l - (intOf i).toNat)
 case atStart=>exact ⟨0,zs,Nat.zero_le _,rfl,by omega,grf _ _,by simpa using IN.out,rfl⟩
 case round =>
  obtain ⟨j,R,hj,rfl,hRl,HR⟩:=hrel;by_cases hlt:j < l
  ·
   obtain ⟨z,R',rfl⟩:∃ x R',R=x::R':=by
    cases R with
    | nil=>simp at hRl;omega
    | cons x R'=>exact ⟨x,R',rfl⟩
   obtain ⟨hg,hR,hv⟩:=HR.out;obtain ⟨k0,hT⟩:=hR.tl;rw[show o+j+1=o+(j+1) by omega] at hT;have hd:True:=trivial;simp only[List.any_cons] at hv
   have CC:Hid (Calls Tryz.prog 136 #[.int .i64 z] wr fun e u=>e = .returned (.bool (noNum z))∧wr.grownBy u none):=(isNoNumT z wr).mono fun e u hh=>⟨hh.1,by rw[hh.2];exact grf _ _⟩
   have FX:Hid (w.grownBy wr none∧DrI wr b (o+(j+1)) R'∧(zs.any noNum)=(noNum z || R'.any noNum)):=⟨hg,hT,hv⟩;clear hg hR hv hd hT HR IN;simp only[lB] at hRl;go_wp2_with fail;refine Calls.mono CC.out ?_;rintro e u2 ⟨rfl,hgu⟩;have FY:Hid (w.grownBy u2 none∧DrI u2 b (o+(j+1)) R'∧(zs.any noNum)=(noNum z || R'.any noNum)):=⟨gtr FX.out.1 hgu,FX.out.2.1.le (CLe.grown hgu),FX.out.2.2⟩;clear FX hgu CC k0;simp only[]
   cases hb:noNum z with
   | false =>
    have FZ:Hid (w.grownBy u2 none∧DrI u2 b (o+(j+1)) R'∧(zs.any noNum)=R'.any noNum):=⟨FY.out.1,FY.out.2.1,by rw[FY.out.2.2,hb,Bool.false_or]⟩;clear FY hb;go_wp2;go_roundw
    case rel=>exact ⟨j+1,R',by omega,by go_num,by omega,FZ⟩
    case measure=>simp [intOf];omega
   | true =>
    have FZ:Hid (w.grownBy u2 none∧(zs.any noNum)=true):=⟨FY.out.1,by rw[FY.out.2.2,hb,Bool.true_or]⟩;clear FY hb;go_wp2;go_ret;exact ⟨⟨(j:Int),rfl,by unfold AtP;rw[if_pos FZ.out.2];omega⟩,FZ.out.1⟩
  ·
   obtain rfl:j=l:=by omega
   obtain rfl:R=[]:=lz0 (by omega);have FZ:Hid (w.grownBy wr none∧(zs.any noNum)=false):=⟨HR.out.1,HR.out.2.2⟩;clear HR;go_wp2;go_ret;exact ⟨⟨-1,rfl,by unfold AtP;rw[if_neg (by rw[FZ.out.2];simp)]⟩,FZ.out.1⟩
theorem containsNT (zs:List Int) (a:Option Addr) (l c:Nat) (w:World) (h:RdI w a l zs) :
  Calls Tryz.prog 135 #[.slice a l c,.func (.func 136) #[] #[]] w fun e u=>e = .returned (.bool (zs.any noNum))∧w.grownBy u none:=by
 have CC:Hid _:=indexNT zs a l c w h;clear h;go_enter Tryz.func135,Tryz.ntmps135;go_wp2_with fail;refine Calls.mono CC.out ?_;rintro e u ⟨⟨r,rfl,hr⟩,hg⟩;have G:Hid (w.grownBy u none):=hg;clear hg CC;unfold AtP at hr;simp only[]
 cases hb:(zs.any noNum) with
 | true =>
  rw[hb,if_pos rfl] at hr;go_wp2;go_ret;refine ⟨?_,G.out⟩;rw[hb]
  first|rfl | (simp;done) | (simp;omega)
 | false =>
  rw[hb,if_neg (by simp)] at hr;subst hr;go_wp2;go_ret;refine ⟨?_,G.out⟩;rw[hb]
  first|rfl | (simp;done)
end Go.Proofs.YtnmlbeefjjohfaaGreatDoor.By
