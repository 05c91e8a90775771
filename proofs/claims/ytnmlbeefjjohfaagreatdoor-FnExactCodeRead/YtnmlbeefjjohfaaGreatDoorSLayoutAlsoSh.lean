/-
  No statement is proved here.
-/
import Derived.Test.YtnmlbeefjjohfaaGreatDoorTShapeAlsoSh
namespace Go.Proofs.YtnmlbeefjjohfaaGreatDoor.By
set_option maxRecDepth 100000
set_option maxHeartbeats 16000000
open Go.RowKit
set_option linter.unusedVariables false
theorem eqTr (d:F) (k n:Int) (a a':Option Addr) (l c c':Nat) (w:World) (h:SlF w a l d) (h':SlF w a' l d) :
  Calls Tryz.prog 72 #[.agg #[.int .i64 k,.int .i64 n,.slice a l c],.agg #[.int .i64 k,.int .i64 n,.slice a' l c']] w fun e u=>e = .returned (.bool true)∧w.grownBy u none :=
 eqT_of k n w (fun w' hw=>eqS d.size d a a' l c c' w' (Nat.le_refl _) (h.none hw) (h'.none hw))
set_option linter.unusedSimpArgs false
theorem eqBy0 (a a':Option Addr) (n cap cap':Nat) (zs:List Int) (w:World) (h:Reads w a n zs) (h':Reads w a' n zs) (hn:n≤4194304) :
  Calls Tryz.prog 8 #[.slice a n cap,.slice a' n cap'] w fun e w'=>e = .returned (.bool true)∧∃ m,w' = w.drewN m:=by
 obtain ⟨hl,h⟩:=h;obtain ⟨-,h'⟩:=h';by_cases h0:n=0
 ·
  subst h0;clear h h';go_enter Tryz.func8,Tryz.ntmps8;go_wp2;refine wp_loop_rounds 1 ?_;rw[rounds_succ];go_wp2;go_ret;exact ⟨rfl,0,rfl⟩
 ·
  rcases h with h|⟨b,off,rfl,hc⟩
  ·
   exact absurd h h0
  rcases h' with h' | ⟨b',off',rfl,hc'⟩
  ·
   exact absurd h' h0
  go_enter Tryz.func8,Tryz.ntmps8;go_wp2
  go_loopw [5] (fun i wr=>∃ k m:Nat,k≤n∧i = .int .i64 k∧wr=w.drewN m) (fun i _=>n - (intOf i).toNat)
  case atStart=>exact ⟨0,0,Nat.zero_le _,rfl,rfl⟩
  case round =>
   obtain ⟨k,m,hk,rfl,rfl⟩:=hrel;by_cases hlt:k < n
   ·
    have c1:=hc k hlt;have c2:=hc' k hlt
    have hki:(k:Int) < (n:Int):=by omega
    go_wp2;go_quiet (fail);go_wp2;go_roundw
    case rel=>exact ⟨k+1,_,by omega,by go_num,rfl⟩
    case measure=>simp [intOf];omega
   ·
    go_wp2;go_ret;exact ⟨rfl,m,rfl⟩
theorem eqBy (a a':Option Addr) (n cap cap':Nat) (zs:List Int) (w:World) (h:Reads w a n zs) (h':Reads w a' n zs) (hn:n≤4194304) :
  Calls Tryz.prog 8 #[.slice a n cap,.slice a' n cap'] w fun e u=>e = .returned (.bool true)∧w.grownBy u none:=by
 refine (eqBy0 a a' n cap cap' zs w h h' hn).mono ?_;rintro e u ⟨he,hm⟩;exact ⟨he,quiet hm⟩
theorem eqIn0 (a a':Option Addr) (n cap cap':Nat) (zs:List Int) (w:World) (h:ReadsI w a n zs) (h':ReadsI w a' n zs) (hn:n≤4194304) :
  Calls Tryz.prog 22 #[.slice a n cap,.slice a' n cap'] w fun e w'=>e = .returned (.bool true)∧∃ m,w' = w.drewN m:=by
 obtain ⟨hl,h⟩:=h;obtain ⟨-,h'⟩:=h';by_cases h0:n=0
 ·
  subst h0;clear h h';go_enter Tryz.func22,Tryz.ntmps22;go_wp2;refine wp_loop_rounds 1 ?_;rw[rounds_succ];go_wp2;go_ret;exact ⟨rfl,0,rfl⟩
 ·
  rcases h with h|⟨b,off,rfl,hc⟩
  ·
   exact absurd h h0
  rcases h' with h' | ⟨b',off',rfl,hc'⟩
  ·
   exact absurd h' h0
  go_enter Tryz.func22,Tryz.ntmps22;go_wp2
  go_loopw [5] (fun i wr=>∃ k m:Nat,k≤n∧i = .int .i64 k∧wr=w.drewN m) (fun i _=>n - (intOf i).toNat)
  case atStart=>exact ⟨0,0,Nat.zero_le _,rfl,rfl⟩
  case round =>
   obtain ⟨k,m,hk,rfl,rfl⟩:=hrel;by_cases hlt:k < n
   ·
    have c1:=hc k hlt;have c2:=hc' k hlt
    have hki:(k:Int) < (n:Int):=by omega
    go_wp2;go_quiet (fail);go_wp2;go_roundw
    case rel=>exact ⟨k+1,_,by omega,by go_num,rfl⟩
    case measure=>simp [intOf];omega
   ·
    go_wp2;go_ret;exact ⟨rfl,m,rfl⟩
theorem eqIn (a a':Option Addr) (n cap cap':Nat) (zs:List Int) (w:World) (h:RdI w a n zs) (h':RdI w a' n zs) (hn:n≤4194304) :
  Calls Tryz.prog 22 #[.slice a n cap,.slice a' n cap'] w fun e u=>e = .returned (.bool true)∧w.grownBy u none:=by
 refine (eqIn0 a a' n cap cap' zs w h.1 h'.1 hn).mono ?_;rintro e u ⟨he,hm⟩;exact ⟨he,quiet hm⟩
def InTys (w wp:World):List F→Nat→Nat→Prop
 | [],_,_=>True
 | x::r,b,off=>(∃ a1 l1 c1,(w.cell? ⟨b,off,none⟩=some (.slice a1 l1 c1))∧SlF wp a1 l1 x)∧InTys w wp r b (off+1)
def SlTys (w:World) (a:Option Addr) (l:Nat) (xs:List F):Prop :=
 xs.length=l∧l≤9223372036854775807∧(l=0∨∃ b o,a=some ⟨b,o,none⟩∧InTys w w xs b o)
theorem InTys.move {w wp u up:World} {xs:List F} {b off b' off':Nat} (h:InTys w wp xs b off) (hc:∀ i v,i < xs.length * 1→w.cell? ⟨b,off+i,none⟩=some v→u.cell? ⟨b',off' + i,none⟩=some v) (k:CLe wp up):InTys u up xs b' off':=by
 induction xs generalizing off off' with
 | nil=>trivial
 | cons x r ih =>
  obtain ⟨⟨a1,l1,c1,h0,hp⟩,hr⟩:=h;refine ⟨⟨a1,l1,c1,by simpa using hc 0 _ (by simp) h0,hp.le k⟩,ih hr (fun i v hi hv=>?_)⟩;have:=hc (i+1) v (by simp;omega) (by rw[show off+(i+1)=off+1+i by omega];exact hv);rw[show off' + 1+i=off' + (i+1) by omega];exact this
theorem InTys.le {w wp u up:World} {xs:List F} {b off:Nat} (h:InTys w wp xs b off) (k:CLe w u) (k2:CLe wp up):InTys u up xs b off:=h.move (fun i v _ hv=>k _ _ hv) k2
theorem SlTys.le {w u:World} {a:Option Addr} {l:Nat} {xs:List F} (h:SlTys w a l xs) (k:CLe w u):SlTys u a l xs:=by
 obtain ⟨h1,h2,h3⟩:=h;refine ⟨h1,h2,?_⟩;rcases h3 with h3|⟨b,o,e,h3⟩
 ·
  exact .inl h3
 ·
  exact .inr ⟨b,o,e,h3.le k k⟩
theorem SlTys.cases {w:World} {a:Option Addr} {l:Nat} {xs:List F} (h:SlTys w a l xs):(l=0∧xs=[])∨∃ b o,a=some ⟨b,o,Option.none⟩∧InTys w w xs b o∧0 < l:=by
 obtain ⟨h1,h2,h3⟩:=h;by_cases h0:l=0
 ·
  exact .inl ⟨h0,lz0 (by omega)⟩
 ·
  rcases h3 with h3|⟨b,o,e,h3⟩
  ·
   exact absurd h3 h0
  ·
   exact .inr ⟨b,o,e,h3,by omega⟩
def szTyss:List F→Nat
 | []=>0
 | x::r=>1+(x).size+szTyss r
theorem eqTyssT (xs:List F) (a a':Option Addr) (l c c':Nat) (w:World) (h:SlTys w a l xs) (h':SlTys w a' l xs) (hs:szTyss xs≤1048576) :
  Calls Tryz.prog 70 #[.slice a l c,.slice a' l c'] w fun e u=>e = .returned (.bool true)∧w.grownBy u none:=by
 have hl:=h.2.1;have hfl:=h.1;rcases h.cases with ⟨rfl,rfl⟩|⟨b,o,rfl,hin,hpos⟩
 ·
  go_enter Tryz.func70,Tryz.ntmps70;go_wp2;refine wp_loop_rounds 1 ?_;rw[rounds_succ];go_wp2;go_ret;exact ⟨rfl,grf _ _⟩
 rcases h'.cases with ⟨rfl,rfl⟩|⟨b',o',rfl,hin',-⟩
 ·
  exact absurd hpos (by omega)
 have IN:Hid (InTys w w xs b o∧InTys w w xs b' o'):=⟨hin,hin'⟩;clear hin hin' h h';go_enter Tryz.func70,Tryz.ntmps70;go_wp2
 go_loopw [5] (fun i wr=>∃ (j:Nat) (R:List F),j≤l∧i = .int .i64 j∧Hid (w.grownBy wr none∧InTys wr wr R b (o+j * 1)∧InTys wr wr R b' (o' + j * 1))∧szTyss R≤1048576∧R.length+j=l) (fun i _=>l - (intOf i).toNat)
 case atStart=>exact ⟨0,xs,Nat.zero_le _,rfl,⟨grf _ _,by simpa using IN.out.1,by simpa using IN.out.2⟩,hs,by omega⟩
 case round =>
  obtain ⟨j,R,hj,rfl,HR,hRs,hRl⟩:=hrel;by_cases hlt:j < l
  ·
   obtain ⟨x,R',rfl⟩:∃ x R',R=x::R':=by
    cases R with
    | nil=>simp at hRl;omega
    | cons x R'=>exact ⟨x,R',rfl⟩
   obtain ⟨hg,⟨⟨a1,l1,c1,k0,hd⟩,hR2⟩,⟨⟨f1,n1,g1,m0,hd2⟩,hR3⟩⟩:=HR.out;rw[show o+j * 1+1=o+(j+1) * 1 by omega] at hR2;rw[show o' + j * 1+1=o' + (j+1) * 1 by omega] at hR3
   obtain rfl:l1=n1:=by have:=hd.1;have:=hd2.1;omega
   simp only[szTyss] at hRs;have gd:=grown_drew (grf wr none);have gc:=CLe.grown gd;have CC:Hid _:=eqS x.size x a1 f1 l1 c1 g1 wr.drew (Nat.le_refl _) (hd.none gd) (hd2.none gd);simp only[Nat.mul_one] at k0 m0
   have TT:Hid (∀ u,wr.grownBy u none→((u.cell? ⟨b,o+j,none⟩=some (.slice a1 l1 c1))∧u.cell? ⟨b',o' + j,none⟩=some (.slice f1 l1 g1))):=fun u hu=>⟨hu.cell k0 (by simp),hu.cell m0 (by simp)⟩
   have FX:Hid (w.grownBy wr.drew none∧InTys wr.drew wr.drew R' b (o+(j+1) * 1)∧InTys wr.drew wr.drew R' b' (o' + (j+1) * 1)∧wr.grownBy wr.drew none):=⟨gtr hg gd,hR2.le gc gc,hR3.le gc gc,gd⟩;clear hd hd2 hR2 hR3 hg IN HR gd gc k0 m0;simp only[lB] at hRl;go_wp2_with fail;refine wp_region_held_drew (S:=(fun u=>((u.cell? ⟨b,o+j,none⟩=some (.slice a1 l1 c1))∧u.cell? ⟨b',o' + j,none⟩=some (.slice f1 l1 g1)))) (by kernel_rfl) (TT.out _ FX.out.2.2.2) (fun hH=>?_);generalize wr.drew=u at *;simp only[sA9,lB,lC,Nat.reduceAdd,Array.replicate,List.replicate];refine tk 0 ?_;refine tk 1 ?_;refine tk 2 ?_;refine tk 3 ?_;refine tk 4 ?_;refine tk 5 ?_;refine tk 6 ?_;refine tk 7 ?_;refine rd 8 rfl (fun K hK=>?_);go_simp;refine Calls.mono CC.out ?_;rintro e u2 ⟨he,hgu⟩;subst he;refine hK.out _ _ (TT.out _ (gtr FX.out.2.2.2 hgu)) ?_;clear hK K hH;intro hH;have FY:Hid (w.grownBy u2 none∧InTys u2 u2 R' b (o+(j+1) * 1)∧InTys u2 u2 R' b' (o' + (j+1) * 1)):=⟨gtr FX.out.1 hgu,FX.out.2.1.le (CLe.grown hgu) (CLe.grown hgu),FX.out.2.2.1.le (CLe.grown hgu) (CLe.grown hgu)⟩
   clear FX hgu CC TT;simp only[Act.put,nA,nB,nC,nD,nE,nF];refine tk 9 ?_;refine wpAnyH_done (by kernel_rfl) ?_ _;go_wp2;go_roundw
   case rel=>exact ⟨j+1,R',by omega,by go_num,FY,by omega,by omega⟩
   case measure=>simp [intOf];omega
  ·
   obtain rfl:j=l:=by omega
   have E:Hid (w.grownBy wr none):=HR.out.1;clear HR IN;go_wp2;go_ret;exact ⟨rfl,E.out⟩
structure RLayout where
 cons:List F
def RdLayout (w:World) (x:RLayout) (a1:Option Addr) (l1:Nat):Prop:=SlTys w a1 l1 x.cons
theorem RdLayout.le {w u:World} {x:RLayout} {a1:Option Addr} {l1:Nat} (h:RdLayout w x a1 l1) (k:CLe w u):RdLayout u x a1 l1:=(show SlTys w a1 l1 x.cons from h).le k
theorem RdLayout.none {w u:World} {x:RLayout} {a1:Option Addr} {l1:Nat} (h:RdLayout w x a1 l1) (k:w.grownBy u Option.none):RdLayout u x a1 l1:=h.le (CLe.grown k)
def szLayout (x:RLayout):Nat:=szTyss x.cons
theorem blkLayout {w:World} {g:Nat} {t:TypeId} {v0:Value} (h:w.heap[g]? = some (.cells #[v0] t (0,0))):(w.cell? ⟨g,0,none⟩=some v0)∧∀ j,w.frozen? ⟨g,j,none⟩=false:=by
 refine ⟨?_,fun j=>frozen_of_row w g _ _ t h⟩ <;> (rw[cell_of_row w g _ _ t (0,0) h];rfl)
theorem fillLayout {w:World} {p:Nat} {t:TypeId} {o0:Value} (v0:Value) (h:w.heap[p]? = some (.cells #[o0] t (0,0))) :
  (w.setCell ⟨p,0,none⟩ (v0)).heap[p]? = some (.cells #[v0] t (0,0))∧w.grownBy (w.setCell ⟨p,0,none⟩ (v0)) (some p):=by
 have h0:(w.setCell ⟨p,0,none⟩ (v0)).heap[p]? = some (.cells #[v0] t (0,0)):=hsm _ p 0 _ t v0 h;exact ⟨h0,gtr (grf _ _) (gsc _ _ _ _)⟩
theorem eqLayoutT (x:RLayout) (a1 f1:Option Addr) (l1 c1 g1:Nat) (w:World) (h:RdLayout w x a1 l1) (h':RdLayout w x f1 l1) (hs:szLayout x≤1048576) :
  Calls Tryz.prog 44 #[.agg #[.slice a1 l1 c1],.agg #[.slice f1 l1 g1]] w fun e u=>e = .returned (.bool true)∧w.grownBy u none:=by
 have hb1:szTyss (x.cons)≤1048576:=by unfold szLayout at hs;omega
 have HN:Hid (∀ u,w.grownBy u none→RdLayout u x a1 l1∧RdLayout u x f1 l1):=fun u hu=>⟨h.none hu,h'.none hu⟩
 clear h h';obtain ⟨b0,b1,bsz⟩:=alloc2_blocks w (.cells #[.slice a1 l1 c1] 42) (.cells #[.slice f1 l1 g1] 42);have g0:=grown_alloc (grown_alloc (grf w none) (.cells #[.slice a1 l1 c1] 42)) (.cells #[.slice f1 l1 g1] 42);have L0:Hid (w.grownBy _ none∧_=some (Obj.cells #[.slice a1 l1 c1] 42)∧_=some (Obj.cells #[.slice f1 l1 g1] 42)):=⟨g0,b0,b1⟩;have C0:Hid _:=eqTyssT (x.cons) a1 f1 l1 c1 g1 _ ((HN.out _ g0).1) ((HN.out _ g0).2) (hb1);obtain ⟨y0,-⟩:=blkLayout b0;obtain ⟨yy0,-⟩:=blkLayout b1;clear g0 b0 b1 bsz;go_enter Tryz.func44,Tryz.ntmps44;go_wp2_with fail;refine Calls.mono C0.out ?_;rintro e u0 ⟨he,hg⟩;subst he;have L1:Hid (w.grownBy u0 none∧u0.heap[w.heap.size]? = some (Obj.cells #[.slice a1 l1 c1] 42)∧u0.heap[w.heap.size+1]? = some (Obj.cells #[.slice f1 l1 g1] 42)):=⟨gtr L0.out.1 hg,(hg.block _ (lbk L0.out.2.1) (by simp)).trans L0.out.2.1,(hg.block _ (lbk L0.out.2.2) (by simp)).trans L0.out.2.2⟩
 clear C0 hg L0 y0 yy0;simp only[];go_wp2;go_ret;exact ⟨rfl,L1.out.1⟩
end Go.Proofs.YtnmlbeefjjohfaaGreatDoor.By
