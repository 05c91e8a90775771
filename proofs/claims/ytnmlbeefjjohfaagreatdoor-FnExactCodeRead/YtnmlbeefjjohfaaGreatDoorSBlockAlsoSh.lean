/-
  No statement is proved here.
-/
import Derived.Test.YtnmlbeefjjohfaaGreatDoorSLayoutAlsoSh
namespace Go.Proofs.YtnmlbeefjjohfaaGreatDoor.By
set_option maxRecDepth 100000
set_option maxHeartbeats 16000000
open Go.RowKit
set_option linter.unusedVariables false
set_option linter.unusedSimpArgs false
def InLayout (w wp:World):List RLayout→Nat→Nat→Prop
 | [],_,_=>True
 | x::r,b,off=>(∃ a1 l1 c1,(w.cell? ⟨b,off,none⟩=some (.slice a1 l1 c1))∧RdLayout wp x a1 l1)∧InLayout w wp r b (off+1)
def SlLayout (w:World) (a:Option Addr) (l:Nat) (xs:List RLayout):Prop :=
 xs.length=l∧l≤9223372036854775807∧(l=0∨∃ b o,a=some ⟨b,o,none⟩∧InLayout w w xs b o)
theorem InLayout.move {w wp u up:World} {xs:List RLayout} {b off b' off':Nat} (h:InLayout w wp xs b off) (hc:∀ i v,i < xs.length * 1→w.cell? ⟨b,off+i,none⟩=some v→u.cell? ⟨b',off' + i,none⟩=some v) (k:CLe wp up):InLayout u up xs b' off':=by
 induction xs generalizing off off' with
 | nil=>trivial
 | cons x r ih =>
  obtain ⟨⟨a1,l1,c1,h0,hp⟩,hr⟩:=h;refine ⟨⟨a1,l1,c1,by simpa using hc 0 _ (by simp) h0,hp.le k⟩,ih hr (fun i v hi hv=>?_)⟩;have:=hc (i+1) v (by simp;omega) (by rw[show off+(i+1)=off+1+i by omega];exact hv);rw[show off' + 1+i=off' + (i+1) by omega];exact this
theorem InLayout.le {w wp u up:World} {xs:List RLayout} {b off:Nat} (h:InLayout w wp xs b off) (k:CLe w u) (k2:CLe wp up):InLayout u up xs b off:=h.move (fun i v _ hv=>k _ _ hv) k2
theorem SlLayout.le {w u:World} {a:Option Addr} {l:Nat} {xs:List RLayout} (h:SlLayout w a l xs) (k:CLe w u):SlLayout u a l xs:=by
 obtain ⟨h1,h2,h3⟩:=h;refine ⟨h1,h2,?_⟩;rcases h3 with h3|⟨b,o,e,h3⟩
 ·
  exact .inl h3
 ·
  exact .inr ⟨b,o,e,h3.le k k⟩
theorem SlLayout.cases {w:World} {a:Option Addr} {l:Nat} {xs:List RLayout} (h:SlLayout w a l xs):(l=0∧xs=[])∨∃ b o,a=some ⟨b,o,Option.none⟩∧InLayout w w xs b o∧0 < l:=by
 obtain ⟨h1,h2,h3⟩:=h;by_cases h0:l=0
 ·
  exact .inl ⟨h0,lz0 (by omega)⟩
 ·
  rcases h3 with h3|⟨b,o,e,h3⟩
  ·
   exact absurd h3 h0
  ·
   exact .inr ⟨b,o,e,h3,by omega⟩
def szLayouts:List RLayout→Nat
 | []=>0
 | x::r=>1+szLayout x+szLayouts r
theorem szLayouts_len:∀ xs:List RLayout,xs.length≤szLayouts xs
 | []=>Nat.le_refl _
 | x::r=>by have:=szLayouts_len r;simp only[lB,szLayouts];omega
theorem eqLayoutsT (xs:List RLayout) (a a':Option Addr) (l c c':Nat) (w:World) (h:SlLayout w a l xs) (h':SlLayout w a' l xs) (hs:szLayouts xs≤1048576) :
  Calls Tryz.prog 20 #[.slice a l c,.slice a' l c'] w fun e u=>e = .returned (.bool true)∧w.grownBy u none:=by
 have hl:=h.2.1;have hfl:=h.1;rcases h.cases with ⟨rfl,rfl⟩|⟨b,o,rfl,hin,hpos⟩
 ·
  go_enter Tryz.func20,Tryz.ntmps20;go_wp2;refine wp_loop_rounds 1 ?_;rw[rounds_succ];go_wp2;go_ret;exact ⟨rfl,grf _ _⟩
 rcases h'.cases with ⟨rfl,rfl⟩|⟨b',o',rfl,hin',-⟩
 ·
  exact absurd hpos (by omega)
 have IN:Hid (InLayout w w xs b o∧InLayout w w xs b' o'):=⟨hin,hin'⟩;clear hin hin' h h';go_enter Tryz.func20,Tryz.ntmps20;go_wp2
 go_loopw [5] (fun i wr=>∃ (j:Nat) (R:List RLayout),j≤l∧i = .int .i64 j∧Hid (w.grownBy wr none∧InLayout wr wr R b (o+j * 1)∧InLayout wr wr R b' (o' + j * 1))∧szLayouts R≤1048576∧R.length+j=l) (fun i _=>l - (intOf i).toNat)
 case atStart=>exact ⟨0,xs,Nat.zero_le _,rfl,⟨grf _ _,by simpa using IN.out.1,by simpa using IN.out.2⟩,hs,by omega⟩
 case round =>
  obtain ⟨j,R,hj,rfl,HR,hRs,hRl⟩:=hrel;by_cases hlt:j < l
  ·
   obtain ⟨x,R',rfl⟩:∃ x R',R=x::R':=by
    cases R with
    | nil=>simp at hRl;omega
    | cons x R'=>exact ⟨x,R',rfl⟩
   obtain ⟨hg,⟨⟨a1,l1,c1,k0,hd⟩,hR2⟩,⟨⟨f1,n1,g1,m0,hd2⟩,hR3⟩⟩:=HR.out;rw[show o+j * 1+1=o+(j+1) * 1 by omega] at hR2;rw[show o' + j * 1+1=o' + (j+1) * 1 by omega] at hR3
   obtain rfl:l1=n1:=by have:=hd.1;have:=hd2.1;omega
   simp only[szLayouts] at hRs;have gd:=grown_drew (grf wr none);have gc:=CLe.grown gd;have CC:Hid _:=eqLayoutT x a1 f1 l1 c1 g1 wr.drew (hd.none gd) (hd2.none gd) (by omega);simp only[Nat.mul_one] at k0 m0
   have TT:Hid (∀ u,wr.grownBy u none→((u.cell? ⟨b,o+j,none⟩=some (.slice a1 l1 c1))∧u.cell? ⟨b',o' + j,none⟩=some (.slice f1 l1 g1))):=fun u hu=>⟨hu.cell k0 (by simp),hu.cell m0 (by simp)⟩
   have FX:Hid (w.grownBy wr.drew none∧InLayout wr.drew wr.drew R' b (o+(j+1) * 1)∧InLayout wr.drew wr.drew R' b' (o' + (j+1) * 1)∧wr.grownBy wr.drew none):=⟨gtr hg gd,hR2.le gc gc,hR3.le gc gc,gd⟩;clear hd hd2 hR2 hR3 hg IN HR gd gc k0 m0;simp only[lB] at hRl;go_wp2_with fail;refine wp_region_held_drew (S:=(fun u=>((u.cell? ⟨b,o+j,none⟩=some (.slice a1 l1 c1))∧u.cell? ⟨b',o' + j,none⟩=some (.slice f1 l1 g1)))) (by kernel_rfl) (TT.out _ FX.out.2.2.2) (fun hH=>?_);generalize wr.drew=u at *;simp only[sA9,lB,lC,Nat.reduceAdd,Array.replicate,List.replicate];refine tk 0 ?_;refine tk 1 ?_;refine tk 2 ?_;refine tk 3 ?_;refine tk 4 ?_;refine tk 5 ?_;refine tk 6 ?_;refine tk 7 ?_;refine rd 8 rfl (fun K hK=>?_);go_simp;refine Calls.mono CC.out ?_;rintro e u2 ⟨he,hgu⟩;subst he;refine hK.out _ _ (TT.out _ (gtr FX.out.2.2.2 hgu)) ?_;clear hK K hH;intro hH;have FY:Hid (w.grownBy u2 none∧InLayout u2 u2 R' b (o+(j+1) * 1)∧InLayout u2 u2 R' b' (o' + (j+1) * 1)):=⟨gtr FX.out.1 hgu,FX.out.2.1.le (CLe.grown hgu) (CLe.grown hgu),FX.out.2.2.1.le (CLe.grown hgu) (CLe.grown hgu)⟩
   clear FX hgu CC TT;simp only[Act.put,nA,nB,nC,nD,nE,nF];refine tk 9 ?_;refine wpAnyH_done (by kernel_rfl) ?_ _;go_wp2;go_roundw
   case rel=>exact ⟨j+1,R',by omega,by go_num,FY,by omega,by omega⟩
   case measure=>simp [intOf];omega
  ·
   obtain rfl:j=l:=by omega
   have E:Hid (w.grownBy wr none):=HR.out.1;clear HR IN;go_wp2;go_ret;exact ⟨rfl,E.out⟩
structure RIns where
 op:Int
 a:Int
 b:Int
 lit:List Int
 tos:List Int
def RdIns (w:World) (x:RIns) (a1:Option Addr) (l1:Nat) (a2:Option Addr) (l2:Nat):Prop:=RdB w a1 l1 x.lit∧RdI w a2 l2 x.tos
theorem RdIns.le {w u:World} {x:RIns} {a1 a2:Option Addr} {l1 l2:Nat} (h:RdIns w x a1 l1 a2 l2) (k:CLe w u):RdIns u x a1 l1 a2 l2:=⟨h.1.le k,h.2.le k⟩
theorem RdIns.none {w u:World} {x:RIns} {a1 a2:Option Addr} {l1 l2:Nat} (h:RdIns w x a1 l1 a2 l2) (k:w.grownBy u Option.none):RdIns u x a1 l1 a2 l2:=h.le (CLe.grown k)
def szIns (x:RIns):Nat:=x.lit.length+x.tos.length
theorem blkIns {w:World} {g:Nat} {t:TypeId} {v0 v1 v2 v3 v4:Value} (h:w.heap[g]? = some (.cells #[v0,v1,v2,v3,v4] t (0,0))):(w.cell? ⟨g,0,none⟩=some v0∧w.cell? ⟨g,1,none⟩=some v1∧w.cell? ⟨g,2,none⟩=some v2∧w.cell? ⟨g,3,none⟩=some v3∧w.cell? ⟨g,4,none⟩=some v4)∧∀ j,w.frozen? ⟨g,j,none⟩=false:=by
 refine ⟨⟨?_,?_,?_,?_,?_⟩,fun j=>frozen_of_row w g _ _ t h⟩ <;> (rw[cell_of_row w g _ _ t (0,0) h];rfl)
theorem fillIns {w:World} {p:Nat} {t:TypeId} {o0 o1 o2 o3 o4:Value} (v0 v1 v2 v3 v4:Value) (h:w.heap[p]? = some (.cells #[o0,o1,o2,o3,o4] t (0,0))) :
  (((((w.setCell ⟨p,0,none⟩ (v0)).setCell ⟨p,1,none⟩ (v1)).setCell ⟨p,2,none⟩ (v2)).setCell ⟨p,3,none⟩ (v3)).setCell ⟨p,4,none⟩ (v4)).heap[p]? = some (.cells #[v0,v1,v2,v3,v4] t (0,0))∧w.grownBy (((((w.setCell ⟨p,0,none⟩ (v0)).setCell ⟨p,1,none⟩ (v1)).setCell ⟨p,2,none⟩ (v2)).setCell ⟨p,3,none⟩ (v3)).setCell ⟨p,4,none⟩ (v4)) (some p):=by
 have h0:(w.setCell ⟨p,0,none⟩ (v0)).heap[p]? = some (.cells #[v0,o1,o2,o3,o4] t (0,0)):=hsm _ p 0 _ t v0 h;have h1:((w.setCell ⟨p,0,none⟩ (v0)).setCell ⟨p,1,none⟩ (v1)).heap[p]? = some (.cells #[v0,v1,o2,o3,o4] t (0,0)):=hsm _ p 1 _ t v1 h0;have h2:(((w.setCell ⟨p,0,none⟩ (v0)).setCell ⟨p,1,none⟩ (v1)).setCell ⟨p,2,none⟩ (v2)).heap[p]? = some (.cells #[v0,v1,v2,o3,o4] t (0,0)):=hsm _ p 2 _ t v2 h1;have h3:((((w.setCell ⟨p,0,none⟩ (v0)).setCell ⟨p,1,none⟩ (v1)).setCell ⟨p,2,none⟩ (v2)).setCell ⟨p,3,none⟩ (v3)).heap[p]? = some (.cells #[v0,v1,v2,v3,o4] t (0,0)):=hsm _ p 3 _ t v3 h2;have h4:(((((w.setCell ⟨p,0,none⟩ (v0)).setCell ⟨p,1,none⟩ (v1)).setCell ⟨p,2,none⟩ (v2)).setCell ⟨p,3,none⟩ (v3)).setCell ⟨p,4,none⟩ (v4)).heap[p]? = some (.cells #[v0,v1,v2,v3,v4] t (0,0)):=hsm _ p 4 _ t v4 h3;exact ⟨h4,gtr (gtr (gtr (gtr (gtr (grf _ _) (gsc _ _ _ _)) (gsc _ _ _ _)) (gsc _ _ _ _)) (gsc _ _ _ _)) (gsc _ _ _ _)⟩
theorem eqInsT (x:RIns) (a1 f1:Option Addr) (l1 c1 g1:Nat) (a2 f2:Option Addr) (l2 c2 g2:Nat) (w:World) (h:RdIns w x a1 l1 a2 l2) (h':RdIns w x f1 l1 f2 l2) (hs:szIns x≤1048576) :
  Calls Tryz.prog 94 #[.agg #[.int .i64 x.op,.int .i64 x.a,.int .i64 x.b,.slice a1 l1 c1,.slice a2 l2 c2],.agg #[.int .i64 x.op,.int .i64 x.a,.int .i64 x.b,.slice f1 l1 g1,.slice f2 l2 g2]] w fun e u=>e = .returned (.bool true)∧w.grownBy u none:=by
 have hb1:l1≤4194304:=by have:=h.1.1.1;unfold szIns at hs;omega
 have hb2:l2≤4194304:=by have:=h.2.1.1;unfold szIns at hs;omega
 have HN:Hid (∀ u,w.grownBy u none→RdIns u x a1 l1 a2 l2∧RdIns u x f1 l1 f2 l2):=fun u hu=>⟨h.none hu,h'.none hu⟩
 clear h h';obtain ⟨b0,b1,bsz⟩:=alloc2_blocks w (.cells #[.int .i64 x.op,.int .i64 x.a,.int .i64 x.b,.slice a1 l1 c1,.slice a2 l2 c2] 52) (.cells #[.int .i64 x.op,.int .i64 x.a,.int .i64 x.b,.slice f1 l1 g1,.slice f2 l2 g2] 52);have g0:=grown_alloc (grown_alloc (grf w none) (.cells #[.int .i64 x.op,.int .i64 x.a,.int .i64 x.b,.slice a1 l1 c1,.slice a2 l2 c2] 52)) (.cells #[.int .i64 x.op,.int .i64 x.a,.int .i64 x.b,.slice f1 l1 g1,.slice f2 l2 g2] 52);have L0:Hid (w.grownBy _ none∧_=some (Obj.cells #[.int .i64 x.op,.int .i64 x.a,.int .i64 x.b,.slice a1 l1 c1,.slice a2 l2 c2] 52)∧_=some (Obj.cells #[.int .i64 x.op,.int .i64 x.a,.int .i64 x.b,.slice f1 l1 g1,.slice f2 l2 g2] 52)):=⟨g0,b0,b1⟩;have C0:Hid _:=eqBy a1 f1 l1 c1 g1 (x.lit) _ ((HN.out _ g0).1.1).1 ((HN.out _ g0).2.1).1 (hb1);obtain ⟨⟨y0,y1,y2,y3,y4⟩,-⟩:=blkIns b0;obtain ⟨⟨yy0,yy1,yy2,yy3,yy4⟩,-⟩:=blkIns b1;clear g0 b0 b1 bsz;go_enter Tryz.func94,Tryz.ntmps94
 go_wp2_with fail;refine Calls.mono C0.out ?_;rintro e u0 ⟨he,hg⟩;subst he;have L1:Hid (w.grownBy u0 none∧u0.heap[w.heap.size]? = some (Obj.cells #[.int .i64 x.op,.int .i64 x.a,.int .i64 x.b,.slice a1 l1 c1,.slice a2 l2 c2] 52)∧u0.heap[w.heap.size+1]? = some (Obj.cells #[.int .i64 x.op,.int .i64 x.a,.int .i64 x.b,.slice f1 l1 g1,.slice f2 l2 g2] 52)):=⟨gtr L0.out.1 hg,(hg.block _ (lbk L0.out.2.1) (by simp)).trans L0.out.2.1,(hg.block _ (lbk L0.out.2.2) (by simp)).trans L0.out.2.2⟩;clear C0 hg L0 y0 y1 y2 y3 y4 yy0 yy1 yy2 yy3 yy4;simp only[];have C1:Hid _:=eqIn a2 f2 l2 c2 g2 (x.tos) u0 ((HN.out u0 L1.out.1).1.2) ((HN.out u0 L1.out.1).2.2) (hb2);obtain ⟨⟨y0,y1,y2,y3,y4⟩,-⟩:=blkIns L1.out.2.1;obtain ⟨⟨yy0,yy1,yy2,yy3,yy4⟩,-⟩:=blkIns L1.out.2.2;go_wp2_with fail;refine Calls.mono C1.out ?_;rintro e u1 ⟨he,hg⟩;subst he;have L2:Hid (w.grownBy u1 none∧u1.heap[w.heap.size]? = some (Obj.cells #[.int .i64 x.op,.int .i64 x.a,.int .i64 x.b,.slice a1 l1 c1,.slice a2 l2 c2] 52)∧u1.heap[w.heap.size+1]? = some (Obj.cells #[.int .i64 x.op,.int .i64 x.a,.int .i64 x.b,.slice f1 l1 g1,.slice f2 l2 g2] 52)):=⟨gtr L1.out.1 hg,(hg.block _ (lbk L1.out.2.1) (by simp)).trans L1.out.2.1,(hg.block _ (lbk L1.out.2.2) (by simp)).trans L1.out.2.2⟩
 clear C1 hg L1 y0 y1 y2 y3 y4 yy0 yy1 yy2 yy3 yy4;simp only[];go_wp2;go_ret;exact ⟨rfl,L2.out.1⟩
def InIns (w wp:World):List RIns→Nat→Nat→Prop
 | [],_,_=>True
 | x::r,b,off=>(∃ a1 l1 c1 a2 l2 c2,(w.cell? ⟨b,off,none⟩=some (.int .i64 x.op)∧w.cell? ⟨b,off+1,none⟩=some (.int .i64 x.a)∧w.cell? ⟨b,off+2,none⟩=some (.int .i64 x.b)∧w.cell? ⟨b,off+3,none⟩=some (.slice a1 l1 c1)∧w.cell? ⟨b,off+4,none⟩=some (.slice a2 l2 c2))∧RdIns wp x a1 l1 a2 l2)∧InIns w wp r b (off+5)
def SlIns (w:World) (a:Option Addr) (l:Nat) (xs:List RIns):Prop :=
 xs.length=l∧l≤9223372036854775807∧(l=0∨∃ b o,a=some ⟨b,o,none⟩∧InIns w w xs b o)
theorem InIns.move {w wp u up:World} {xs:List RIns} {b off b' off':Nat} (h:InIns w wp xs b off) (hc:∀ i v,i < xs.length * 5→w.cell? ⟨b,off+i,none⟩=some v→u.cell? ⟨b',off' + i,none⟩=some v) (k:CLe wp up):InIns u up xs b' off':=by
 induction xs generalizing off off' with
 | nil=>trivial
 | cons x r ih =>
  obtain ⟨⟨a1,l1,c1,a2,l2,c2,⟨h0,h1,h2,h3,h4⟩,hp⟩,hr⟩:=h;refine ⟨⟨a1,l1,c1,a2,l2,c2,⟨by simpa using hc 0 _ (by simp) h0,hc 1 _ (by simp;omega) h1,hc 2 _ (by simp;omega) h2,hc 3 _ (by simp;omega) h3,hc 4 _ (by simp;omega) h4⟩,hp.le k⟩,ih hr (fun i v hi hv=>?_)⟩;have:=hc (i+5) v (by simp;omega) (by rw[show off+(i+5)=off+5+i by omega];exact hv);rw[show off' + 5+i=off' + (i+5) by omega];exact this
theorem InIns.le {w wp u up:World} {xs:List RIns} {b off:Nat} (h:InIns w wp xs b off) (k:CLe w u) (k2:CLe wp up):InIns u up xs b off:=h.move (fun i v _ hv=>k _ _ hv) k2
theorem SlIns.le {w u:World} {a:Option Addr} {l:Nat} {xs:List RIns} (h:SlIns w a l xs) (k:CLe w u):SlIns u a l xs:=by
 obtain ⟨h1,h2,h3⟩:=h;refine ⟨h1,h2,?_⟩;rcases h3 with h3|⟨b,o,e,h3⟩
 ·
  exact .inl h3
 ·
  exact .inr ⟨b,o,e,h3.le k k⟩
theorem SlIns.cases {w:World} {a:Option Addr} {l:Nat} {xs:List RIns} (h:SlIns w a l xs):(l=0∧xs=[])∨∃ b o,a=some ⟨b,o,Option.none⟩∧InIns w w xs b o∧0 < l:=by
 obtain ⟨h1,h2,h3⟩:=h;by_cases h0:l=0
 ·
  exact .inl ⟨h0,lz0 (by omega)⟩
 ·
  rcases h3 with h3|⟨b,o,e,h3⟩
  ·
   exact absurd h3 h0
  ·
   exact .inr ⟨b,o,e,h3,by omega⟩
def szInss:List RIns→Nat
 | []=>0
 | x::r=>1+szIns x+szInss r
theorem eqInssT (xs:List RIns) (a a':Option Addr) (l c c':Nat) (w:World) (h:SlIns w a l xs) (h':SlIns w a' l xs) (hs:szInss xs≤1048576) :
  Calls Tryz.prog 73 #[.slice a l c,.slice a' l c'] w fun e u=>e = .returned (.bool true)∧w.grownBy u none:=by
 have hl:=h.2.1;have hfl:=h.1;rcases h.cases with ⟨rfl,rfl⟩|⟨b,o,rfl,hin,hpos⟩
 ·
  go_enter Tryz.func73,Tryz.ntmps73;go_wp2;refine wp_loop_rounds 1 ?_;rw[rounds_succ];go_wp2;go_ret;exact ⟨rfl,grf _ _⟩
 rcases h'.cases with ⟨rfl,rfl⟩|⟨b',o',rfl,hin',-⟩
 ·
  exact absurd hpos (by omega)
 have IN:Hid (InIns w w xs b o∧InIns w w xs b' o'):=⟨hin,hin'⟩;clear hin hin' h h';go_enter Tryz.func73,Tryz.ntmps73;go_wp2
 go_loopw [5] (fun i wr=>∃ (j:Nat) (R:List RIns),j≤l∧i = .int .i64 j∧Hid (w.grownBy wr none∧InIns wr wr R b (o+j * 5)∧InIns wr wr R b' (o' + j * 5))∧szInss R≤1048576∧R.length+j=l) (fun i _=>l - (intOf i).toNat)
 case atStart=>exact ⟨0,xs,Nat.zero_le _,rfl,⟨grf _ _,by simpa using IN.out.1,by simpa using IN.out.2⟩,hs,by omega⟩
 case round =>
  obtain ⟨j,R,hj,rfl,HR,hRs,hRl⟩:=hrel;by_cases hlt:j < l
  ·
   obtain ⟨x,R',rfl⟩:∃ x R',R=x::R':=by
    cases R with
    | nil=>simp at hRl;omega
    | cons x R'=>exact ⟨x,R',rfl⟩
   obtain ⟨hg,⟨⟨a1,l1,c1,a2,l2,c2,⟨k0,k1,k2,k3,k4⟩,hd⟩,hR2⟩,⟨⟨f1,n1,g1,f2,n2,g2,⟨m0,m1,m2,m3,m4⟩,hd2⟩,hR3⟩⟩:=HR.out;rw[show o+j * 5+5=o+(j+1) * 5 by omega] at hR2;rw[show o' + j * 5+5=o' + (j+1) * 5 by omega] at hR3
   obtain rfl:l1=n1:=by have:=hd.1.1.1;have:=hd2.1.1.1;omega
   obtain rfl:l2=n2:=by have:=hd.2.1.1;have:=hd2.2.1.1;omega
   simp only[szInss] at hRs;have gd:=grown_drew (grf wr none);have gc:=CLe.grown gd;have CC:Hid _:=eqInsT x a1 f1 l1 c1 g1 a2 f2 l2 c2 g2 wr.drew (hd.none gd) (hd2.none gd) (by omega)
   skip
   have TT:Hid (∀ u,wr.grownBy u none→((u.cell? ⟨b,o+j * 5,none⟩=some (.int .i64 x.op)∧u.cell? ⟨b,o+j * 5+1,none⟩=some (.int .i64 x.a)∧u.cell? ⟨b,o+j * 5+2,none⟩=some (.int .i64 x.b)∧u.cell? ⟨b,o+j * 5+3,none⟩=some (.slice a1 l1 c1)∧u.cell? ⟨b,o+j * 5+4,none⟩=some (.slice a2 l2 c2))∧u.cell? ⟨b',o' + j * 5,none⟩=some (.int .i64 x.op)∧u.cell? ⟨b',o' + j * 5+1,none⟩=some (.int .i64 x.a)∧u.cell? ⟨b',o' + j * 5+2,none⟩=some (.int .i64 x.b)∧u.cell? ⟨b',o' + j * 5+3,none⟩=some (.slice f1 l1 g1)∧u.cell? ⟨b',o' + j * 5+4,none⟩=some (.slice f2 l2 g2))):=fun u hu=>⟨⟨hu.cell k0 (by simp),hu.cell k1 (by simp),hu.cell k2 (by simp),hu.cell k3 (by simp),hu.cell k4 (by simp)⟩,hu.cell m0 (by simp),hu.cell m1 (by simp),hu.cell m2 (by simp),hu.cell m3 (by simp),hu.cell m4 (by simp)⟩
   have FX:Hid (w.grownBy wr.drew none∧InIns wr.drew wr.drew R' b (o+(j+1) * 5)∧InIns wr.drew wr.drew R' b' (o' + (j+1) * 5)∧wr.grownBy wr.drew none):=⟨gtr hg gd,hR2.le gc gc,hR3.le gc gc,gd⟩;clear hd hd2 hR2 hR3 hg IN HR gd gc k0 k1 k2 k3 k4 m0 m1 m2 m3 m4;simp only[lB] at hRl;go_wp2_with fail;refine wp_region_held_drew (S:=(fun u=>((u.cell? ⟨b,o+j * 5,none⟩=some (.int .i64 x.op)∧u.cell? ⟨b,o+j * 5+1,none⟩=some (.int .i64 x.a)∧u.cell? ⟨b,o+j * 5+2,none⟩=some (.int .i64 x.b)∧u.cell? ⟨b,o+j * 5+3,none⟩=some (.slice a1 l1 c1)∧u.cell? ⟨b,o+j * 5+4,none⟩=some (.slice a2 l2 c2))∧u.cell? ⟨b',o' + j * 5,none⟩=some (.int .i64 x.op)∧u.cell? ⟨b',o' + j * 5+1,none⟩=some (.int .i64 x.a)∧u.cell? ⟨b',o' + j * 5+2,none⟩=some (.int .i64 x.b)∧u.cell? ⟨b',o' + j * 5+3,none⟩=some (.slice f1 l1 g1)∧u.cell? ⟨b',o' + j * 5+4,none⟩=some (.slice f2 l2 g2)))) (by kernel_rfl) (TT.out _ FX.out.2.2.2) (fun hH=>?_);generalize wr.drew=u at *
   simp only[sA9,lB,lC,Nat.reduceAdd,Array.replicate,List.replicate];refine tk 0 ?_;refine tk 1 ?_;refine tk 2 ?_;refine tk 3 ?_;refine tk 4 ?_;refine tk 5 ?_;refine tk 6 ?_;refine tk 7 ?_;refine rd 8 rfl (fun K hK=>?_);go_simp;refine Calls.mono CC.out ?_;rintro e u2 ⟨he,hgu⟩;subst he;refine hK.out _ _ (TT.out _ (gtr FX.out.2.2.2 hgu)) ?_;clear hK K hH;intro hH;have FY:Hid (w.grownBy u2 none∧InIns u2 u2 R' b (o+(j+1) * 5)∧InIns u2 u2 R' b' (o' + (j+1) * 5)):=⟨gtr FX.out.1 hgu,FX.out.2.1.le (CLe.grown hgu) (CLe.grown hgu),FX.out.2.2.1.le (CLe.grown hgu) (CLe.grown hgu)⟩;clear FX hgu CC TT;simp only[Act.put,nA,nB,nC,nD,nE,nF];refine tk 9 ?_;refine wpAnyH_done (by kernel_rfl) ?_ _;go_wp2;go_roundw
   case rel=>exact ⟨j+1,R',by omega,by go_num,FY,by omega,by omega⟩
   case measure=>simp [intOf];omega
  ·
   obtain rfl:j=l:=by omega
   have E:Hid (w.grownBy wr none):=HR.out.1;clear HR IN;go_wp2;go_ret;exact ⟨rfl,E.out⟩
structure RBlock where
 env:F
 argk:Int
 argn:Int
 argf:F
 resk:Int
 resn:Int
 resf:F
 locs:F
 code:List RIns
def RdBlock (w:World) (x:RBlock) (a1:Option Addr) (l1:Nat) (a2:Option Addr) (l2:Nat) (a3:Option Addr) (l3:Nat) (a4:Option Addr) (l4:Nat) (a5:Option Addr) (l5:Nat):Prop:=SlF w a1 l1 x.env∧SlF w a2 l2 x.argf∧SlF w a3 l3 x.resf∧SlF w a4 l4 x.locs∧SlIns w a5 l5 x.code
theorem RdBlock.le {w u:World} {x:RBlock} {a1 a2 a3 a4 a5:Option Addr} {l1 l2 l3 l4 l5:Nat} (h:RdBlock w x a1 l1 a2 l2 a3 l3 a4 l4 a5 l5) (k:CLe w u):RdBlock u x a1 l1 a2 l2 a3 l3 a4 l4 a5 l5:=⟨h.1.le k,h.2.1.le k,h.2.2.1.le k,h.2.2.2.1.le k,h.2.2.2.2.le k⟩
theorem RdBlock.none {w u:World} {x:RBlock} {a1 a2 a3 a4 a5:Option Addr} {l1 l2 l3 l4 l5:Nat} (h:RdBlock w x a1 l1 a2 l2 a3 l3 a4 l4 a5 l5) (k:w.grownBy u Option.none):RdBlock u x a1 l1 a2 l2 a3 l3 a4 l4 a5 l5:=h.le (CLe.grown k)
def szBlock (x:RBlock):Nat:=x.env.size+x.argf.size+x.resf.size+x.locs.size+szInss x.code
theorem blkBlock {w:World} {g:Nat} {t:TypeId} {v0 v1 v2 v3 v4 v5 v6 v7 v8:Value} (h:w.heap[g]? = some (.cells #[v0,v1,v2,v3,v4,v5,v6,v7,v8] t (0,0))):(w.cell? ⟨g,0,none⟩=some v0∧w.cell? ⟨g,1,none⟩=some v1∧w.cell? ⟨g,2,none⟩=some v2∧w.cell? ⟨g,3,none⟩=some v3∧w.cell? ⟨g,4,none⟩=some v4∧w.cell? ⟨g,5,none⟩=some v5∧w.cell? ⟨g,6,none⟩=some v6∧w.cell? ⟨g,7,none⟩=some v7∧w.cell? ⟨g,8,none⟩=some v8)∧∀ j,w.frozen? ⟨g,j,none⟩=false:=by
 refine ⟨⟨?_,?_,?_,?_,?_,?_,?_,?_,?_⟩,fun j=>frozen_of_row w g _ _ t h⟩ <;> (rw[cell_of_row w g _ _ t (0,0) h];rfl)
theorem fillBlock {w:World} {p:Nat} {t:TypeId} {o0 o1 o2 o3 o4 o5 o6 o7 o8:Value} (v0 v1 v2 v3 v4 v5 v6 v7 v8:Value) (h:w.heap[p]? = some (.cells #[o0,o1,o2,o3,o4,o5,o6,o7,o8] t (0,0))) :
  (((((((((w.setCell ⟨p,0,none⟩ (v0)).setCell ⟨p,1,none⟩ (v1)).setCell ⟨p,2,none⟩ (v2)).setCell ⟨p,3,none⟩ (v3)).setCell ⟨p,4,none⟩ (v4)).setCell ⟨p,5,none⟩ (v5)).setCell ⟨p,6,none⟩ (v6)).setCell ⟨p,7,none⟩ (v7)).setCell ⟨p,8,none⟩ (v8)).heap[p]? = some (.cells #[v0,v1,v2,v3,v4,v5,v6,v7,v8] t (0,0))∧w.grownBy (((((((((w.setCell ⟨p,0,none⟩ (v0)).setCell ⟨p,1,none⟩ (v1)).setCell ⟨p,2,none⟩ (v2)).setCell ⟨p,3,none⟩ (v3)).setCell ⟨p,4,none⟩ (v4)).setCell ⟨p,5,none⟩ (v5)).setCell ⟨p,6,none⟩ (v6)).setCell ⟨p,7,none⟩ (v7)).setCell ⟨p,8,none⟩ (v8)) (some p):=by
 have h0:(w.setCell ⟨p,0,none⟩ (v0)).heap[p]? = some (.cells #[v0,o1,o2,o3,o4,o5,o6,o7,o8] t (0,0)):=hsm _ p 0 _ t v0 h;have h1:((w.setCell ⟨p,0,none⟩ (v0)).setCell ⟨p,1,none⟩ (v1)).heap[p]? = some (.cells #[v0,v1,o2,o3,o4,o5,o6,o7,o8] t (0,0)):=hsm _ p 1 _ t v1 h0;have h2:(((w.setCell ⟨p,0,none⟩ (v0)).setCell ⟨p,1,none⟩ (v1)).setCell ⟨p,2,none⟩ (v2)).heap[p]? = some (.cells #[v0,v1,v2,o3,o4,o5,o6,o7,o8] t (0,0)):=hsm _ p 2 _ t v2 h1;have h3:((((w.setCell ⟨p,0,none⟩ (v0)).setCell ⟨p,1,none⟩ (v1)).setCell ⟨p,2,none⟩ (v2)).setCell ⟨p,3,none⟩ (v3)).heap[p]? = some (.cells #[v0,v1,v2,v3,o4,o5,o6,o7,o8] t (0,0)):=hsm _ p 3 _ t v3 h2;have h4:(((((w.setCell ⟨p,0,none⟩ (v0)).setCell ⟨p,1,none⟩ (v1)).setCell ⟨p,2,none⟩ (v2)).setCell ⟨p,3,none⟩ (v3)).setCell ⟨p,4,none⟩ (v4)).heap[p]? = some (.cells #[v0,v1,v2,v3,v4,o5,o6,o7,o8] t (0,0)):=hsm _ p 4 _ t v4 h3;have h5:((((((w.setCell ⟨p,0,none⟩ (v0)).setCell ⟨p,1,none⟩ (v1)).setCell ⟨p,2,none⟩ (v2)).setCell ⟨p,3,none⟩ (v3)).setCell ⟨p,4,none⟩ (v4)).setCell ⟨p,5,none⟩ (v5)).heap[p]? = some (.cells #[v0,v1,v2,v3,v4,v5,o6,o7,o8] t (0,0)):=hsm _ p 5 _ t v5 h4
 have h6:(((((((w.setCell ⟨p,0,none⟩ (v0)).setCell ⟨p,1,none⟩ (v1)).setCell ⟨p,2,none⟩ (v2)).setCell ⟨p,3,none⟩ (v3)).setCell ⟨p,4,none⟩ (v4)).setCell ⟨p,5,none⟩ (v5)).setCell ⟨p,6,none⟩ (v6)).heap[p]? = some (.cells #[v0,v1,v2,v3,v4,v5,v6,o7,o8] t (0,0)):=hsm _ p 6 _ t v6 h5;have h7:((((((((w.setCell ⟨p,0,none⟩ (v0)).setCell ⟨p,1,none⟩ (v1)).setCell ⟨p,2,none⟩ (v2)).setCell ⟨p,3,none⟩ (v3)).setCell ⟨p,4,none⟩ (v4)).setCell ⟨p,5,none⟩ (v5)).setCell ⟨p,6,none⟩ (v6)).setCell ⟨p,7,none⟩ (v7)).heap[p]? = some (.cells #[v0,v1,v2,v3,v4,v5,v6,v7,o8] t (0,0)):=hsm _ p 7 _ t v7 h6;have h8:(((((((((w.setCell ⟨p,0,none⟩ (v0)).setCell ⟨p,1,none⟩ (v1)).setCell ⟨p,2,none⟩ (v2)).setCell ⟨p,3,none⟩ (v3)).setCell ⟨p,4,none⟩ (v4)).setCell ⟨p,5,none⟩ (v5)).setCell ⟨p,6,none⟩ (v6)).setCell ⟨p,7,none⟩ (v7)).setCell ⟨p,8,none⟩ (v8)).heap[p]? = some (.cells #[v0,v1,v2,v3,v4,v5,v6,v7,v8] t (0,0)):=hsm _ p 8 _ t v8 h7
 exact ⟨h8,gtr (gtr (gtr (gtr (gtr (gtr (gtr (gtr (gtr (grf _ _) (gsc _ _ _ _)) (gsc _ _ _ _)) (gsc _ _ _ _)) (gsc _ _ _ _)) (gsc _ _ _ _)) (gsc _ _ _ _)) (gsc _ _ _ _)) (gsc _ _ _ _)) (gsc _ _ _ _)⟩
theorem eqBlockT (x:RBlock) (a1 f1:Option Addr) (l1 c1 g1:Nat) (a2 f2:Option Addr) (l2 c2 g2:Nat) (a3 f3:Option Addr) (l3 c3 g3:Nat) (a4 f4:Option Addr) (l4 c4 g4:Nat) (a5 f5:Option Addr) (l5 c5 g5:Nat) (w:World) (h:RdBlock w x a1 l1 a2 l2 a3 l3 a4 l4 a5 l5) (h':RdBlock w x f1 l1 f2 l2 f3 l3 f4 l4 f5 l5) (hs:szBlock x≤1048576) :
  Calls Tryz.prog 45 #[.agg #[.slice a1 l1 c1,.int .i64 x.argk,.int .i64 x.argn,.slice a2 l2 c2,.int .i64 x.resk,.int .i64 x.resn,.slice a3 l3 c3,.slice a4 l4 c4,.slice a5 l5 c5],.agg #[.slice f1 l1 g1,.int .i64 x.argk,.int .i64 x.argn,.slice f2 l2 g2,.int .i64 x.resk,.int .i64 x.resn,.slice f3 l3 g3,.slice f4 l4 g4,.slice f5 l5 g5]] w fun e u=>e = .returned (.bool true)∧w.grownBy u none:=by
 have hb5:szInss (x.code)≤1048576:=by unfold szBlock at hs;omega
 have HN:Hid (∀ u,w.grownBy u none→RdBlock u x a1 l1 a2 l2 a3 l3 a4 l4 a5 l5∧RdBlock u x f1 l1 f2 l2 f3 l3 f4 l4 f5 l5):=fun u hu=>⟨h.none hu,h'.none hu⟩
 clear h h';obtain ⟨b0,b1,bsz⟩:=alloc2_blocks w (.cells #[.slice a1 l1 c1,.int .i64 x.argk,.int .i64 x.argn,.slice a2 l2 c2,.int .i64 x.resk,.int .i64 x.resn,.slice a3 l3 c3,.slice a4 l4 c4,.slice a5 l5 c5] 49) (.cells #[.slice f1 l1 g1,.int .i64 x.argk,.int .i64 x.argn,.slice f2 l2 g2,.int .i64 x.resk,.int .i64 x.resn,.slice f3 l3 g3,.slice f4 l4 g4,.slice f5 l5 g5] 49);have g0:=grown_alloc (grown_alloc (grf w none) (.cells #[.slice a1 l1 c1,.int .i64 x.argk,.int .i64 x.argn,.slice a2 l2 c2,.int .i64 x.resk,.int .i64 x.resn,.slice a3 l3 c3,.slice a4 l4 c4,.slice a5 l5 c5] 49)) (.cells #[.slice f1 l1 g1,.int .i64 x.argk,.int .i64 x.argn,.slice f2 l2 g2,.int .i64 x.resk,.int .i64 x.resn,.slice f3 l3 g3,.slice f4 l4 g4,.slice f5 l5 g5] 49);have L0:Hid (w.grownBy _ none∧_=some (Obj.cells #[.slice a1 l1 c1,.int .i64 x.argk,.int .i64 x.argn,.slice a2 l2 c2,.int .i64 x.resk,.int .i64 x.resn,.slice a3 l3 c3,.slice a4 l4 c4,.slice a5 l5 c5] 49)∧_=some (Obj.cells #[.slice f1 l1 g1,.int .i64 x.argk,.int .i64 x.argn,.slice f2 l2 g2,.int .i64 x.resk,.int .i64 x.resn,.slice f3 l3 g3,.slice f4 l4 g4,.slice f5 l5 g5] 49)):=⟨g0,b0,b1⟩
 have C0:Hid _:=eqS (x.env).size (x.env) a1 f1 l1 c1 g1 _ (Nat.le_refl _) ((HN.out _ g0).1.1) ((HN.out _ g0).2.1);obtain ⟨⟨y0,y1,y2,y3,y4,y5,y6,y7,y8⟩,-⟩:=blkBlock b0;obtain ⟨⟨yy0,yy1,yy2,yy3,yy4,yy5,yy6,yy7,yy8⟩,-⟩:=blkBlock b1;clear g0 b0 b1 bsz;go_enter Tryz.func45,Tryz.ntmps45;go_wp2_with fail;refine Calls.mono C0.out ?_;rintro e u0 ⟨he,hg⟩;subst he;have L1:Hid (w.grownBy u0 none∧u0.heap[w.heap.size]? = some (Obj.cells #[.slice a1 l1 c1,.int .i64 x.argk,.int .i64 x.argn,.slice a2 l2 c2,.int .i64 x.resk,.int .i64 x.resn,.slice a3 l3 c3,.slice a4 l4 c4,.slice a5 l5 c5] 49)∧u0.heap[w.heap.size+1]? = some (Obj.cells #[.slice f1 l1 g1,.int .i64 x.argk,.int .i64 x.argn,.slice f2 l2 g2,.int .i64 x.resk,.int .i64 x.resn,.slice f3 l3 g3,.slice f4 l4 g4,.slice f5 l5 g5] 49)):=⟨gtr L0.out.1 hg,(hg.block _ (lbk L0.out.2.1) (by simp)).trans L0.out.2.1,(hg.block _ (lbk L0.out.2.2) (by simp)).trans L0.out.2.2⟩
 clear C0 hg L0 y0 y1 y2 y3 y4 y5 y6 y7 y8 yy0 yy1 yy2 yy3 yy4 yy5 yy6 yy7 yy8;simp only[];have C1:Hid _:=eqTr (x.argf) x.argk x.argn a2 f2 l2 c2 g2 u0 ((HN.out u0 L1.out.1).1.2.1) ((HN.out u0 L1.out.1).2.2.1);obtain ⟨⟨y0,y1,y2,y3,y4,y5,y6,y7,y8⟩,-⟩:=blkBlock L1.out.2.1;obtain ⟨⟨yy0,yy1,yy2,yy3,yy4,yy5,yy6,yy7,yy8⟩,-⟩:=blkBlock L1.out.2.2;go_wp2_with fail;refine Calls.mono C1.out ?_;rintro e u1 ⟨he,hg⟩;subst he;have L2:Hid (w.grownBy u1 none∧u1.heap[w.heap.size]? = some (Obj.cells #[.slice a1 l1 c1,.int .i64 x.argk,.int .i64 x.argn,.slice a2 l2 c2,.int .i64 x.resk,.int .i64 x.resn,.slice a3 l3 c3,.slice a4 l4 c4,.slice a5 l5 c5] 49)∧u1.heap[w.heap.size+1]? = some (Obj.cells #[.slice f1 l1 g1,.int .i64 x.argk,.int .i64 x.argn,.slice f2 l2 g2,.int .i64 x.resk,.int .i64 x.resn,.slice f3 l3 g3,.slice f4 l4 g4,.slice f5 l5 g5] 49)):=⟨gtr L1.out.1 hg,(hg.block _ (lbk L1.out.2.1) (by simp)).trans L1.out.2.1,(hg.block _ (lbk L1.out.2.2) (by simp)).trans L1.out.2.2⟩
 clear C1 hg L1 y0 y1 y2 y3 y4 y5 y6 y7 y8 yy0 yy1 yy2 yy3 yy4 yy5 yy6 yy7 yy8;simp only[];have C2:Hid _:=eqTr (x.resf) x.resk x.resn a3 f3 l3 c3 g3 u1 ((HN.out u1 L2.out.1).1.2.2.1) ((HN.out u1 L2.out.1).2.2.2.1);obtain ⟨⟨y0,y1,y2,y3,y4,y5,y6,y7,y8⟩,-⟩:=blkBlock L2.out.2.1;obtain ⟨⟨yy0,yy1,yy2,yy3,yy4,yy5,yy6,yy7,yy8⟩,-⟩:=blkBlock L2.out.2.2;go_wp2_with fail;refine Calls.mono C2.out ?_;rintro e u2 ⟨he,hg⟩;subst he;have L3:Hid (w.grownBy u2 none∧u2.heap[w.heap.size]? = some (Obj.cells #[.slice a1 l1 c1,.int .i64 x.argk,.int .i64 x.argn,.slice a2 l2 c2,.int .i64 x.resk,.int .i64 x.resn,.slice a3 l3 c3,.slice a4 l4 c4,.slice a5 l5 c5] 49)∧u2.heap[w.heap.size+1]? = some (Obj.cells #[.slice f1 l1 g1,.int .i64 x.argk,.int .i64 x.argn,.slice f2 l2 g2,.int .i64 x.resk,.int .i64 x.resn,.slice f3 l3 g3,.slice f4 l4 g4,.slice f5 l5 g5] 49)):=⟨gtr L2.out.1 hg,(hg.block _ (lbk L2.out.2.1) (by simp)).trans L2.out.2.1,(hg.block _ (lbk L2.out.2.2) (by simp)).trans L2.out.2.2⟩
 clear C2 hg L2 y0 y1 y2 y3 y4 y5 y6 y7 y8 yy0 yy1 yy2 yy3 yy4 yy5 yy6 yy7 yy8;simp only[];have C3:Hid _:=eqS (x.locs).size (x.locs) a4 f4 l4 c4 g4 u2 (Nat.le_refl _) ((HN.out u2 L3.out.1).1.2.2.2.1) ((HN.out u2 L3.out.1).2.2.2.2.1);obtain ⟨⟨y0,y1,y2,y3,y4,y5,y6,y7,y8⟩,-⟩:=blkBlock L3.out.2.1;obtain ⟨⟨yy0,yy1,yy2,yy3,yy4,yy5,yy6,yy7,yy8⟩,-⟩:=blkBlock L3.out.2.2;go_wp2_with fail;refine Calls.mono C3.out ?_;rintro e u3 ⟨he,hg⟩;subst he;have L4:Hid (w.grownBy u3 none∧u3.heap[w.heap.size]? = some (Obj.cells #[.slice a1 l1 c1,.int .i64 x.argk,.int .i64 x.argn,.slice a2 l2 c2,.int .i64 x.resk,.int .i64 x.resn,.slice a3 l3 c3,.slice a4 l4 c4,.slice a5 l5 c5] 49)∧u3.heap[w.heap.size+1]? = some (Obj.cells #[.slice f1 l1 g1,.int .i64 x.argk,.int .i64 x.argn,.slice f2 l2 g2,.int .i64 x.resk,.int .i64 x.resn,.slice f3 l3 g3,.slice f4 l4 g4,.slice f5 l5 g5] 49)):=⟨gtr L3.out.1 hg,(hg.block _ (lbk L3.out.2.1) (by simp)).trans L3.out.2.1,(hg.block _ (lbk L3.out.2.2) (by simp)).trans L3.out.2.2⟩
 clear C3 hg L3 y0 y1 y2 y3 y4 y5 y6 y7 y8 yy0 yy1 yy2 yy3 yy4 yy5 yy6 yy7 yy8;simp only[];have C4:Hid _:=eqInssT (x.code) a5 f5 l5 c5 g5 u3 ((HN.out u3 L4.out.1).1.2.2.2.2) ((HN.out u3 L4.out.1).2.2.2.2.2) (hb5);obtain ⟨⟨y0,y1,y2,y3,y4,y5,y6,y7,y8⟩,-⟩:=blkBlock L4.out.2.1;obtain ⟨⟨yy0,yy1,yy2,yy3,yy4,yy5,yy6,yy7,yy8⟩,-⟩:=blkBlock L4.out.2.2;go_wp2_with fail;refine Calls.mono C4.out ?_;rintro e u4 ⟨he,hg⟩;subst he;have L5:Hid (w.grownBy u4 none∧u4.heap[w.heap.size]? = some (Obj.cells #[.slice a1 l1 c1,.int .i64 x.argk,.int .i64 x.argn,.slice a2 l2 c2,.int .i64 x.resk,.int .i64 x.resn,.slice a3 l3 c3,.slice a4 l4 c4,.slice a5 l5 c5] 49)∧u4.heap[w.heap.size+1]? = some (Obj.cells #[.slice f1 l1 g1,.int .i64 x.argk,.int .i64 x.argn,.slice f2 l2 g2,.int .i64 x.resk,.int .i64 x.resn,.slice f3 l3 g3,.slice f4 l4 g4,.slice f5 l5 g5] 49)):=⟨gtr L4.out.1 hg,(hg.block _ (lbk L4.out.2.1) (by simp)).trans L4.out.2.1,(hg.block _ (lbk L4.out.2.2) (by simp)).trans L4.out.2.2⟩
 clear C4 hg L4 y0 y1 y2 y3 y4 y5 y6 y7 y8 yy0 yy1 yy2 yy3 yy4 yy5 yy6 yy7 yy8;simp only[];go_wp2;go_ret;exact ⟨rfl,L5.out.1⟩
end Go.Proofs.YtnmlbeefjjohfaaGreatDoor.By
