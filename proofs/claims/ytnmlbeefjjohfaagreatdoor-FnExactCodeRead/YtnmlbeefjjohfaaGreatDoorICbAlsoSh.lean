/-
  No statement is proved here.
-/
import Derived.Test.YtnmlbeefjjohfaaGreatDoorSBlockAlsoSh
import Derived.Test.YtnmlbeefjjohfaaGreatDoorGO1AlsoSh
namespace Go.Proofs.YtnmlbeefjjohfaaGreatDoor.By
set_option maxRecDepth 100000
set_option maxHeartbeats 16000000
open Go.RowKit
set_option linter.unusedVariables false
set_option linter.unusedSimpArgs false
def InBlock (w wp:World):List RBlock→Nat→Nat→Prop
 | [],_,_=>True
 | x::r,b,off=>(∃ a1 l1 c1 a2 l2 c2 a3 l3 c3 a4 l4 c4 a5 l5 c5,(w.cell? ⟨b,off,none⟩=some (.slice a1 l1 c1)∧w.cell? ⟨b,off+1,none⟩=some (.int .i64 x.argk)∧w.cell? ⟨b,off+2,none⟩=some (.int .i64 x.argn)∧w.cell? ⟨b,off+3,none⟩=some (.slice a2 l2 c2)∧w.cell? ⟨b,off+4,none⟩=some (.int .i64 x.resk)∧w.cell? ⟨b,off+5,none⟩=some (.int .i64 x.resn)∧w.cell? ⟨b,off+6,none⟩=some (.slice a3 l3 c3)∧w.cell? ⟨b,off+7,none⟩=some (.slice a4 l4 c4)∧w.cell? ⟨b,off+8,none⟩=some (.slice a5 l5 c5))∧RdBlock wp x a1 l1 a2 l2 a3 l3 a4 l4 a5 l5)∧InBlock w wp r b (off+9)
def SlBlock (w:World) (a:Option Addr) (l:Nat) (xs:List RBlock):Prop :=
 xs.length=l∧l≤9223372036854775807∧(l=0∨∃ b o,a=some ⟨b,o,none⟩∧InBlock w w xs b o)
theorem InBlock.move {w wp u up:World} {xs:List RBlock} {b off b' off':Nat} (h:InBlock w wp xs b off) (hc:∀ i v,i < xs.length * 9→w.cell? ⟨b,off+i,none⟩=some v→u.cell? ⟨b',off' + i,none⟩=some v) (k:CLe wp up):InBlock u up xs b' off':=by
 induction xs generalizing off off' with
 | nil=>trivial
 | cons x r ih =>
  obtain ⟨⟨a1,l1,c1,a2,l2,c2,a3,l3,c3,a4,l4,c4,a5,l5,c5,⟨h0,h1,h2,h3,h4,h5,h6,h7,h8⟩,hp⟩,hr⟩:=h;refine ⟨⟨a1,l1,c1,a2,l2,c2,a3,l3,c3,a4,l4,c4,a5,l5,c5,⟨by simpa using hc 0 _ (by simp) h0,hc 1 _ (by simp;omega) h1,hc 2 _ (by simp;omega) h2,hc 3 _ (by simp;omega) h3,hc 4 _ (by simp;omega) h4,hc 5 _ (by simp;omega) h5,hc 6 _ (by simp;omega) h6,hc 7 _ (by simp;omega) h7,hc 8 _ (by simp;omega) h8⟩,hp.le k⟩,ih hr (fun i v hi hv=>?_)⟩;have:=hc (i+9) v (by simp;omega) (by rw[show off+(i+9)=off+9+i by omega];exact hv);rw[show off' + 9+i=off' + (i+9) by omega];exact this
theorem InBlock.le {w wp u up:World} {xs:List RBlock} {b off:Nat} (h:InBlock w wp xs b off) (k:CLe w u) (k2:CLe wp up):InBlock u up xs b off:=h.move (fun i v _ hv=>k _ _ hv) k2
theorem SlBlock.le {w u:World} {a:Option Addr} {l:Nat} {xs:List RBlock} (h:SlBlock w a l xs) (k:CLe w u):SlBlock u a l xs:=by
 obtain ⟨h1,h2,h3⟩:=h;refine ⟨h1,h2,?_⟩;rcases h3 with h3|⟨b,o,e,h3⟩
 ·
  exact .inl h3
 ·
  exact .inr ⟨b,o,e,h3.le k k⟩
theorem SlBlock.cases {w:World} {a:Option Addr} {l:Nat} {xs:List RBlock} (h:SlBlock w a l xs):(l=0∧xs=[])∨∃ b o,a=some ⟨b,o,Option.none⟩∧InBlock w w xs b o∧0 < l:=by
 obtain ⟨h1,h2,h3⟩:=h;by_cases h0:l=0
 ·
  exact .inl ⟨h0,lz0 (by omega)⟩
 ·
  rcases h3 with h3|⟨b,o,e,h3⟩
  ·
   exact absurd h3 h0
  ·
   exact .inr ⟨b,o,e,h3,by omega⟩
def szBlocks:List RBlock→Nat
 | []=>0
 | x::r=>1+szBlock x+szBlocks r
theorem eqBlocksT (xs:List RBlock) (a a':Option Addr) (l c c':Nat) (w:World) (h:SlBlock w a l xs) (h':SlBlock w a' l xs) (hs:szBlocks xs≤1048576) :
  Calls Tryz.prog 21 #[.slice a l c,.slice a' l c'] w fun e u=>e = .returned (.bool true)∧w.grownBy u none:=by
 have hl:=h.2.1;have hfl:=h.1;rcases h.cases with ⟨rfl,rfl⟩|⟨b,o,rfl,hin,hpos⟩
 ·
  go_enter Tryz.func21,Tryz.ntmps21;go_wp2;refine wp_loop_rounds 1 ?_;rw[rounds_succ];go_wp2;go_ret;exact ⟨rfl,grf _ _⟩
 rcases h'.cases with ⟨rfl,rfl⟩|⟨b',o',rfl,hin',-⟩
 ·
  exact absurd hpos (by omega)
 have IN:Hid (InBlock w w xs b o∧InBlock w w xs b' o'):=⟨hin,hin'⟩;clear hin hin' h h';go_enter Tryz.func21,Tryz.ntmps21;go_wp2
 go_loopw [5] (fun i wr=>∃ (j:Nat) (R:List RBlock),j≤l∧i = .int .i64 j∧Hid (w.grownBy wr none∧InBlock wr wr R b (o+j * 9)∧InBlock wr wr R b' (o' + j * 9))∧szBlocks R≤1048576∧R.length+j=l) (fun i _=>l - (intOf i).toNat)
 case atStart=>exact ⟨0,xs,Nat.zero_le _,rfl,⟨grf _ _,by simpa using IN.out.1,by simpa using IN.out.2⟩,hs,by omega⟩
 case round =>
  obtain ⟨j,R,hj,rfl,HR,hRs,hRl⟩:=hrel;by_cases hlt:j < l
  ·
   obtain ⟨x,R',rfl⟩:∃ x R',R=x::R':=by
    cases R with
    | nil=>simp at hRl;omega
    | cons x R'=>exact ⟨x,R',rfl⟩
   obtain ⟨hg,⟨⟨a1,l1,c1,a2,l2,c2,a3,l3,c3,a4,l4,c4,a5,l5,c5,⟨k0,k1,k2,k3,k4,k5,k6,k7,k8⟩,hd⟩,hR2⟩,⟨⟨f1,n1,g1,f2,n2,g2,f3,n3,g3,f4,n4,g4,f5,n5,g5,⟨m0,m1,m2,m3,m4,m5,m6,m7,m8⟩,hd2⟩,hR3⟩⟩:=HR.out;rw[show o+j * 9+9=o+(j+1) * 9 by omega] at hR2;rw[show o' + j * 9+9=o' + (j+1) * 9 by omega] at hR3
   obtain rfl:l1=n1:=by have:=hd.1.1;have:=hd2.1.1;omega
   obtain rfl:l2=n2:=by have:=hd.2.1.1;have:=hd2.2.1.1;omega
   obtain rfl:l3=n3:=by have:=hd.2.2.1.1;have:=hd2.2.2.1.1;omega
   obtain rfl:l4=n4:=by have:=hd.2.2.2.1.1;have:=hd2.2.2.2.1.1;omega
   obtain rfl:l5=n5:=by have:=hd.2.2.2.2.1;have:=hd2.2.2.2.2.1;omega
   simp only[szBlocks] at hRs;have gd:=grown_drew (grf wr none);have gc:=CLe.grown gd;have CC:Hid _:=eqBlockT x a1 f1 l1 c1 g1 a2 f2 l2 c2 g2 a3 f3 l3 c3 g3 a4 f4 l4 c4 g4 a5 f5 l5 c5 g5 wr.drew (hd.none gd) (hd2.none gd) (by omega)
   skip
   have TT:Hid (∀ u,wr.grownBy u none→((u.cell? ⟨b,o+j * 9,none⟩=some (.slice a1 l1 c1)∧u.cell? ⟨b,o+j * 9+1,none⟩=some (.int .i64 x.argk)∧u.cell? ⟨b,o+j * 9+2,none⟩=some (.int .i64 x.argn)∧u.cell? ⟨b,o+j * 9+3,none⟩=some (.slice a2 l2 c2)∧u.cell? ⟨b,o+j * 9+4,none⟩=some (.int .i64 x.resk)∧u.cell? ⟨b,o+j * 9+5,none⟩=some (.int .i64 x.resn)∧u.cell? ⟨b,o+j * 9+6,none⟩=some (.slice a3 l3 c3)∧u.cell? ⟨b,o+j * 9+7,none⟩=some (.slice a4 l4 c4)∧u.cell? ⟨b,o+j * 9+8,none⟩=some (.slice a5 l5 c5))∧u.cell? ⟨b',o' + j * 9,none⟩=some (.slice f1 l1 g1)∧u.cell? ⟨b',o' + j * 9+1,none⟩=some (.int .i64 x.argk)∧u.cell? ⟨b',o' + j * 9+2,none⟩=some (.int .i64 x.argn)∧u.cell? ⟨b',o' + j * 9+3,none⟩=some (.slice f2 l2 g2)∧u.cell? ⟨b',o' + j * 9+4,none⟩=some (.int .i64 x.resk)∧u.cell? ⟨b',o' + j * 9+5,none⟩=some (.int .i64 x.resn)∧u.cell? ⟨b',o' + j * 9+6,none⟩=some (.slice f3 l3 g3)∧u.cell? ⟨b',o' + j * 9+7,none⟩=some (.slice f4 l4 g4)∧u.cell? ⟨b',o' + j * 9+8,none⟩=some (.slice f5 l5 g5))):=fun u hu=>⟨⟨hu.cell k0 (by simp),hu.cell k1 (by simp),hu.cell k2 (by simp),hu.cell k3 (by simp),hu.cell k4 (by simp),hu.cell k5 (by simp),hu.cell k6 (by simp),hu.cell k7 (by simp),hu.cell k8 (by simp)⟩,hu.cell m0 (by simp),hu.cell m1 (by simp),hu.cell m2 (by simp),hu.cell m3 (by simp),hu.cell m4 (by simp),hu.cell m5 (by simp),hu.cell m6 (by simp),hu.cell m7 (by simp),hu.cell m8 (by simp)⟩
   have FX:Hid (w.grownBy wr.drew none∧InBlock wr.drew wr.drew R' b (o+(j+1) * 9)∧InBlock wr.drew wr.drew R' b' (o' + (j+1) * 9)∧wr.grownBy wr.drew none):=⟨gtr hg gd,hR2.le gc gc,hR3.le gc gc,gd⟩;clear hd hd2 hR2 hR3 hg IN HR gd gc k0 k1 k2 k3 k4 k5 k6 k7 k8 m0 m1 m2 m3 m4 m5 m6 m7 m8;simp only[lB] at hRl;go_wp2_with fail;refine wp_region_held_drew (S:=(fun u=>((u.cell? ⟨b,o+j * 9,none⟩=some (.slice a1 l1 c1)∧u.cell? ⟨b,o+j * 9+1,none⟩=some (.int .i64 x.argk)∧u.cell? ⟨b,o+j * 9+2,none⟩=some (.int .i64 x.argn)∧u.cell? ⟨b,o+j * 9+3,none⟩=some (.slice a2 l2 c2)∧u.cell? ⟨b,o+j * 9+4,none⟩=some (.int .i64 x.resk)∧u.cell? ⟨b,o+j * 9+5,none⟩=some (.int .i64 x.resn)∧u.cell? ⟨b,o+j * 9+6,none⟩=some (.slice a3 l3 c3)∧u.cell? ⟨b,o+j * 9+7,none⟩=some (.slice a4 l4 c4)∧u.cell? ⟨b,o+j * 9+8,none⟩=some (.slice a5 l5 c5))∧u.cell? ⟨b',o' + j * 9,none⟩=some (.slice f1 l1 g1)∧u.cell? ⟨b',o' + j * 9+1,none⟩=some (.int .i64 x.argk)∧u.cell? ⟨b',o' + j * 9+2,none⟩=some (.int .i64 x.argn)∧u.cell? ⟨b',o' + j * 9+3,none⟩=some (.slice f2 l2 g2)∧u.cell? ⟨b',o' + j * 9+4,none⟩=some (.int .i64 x.resk)∧u.cell? ⟨b',o' + j * 9+5,none⟩=some (.int .i64 x.resn)∧u.cell? ⟨b',o' + j * 9+6,none⟩=some (.slice f3 l3 g3)∧u.cell? ⟨b',o' + j * 9+7,none⟩=some (.slice f4 l4 g4)∧u.cell? ⟨b',o' + j * 9+8,none⟩=some (.slice f5 l5 g5)))) (by kernel_rfl) (TT.out _ FX.out.2.2.2) (fun hH=>?_)
   generalize wr.drew=u at *;simp only[sA9,lB,lC,Nat.reduceAdd,Array.replicate,List.replicate];refine tk 0 ?_;refine tk 1 ?_;refine tk 2 ?_;refine tk 3 ?_;refine tk 4 ?_;refine tk 5 ?_;refine tk 6 ?_;refine tk 7 ?_;refine rd 8 rfl (fun K hK=>?_);go_simp;refine Calls.mono CC.out ?_;rintro e u2 ⟨he,hgu⟩;subst he;refine hK.out _ _ (TT.out _ (gtr FX.out.2.2.2 hgu)) ?_;clear hK K hH;intro hH;have FY:Hid (w.grownBy u2 none∧InBlock u2 u2 R' b (o+(j+1) * 9)∧InBlock u2 u2 R' b' (o' + (j+1) * 9)):=⟨gtr FX.out.1 hgu,FX.out.2.1.le (CLe.grown hgu) (CLe.grown hgu),FX.out.2.2.1.le (CLe.grown hgu) (CLe.grown hgu)⟩;clear FX hgu CC TT;simp only[Act.put,nA,nB,nC,nD,nE,nF];refine tk 9 ?_;refine wpAnyH_done (by kernel_rfl) ?_ _;go_wp2;go_roundw
   case rel=>exact ⟨j+1,R',by omega,by go_num,FY,by omega,by omega⟩
   case measure=>simp [intOf];omega
  ·
   obtain rfl:j=l:=by omega
   have E:Hid (w.grownBy wr none):=HR.out.1;clear HR IN;go_wp2;go_ret;exact ⟨rfl,E.out⟩
structure RProg where
 lays:List RLayout
 blks:List RBlock
 caps:List Int
def RdProg (w:World) (x:RProg) (a1:Option Addr) (l1:Nat) (a2:Option Addr) (l2:Nat) (a3:Option Addr) (l3:Nat):Prop:=SlLayout w a1 l1 x.lays∧SlBlock w a2 l2 x.blks∧RdI w a3 l3 x.caps
theorem RdProg.le {w u:World} {x:RProg} {a1 a2 a3:Option Addr} {l1 l2 l3:Nat} (h:RdProg w x a1 l1 a2 l2 a3 l3) (k:CLe w u):RdProg u x a1 l1 a2 l2 a3 l3:=⟨h.1.le k,h.2.1.le k,h.2.2.le k⟩
theorem RdProg.none {w u:World} {x:RProg} {a1 a2 a3:Option Addr} {l1 l2 l3:Nat} (h:RdProg w x a1 l1 a2 l2 a3 l3) (k:w.grownBy u Option.none):RdProg u x a1 l1 a2 l2 a3 l3:=h.le (CLe.grown k)
def szProg (x:RProg):Nat:=szLayouts x.lays+szBlocks x.blks+x.caps.length
theorem blkProg {w:World} {g:Nat} {t:TypeId} {v0 v1 v2:Value} (h:w.heap[g]? = some (.cells #[v0,v1,v2] t (0,0))):(w.cell? ⟨g,0,none⟩=some v0∧w.cell? ⟨g,1,none⟩=some v1∧w.cell? ⟨g,2,none⟩=some v2)∧∀ j,w.frozen? ⟨g,j,none⟩=false:=by
 refine ⟨⟨?_,?_,?_⟩,fun j=>frozen_of_row w g _ _ t h⟩ <;> (rw[cell_of_row w g _ _ t (0,0) h];rfl)
theorem fillProg {w:World} {p:Nat} {t:TypeId} {o0 o1 o2:Value} (v0 v1 v2:Value) (h:w.heap[p]? = some (.cells #[o0,o1,o2] t (0,0))) :
  (((w.setCell ⟨p,0,none⟩ (v0)).setCell ⟨p,1,none⟩ (v1)).setCell ⟨p,2,none⟩ (v2)).heap[p]? = some (.cells #[v0,v1,v2] t (0,0))∧w.grownBy (((w.setCell ⟨p,0,none⟩ (v0)).setCell ⟨p,1,none⟩ (v1)).setCell ⟨p,2,none⟩ (v2)) (some p):=by
 have h0:(w.setCell ⟨p,0,none⟩ (v0)).heap[p]? = some (.cells #[v0,o1,o2] t (0,0)):=hsm _ p 0 _ t v0 h;have h1:((w.setCell ⟨p,0,none⟩ (v0)).setCell ⟨p,1,none⟩ (v1)).heap[p]? = some (.cells #[v0,v1,o2] t (0,0)):=hsm _ p 1 _ t v1 h0;have h2:(((w.setCell ⟨p,0,none⟩ (v0)).setCell ⟨p,1,none⟩ (v1)).setCell ⟨p,2,none⟩ (v2)).heap[p]? = some (.cells #[v0,v1,v2] t (0,0)):=hsm _ p 2 _ t v2 h1;exact ⟨h2,gtr (gtr (gtr (grf _ _) (gsc _ _ _ _)) (gsc _ _ _ _)) (gsc _ _ _ _)⟩
theorem eqProgT (x:RProg) (a1 f1:Option Addr) (l1 c1 g1:Nat) (a2 f2:Option Addr) (l2 c2 g2:Nat) (a3 f3:Option Addr) (l3 c3 g3:Nat) (w:World) (h:RdProg w x a1 l1 a2 l2 a3 l3) (h':RdProg w x f1 l1 f2 l2 f3 l3) (hs:szProg x≤1048576) :
  Calls Tryz.prog 7 #[.agg #[.slice a1 l1 c1,.slice a2 l2 c2,.slice a3 l3 c3],.agg #[.slice f1 l1 g1,.slice f2 l2 g2,.slice f3 l3 g3]] w fun e u=>e = .returned (.bool true)∧w.grownBy u none:=by
 have hb1:szLayouts (x.lays)≤1048576:=by unfold szProg at hs;omega
 have hb2:szBlocks (x.blks)≤1048576:=by unfold szProg at hs;omega
 have hb3:l3≤4194304:=by have:=h.2.2.1.1;unfold szProg at hs;omega
 have HN:Hid (∀ u,w.grownBy u none→RdProg u x a1 l1 a2 l2 a3 l3∧RdProg u x f1 l1 f2 l2 f3 l3):=fun u hu=>⟨h.none hu,h'.none hu⟩
 clear h h';obtain ⟨b0,b1,bsz⟩:=alloc2_blocks w (.cells #[.slice a1 l1 c1,.slice a2 l2 c2,.slice a3 l3 c3] 27) (.cells #[.slice f1 l1 g1,.slice f2 l2 g2,.slice f3 l3 g3] 27);have g0:=grown_alloc (grown_alloc (grf w none) (.cells #[.slice a1 l1 c1,.slice a2 l2 c2,.slice a3 l3 c3] 27)) (.cells #[.slice f1 l1 g1,.slice f2 l2 g2,.slice f3 l3 g3] 27);have L0:Hid (w.grownBy _ none∧_=some (Obj.cells #[.slice a1 l1 c1,.slice a2 l2 c2,.slice a3 l3 c3] 27)∧_=some (Obj.cells #[.slice f1 l1 g1,.slice f2 l2 g2,.slice f3 l3 g3] 27)):=⟨g0,b0,b1⟩;have C0:Hid _:=eqLayoutsT (x.lays) a1 f1 l1 c1 g1 _ ((HN.out _ g0).1.1) ((HN.out _ g0).2.1) (hb1);obtain ⟨⟨y0,y1,y2⟩,-⟩:=blkProg b0;obtain ⟨⟨yy0,yy1,yy2⟩,-⟩:=blkProg b1;clear g0 b0 b1 bsz;go_enter Tryz.func7,Tryz.ntmps7;go_wp2_with fail;refine Calls.mono C0.out ?_;rintro e u0 ⟨he,hg⟩;subst he;have L1:Hid (w.grownBy u0 none∧u0.heap[w.heap.size]? = some (Obj.cells #[.slice a1 l1 c1,.slice a2 l2 c2,.slice a3 l3 c3] 27)∧u0.heap[w.heap.size+1]? = some (Obj.cells #[.slice f1 l1 g1,.slice f2 l2 g2,.slice f3 l3 g3] 27)):=⟨gtr L0.out.1 hg,(hg.block _ (lbk L0.out.2.1) (by simp)).trans L0.out.2.1,(hg.block _ (lbk L0.out.2.2) (by simp)).trans L0.out.2.2⟩
 clear C0 hg L0 y0 y1 y2 yy0 yy1 yy2;simp only[];have C1:Hid _:=eqBlocksT (x.blks) a2 f2 l2 c2 g2 u0 ((HN.out u0 L1.out.1).1.2.1) ((HN.out u0 L1.out.1).2.2.1) (hb2);obtain ⟨⟨y0,y1,y2⟩,-⟩:=blkProg L1.out.2.1;obtain ⟨⟨yy0,yy1,yy2⟩,-⟩:=blkProg L1.out.2.2;go_wp2_with fail;refine Calls.mono C1.out ?_;rintro e u1 ⟨he,hg⟩;subst he;have L2:Hid (w.grownBy u1 none∧u1.heap[w.heap.size]? = some (Obj.cells #[.slice a1 l1 c1,.slice a2 l2 c2,.slice a3 l3 c3] 27)∧u1.heap[w.heap.size+1]? = some (Obj.cells #[.slice f1 l1 g1,.slice f2 l2 g2,.slice f3 l3 g3] 27)):=⟨gtr L1.out.1 hg,(hg.block _ (lbk L1.out.2.1) (by simp)).trans L1.out.2.1,(hg.block _ (lbk L1.out.2.2) (by simp)).trans L1.out.2.2⟩;clear C1 hg L1 y0 y1 y2 yy0 yy1 yy2;simp only[];have C2:Hid _:=eqIn a3 f3 l3 c3 g3 (x.caps) u1 ((HN.out u1 L2.out.1).1.2.2) ((HN.out u1 L2.out.1).2.2.2) (hb3);obtain ⟨⟨y0,y1,y2⟩,-⟩:=blkProg L2.out.2.1;obtain ⟨⟨yy0,yy1,yy2⟩,-⟩:=blkProg L2.out.2.2
 go_wp2_with fail;refine Calls.mono C2.out ?_;rintro e u2 ⟨he,hg⟩;subst he;have L3:Hid (w.grownBy u2 none∧u2.heap[w.heap.size]? = some (Obj.cells #[.slice a1 l1 c1,.slice a2 l2 c2,.slice a3 l3 c3] 27)∧u2.heap[w.heap.size+1]? = some (Obj.cells #[.slice f1 l1 g1,.slice f2 l2 g2,.slice f3 l3 g3] 27)):=⟨gtr L2.out.1 hg,(hg.block _ (lbk L2.out.2.1) (by simp)).trans L2.out.2.1,(hg.block _ (lbk L2.out.2.2) (by simp)).trans L2.out.2.2⟩;clear C2 hg L2 y0 y1 y2 yy0 yy1 yy2;simp only[];go_wp2;go_ret;exact ⟨rfl,L3.out.1⟩
def encF:F→G
 | .nil=>.nil
 | .cons k n d r=>.num .i64 k (.num .i64 n (.sl 3 (encF d) (encF r)))
def encB:List Int→G
 | []=>.nil
 | z::r=>.num .u8 z (encB r)
def encI:List Int→G
 | []=>.nil
 | z::r=>.num .i64 z (encI r)
def encTys:List F→G
 | []=>.nil
 | f::r=>.sl 3 (encF f) (encTys r)
def encLays:List RLayout→G
 | []=>.nil
 | x::r=>.sl 1 (encTys x.cons) (encLays r)
def encInss:List RIns→G
 | []=>.nil
 | x::r=>.num .i64 x.op (.num .i64 x.a (.num .i64 x.b (.sl 1 (encB x.lit) (.sl 1 (encI x.tos) (encInss r)))))
def encBlks:List RBlock→G
 | []=>.nil
 | x::r=>.sl 3 (encF x.env) (.num .i64 x.argk (.num .i64 x.argn (.sl 3 (encF x.argf) (.num .i64 x.resk (.num .i64 x.resn (.sl 3 (encF x.resf) (.sl 3 (encF x.locs) (.sl 5 (encInss x.code) (encBlks r)))))))))
theorem encF_len (f:F):(encF f).len=f.len * 3:=by
 induction f with
 | nil=>rfl
 | cons k n d r _ ih=>simp only[encF,G.len,ih,F.len];omega
theorem encB_len:∀ zs:List Int,(encB zs).len=zs.length
 | []=>rfl
 | z::r=>by simp [encB,G.len,encB_len r]
theorem encI_len:∀ zs:List Int,(encI zs).len=zs.length
 | []=>rfl
 | z::r=>by simp [encI,G.len,encI_len r]
theorem encTys_len:∀ zs:List F,(encTys zs).len=zs.length
 | []=>rfl
 | z::r=>by simp [encTys,G.len,encTys_len r]
theorem encLays_len:∀ zs:List RLayout,(encLays zs).len=zs.length
 | []=>rfl
 | z::r=>by simp [encLays,G.len,encLays_len r]
theorem encInss_len:∀ zs:List RIns,(encInss zs).len=zs.length * 5
 | []=>rfl
 | z::r=>by simp only[encInss,G.len,encInss_len r,lB];omega
theorem encBlks_len:∀ zs:List RBlock,(encBlks zs).len=zs.length * 9
 | []=>rfl
 | z::r=>by simp only[encBlks,G.len,encBlks_len r,lB];omega
theorem encF_app (f g:F):encF (f.app g)=(encF f).app (encF g):=by
 induction f with
 | nil=>rfl
 | cons k n d r _ ih=>simp only[F.app,encF,ih,G.app]
theorem encI_app:∀ xs ys:List Int,encI (xs++ys)=(encI xs).app (encI ys)
 | [],ys=>rfl
 | z::r,ys=>by simp only[List.cons_append,encI,encI_app r ys,G.app]
theorem encTys_app:∀ xs ys:List F,encTys (xs++ys)=(encTys xs).app (encTys ys)
 | [],ys=>rfl
 | z::r,ys=>by simp only[List.cons_append,encTys,encTys_app r ys,G.app]
theorem encLays_app:∀ xs ys:List RLayout,encLays (xs++ys)=(encLays xs).app (encLays ys)
 | [],ys=>rfl
 | z::r,ys=>by simp only[List.cons_append,encLays,encLays_app r ys,G.app]
theorem encInss_app:∀ xs ys:List RIns,encInss (xs++ys)=(encInss xs).app (encInss ys)
 | [],ys=>rfl
 | z::r,ys=>by simp only[List.cons_append,encInss,encInss_app r ys,G.app]
theorem encBlks_app:∀ xs ys:List RBlock,encBlks (xs++ys)=(encBlks xs).app (encBlks ys)
 | [],ys=>rfl
 | z::r,ys=>by simp only[List.cons_append,encBlks,encBlks_app r ys,G.app]
theorem OwnF.toG {w:World} {t:TypeId} {f:F}:∀ {b off:Nat} {bs:List Nat},OwnF w t f b off bs→OwnG w (encF f) b off bs:=by
 induction f with
 | nil=>intro b off bs h;exact h
 | cons k n d r ihd ihr =>
  intro b off bs h;obtain ⟨bs1,bs2,rfl,⟨a,l,c,h0,h1,h2,h3,h4,h5,h6⟩,hr⟩:=h;refine ⟨h0,h1,bs1,bs2,rfl,⟨a,l,c,h2,by rw[encF_len,h3],h4,h5,?_⟩,ihr hr⟩;rcases h6 with ⟨h6,h7⟩|⟨g,bs',hp,e1,e2,⟨cur,hc,hs⟩,h6⟩
  ·
   obtain rfl:l=0:=by omega
   obtain rfl:=F.nil_of_len h3;exact .inl ⟨rfl,rfl,h7⟩
  ·
   exact .inr ⟨g,bs',hp,e1,e2,⟨cur,t,hc,hs⟩,ihd h6⟩
theorem SlO.toG {w:World} {t:TypeId} {a:Option Addr} {l c:Nat} {f:F} {bs:List Nat} (h:SlO w t a l c f bs):SlG w 3 a l c (encF f) bs:=by
 obtain ⟨h1,h2,h3,h4⟩:=h;refine ⟨by rw[encF_len,h1],h2,h3,?_⟩;rcases h4 with ⟨h6,h7⟩|⟨g,bs',hp,e1,e2,⟨cur,hc,hs⟩,h6⟩
 ·
  obtain rfl:l=0:=by omega
  obtain rfl:=F.nil_of_len h1;exact .inl ⟨rfl,rfl,h7⟩
 ·
  exact .inr ⟨g,bs',hp,e1,e2,⟨cur,t,hc,hs⟩,h6.toG⟩
theorem ownB_of {w:World} {g:Nat}:∀ (zs:List Int) (o:Nat),(∀ i,i < zs.length→w.cell? ⟨g,o+i,none⟩=some (.int .u8 (zs.getD i 0)))→OwnG w (encB zs) g o []
 | [],_,_=>rfl
 | z::r,o,h=>⟨by simpa using h 0 (by simp),ownB_of r (o+1) (fun i hi=>by
   have:=h (i+1) (by simp;omega)
   rw[show o+1+i=o+(i+1) by omega,this];rfl)⟩
theorem Row.toG {w:World} {g cap:Nat} {zs:List Int} (h:Row w g cap zs) (hl:zs.length≤1048576):∃ bs,SlG w 1 (some ⟨g,0,none⟩) zs.length cap (encB zs) bs∧bs.Nodup∧∀ x ∈ bs,x=g:=by
 by_cases h0:zs.length=0
 ·
  obtain rfl:=lz0 h0;exact ⟨[],SlG.nil _ _ _ _,List.nodup_nil,fun x hx=>by simp at hx⟩
 ·
  refine ⟨[g],⟨by rw[encB_len];omega,by omega,h.len,.inr ⟨g,[],by omega,rfl,rfl,?_,ownB_of zs 0 (fun i hi=>by rw[Nat.zero_add];exact h.cell i hi)⟩⟩,by simp,fun x hx=>by simpa using hx⟩;obtain ⟨cur,hc,hs,_⟩:=h;exact ⟨cur,5,hc,by omega⟩
theorem OwnG.inF {w:World} {f:F}:∀ {b off:Nat} {bs:List Nat},OwnG w (encF f) b off bs→InF w f b off:=by
 induction f with
 | nil=>intro b off bs _;trivial
 | cons k n d r ihd ihr =>
  intro b off bs h;obtain ⟨h0,h1,bs1,bs2,rfl,⟨a,l,c,h2,h3,h4,h5,h6⟩,hr⟩:=h;rw[encF_len] at h3;refine ⟨⟨a,l,c,h0,h1,h2,by omega,h4,?_⟩,ihr hr⟩;rcases h6 with ⟨h6,_⟩|⟨g,bs',_,e1,_,_,h6⟩
  ·
   exact .inl h6
  ·
   exact .inr ⟨g,0,e1,ihd h6⟩
theorem SlG.slF {w:World} {a:Option Addr} {l c:Nat} {f:F} {bs:List Nat} (h:SlG w 3 a l c (encF f) bs):SlF w a l f:=by
 obtain ⟨h1,h2,h3,h4⟩:=h;rw[encF_len] at h1;refine ⟨by omega,h2,?_⟩;rcases h4 with ⟨h4,_⟩|⟨g,bs',_,e1,_,_,h4⟩
 ·
  exact .inl h4
 ·
  exact .inr ⟨g,0,e1,h4.inF⟩
theorem OwnG.inB {w:World} {b:Nat} {bs:List Nat}:∀ {zs:List Int} {off:Nat},OwnG w (encB zs) b off bs→∀ i,i < zs.length→w.cell? ⟨b,off+i,none⟩=some (.int .u8 (zs.getD i 0))
 | [],_,_,i,hi=>by simp at hi
 | z::r,off,h,i,hi=>by
  cases i with
  | zero=>simpa using h.1
  | succ i=>rw[show off+(i+1)=off+1+i by omega,OwnG.inB h.2 i (by simpa using hi)];rfl
theorem SlG.rdB {w:World} {a:Option Addr} {l c:Nat} {zs:List Int} {bs:List Nat} (h:SlG w 1 a l c (encB zs) bs) (hz:Byt zs):RdB w a l zs:=by
 obtain ⟨h1,h2,h3,h4⟩:=h;rw[encB_len] at h1;refine ⟨⟨by omega,?_⟩,hz,h2⟩;rcases h4 with ⟨h4,_⟩|⟨g,bs',_,e1,_,_,h4⟩
 ·
  exact .inl h4
 ·
  exact .inr ⟨g,0,e1,fun i hi=>h4.inB i (by omega)⟩
theorem OwnG.inI {w:World} {b:Nat} {bs:List Nat}:∀ {zs:List Int} {off:Nat},OwnG w (encI zs) b off bs→∀ i,i < zs.length→w.cell? ⟨b,off+i,none⟩=some (.int .i64 (zs.getD i 0))
 | [],_,_,i,hi=>by simp at hi
 | z::r,off,h,i,hi=>by
  cases i with
  | zero=>simpa using h.1
  | succ i=>rw[show off+(i+1)=off+1+i by omega,OwnG.inI h.2 i (by simpa using hi)];rfl
theorem SlG.rdI {w:World} {a:Option Addr} {l c:Nat} {zs:List Int} {bs:List Nat} (h:SlG w 1 a l c (encI zs) bs):RdI w a l zs:=by
 obtain ⟨h1,h2,h3,h4⟩:=h;rw[encI_len] at h1;refine ⟨⟨by omega,?_⟩,h2⟩;rcases h4 with ⟨h4,_⟩|⟨g,bs',_,e1,_,_,h4⟩
 ·
  exact .inl h4
 ·
  exact .inr ⟨g,0,e1,fun i hi=>h4.inI i (by omega)⟩
theorem OwnG.inTys {w:World} {b:Nat}:∀ {xs:List F} {off:Nat} {bs:List Nat},OwnG w (encTys xs) b off bs→InTys w w xs b off
 | [],_,_,_=>trivial
 | x::r,off,bs,h=>by
  obtain ⟨bs1,bs2,a,l,c,rfl,h0,h1,hr⟩:=h.outS;exact ⟨⟨a,l,c,h0,h1.slF⟩,OwnG.inTys hr⟩
theorem SlG.slTys {w:World} {a:Option Addr} {l c:Nat} {xs:List F} {bs:List Nat} (h:SlG w 1 a l c (encTys xs) bs):SlTys w a l xs:=by
 obtain ⟨h1,h2,h3,h4⟩:=h;rw[encTys_len] at h1;refine ⟨by omega,h2,?_⟩;rcases h4 with ⟨h4,_⟩|⟨g,bs',_,e1,_,_,h4⟩
 ·
  exact .inl h4
 ·
  exact .inr ⟨g,0,e1,h4.inTys⟩
theorem OwnG.inLays {w:World} {b:Nat}:∀ {xs:List RLayout} {off:Nat} {bs:List Nat},OwnG w (encLays xs) b off bs→InLayout w w xs b off
 | [],_,_,_=>trivial
 | x::r,off,bs,h=>by
  obtain ⟨bs1,bs2,a,l,c,rfl,h0,h1,hr⟩:=h.outS;exact ⟨⟨a,l,c,h0,h1.slTys⟩,OwnG.inLays hr⟩
theorem SlG.slLays {w:World} {a:Option Addr} {l c:Nat} {xs:List RLayout} {bs:List Nat} (h:SlG w 1 a l c (encLays xs) bs):SlLayout w a l xs:=by
 obtain ⟨h1,h2,h3,h4⟩:=h;rw[encLays_len] at h1;refine ⟨by omega,h2,?_⟩;rcases h4 with ⟨h4,_⟩|⟨g,bs',_,e1,_,_,h4⟩
 ·
  exact .inl h4
 ·
  exact .inr ⟨g,0,e1,h4.inLays⟩
theorem OwnG.inInss {w:World} {b:Nat}:∀ {xs:List RIns} {off:Nat} {bs:List Nat},OwnG w (encInss xs) b off bs→(∀ x ∈ xs,Byt x.lit)→InIns w w xs b off
 | [],_,_,_,_=>trivial
 | x::r,off,bs,h,hb=>by
  obtain ⟨h0,h1,h2,h⟩:=h;obtain ⟨bs1,bs2,a1,l1,c1,rfl,h3,k1,h⟩:=h.outS;obtain ⟨bs3,bs4,a2,l2,c2,rfl,h4,k2,h⟩:=h.outS;exact ⟨⟨a1,l1,c1,a2,l2,c2,⟨h0,h1,h2,h3,h4⟩,k1.rdB (hb x (by simp)),k2.rdI⟩,OwnG.inInss h (fun y hy=>hb y (List.mem_cons_of_mem _ hy))⟩
theorem SlG.slInss {w:World} {a:Option Addr} {l c:Nat} {xs:List RIns} {bs:List Nat} (h:SlG w 5 a l c (encInss xs) bs) (hb:∀ x ∈ xs,Byt x.lit):SlIns w a l xs:=by
 obtain ⟨h1,h2,h3,h4⟩:=h;rw[encInss_len] at h1;refine ⟨by omega,h2,?_⟩;rcases h4 with ⟨h4,_⟩|⟨g,bs',_,e1,_,_,h4⟩
 ·
  exact .inl h4
 ·
  exact .inr ⟨g,0,e1,h4.inInss hb⟩
def BytB (x:RBlock):Prop:=∀ i ∈ x.code,Byt i.lit
theorem OwnG.inBlks {w:World} {b:Nat}:∀ {xs:List RBlock} {off:Nat} {bs:List Nat},OwnG w (encBlks xs) b off bs→(∀ x ∈ xs,BytB x)→InBlock w w xs b off
 | [],_,_,_,_=>trivial
 | x::r,off,bs,h,hb=>by
  obtain ⟨b1,bs,a1,l1,c1,rfl,h0,k1,h⟩:=h.outS;obtain ⟨h1,h2,h⟩:=h;obtain ⟨b2,bs,a2,l2,c2,rfl,h3,k2,h⟩:=h.outS;obtain ⟨h4,h5,h⟩:=h;obtain ⟨b3,bs,a3,l3,c3,rfl,h6,k3,h⟩:=h.outS;obtain ⟨b4,bs,a4,l4,c4,rfl,h7,k4,h⟩:=h.outS;obtain ⟨b5,bs,a5,l5,c5,rfl,h8,k5,h⟩:=h.outS;exact ⟨⟨a1,l1,c1,a2,l2,c2,a3,l3,c3,a4,l4,c4,a5,l5,c5,⟨h0,h1,h2,h3,h4,h5,h6,h7,h8⟩,k1.slF,k2.slF,k3.slF,k4.slF,k5.slInss (hb x (by simp))⟩,OwnG.inBlks h (fun y hy=>hb y (List.mem_cons_of_mem _ hy))⟩
theorem SlG.slBlks {w:World} {a:Option Addr} {l c:Nat} {xs:List RBlock} {bs:List Nat} (h:SlG w 9 a l c (encBlks xs) bs) (hb:∀ x ∈ xs,BytB x):SlBlock w a l xs:=by
 obtain ⟨h1,h2,h3,h4⟩:=h;rw[encBlks_len] at h1;refine ⟨by omega,h2,?_⟩;rcases h4 with ⟨h4,_⟩|⟨g,bs',_,e1,_,_,h4⟩
 ·
  exact .inl h4
 ·
  exact .inr ⟨g,0,e1,h4.inBlks hb⟩
def OwP (w:World) (x:RProg) (a1:Option Addr) (l1 c1:Nat) (a2:Option Addr) (l2 c2:Nat) (a3:Option Addr) (l3 c3:Nat) (b1 b2 b3:List Nat):Prop :=
 SlG w 1 a1 l1 c1 (encLays x.lays) b1∧SlG w 9 a2 l2 c2 (encBlks x.blks) b2∧SlG w 1 a3 l3 c3 (encI x.caps) b3∧∀ b ∈ x.blks,BytB b
theorem OwP.rd {w:World} {x:RProg} {a1 a2 a3:Option Addr} {l1 c1 l2 c2 l3 c3:Nat} {b1 b2 b3:List Nat} (h:OwP w x a1 l1 c1 a2 l2 c2 a3 l3 c3 b1 b2 b3):RdProg w x a1 l1 a2 l2 a3 l3 :=
 ⟨h.1.slLays,h.2.1.slBlks h.2.2.2,h.2.2.1.rdI⟩
def aV (x0 x1:Bool) (a:Int):Bool:=if x1 then wholeV a else if x0 then numV a else decide (a=0)
def bV (x2:Bool) (b:Int):Bool:=if x2 then numV b else decide (b=0)
def lV (x3:Bool) (zs:List Int):Bool:=if x3 then litV zs else decide (zs.length=0)
def toV (zs:List Int):Bool:=decide (1≤zs.length) && decide (zs.length≤5) && !zs.any noNum
def tV (x4:Bool) (zs:List Int):Bool:=if x4 then toV zs else decide (zs.length=0)
theorem aFitsT (x0 x1 x2 x3 x4:Bool) (a:Int) (w:World) :
  Calls Tryz.prog 123 #[.agg #[.bool x0,.bool x1,.bool x2,.bool x3,.bool x4],.int .i64 a] w fun e u=>e = .returned (.bool (aV x0 x1 a))∧w.grownBy u none:=by
 have g0:=gal w (.cells #[.bool x0,.bool x1,.bool x2,.bool x3,.bool x4] 114) none;obtain ⟨⟨y0,y1,y2,y3,y4⟩,-⟩:=blk5 (hnw w (.cells #[.bool x0,.bool x1,.bool x2,.bool x3,.bool x4] 114));have G0:Hid (w.grownBy (w.alloc (.cells #[.bool x0,.bool x1,.bool x2,.bool x3,.bool x4] 114)) none):=g0;have CW:Hid _:=isWholeT a (w.alloc (.cells #[.bool x0,.bool x1,.bool x2,.bool x3,.bool x4] 114));have CN:Hid _:=isNumT a (w.alloc (.cells #[.bool x0,.bool x1,.bool x2,.bool x3,.bool x4] 114));clear g0
 cases x1 with
 | true =>
  go_enter Tryz.func123,Tryz.ntmps123;go_wp2_with fail;refine Calls.mono CW.out ?_;rintro e u ⟨rfl,rfl⟩;clear CW CN;simp only[];go_wp2;go_ret;exact ⟨rfl,G0.out⟩
 | false =>
  cases x0 with
  | true =>
   go_enter Tryz.func123,Tryz.ntmps123;go_wp2_with fail;refine Calls.mono CN.out ?_;rintro e u ⟨rfl,rfl⟩;clear CW CN;simp only[];go_wp2;go_ret;exact ⟨rfl,G0.out⟩
  | false =>
   clear CW CN;by_cases h:a=0
   ·
    have hb:(a == 0)=true:=by simpa using h
    go_enter Tryz.func123,Tryz.ntmps123;go_wp2;go_ret;exact ⟨by simp [aV,h],G0.out⟩
   ·
    have hb:(a == 0)=false:=by simpa using h
    go_enter Tryz.func123,Tryz.ntmps123;go_wp2;go_ret;exact ⟨by simp [aV,h],G0.out⟩
theorem bFitsT (x0 x1 x2 x3 x4:Bool) (a:Int) (w:World) :
  Calls Tryz.prog 124 #[.agg #[.bool x0,.bool x1,.bool x2,.bool x3,.bool x4],.int .i64 a] w fun e u=>e = .returned (.bool (bV x2 a))∧w.grownBy u none:=by
 have g0:=gal w (.cells #[.bool x0,.bool x1,.bool x2,.bool x3,.bool x4] 114) none;obtain ⟨⟨y0,y1,y2,y3,y4⟩,-⟩:=blk5 (hnw w (.cells #[.bool x0,.bool x1,.bool x2,.bool x3,.bool x4] 114));have G0:Hid (w.grownBy (w.alloc (.cells #[.bool x0,.bool x1,.bool x2,.bool x3,.bool x4] 114)) none):=g0;have CN:Hid _:=isNumT a (w.alloc (.cells #[.bool x0,.bool x1,.bool x2,.bool x3,.bool x4] 114));clear g0
 cases x2 with
 | true =>
  go_enter Tryz.func124,Tryz.ntmps124;go_wp2_with fail;refine Calls.mono CN.out ?_;rintro e u ⟨rfl,rfl⟩;clear CN;simp only[];go_wp2;go_ret;exact ⟨rfl,G0.out⟩
 | false =>
  clear CN;by_cases h:a=0
  ·
   have hb:(a == 0)=true:=by simpa using h
   go_enter Tryz.func124,Tryz.ntmps124;go_wp2;go_ret;exact ⟨by simp [bV,h],G0.out⟩
  ·
   have hb:(a == 0)=false:=by simpa using h
   go_enter Tryz.func124,Tryz.ntmps124;go_wp2;go_ret;exact ⟨by simp [bV,h],G0.out⟩
theorem litFitsT (x0 x1 x2 x3 x4:Bool) (a:Option Addr) (l c:Nat) (zs:List Int) (w:World) (h:RdB w a l zs) :
  Calls Tryz.prog 125 #[.agg #[.bool x0,.bool x1,.bool x2,.bool x3,.bool x4],.slice a l c] w fun e u=>e = .returned (.bool (lV x3 zs))∧w.grownBy u none:=by
 have g0:=gal w (.cells #[.bool x0,.bool x1,.bool x2,.bool x3,.bool x4] 114) none;obtain ⟨⟨y0,y1,y2,y3,y4⟩,-⟩:=blk5 (hnw w (.cells #[.bool x0,.bool x1,.bool x2,.bool x3,.bool x4] 114));have G0:Hid (w.grownBy (w.alloc (.cells #[.bool x0,.bool x1,.bool x2,.bool x3,.bool x4] 114)) none):=g0;have CN:Hid _:=isLiteralT a l c zs (w.alloc (.cells #[.bool x0,.bool x1,.bool x2,.bool x3,.bool x4] 114)) (h.none g0);have hl:=h.1.1;have hm:=h.2.2;clear g0 h
 cases x3 with
 | true =>
  go_enter Tryz.func125,Tryz.ntmps125;go_wp2_with fail;refine Calls.mono CN.out ?_;rintro e u ⟨rfl,hg⟩;have G1:Hid (w.grownBy u none):=gtr G0.out hg;clear CN hg;simp only[];go_wp2;go_ret;exact ⟨rfl,G1.out⟩
 | false =>
  clear CN;by_cases h:l=0
  ·
   subst h;go_enter Tryz.func125,Tryz.ntmps125;go_wp2;go_ret;exact ⟨by simp [lV,hl],G0.out⟩
  ·
   have hb:((l:Int) == 0)=false:=by simpa using (show ¬ (l:Int)=0 by omega)
   go_enter Tryz.func125,Tryz.ntmps125;go_wp2;go_ret;exact ⟨by simp [lV,hl,h],G0.out⟩
theorem toFitsT (x0 x1 x2 x3 x4:Bool) (a:Option Addr) (l c:Nat) (zs:List Int) (w:World) (h:RdI w a l zs) :
  Calls Tryz.prog 126 #[.agg #[.bool x0,.bool x1,.bool x2,.bool x3,.bool x4],.slice a l c] w fun e u=>e = .returned (.bool (tV x4 zs))∧w.grownBy u none:=by
 have g0:=gal w (.cells #[.bool x0,.bool x1,.bool x2,.bool x3,.bool x4] 114) none;obtain ⟨⟨y0,y1,y2,y3,y4⟩,-⟩:=blk5 (hnw w (.cells #[.bool x0,.bool x1,.bool x2,.bool x3,.bool x4] 114));have G0:Hid (w.grownBy (w.alloc (.cells #[.bool x0,.bool x1,.bool x2,.bool x3,.bool x4] 114)) none):=g0;have CN:Hid _:=containsNT zs a l c (w.alloc (.cells #[.bool x0,.bool x1,.bool x2,.bool x3,.bool x4] 114)) (h.none g0);have hl:=h.1.1;have hm:=h.2;clear g0 h
 cases x4 with
 | true =>
  by_cases h1:1≤l
  ·
   by_cases h5:l≤5
   ·
    have h1':(l:Int) ≥ 1:=by omega
    have h5':(l:Int)≤5:=by omega
    have HE:Hid (toV zs = !zs.any noNum):=by show _=_;simp [toV,hl,h1,h5]
    go_enter Tryz.func126,Tryz.ntmps126;go_wp2_with fail;refine Calls.mono CN.out ?_;rintro e u ⟨rfl,hg⟩;have G1:Hid (w.grownBy u none):=gtr G0.out hg;clear CN hg;simp only[];go_wp2;go_ret;exact ⟨by show _=Ending.returned (.bool (toV zs));rw[HE.out];rfl,G1.out⟩
   ·
    have h1':(l:Int) ≥ 1:=by omega
    have h5':¬ (l:Int)≤5:=by omega
    have HE:Hid (toV zs=false):=by show _=_;simp [toV,hl,h1,h5]
    clear CN;go_enter Tryz.func126,Tryz.ntmps126;go_wp2;go_ret;exact ⟨by show _=Ending.returned (.bool (toV zs));rw[HE.out];rfl,G0.out⟩
  ·
   have h1':¬ (l:Int) ≥ 1:=by omega
   have HE:Hid (toV zs=false):=by show _=_;simp [toV,hl,h1]
   clear CN;go_enter Tryz.func126,Tryz.ntmps126;go_wp2;go_ret;exact ⟨by show _=Ending.returned (.bool (toV zs));rw[HE.out];rfl,G0.out⟩
 | false =>
  clear CN;by_cases h:l=0
  ·
   subst h;go_enter Tryz.func126,Tryz.ntmps126;go_wp2;go_ret;exact ⟨by simp [tV,hl],G0.out⟩
  ·
   have hb:((l:Int) == 0)=false:=by simpa using (show ¬ (l:Int)=0 by omega)
   go_enter Tryz.func126,Tryz.ntmps126;go_wp2;go_ret;exact ⟨by simp [tV,hl,h],G0.out⟩
def insV (x:RIns):Bool:=opOk x.op && aV (hasA x.op) (decide (x.op=1)) x.a && bV (decide (x.op=21)) x.b && lV (decide (x.op=2)) x.lit && tV (decide (x.op=22)) x.tos
theorem alloc_drew {a w:World} (h:a.grownBy w none) (o:Obj):a.grownBy (w.alloc o) none:=gtr h (gal _ _ _)
theorem implInsT (x:RIns) (a1:Option Addr) (l1 c1:Nat) (a2:Option Addr) (l2 c2:Nat) (w:World) (h:RdIns w x a1 l1 a2 l2) (hF:OpsIn w) :
  Calls Tryz.prog 109 #[.agg #[.int .i64 x.op,.int .i64 x.a,.int .i64 x.b,.slice a1 l1 c1,.slice a2 l2 c2]] w fun e u=>e = .returned (.bool (insV x))∧w.grownBy u none:=by
 have g0:=gal w (.cells #[.int .i64 x.op,.int .i64 x.a,.int .i64 x.b,.slice a1 l1 c1,.slice a2 l2 c2] 52) none;have b0:=hnw w (.cells #[.int .i64 x.op,.int .i64 x.a,.int .i64 x.b,.slice a1 l1 c1,.slice a2 l2 c2] 52)
 have HS:Hid (∀ u,w.grownBy u none→RdIns u x a1 l1 a2 l2):=fun u hu=>h.none hu
 have C0:Hid _:=formOfOpT x.op (w.alloc (.cells #[.int .i64 x.op,.int .i64 x.a,.int .i64 x.b,.slice a1 l1 c1,.slice a2 l2 c2] 52)) (hF.none g0);have L0:Hid (w.grownBy _ none∧_=some (Obj.cells #[.int .i64 x.op,.int .i64 x.a,.int .i64 x.b,.slice a1 l1 c1,.slice a2 l2 c2] 52)):=⟨g0,b0⟩;obtain ⟨⟨y0,y1,y2,y3,y4⟩,-⟩:=blk5 b0;clear h g0 b0 hF;go_enter Tryz.func109,Tryz.ntmps109;go_wp2_with fail;refine Calls.mono C0.out ?_;rintro e u0 ⟨he,hg⟩;unfold FoO at he;subst he;have L1:Hid (w.grownBy u0 none∧u0.heap[w.heap.size]? = some (Obj.cells #[.int .i64 x.op,.int .i64 x.a,.int .i64 x.b,.slice a1 l1 c1,.slice a2 l2 c2] 52)):=⟨gtr L0.out.1 hg,(hg.block _ (lbk L0.out.2) (by simp)).trans L0.out.2⟩;clear C0 L0 hg y0 y1 y2 y3 y4;generalize w.heap.size=p0 at *
 cases ho:opOk x.op with
 | false =>
  have HV:Hid (insV x=false):=by show _=_;unfold insV;rw[ho];rfl
  have G2:Hid (w.grownBy u0 none):=L1.out.1;clear L1;simp only[Bool.false_and];go_wp2;go_ret;exact ⟨by rw[HV.out];rfl,alloc_drew G2.out _⟩
 | true =>
  simp only[Bool.true_and]
  have HV:Hid (insV x=(aV (hasA x.op) (decide (x.op=1)) x.a && bV (decide (x.op=21)) x.b && lV (decide (x.op=2)) x.lit && tV (decide (x.op=22)) x.tos)):=by show _=_;unfold insV;rw[ho];simp only[Bool.true_and]
  generalize hasA x.op=q0 at *;generalize decide (x.op=1)=q1 at *;generalize decide (x.op=21)=q2 at *;generalize decide (x.op=2)=q3 at *;generalize decide (x.op=22)=q4 at *;have ga:=gal u0 (.cells #[.bool q0,.bool q1,.bool q2,.bool q3,.bool q4] 114) none;have ba:=hnw u0 (.cells #[.bool q0,.bool q1,.bool q2,.bool q3,.bool q4] 114);have L2:Hid (w.grownBy _ none∧_=some (Obj.cells #[.int .i64 x.op,.int .i64 x.a,.int .i64 x.b,.slice a1 l1 c1,.slice a2 l2 c2] 52)∧_=some (Obj.cells #[.bool q0,.bool q1,.bool q2,.bool q3,.bool q4] 114)):=⟨gtr L1.out.1 ga,(ga.block _ (lbk L1.out.2) (by simp)).trans L1.out.2,ba⟩;clear L1 ga ba ho;obtain ⟨⟨y0,y1,y2,y3,y4⟩,-⟩:=blk5 L2.out.2.1;obtain ⟨⟨z0,z1,z2,z3,z4⟩,-⟩:=blk5 L2.out.2.2;have C1:Hid _:=aFitsT q0 q1 q2 q3 q4 x.a (u0.alloc (.cells #[.bool q0,.bool q1,.bool q2,.bool q3,.bool q4] 114));go_wp2_with fail;refine Calls.mono C1.out ?_;rintro e u1 ⟨rfl,hg⟩;generalize u0.heap.size=p9 at *
  have L3:Hid (w.grownBy u1 none∧u1.heap[p0]? = some (Obj.cells #[.int .i64 x.op,.int .i64 x.a,.int .i64 x.b,.slice a1 l1 c1,.slice a2 l2 c2] 52)∧u1.heap[p9]? = some (Obj.cells #[.bool q0,.bool q1,.bool q2,.bool q3,.bool q4] 114)):=⟨gtr L2.out.1 hg,(hg.block _ (lbk L2.out.2.1) (by simp)).trans L2.out.2.1,(hg.block _ (lbk L2.out.2.2) (by simp)).trans L2.out.2.2⟩;clear C1 hg L2 y0 y1 y2 y3 y4 z0 z1 z2 z3 z4;obtain ⟨⟨y0,y1,y2,y3,y4⟩,-⟩:=blk5 L3.out.2.1;obtain ⟨⟨z0,z1,z2,z3,z4⟩,-⟩:=blk5 L3.out.2.2;simp only[]
  cases hq0:aV q0 q1 x.a with
  | false =>
   go_wp2;go_ret;exact ⟨by rw[HV.out];simp [hq0],L3.out.1⟩
  | true =>
   have C2:Hid _:=bFitsT q0 q1 q2 q3 q4 x.b u1;go_wp2_with fail;refine Calls.mono C2.out ?_;rintro e u2 ⟨rfl,hg⟩;have L4:Hid (w.grownBy u2 none∧u2.heap[p0]? = some (Obj.cells #[.int .i64 x.op,.int .i64 x.a,.int .i64 x.b,.slice a1 l1 c1,.slice a2 l2 c2] 52)∧u2.heap[p9]? = some (Obj.cells #[.bool q0,.bool q1,.bool q2,.bool q3,.bool q4] 114)):=⟨gtr L3.out.1 hg,(hg.block _ (lbk L3.out.2.1) (by simp)).trans L3.out.2.1,(hg.block _ (lbk L3.out.2.2) (by simp)).trans L3.out.2.2⟩;clear C2 hg L3 y0 y1 y2 y3 y4 z0 z1 z2 z3 z4;obtain ⟨⟨y0,y1,y2,y3,y4⟩,-⟩:=blk5 L4.out.2.1;obtain ⟨⟨z0,z1,z2,z3,z4⟩,-⟩:=blk5 L4.out.2.2;simp only[]
   cases hq1:bV q2 x.b with
   | false =>
    go_wp2;go_ret;exact ⟨by rw[HV.out];simp [hq0,hq1],L4.out.1⟩
   | true =>
    have C3:Hid _:=litFitsT q0 q1 q2 q3 q4 a1 l1 c1 x.lit u2 (HS.out _ L4.out.1).1;go_wp2_with fail;refine Calls.mono C3.out ?_;rintro e u3 ⟨rfl,hg⟩;have L5:Hid (w.grownBy u3 none∧u3.heap[p0]? = some (Obj.cells #[.int .i64 x.op,.int .i64 x.a,.int .i64 x.b,.slice a1 l1 c1,.slice a2 l2 c2] 52)∧u3.heap[p9]? = some (Obj.cells #[.bool q0,.bool q1,.bool q2,.bool q3,.bool q4] 114)):=⟨gtr L4.out.1 hg,(hg.block _ (lbk L4.out.2.1) (by simp)).trans L4.out.2.1,(hg.block _ (lbk L4.out.2.2) (by simp)).trans L4.out.2.2⟩;clear C3 hg L4 y0 y1 y2 y3 y4 z0 z1 z2 z3 z4;obtain ⟨⟨y0,y1,y2,y3,y4⟩,-⟩:=blk5 L5.out.2.1;obtain ⟨⟨z0,z1,z2,z3,z4⟩,-⟩:=blk5 L5.out.2.2;simp only[]
    cases hq2:lV q3 x.lit with
    | false =>
     go_wp2;go_ret;exact ⟨by rw[HV.out];simp [hq0,hq1,hq2],L5.out.1⟩
    | true =>
     have C4:Hid _:=toFitsT q0 q1 q2 q3 q4 a2 l2 c2 x.tos u3 (HS.out _ L5.out.1).2;go_wp2_with fail;refine Calls.mono C4.out ?_;rintro e u4 ⟨rfl,hg⟩;have L6:Hid (w.grownBy u4 none∧u4.heap[p0]? = some (Obj.cells #[.int .i64 x.op,.int .i64 x.a,.int .i64 x.b,.slice a1 l1 c1,.slice a2 l2 c2] 52)∧u4.heap[p9]? = some (Obj.cells #[.bool q0,.bool q1,.bool q2,.bool q3,.bool q4] 114)):=⟨gtr L5.out.1 hg,(hg.block _ (lbk L5.out.2.1) (by simp)).trans L5.out.2.1,(hg.block _ (lbk L5.out.2.2) (by simp)).trans L5.out.2.2⟩;clear C4 hg L5 y0 y1 y2 y3 y4 z0 z1 z2 z3 z4;obtain ⟨⟨y0,y1,y2,y3,y4⟩,-⟩:=blk5 L6.out.2.1;obtain ⟨⟨z0,z1,z2,z3,z4⟩,-⟩:=blk5 L6.out.2.2;simp only[];go_wp2;go_ret;exact ⟨by rw[HV.out];simp [hq0,hq1,hq2],L6.out.1⟩
end Go.Proofs.YtnmlbeefjjohfaaGreatDoor.By
