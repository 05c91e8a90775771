/-
 Source: how it lies in memory, how great it is, two that read the same compared, and its copy: the law's own helpers by their contracts. No statement is proved here.
-/
import Derived.Test.YtblbnillilbacaaGreatDoorGWAlso
import Derived.Test.YtblbnillilbacaaGreatDoorGQAlso
import Derived.Test.YtblbnillilbacaaGreatDoorGQE
import Derived.Deep.DeepCutAuto
namespace Go.Proofs.YtblbnillilbacaaGreatDoor.By
open Go.RowKit
set_option linter.unusedVariables false
set_option linter.unusedSimpArgs false
structure RSrc where
 ds:List Da
 p:PE
 kids:GE
 alts:GE
def SlDc (w:World) (a:Option Addr) (l c:Nat) (ds:List Da):Prop:=SlDa w a l ds∧l≤c
theorem SlDc.le {w u:World} {a:Option Addr} {l c:Nat} {ds:List Da} (h:SlDc w a l c ds) (k:CLe w u):SlDc u a l c ds:=⟨h.1.le k,h.2⟩
def RdSrc (w:World) (x:RSrc) (a0:Option Addr) (l0 c0:Nat) (a1:Option Addr) (l1 c1:Nat) (a2:Option Addr) (l2 c2:Nat) (a3:Option Addr) (l3 c3:Nat) (a4:Option Addr) (l4 c4:Nat) (a5:Option Addr) (l5 c5:Nat):Prop:=SlDc w a0 l0 c0 x.ds∧NdE w x.p x.kids x.alts a1 l1 c1 a2 l2 c2 a3 l3 c3 a4 l4 c4 a5 l5 c5
theorem RdSrc.le {w u:World} {x:RSrc} {a0 a1 a2 a3 a4 a5:Option Addr} {l0 c0 l1 c1 l2 c2 l3 c3 l4 c4 l5 c5:Nat} (h:RdSrc w x a0 l0 c0 a1 l1 c1 a2 l2 c2 a3 l3 c3 a4 l4 c4 a5 l5 c5) (k:CLe w u):RdSrc u x a0 l0 c0 a1 l1 c1 a2 l2 c2 a3 l3 c3 a4 l4 c4 a5 l5 c5:=⟨h.1.le k,h.2.le k⟩
theorem RdSrc.none {w u:World} {x:RSrc} {a0 a1 a2 a3 a4 a5:Option Addr} {l0 c0 l1 c1 l2 c2 l3 c3 l4 c4 l5 c5:Nat} (h:RdSrc w x a0 l0 c0 a1 l1 c1 a2 l2 c2 a3 l3 c3 a4 l4 c4 a5 l5 c5) (k:w.grownBy u Option.none):RdSrc u x a0 l0 c0 a1 l1 c1 a2 l2 c2 a3 l3 c3 a4 l4 c4 a5 l5 c5:=h.le (CLe.grown k)
def szSrc (x:RSrc):Nat:=szDas x.ds+(szPE x.p+x.kids.size+x.alts.size)
theorem blkSrc {w:World} {g:Nat} {t:TypeId} {v0 v1 v2 v3 v4 v5 v6 v7:Value} (h:w.heap[g]? = some (.cells #[v0,v1,v2,v3,v4,v5,v6,v7] t (0,0))):(w.cell? ⟨g,0,none⟩=some v0∧w.cell? ⟨g,1,none⟩=some v1∧w.cell? ⟨g,2,none⟩=some v2∧w.cell? ⟨g,3,none⟩=some v3∧w.cell? ⟨g,4,none⟩=some v4∧w.cell? ⟨g,5,none⟩=some v5∧w.cell? ⟨g,6,none⟩=some v6∧w.cell? ⟨g,7,none⟩=some v7)∧∀ j,w.frozen? ⟨g,j,none⟩=false:=by
 refine ⟨⟨?_,?_,?_,?_,?_,?_,?_,?_⟩,fun j=>frozen_of_row w g _ _ t h⟩ <;> (rw[cell_of_row w g _ _ t (0,0) h];rfl)
theorem fillSrc {w:World} {p:Nat} {t:TypeId} {o0 o1 o2 o3 o4 o5 o6 o7:Value} (v0 v1 v2 v3 v4 v5 v6 v7:Value) (h:w.heap[p]? = some (.cells #[o0,o1,o2,o3,o4,o5,o6,o7] t (0,0))) :
  ((((((((w.setCell ⟨p,0,none⟩ (v0)).setCell ⟨p,1,none⟩ (v1)).setCell ⟨p,2,none⟩ (v2)).setCell ⟨p,3,none⟩ (v3)).setCell ⟨p,4,none⟩ (v4)).setCell ⟨p,5,none⟩ (v5)).setCell ⟨p,6,none⟩ (v6)).setCell ⟨p,7,none⟩ (v7)).heap[p]? = some (.cells #[v0,v1,v2,v3,v4,v5,v6,v7] t (0,0))∧w.grownBy ((((((((w.setCell ⟨p,0,none⟩ (v0)).setCell ⟨p,1,none⟩ (v1)).setCell ⟨p,2,none⟩ (v2)).setCell ⟨p,3,none⟩ (v3)).setCell ⟨p,4,none⟩ (v4)).setCell ⟨p,5,none⟩ (v5)).setCell ⟨p,6,none⟩ (v6)).setCell ⟨p,7,none⟩ (v7)) (some p):=by
 have h0:(w.setCell ⟨p,0,none⟩ (v0)).heap[p]? = some (.cells #[v0,o1,o2,o3,o4,o5,o6,o7] t (0,0)):=heap_setCell_same _ p 0 _ t v0 h
 have h1:((w.setCell ⟨p,0,none⟩ (v0)).setCell ⟨p,1,none⟩ (v1)).heap[p]? = some (.cells #[v0,v1,o2,o3,o4,o5,o6,o7] t (0,0)):=heap_setCell_same _ p 1 _ t v1 h0
 have h2:(((w.setCell ⟨p,0,none⟩ (v0)).setCell ⟨p,1,none⟩ (v1)).setCell ⟨p,2,none⟩ (v2)).heap[p]? = some (.cells #[v0,v1,v2,o3,o4,o5,o6,o7] t (0,0)):=heap_setCell_same _ p 2 _ t v2 h1
 have h3:((((w.setCell ⟨p,0,none⟩ (v0)).setCell ⟨p,1,none⟩ (v1)).setCell ⟨p,2,none⟩ (v2)).setCell ⟨p,3,none⟩ (v3)).heap[p]? = some (.cells #[v0,v1,v2,v3,o4,o5,o6,o7] t (0,0)):=heap_setCell_same _ p 3 _ t v3 h2
 have h4:(((((w.setCell ⟨p,0,none⟩ (v0)).setCell ⟨p,1,none⟩ (v1)).setCell ⟨p,2,none⟩ (v2)).setCell ⟨p,3,none⟩ (v3)).setCell ⟨p,4,none⟩ (v4)).heap[p]? = some (.cells #[v0,v1,v2,v3,v4,o5,o6,o7] t (0,0)):=heap_setCell_same _ p 4 _ t v4 h3
 have h5:((((((w.setCell ⟨p,0,none⟩ (v0)).setCell ⟨p,1,none⟩ (v1)).setCell ⟨p,2,none⟩ (v2)).setCell ⟨p,3,none⟩ (v3)).setCell ⟨p,4,none⟩ (v4)).setCell ⟨p,5,none⟩ (v5)).heap[p]? = some (.cells #[v0,v1,v2,v3,v4,v5,o6,o7] t (0,0)):=heap_setCell_same _ p 5 _ t v5 h4
 have h6:(((((((w.setCell ⟨p,0,none⟩ (v0)).setCell ⟨p,1,none⟩ (v1)).setCell ⟨p,2,none⟩ (v2)).setCell ⟨p,3,none⟩ (v3)).setCell ⟨p,4,none⟩ (v4)).setCell ⟨p,5,none⟩ (v5)).setCell ⟨p,6,none⟩ (v6)).heap[p]? = some (.cells #[v0,v1,v2,v3,v4,v5,v6,o7] t (0,0)):=heap_setCell_same _ p 6 _ t v6 h5
 have h7:((((((((w.setCell ⟨p,0,none⟩ (v0)).setCell ⟨p,1,none⟩ (v1)).setCell ⟨p,2,none⟩ (v2)).setCell ⟨p,3,none⟩ (v3)).setCell ⟨p,4,none⟩ (v4)).setCell ⟨p,5,none⟩ (v5)).setCell ⟨p,6,none⟩ (v6)).setCell ⟨p,7,none⟩ (v7)).heap[p]? = some (.cells #[v0,v1,v2,v3,v4,v5,v6,v7] t (0,0)):=heap_setCell_same _ p 7 _ t v7 h6
 exact ⟨h7,grown_trans (grown_trans (grown_trans (grown_trans (grown_trans (grown_trans (grown_trans (grown_trans (World.grownBy.refl _ _) (grown_setCell _ _ _ _)) (grown_setCell _ _ _ _)) (grown_setCell _ _ _ _)) (grown_setCell _ _ _ _)) (grown_setCell _ _ _ _)) (grown_setCell _ _ _ _)) (grown_setCell _ _ _ _)) (grown_setCell _ _ _ _)⟩
set_option maxRecDepth 4000 in
set_option maxHeartbeats 4000000 in
theorem szSrcT (x:RSrc) (a0:Option Addr) (l0 c0:Nat) (a1:Option Addr) (l1 c1:Nat) (a2:Option Addr) (l2 c2:Nat) (a3:Option Addr) (l3 c3:Nat) (a4:Option Addr) (l4 c4:Nat) (a5:Option Addr) (l5 c5:Nat) (L:Int) (w:World) (h:RdSrc w x a0 l0 c0 a1 l1 c1 a2 l2 c2 a3 l3 c3 a4 l4 c4 a5 l5 c5) (h0:0≤L) (h1:L≤1048576) :
  Calls Tryz.prog 7 #[.agg #[.slice a0 l0 c0,.int .i64 x.p.k,.int .i64 x.p.n,.slice a1 l1 c1,.slice a2 l2 c2,.slice a3 l3 c3,.slice a4 l4 c4,.slice a5 l5 c5],.int .i64 L] w fun e u=>SzW L (szSrc x) e∧w.grownBy u none:=by
 have g0:=World.grownBy_alloc w (.cells #[.slice a0 l0 c0,.int .i64 x.p.k,.int .i64 x.p.n,.slice a1 l1 c1,.slice a2 l2 c2,.slice a3 l3 c3,.slice a4 l4 c4,.slice a5 l5 c5] 29) none
 have b0:=heap_alloc_new w (.cells #[.slice a0 l0 c0,.int .i64 x.p.k,.int .i64 x.p.n,.slice a1 l1 c1,.slice a2 l2 c2,.slice a3 l3 c3,.slice a4 l4 c4,.slice a5 l5 c5] 29)
 have HN:Hid (∀ u,w.grownBy u none→RdSrc u x a0 l0 c0 a1 l1 c1 a2 l2 c2 a3 l3 c3 a4 l4 c4 a5 l5 c5):=fun u hu=>h.none hu
 clear h
 have L0:Hid (w.grownBy _ none∧_=some (Obj.cells #[.slice a0 l0 c0,.int .i64 x.p.k,.int .i64 x.p.n,.slice a1 l1 c1,.slice a2 l2 c2,.slice a3 l3 c3,.slice a4 l4 c4,.slice a5 l5 c5] 29)):=⟨g0,b0⟩
 have C0:Hid _:=szDasT x.ds a0 l0 c0 L _ (HN.out _ g0).1.1 h0 h1
 obtain ⟨⟨y0,y1,y2,y3,y4,y5,y6,y7⟩,-⟩:=blkSrc b0
 clear g0 b0
 go_enter Tryz.func7,Tryz.ntmps7
 go_wp2_with fail
 refine Calls.mono C0.out ?_
 rintro e u0 ⟨⟨r0,he,hr⟩,hg⟩
 subst he
 have L1:Hid (w.grownBy u0 none∧u0.heap[w.heap.size]? = some (Obj.cells #[.slice a0 l0 c0,.int .i64 x.p.k,.int .i64 x.p.n,.slice a1 l1 c1,.slice a2 l2 c2,.slice a3 l3 c3,.slice a4 l4 c4,.slice a5 l5 c5] 29)):=⟨grown_trans L0.out.1 hg,(hg.block _ (lt_of_block L0.out.2) (by simp)).trans L0.out.2⟩
 clear C0 hg L0 y0 y1 y2 y3 y4 y5 y6 y7
 simp only[]
 rcases hr with ⟨rfl,-⟩|⟨hr0,hs0⟩
 ·
  go_wp2
  go_ret
  exact ⟨⟨-1,rfl,.inl rfl⟩,L1.out.1⟩
 have C1:Hid _:=szET x.p x.kids x.alts a1 l1 c1 a2 l2 c2 a3 l3 c3 a4 l4 c4 a5 l5 c5 r0 u0 (HN.out _ L1.out.1).2 hr0 (by omega)
 obtain ⟨⟨y0,y1,y2,y3,y4,y5,y6,y7⟩,-⟩:=blkSrc L1.out.2
 go_wp2_with fail
 refine Calls.mono C1.out ?_
 rintro e u1 ⟨⟨r1,he,hr⟩,hg⟩
 subst he
 have L2:Hid (w.grownBy u1 none):=grown_trans L1.out.1 hg
 clear C1 hg L1 y0 y1 y2 y3 y4 y5 y6 y7
 simp only[]
 rcases hr with rfl|⟨hr1,hs1⟩
 ·
  go_wp2
  go_ret
  exact ⟨⟨-1,rfl,.inl rfl⟩,L2.out⟩
 go_wp2
 go_ret
 exact ⟨⟨r1,rfl,.inr ⟨hr1,by unfold szSrc;omega⟩⟩,L2.out⟩
set_option maxRecDepth 4000 in
set_option maxHeartbeats 4000000 in
theorem eqSrcT (x:RSrc) (a0 f0:Option Addr) (l0 c0 g0:Nat) (a1 f1:Option Addr) (l1 c1 g1:Nat) (a2 f2:Option Addr) (l2 c2 g2:Nat) (a3 f3:Option Addr) (l3 c3 g3:Nat) (a4 f4:Option Addr) (l4 c4 g4:Nat) (a5 f5:Option Addr) (l5 c5 g5:Nat) (w:World) (h:RdSrc w x a0 l0 c0 a1 l1 c1 a2 l2 c2 a3 l3 c3 a4 l4 c4 a5 l5 c5) (h':RdSrc w x f0 l0 g0 f1 l1 g1 f2 l2 g2 f3 l3 g3 f4 l4 g4 f5 l5 g5) (hs:szSrc x≤1048576) :
  Calls Tryz.prog 11 #[.agg #[.slice a0 l0 c0,.int .i64 x.p.k,.int .i64 x.p.n,.slice a1 l1 c1,.slice a2 l2 c2,.slice a3 l3 c3,.slice a4 l4 c4,.slice a5 l5 c5],.agg #[.slice f0 l0 g0,.int .i64 x.p.k,.int .i64 x.p.n,.slice f1 l1 g1,.slice f2 l2 g2,.slice f3 l3 g3,.slice f4 l4 g4,.slice f5 l5 g5]] w fun e u=>e = .returned (.bool true)∧w.grownBy u none:=by
 have HN:Hid (∀ u,w.grownBy u none→RdSrc u x a0 l0 c0 a1 l1 c1 a2 l2 c2 a3 l3 c3 a4 l4 c4 a5 l5 c5∧RdSrc u x f0 l0 g0 f1 l1 g1 f2 l2 g2 f3 l3 g3 f4 l4 g4 f5 l5 g5):=fun u hu=>⟨h.none hu,h'.none hu⟩
 clear h h'
 obtain ⟨b0,b1,bsz⟩:=alloc2_blocks w (.cells #[.slice a0 l0 c0,.int .i64 x.p.k,.int .i64 x.p.n,.slice a1 l1 c1,.slice a2 l2 c2,.slice a3 l3 c3,.slice a4 l4 c4,.slice a5 l5 c5] 38) (.cells #[.slice f0 l0 g0,.int .i64 x.p.k,.int .i64 x.p.n,.slice f1 l1 g1,.slice f2 l2 g2,.slice f3 l3 g3,.slice f4 l4 g4,.slice f5 l5 g5] 38)
 have gg:=grown_alloc (grown_alloc (World.grownBy.refl w none) (.cells #[.slice a0 l0 c0,.int .i64 x.p.k,.int .i64 x.p.n,.slice a1 l1 c1,.slice a2 l2 c2,.slice a3 l3 c3,.slice a4 l4 c4,.slice a5 l5 c5] 38)) (.cells #[.slice f0 l0 g0,.int .i64 x.p.k,.int .i64 x.p.n,.slice f1 l1 g1,.slice f2 l2 g2,.slice f3 l3 g3,.slice f4 l4 g4,.slice f5 l5 g5] 38)
 have L0:Hid (w.grownBy _ none∧_=some (Obj.cells #[.slice a0 l0 c0,.int .i64 x.p.k,.int .i64 x.p.n,.slice a1 l1 c1,.slice a2 l2 c2,.slice a3 l3 c3,.slice a4 l4 c4,.slice a5 l5 c5] 38)∧_=some (Obj.cells #[.slice f0 l0 g0,.int .i64 x.p.k,.int .i64 x.p.n,.slice f1 l1 g1,.slice f2 l2 g2,.slice f3 l3 g3,.slice f4 l4 g4,.slice f5 l5 g5] 38)):=⟨gg,b0,b1⟩
 have C0:Hid _:=eqDasT x.ds a0 f0 l0 c0 g0 _ (HN.out _ gg).1.1.1 (HN.out _ gg).2.1.1 (by unfold szSrc at hs;omega)
 obtain ⟨⟨y0,y1,y2,y3,y4,y5,y6,y7⟩,-⟩:=blkSrc b0
 obtain ⟨⟨yy0,yy1,yy2,yy3,yy4,yy5,yy6,yy7⟩,-⟩:=blkSrc b1
 clear gg b0 b1 bsz
 go_enter Tryz.func11,Tryz.ntmps11
 go_wp2_with fail
 refine Calls.mono C0.out ?_
 rintro e u0 ⟨he,hg⟩
 subst he
 have L1:Hid (w.grownBy u0 none∧u0.heap[w.heap.size]? = some (Obj.cells #[.slice a0 l0 c0,.int .i64 x.p.k,.int .i64 x.p.n,.slice a1 l1 c1,.slice a2 l2 c2,.slice a3 l3 c3,.slice a4 l4 c4,.slice a5 l5 c5] 38)∧u0.heap[w.heap.size+1]? = some (Obj.cells #[.slice f0 l0 g0,.int .i64 x.p.k,.int .i64 x.p.n,.slice f1 l1 g1,.slice f2 l2 g2,.slice f3 l3 g3,.slice f4 l4 g4,.slice f5 l5 g5] 38)):=⟨grown_trans L0.out.1 hg,(hg.block _ (lt_of_block L0.out.2.1) (by simp)).trans L0.out.2.1,(hg.block _ (lt_of_block L0.out.2.2) (by simp)).trans L0.out.2.2⟩
 clear C0 hg L0 y0 y1 y2 y3 y4 y5 y6 y7 yy0 yy1 yy2 yy3 yy4 yy5 yy6 yy7
 have C1:Hid _:=eqET x.p x.kids x.alts a1 f1 l1 c1 g1 a2 f2 l2 c2 g2 a3 f3 l3 c3 g3 a4 f4 l4 c4 g4 a5 f5 l5 c5 g5 u0 (HN.out _ L1.out.1).1.2 (HN.out _ L1.out.1).2.2 (by unfold szSrc at hs;omega)
 obtain ⟨⟨y0,y1,y2,y3,y4,y5,y6,y7⟩,-⟩:=blkSrc L1.out.2.1
 obtain ⟨⟨yy0,yy1,yy2,yy3,yy4,yy5,yy6,yy7⟩,-⟩:=blkSrc L1.out.2.2
 simp only[]
 go_wp2_with fail
 refine Calls.mono C1.out ?_
 rintro e u1 ⟨he,hg⟩
 subst he
 have L2:Hid (w.grownBy u1 none):=grown_trans L1.out.1 hg
 clear C1 hg L1 y0 y1 y2 y3 y4 y5 y6 y7 yy0 yy1 yy2 yy3 yy4 yy5 yy6 yy7
 simp only[]
 go_wp2
 go_ret
 exact ⟨rfl,L2.out⟩
set_option maxRecDepth 8000 in
set_option maxHeartbeats 8000000 in
theorem toSrcT (x:RSrc) (a0:Option Addr) (l0 c0:Nat) (a1:Option Addr) (l1 c1:Nat) (a2:Option Addr) (l2 c2:Nat) (a3:Option Addr) (l3 c3:Nat) (a4:Option Addr) (l4 c4:Nat) (a5:Option Addr) (l5 c5:Nat) (w:World) (h:RdSrc w x a0 l0 c0 a1 l1 c1 a2 l2 c2 a3 l3 c3 a4 l4 c4 a5 l5 c5) (hs:szSrc x≤1048576) :
  Calls Tryz.prog 9 #[.agg #[.slice a0 l0 c0,.int .i64 x.p.k,.int .i64 x.p.n,.slice a1 l1 c1,.slice a2 l2 c2,.slice a3 l3 c3,.slice a4 l4 c4,.slice a5 l5 c5]] w fun e u=>∃ t0 w0 t1 w1 t2 w2 t3 w3 t4 w4 t5 w5,e = .returned (.agg #[.slice t0 l0 w0,.int .i64 x.p.k,.int .i64 x.p.n,.slice t1 l1 w1,.slice t2 l2 w2,.slice t3 l3 w3,.slice t4 l4 w4,.slice t5 l5 w5])∧w.grownBy u none∧RdSrc (hideZ u w.heap.size) x t0 l0 w0 t1 l1 w1 t2 l2 w2 t3 l3 w3 t4 l4 w4 t5 l5 w5:=by
 have HS:Hid (szSrc x≤1048576):=hs
 have HY:Hid (RdSrc w x a0 l0 c0 a1 l1 c1 a2 l2 c2 a3 l3 c3 a4 l4 c4 a5 l5 c5):=h
 have HN:Hid (∀ u,w.grownBy u none→RdSrc u x a0 l0 c0 a1 l1 c1 a2 l2 c2 a3 l3 c3 a4 l4 c4 a5 l5 c5):=fun u hu=>h.none hu
 clear h hs
 obtain ⟨b0,b1,b2,bsz⟩:=alloc3_blocks w (.cells #[.slice a0 l0 c0,.int .i64 x.p.k,.int .i64 x.p.n,.slice a1 l1 c1,.slice a2 l2 c2,.slice a3 l3 c3,.slice a4 l4 c4,.slice a5 l5 c5] 29) (.cells #[.slice none 0 0,.int .i64 0,.int .i64 0,.slice none 0 0,.slice none 0 0,.slice none 0 0,.slice none 0 0,.slice none 0 0] 38) (.cells #[.slice none 0 0,.int .i64 0,.int .i64 0,.slice none 0 0,.slice none 0 0,.slice none 0 0,.slice none 0 0,.slice none 0 0] 38)
 have g0:=grown_alloc (grown_alloc (grown_alloc (World.grownBy.refl w none) (.cells #[.slice a0 l0 c0,.int .i64 x.p.k,.int .i64 x.p.n,.slice a1 l1 c1,.slice a2 l2 c2,.slice a3 l3 c3,.slice a4 l4 c4,.slice a5 l5 c5] 29)) (.cells #[.slice none 0 0,.int .i64 0,.int .i64 0,.slice none 0 0,.slice none 0 0,.slice none 0 0,.slice none 0 0,.slice none 0 0] 38)) (.cells #[.slice none 0 0,.int .i64 0,.int .i64 0,.slice none 0 0,.slice none 0 0,.slice none 0 0,.slice none 0 0,.slice none 0 0] 38)
 have L0:Hid (w.grownBy _ none∧_=some (Obj.cells #[.slice a0 l0 c0,.int .i64 x.p.k,.int .i64 x.p.n,.slice a1 l1 c1,.slice a2 l2 c2,.slice a3 l3 c3,.slice a4 l4 c4,.slice a5 l5 c5] 29)∧_=some (Obj.cells #[.slice none 0 0,.int .i64 0,.int .i64 0,.slice none 0 0,.slice none 0 0,.slice none 0 0,.slice none 0 0,.slice none 0 0] 38)∧_=some (Obj.cells #[.slice none 0 0,.int .i64 0,.int .i64 0,.slice none 0 0,.slice none 0 0,.slice none 0 0,.slice none 0 0,.slice none 0 0] 38)∧_=w.heap.size+1+1+1):=⟨g0,b0,b1,b2,bsz⟩
 have C0:Hid _:=toDasT x.ds a0 l0 c0 _ (HN.out _ g0).1.1 (by have:=HS.out;unfold szSrc at *;omega)
 obtain ⟨⟨y0,y1,y2,y3,y4,y5,y6,y7⟩,-⟩:=blkSrc b0
 clear g0 b0 b1 b2 bsz
 go_enter Tryz.func9,Tryz.ntmps9
 go_wp2_with fail
 refine Calls.mono C0.out ?_
 rintro e u0 ⟨r0,s0,he,hg,hN,hlc⟩
 subst he
 obtain ⟨gv,ck0,ck1,ck2,hsz⟩:=L0.out
 have dk0:=(hg.block _ (lt_of_block ck0) (by simp)).trans ck0
 have dk1:=(hg.block _ (lt_of_block ck1) (by simp)).trans ck1
 have dk2:=(hg.block _ (lt_of_block ck2) (by simp)).trans ck2
 have g2:=grown_trans gv hg
 have hlo:=Nat.le_of_eq hsz.symm
 have hhs:=hg.size
 generalize ee0:w.heap.size=p0 at *
 generalize ee1:p0+1=p1 at *
 generalize ee2:p1+1=p2 at *
 have nw0:=(show SlDc _ r0 l0 s0 x.ds from ⟨hN.le (hiz_low (lo':=p2+1) hlo),hlc⟩)
 clear C0 L0 gv ck0 ck1 ck2 hsz hg hN hlc hlo hhs y0 y1 y2 y3 y4 y5 y6 y7
 have n02:p0≠p2:=by omega
 have n12:p1≠p2:=by omega
 have n01:p0≠p1:=by omega
 have kS0:u0.grownBy (u0.setCell ⟨p2,0,none⟩ (.slice r0 l0 s0)) (some p2):=grown_trans (World.grownBy.refl _ _) (grown_setCell _ _ _ _)
 have dd0_0:(u0.setCell ⟨p2,0,none⟩ (.slice r0 l0 s0)).heap[p2]? = some (Obj.cells #[.slice r0 l0 s0,.int .i64 0,.int .i64 0,.slice none 0 0,.slice none 0 0,.slice none 0 0,.slice none 0 0,.slice none 0 0] 38):=heap_setCell_same _ p2 0 _ _ (.slice r0 l0 s0) dk2
 have m2:(u0.setCell ⟨p2,0,none⟩ (.slice r0 l0 s0)).heap[p2]? = some (Obj.cells #[.slice r0 l0 s0,.int .i64 0,.int .i64 0,.slice none 0 0,.slice none 0 0,.slice none 0 0,.slice none 0 0,.slice none 0 0] 38):=dd0_0
 have m1:=(kS0.block _ (lt_of_block dk1) (by simp;omega)).trans dk1
 have m0:=(kS0.block _ (lt_of_block dk0) (by simp;omega)).trans dk0
 have gv:w.grownBy (u0.setCell ⟨p2,0,none⟩ (.slice r0 l0 s0)) none:=grown_into g2 kS0 (by omega)
 have hcl:CLe (hideZ u0 (p2+1)) (hideZ (u0.setCell ⟨p2,0,none⟩ (.slice r0 l0 s0)) (p2+1)):=hiz_into kS0 (by omega)
 have L1:Hid (w.grownBy (u0.setCell ⟨p2,0,none⟩ (.slice r0 l0 s0)) none∧(u0.setCell ⟨p2,0,none⟩ (.slice r0 l0 s0)).heap[p0]? = some (Obj.cells #[.slice a0 l0 c0,.int .i64 x.p.k,.int .i64 x.p.n,.slice a1 l1 c1,.slice a2 l2 c2,.slice a3 l3 c3,.slice a4 l4 c4,.slice a5 l5 c5] 29)∧(u0.setCell ⟨p2,0,none⟩ (.slice r0 l0 s0)).heap[p1]? = some (Obj.cells #[.slice none 0 0,.int .i64 0,.int .i64 0,.slice none 0 0,.slice none 0 0,.slice none 0 0,.slice none 0 0,.slice none 0 0] 38)∧(u0.setCell ⟨p2,0,none⟩ (.slice r0 l0 s0)).heap[p2]? = some (Obj.cells #[.slice r0 l0 s0,.int .i64 0,.int .i64 0,.slice none 0 0,.slice none 0 0,.slice none 0 0,.slice none 0 0,.slice none 0 0] 38)∧(w.heap.size=p0∧p0+1=p1∧p1+1=p2)∧SlDc (hideZ (u0.setCell ⟨p2,0,none⟩ (.slice r0 l0 s0)) (p2+1)) r0 l0 s0 x.ds):=⟨gv,m0,m1,m2,⟨ee0,ee1,ee2⟩,nw0.le hcl⟩
 have C1:Hid _:=toET x.p x.kids x.alts a1 l1 c1 a2 l2 c2 a3 l3 c3 a4 l4 c4 a5 l5 c5 (u0.setCell ⟨p2,0,none⟩ (.slice r0 l0 s0)) (HN.out (u0.setCell ⟨p2,0,none⟩ (.slice r0 l0 s0)) gv).2 (by have:=HS.out;unfold szSrc at *;omega)
 obtain ⟨⟨y0,y1,y2,y3,y4,y5,y6,y7⟩,-⟩:=blkSrc dk0
 obtain ⟨⟨zz0,zz1,zz2,zz3,zz4,zz5,zz6,zz7⟩,hfz⟩:=blkSrc dk2
 have ff0:=hfz 0
 clear kS0 dd0_0 m2 m1 m0 gv hcl dk0 dk1 dk2 g2 ee0 ee1 ee2 hfz nw0
 simp only[]
 go_wp2_with fail
 refine Calls.mono C1.out ?_
 rintro e u1 ⟨r1,s1,r2,s2,r3,s3,r4,s4,r5,s5,he,hg,hN⟩
 subst he
 obtain ⟨gv,ck0,ck1,ck2,⟨ee0,ee1,ee2⟩,ow0⟩:=L1.out
 have dk0:=(hg.block _ (lt_of_block ck0) (by simp)).trans ck0
 have dk1:=(hg.block _ (lt_of_block ck1) (by simp)).trans ck1
 have dk2:=(hg.block _ (lt_of_block ck2) (by simp)).trans ck2
 have g2:=grown_trans gv hg
 have hlo:p2+1≤(u0.setCell ⟨p2,0,none⟩ (.slice r0 l0 s0)).heap.size:=lt_of_block ck2
 have hhs:=hg.size
 have nw1:=hN.le (hiz_low (lo':=p2+1) hlo)
 have nw0:=ow0.le (hiz_grown (lo:=p2+1) hg)
 clear C1 L1 gv ck0 ck1 ck2 hg hN hlo hhs ow0 y0 y1 y2 y3 y4 y5 y6 y7 zz0 zz1 zz2 zz3 zz4 zz5 zz6 zz7 ff0
 have kS1:u1.grownBy (((((((u1.setCell ⟨p2,1,none⟩ (.int .i64 x.p.k)).setCell ⟨p2,2,none⟩ (.int .i64 x.p.n)).setCell ⟨p2,3,none⟩ (.slice r1 l1 s1)).setCell ⟨p2,4,none⟩ (.slice r2 l2 s2)).setCell ⟨p2,5,none⟩ (.slice r3 l3 s3)).setCell ⟨p2,6,none⟩ (.slice r4 l4 s4)).setCell ⟨p2,7,none⟩ (.slice r5 l5 s5)) (some p2):=grown_trans (grown_trans (grown_trans (grown_trans (grown_trans (grown_trans (grown_trans (World.grownBy.refl _ _) (grown_setCell _ _ _ _)) (grown_setCell _ _ _ _)) (grown_setCell _ _ _ _)) (grown_setCell _ _ _ _)) (grown_setCell _ _ _ _)) (grown_setCell _ _ _ _)) (grown_setCell _ _ _ _)
 have dd1_0:(u1.setCell ⟨p2,1,none⟩ (.int .i64 x.p.k)).heap[p2]? = some (Obj.cells #[.slice r0 l0 s0,.int .i64 x.p.k,.int .i64 0,.slice none 0 0,.slice none 0 0,.slice none 0 0,.slice none 0 0,.slice none 0 0] 38):=heap_setCell_same _ p2 1 _ _ (.int .i64 x.p.k) dk2
 have dd1_1:((u1.setCell ⟨p2,1,none⟩ (.int .i64 x.p.k)).setCell ⟨p2,2,none⟩ (.int .i64 x.p.n)).heap[p2]? = some (Obj.cells #[.slice r0 l0 s0,.int .i64 x.p.k,.int .i64 x.p.n,.slice none 0 0,.slice none 0 0,.slice none 0 0,.slice none 0 0,.slice none 0 0] 38):=heap_setCell_same _ p2 2 _ _ (.int .i64 x.p.n) dd1_0
 have dd1_2:(((u1.setCell ⟨p2,1,none⟩ (.int .i64 x.p.k)).setCell ⟨p2,2,none⟩ (.int .i64 x.p.n)).setCell ⟨p2,3,none⟩ (.slice r1 l1 s1)).heap[p2]? = some (Obj.cells #[.slice r0 l0 s0,.int .i64 x.p.k,.int .i64 x.p.n,.slice r1 l1 s1,.slice none 0 0,.slice none 0 0,.slice none 0 0,.slice none 0 0] 38):=heap_setCell_same _ p2 3 _ _ (.slice r1 l1 s1) dd1_1
 have dd1_3:((((u1.setCell ⟨p2,1,none⟩ (.int .i64 x.p.k)).setCell ⟨p2,2,none⟩ (.int .i64 x.p.n)).setCell ⟨p2,3,none⟩ (.slice r1 l1 s1)).setCell ⟨p2,4,none⟩ (.slice r2 l2 s2)).heap[p2]? = some (Obj.cells #[.slice r0 l0 s0,.int .i64 x.p.k,.int .i64 x.p.n,.slice r1 l1 s1,.slice r2 l2 s2,.slice none 0 0,.slice none 0 0,.slice none 0 0] 38):=heap_setCell_same _ p2 4 _ _ (.slice r2 l2 s2) dd1_2
 have dd1_4:(((((u1.setCell ⟨p2,1,none⟩ (.int .i64 x.p.k)).setCell ⟨p2,2,none⟩ (.int .i64 x.p.n)).setCell ⟨p2,3,none⟩ (.slice r1 l1 s1)).setCell ⟨p2,4,none⟩ (.slice r2 l2 s2)).setCell ⟨p2,5,none⟩ (.slice r3 l3 s3)).heap[p2]? = some (Obj.cells #[.slice r0 l0 s0,.int .i64 x.p.k,.int .i64 x.p.n,.slice r1 l1 s1,.slice r2 l2 s2,.slice r3 l3 s3,.slice none 0 0,.slice none 0 0] 38):=heap_setCell_same _ p2 5 _ _ (.slice r3 l3 s3) dd1_3
 have dd1_5:((((((u1.setCell ⟨p2,1,none⟩ (.int .i64 x.p.k)).setCell ⟨p2,2,none⟩ (.int .i64 x.p.n)).setCell ⟨p2,3,none⟩ (.slice r1 l1 s1)).setCell ⟨p2,4,none⟩ (.slice r2 l2 s2)).setCell ⟨p2,5,none⟩ (.slice r3 l3 s3)).setCell ⟨p2,6,none⟩ (.slice r4 l4 s4)).heap[p2]? = some (Obj.cells #[.slice r0 l0 s0,.int .i64 x.p.k,.int .i64 x.p.n,.slice r1 l1 s1,.slice r2 l2 s2,.slice r3 l3 s3,.slice r4 l4 s4,.slice none 0 0] 38):=heap_setCell_same _ p2 6 _ _ (.slice r4 l4 s4) dd1_4
 have dd1_6:(((((((u1.setCell ⟨p2,1,none⟩ (.int .i64 x.p.k)).setCell ⟨p2,2,none⟩ (.int .i64 x.p.n)).setCell ⟨p2,3,none⟩ (.slice r1 l1 s1)).setCell ⟨p2,4,none⟩ (.slice r2 l2 s2)).setCell ⟨p2,5,none⟩ (.slice r3 l3 s3)).setCell ⟨p2,6,none⟩ (.slice r4 l4 s4)).setCell ⟨p2,7,none⟩ (.slice r5 l5 s5)).heap[p2]? = some (Obj.cells #[.slice r0 l0 s0,.int .i64 x.p.k,.int .i64 x.p.n,.slice r1 l1 s1,.slice r2 l2 s2,.slice r3 l3 s3,.slice r4 l4 s4,.slice r5 l5 s5] 38):=heap_setCell_same _ p2 7 _ _ (.slice r5 l5 s5) dd1_5
 have m2:(((((((u1.setCell ⟨p2,1,none⟩ (.int .i64 x.p.k)).setCell ⟨p2,2,none⟩ (.int .i64 x.p.n)).setCell ⟨p2,3,none⟩ (.slice r1 l1 s1)).setCell ⟨p2,4,none⟩ (.slice r2 l2 s2)).setCell ⟨p2,5,none⟩ (.slice r3 l3 s3)).setCell ⟨p2,6,none⟩ (.slice r4 l4 s4)).setCell ⟨p2,7,none⟩ (.slice r5 l5 s5)).heap[p2]? = some (Obj.cells #[.slice r0 l0 s0,.int .i64 x.p.k,.int .i64 x.p.n,.slice r1 l1 s1,.slice r2 l2 s2,.slice r3 l3 s3,.slice r4 l4 s4,.slice r5 l5 s5] 38):=dd1_6
 have m1:=(kS1.block _ (lt_of_block dk1) (by simp;omega)).trans dk1
 have m0:=(kS1.block _ (lt_of_block dk0) (by simp;omega)).trans dk0
 have gv:w.grownBy (((((((u1.setCell ⟨p2,1,none⟩ (.int .i64 x.p.k)).setCell ⟨p2,2,none⟩ (.int .i64 x.p.n)).setCell ⟨p2,3,none⟩ (.slice r1 l1 s1)).setCell ⟨p2,4,none⟩ (.slice r2 l2 s2)).setCell ⟨p2,5,none⟩ (.slice r3 l3 s3)).setCell ⟨p2,6,none⟩ (.slice r4 l4 s4)).setCell ⟨p2,7,none⟩ (.slice r5 l5 s5)) none:=grown_into g2 kS1 (by omega)
 have hcl:CLe (hideZ u1 (p2+1)) (hideZ (((((((u1.setCell ⟨p2,1,none⟩ (.int .i64 x.p.k)).setCell ⟨p2,2,none⟩ (.int .i64 x.p.n)).setCell ⟨p2,3,none⟩ (.slice r1 l1 s1)).setCell ⟨p2,4,none⟩ (.slice r2 l2 s2)).setCell ⟨p2,5,none⟩ (.slice r3 l3 s3)).setCell ⟨p2,6,none⟩ (.slice r4 l4 s4)).setCell ⟨p2,7,none⟩ (.slice r5 l5 s5)) (p2+1)):=hiz_into kS1 (by omega)
 have L2:Hid (w.grownBy (((((((u1.setCell ⟨p2,1,none⟩ (.int .i64 x.p.k)).setCell ⟨p2,2,none⟩ (.int .i64 x.p.n)).setCell ⟨p2,3,none⟩ (.slice r1 l1 s1)).setCell ⟨p2,4,none⟩ (.slice r2 l2 s2)).setCell ⟨p2,5,none⟩ (.slice r3 l3 s3)).setCell ⟨p2,6,none⟩ (.slice r4 l4 s4)).setCell ⟨p2,7,none⟩ (.slice r5 l5 s5)) none∧(((((((u1.setCell ⟨p2,1,none⟩ (.int .i64 x.p.k)).setCell ⟨p2,2,none⟩ (.int .i64 x.p.n)).setCell ⟨p2,3,none⟩ (.slice r1 l1 s1)).setCell ⟨p2,4,none⟩ (.slice r2 l2 s2)).setCell ⟨p2,5,none⟩ (.slice r3 l3 s3)).setCell ⟨p2,6,none⟩ (.slice r4 l4 s4)).setCell ⟨p2,7,none⟩ (.slice r5 l5 s5)).heap[p0]? = some (Obj.cells #[.slice a0 l0 c0,.int .i64 x.p.k,.int .i64 x.p.n,.slice a1 l1 c1,.slice a2 l2 c2,.slice a3 l3 c3,.slice a4 l4 c4,.slice a5 l5 c5] 29)∧(((((((u1.setCell ⟨p2,1,none⟩ (.int .i64 x.p.k)).setCell ⟨p2,2,none⟩ (.int .i64 x.p.n)).setCell ⟨p2,3,none⟩ (.slice r1 l1 s1)).setCell ⟨p2,4,none⟩ (.slice r2 l2 s2)).setCell ⟨p2,5,none⟩ (.slice r3 l3 s3)).setCell ⟨p2,6,none⟩ (.slice r4 l4 s4)).setCell ⟨p2,7,none⟩ (.slice r5 l5 s5)).heap[p1]? = some (Obj.cells #[.slice none 0 0,.int .i64 0,.int .i64 0,.slice none 0 0,.slice none 0 0,.slice none 0 0,.slice none 0 0,.slice none 0 0] 38)∧(((((((u1.setCell ⟨p2,1,none⟩ (.int .i64 x.p.k)).setCell ⟨p2,2,none⟩ (.int .i64 x.p.n)).setCell ⟨p2,3,none⟩ (.slice r1 l1 s1)).setCell ⟨p2,4,none⟩ (.slice r2 l2 s2)).setCell ⟨p2,5,none⟩ (.slice r3 l3 s3)).setCell ⟨p2,6,none⟩ (.slice r4 l4 s4)).setCell ⟨p2,7,none⟩ (.slice r5 l5 s5)).heap[p2]? = some (Obj.cells #[.slice r0 l0 s0,.int .i64 x.p.k,.int .i64 x.p.n,.slice r1 l1 s1,.slice r2 l2 s2,.slice r3 l3 s3,.slice r4 l4 s4,.slice r5 l5 s5] 38)∧(w.heap.size=p0∧p0+1=p1∧p1+1=p2)∧SlDc (hideZ (((((((u1.setCell ⟨p2,1,none⟩ (.int .i64 x.p.k)).setCell ⟨p2,2,none⟩ (.int .i64 x.p.n)).setCell ⟨p2,3,none⟩ (.slice r1 l1 s1)).setCell ⟨p2,4,none⟩ (.slice r2 l2 s2)).setCell ⟨p2,5,none⟩ (.slice r3 l3 s3)).setCell ⟨p2,6,none⟩ (.slice r4 l4 s4)).setCell ⟨p2,7,none⟩ (.slice r5 l5 s5)) (p2+1)) r0 l0 s0 x.ds∧NdE (hideZ (((((((u1.setCell ⟨p2,1,none⟩ (.int .i64 x.p.k)).setCell ⟨p2,2,none⟩ (.int .i64 x.p.n)).setCell ⟨p2,3,none⟩ (.slice r1 l1 s1)).setCell ⟨p2,4,none⟩ (.slice r2 l2 s2)).setCell ⟨p2,5,none⟩ (.slice r3 l3 s3)).setCell ⟨p2,6,none⟩ (.slice r4 l4 s4)).setCell ⟨p2,7,none⟩ (.slice r5 l5 s5)) (p2+1)) x.p x.kids x.alts r1 l1 s1 r2 l2 s2 r3 l3 s3 r4 l4 s4 r5 l5 s5):=⟨gv,m0,m1,m2,⟨ee0,ee1,ee2⟩,nw0.le hcl,nw1.le hcl⟩
 obtain ⟨mf,kf⟩:=fillSrc (.slice r0 l0 s0) (.int .i64 x.p.k) (.int .i64 x.p.n) (.slice r1 l1 s1) (.slice r2 l2 s2) (.slice r3 l3 s3) (.slice r4 l4 s4) (.slice r5 l5 s5) m1
 have GF:=grown_into gv kf (by omega)
 have hcf:=hiz_into (lo:=p2+1) kf (by omega)
 have FQ:Hid _:=And.intro mf (And.intro GF (show RdSrc (hideZ _ p0) x r0 l0 s0 r1 l1 s1 r2 l2 s2 r3 l3 s3 r4 l4 s4 r5 l5 s5 from ⟨((nw0.le hcl).le hcf).le (hiz_low (lo:=p2+1) (lo':=p0) (by omega)),((nw1.le hcl).le hcf).le (hiz_low (lo:=p2+1) (lo':=p0) (by omega))⟩))
 obtain ⟨⟨y0,y1,y2,y3,y4,y5,y6,y7⟩,-⟩:=blkSrc dk0
 obtain ⟨⟨zz0,zz1,zz2,zz3,zz4,zz5,zz6,zz7⟩,hfz⟩:=blkSrc dk2
 have ff0:=hfz 1
 have ff1:=hfz 2
 have ff2:=hfz 3
 have ff3:=hfz 4
 have ff4:=hfz 5
 have ff5:=hfz 6
 have ff6:=hfz 7
 have MM:Hid ((((((((u1.setCell ⟨p2,1,none⟩ (.int .i64 x.p.k)).setCell ⟨p2,2,none⟩ (.int .i64 x.p.n)).setCell ⟨p2,3,none⟩ (.slice r1 l1 s1)).setCell ⟨p2,4,none⟩ (.slice r2 l2 s2)).setCell ⟨p2,5,none⟩ (.slice r3 l3 s3)).setCell ⟨p2,6,none⟩ (.slice r4 l4 s4)).setCell ⟨p2,7,none⟩ (.slice r5 l5 s5)).heap[p2]? = some (Obj.cells #[.slice r0 l0 s0,.int .i64 x.p.k,.int .i64 x.p.n,.slice r1 l1 s1,.slice r2 l2 s2,.slice r3 l3 s3,.slice r4 l4 s4,.slice r5 l5 s5] 38)∧(((((((u1.setCell ⟨p2,1,none⟩ (.int .i64 x.p.k)).setCell ⟨p2,2,none⟩ (.int .i64 x.p.n)).setCell ⟨p2,3,none⟩ (.slice r1 l1 s1)).setCell ⟨p2,4,none⟩ (.slice r2 l2 s2)).setCell ⟨p2,5,none⟩ (.slice r3 l3 s3)).setCell ⟨p2,6,none⟩ (.slice r4 l4 s4)).setCell ⟨p2,7,none⟩ (.slice r5 l5 s5)).heap[p1]? = some (Obj.cells #[.slice none 0 0,.int .i64 0,.int .i64 0,.slice none 0 0,.slice none 0 0,.slice none 0 0,.slice none 0 0,.slice none 0 0] 38)):=⟨m2,m1⟩
 clear kS1 dd1_0 dd1_1 dd1_2 dd1_3 dd1_4 dd1_5 dd1_6 m2 m1 m0 gv hcl dk0 dk1 dk2 g2 hfz  nw0 nw1 mf kf GF hcf L2
 have p12:p2≠p1:=by omega
 simp only[]
 go_upto_region 4 with fail
 clear y0 y1 y2 y3 y4 y5 y6 y7 zz0 zz1 zz2 zz3 zz4 zz5 zz6 zz7 ff0 ff1 ff2 ff3 ff4 ff5 ff6
 generalize (((((((u1.setCell ⟨p2,1,none⟩ (.int .i64 x.p.k)).setCell ⟨p2,2,none⟩ (.int .i64 x.p.n)).setCell ⟨p2,3,none⟩ (.slice r1 l1 s1)).setCell ⟨p2,4,none⟩ (.slice r2 l2 s2)).setCell ⟨p2,5,none⟩ (.slice r3 l3 s3)).setCell ⟨p2,6,none⟩ (.slice r4 l4 s4)).setCell ⟨p2,7,none⟩ (.slice r5 l5 s5))=v at *
 obtain ⟨⟨zz0,zz1,zz2,zz3,zz4,zz5,zz6,zz7⟩,-⟩:=blkSrc MM.out.1
 obtain ⟨⟨x0,x1,x2,x3,x4,x5,x6,x7⟩,hfx⟩:=blkSrc MM.out.2
 have fx0:=hfx 0
 have fx1:=hfx 1
 have fx2:=hfx 2
 have fx3:=hfx 3
 have fx4:=hfx 4
 have fx5:=hfx 5
 have fx6:=hfx 6
 have fx7:=hfx 7
 clear hfx MM
 go_wp2
 (try simp only[Exit.inBlock,Exit.then])
 refine bodyPost_ret (results_cell_row (P:=Tryz.prog) Tryz.results9 _ _ p1 _ _ _ _ rfl FQ.out.1 Tryz.underlying38 rfl (by kernel_rfl)) rfl ?_
 refine ⟨r0,s0,r1,s1,r2,s2,r3,s3,r4,s4,r5,s5,rfl,?_⟩
 rw[ee0]
 exact FQ.out.2
end Go.Proofs.YtblbnillilbacaaGreatDoor.By
