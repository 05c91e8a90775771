/-
 Several texts in one (GHE, HMk, HHelp, GCEa). No statement is proved here.
-/
import Derived.Test.YtblbnillilbacaaGreatDoorGBEAlso
import Derived.Test.YtblbnillilbacaaGreatDoorGWAlso
import Derived.Test.YtblbnillilbacaaGreatDoorRows
import Derived.Test.YtblbnillilbacaaGreatDoorHBaseAlso
import Derived.WalkKit
import Derived.ProofKit
import Derived.WalkSpells
import Derived.RegionTactic
import Derived.Deep.QuietTactic
import Derived.BigQuiet
import Derived.Test.YtblbnillilbacaaGreatDoorECAlso
import Derived.Deep.DeepCutAuto
namespace Go.Proofs.YtblbnillilbacaaGreatDoor.By
open Go.RowKit
set_option linter.unusedVariables false
set_option linter.unusedSimpArgs false
theorem blkE {w:World} {g:Nat} {t:TypeId} {v0 v1 v2 v3 v4 v5 v6:Value} (h:w.heap[g]? = some (.cells #[v0,v1,v2,v3,v4,v5,v6] t (0,0))):(w.cell? ⟨g,0,none⟩=some v0∧w.cell? ⟨g,1,none⟩=some v1∧w.cell? ⟨g,2,none⟩=some v2∧w.cell? ⟨g,3,none⟩=some v3∧w.cell? ⟨g,4,none⟩=some v4∧w.cell? ⟨g,5,none⟩=some v5∧w.cell? ⟨g,6,none⟩=some v6)∧∀ j,w.frozen? ⟨g,j,none⟩=false:=by
 refine ⟨⟨?_,?_,?_,?_,?_,?_,?_⟩,fun j=>frozen_of_row w g _ _ t h⟩ <;> (rw[cell_of_row w g _ _ t (0,0) h];rfl)
theorem blkEA {w:World} {g:Nat} {t:TypeId} {v0 v1 v2 v3 v4 v5 v6 v7 v8:Value} (h:w.heap[g]? = some (.cells #[v0,v1,v2,v3,v4,v5,v6,v7,v8] t (0,0))):(w.cell? ⟨g,0,none⟩=some v0∧w.cell? ⟨g,1,none⟩=some v1∧w.cell? ⟨g,2,none⟩=some v2∧w.cell? ⟨g,3,none⟩=some v3∧w.cell? ⟨g,4,none⟩=some v4∧w.cell? ⟨g,5,none⟩=some v5∧w.cell? ⟨g,6,none⟩=some v6∧w.cell? ⟨g,7,none⟩=some v7∧w.cell? ⟨g,8,none⟩=some v8)∧∀ j,w.frozen? ⟨g,j,none⟩=false:=by
 refine ⟨⟨?_,?_,?_,?_,?_,?_,?_,?_,?_⟩,fun j=>frozen_of_row w g _ _ t h⟩ <;> (rw[cell_of_row w g _ _ t (0,0) h];rfl)
set_option maxRecDepth 4000 in
set_option maxHeartbeats 4000000 in
theorem szET_of (p:PE) (kids alts:GE) (a1:Option Addr) (l1 c1:Nat) (a2:Option Addr) (l2 c2:Nat) (a3:Option Addr) (l3 c3:Nat) (a4:Option Addr) (l4 c4:Nat) (a5:Option Addr) (l5 c5:Nat) (L:Int) (w:World) (h:NdE w p kids alts a1 l1 c1 a2 l2 c2 a3 l3 c3 a4 l4 c4 a5 l5 c5) (h0:0≤L) (h1:L≤1048576)
  (Hk:∀ u L,w.grownBy u none→0≤L→L≤1048576→Calls Tryz.prog 42 #[.slice a4 l4 c4,.int .i64 L] u fun e v=>SzW L kids.size e∧u.grownBy v none)
  (Ha:∀ u L,w.grownBy u none→0≤L→L≤1048576→Calls Tryz.prog 43 #[.slice a5 l5 c5,.int .i64 L] u fun e v=>SzW L alts.size e∧u.grownBy v none) :
  Calls Tryz.prog 23 #[.agg #[.int .i64 p.k,.int .i64 p.n,.slice a1 l1 c1,.slice a2 l2 c2,.slice a3 l3 c3,.slice a4 l4 c4,.slice a5 l5 c5],.int .i64 L] w fun e u=>SzW L (szPE p+kids.size+alts.size) e∧w.grownBy u none:=by
 have g0:=World.grownBy_alloc w (.cells #[.int .i64 p.k,.int .i64 p.n,.slice a1 l1 c1,.slice a2 l2 c2,.slice a3 l3 c3,.slice a4 l4 c4,.slice a5 l5 c5] 27) none
 have b0:=heap_alloc_new w (.cells #[.int .i64 p.k,.int .i64 p.n,.slice a1 l1 c1,.slice a2 l2 c2,.slice a3 l3 c3,.slice a4 l4 c4,.slice a5 l5 c5] 27)
 have HK:Hid _:=Hk
 have HA:Hid _:=Ha
 have HN:Hid (∀ u,w.grownBy u none→NdE u p kids alts a1 l1 c1 a2 l2 c2 a3 l3 c3 a4 l4 c4 a5 l5 c5):=fun u hu=>h.none hu
 clear Hk Ha h
 have L0:Hid (w.grownBy _ none∧_=some (Obj.cells #[.int .i64 p.k,.int .i64 p.n,.slice a1 l1 c1,.slice a2 l2 c2,.slice a3 l3 c3,.slice a4 l4 c4,.slice a5 l5 c5] 27)):=⟨g0,b0⟩
 have C0:Hid _:=szByW a1 l1 c1 (p.name) L _ ((HN.out _ g0).1) h0 h1
 obtain ⟨⟨y0,y1,y2,y3,y4,y5,y6⟩,-⟩:=blkE b0
 clear g0 b0
 go_enter Tryz.func23,Tryz.ntmps23
 go_wp2_with fail
 refine Calls.mono C0.out ?_
 rintro e u0 ⟨⟨r0,he,hr⟩,hg⟩
 subst he
 have L1:Hid (w.grownBy u0 none∧u0.heap[w.heap.size]? = some (Obj.cells #[.int .i64 p.k,.int .i64 p.n,.slice a1 l1 c1,.slice a2 l2 c2,.slice a3 l3 c3,.slice a4 l4 c4,.slice a5 l5 c5] 27)):=⟨grown_trans L0.out.1 hg,(hg.block _ (lt_of_block L0.out.2) (by simp)).trans L0.out.2⟩
 clear C0 hg L0 y0 y1 y2 y3 y4 y5 y6
 simp only[]
 rcases hr with rfl|⟨hr0,hs0⟩
 ·
  go_wp2
  go_ret
  exact ⟨⟨-1,rfl,.inl rfl⟩,L1.out.1⟩
 have C1:Hid _:=szByW a2 l2 c2 (p.arg) r0 u0 ((HN.out _ L1.out.1).2.1) hr0 (by omega)
 obtain ⟨⟨y0,y1,y2,y3,y4,y5,y6⟩,-⟩:=blkE L1.out.2
 go_wp2_with fail
 refine Calls.mono C1.out ?_
 rintro e u1 ⟨⟨r1,he,hr⟩,hg⟩
 subst he
 have L2:Hid (w.grownBy u1 none∧u1.heap[w.heap.size]? = some (Obj.cells #[.int .i64 p.k,.int .i64 p.n,.slice a1 l1 c1,.slice a2 l2 c2,.slice a3 l3 c3,.slice a4 l4 c4,.slice a5 l5 c5] 27)):=⟨grown_trans L1.out.1 hg,(hg.block _ (lt_of_block L1.out.2) (by simp)).trans L1.out.2⟩
 clear C1 hg L1 y0 y1 y2 y3 y4 y5 y6
 simp only[]
 rcases hr with rfl|⟨hr1,hs1⟩
 ·
  go_wp2
  go_ret
  exact ⟨⟨-1,rfl,.inl rfl⟩,L2.out.1⟩
 have C2:Hid _:=szByW a3 l3 c3 (p.lit) r1 u1 ((HN.out _ L2.out.1).2.2.1) hr1 (by omega)
 obtain ⟨⟨y0,y1,y2,y3,y4,y5,y6⟩,-⟩:=blkE L2.out.2
 go_wp2_with fail
 refine Calls.mono C2.out ?_
 rintro e u2 ⟨⟨r2,he,hr⟩,hg⟩
 subst he
 have L3:Hid (w.grownBy u2 none∧u2.heap[w.heap.size]? = some (Obj.cells #[.int .i64 p.k,.int .i64 p.n,.slice a1 l1 c1,.slice a2 l2 c2,.slice a3 l3 c3,.slice a4 l4 c4,.slice a5 l5 c5] 27)):=⟨grown_trans L2.out.1 hg,(hg.block _ (lt_of_block L2.out.2) (by simp)).trans L2.out.2⟩
 clear C2 hg L2 y0 y1 y2 y3 y4 y5 y6
 simp only[]
 rcases hr with rfl|⟨hr2,hs2⟩
 ·
  go_wp2
  go_ret
  exact ⟨⟨-1,rfl,.inl rfl⟩,L3.out.1⟩
 have C3:Hid _:=HK.out u2 r2 L3.out.1 hr2 (by omega)
 obtain ⟨⟨y0,y1,y2,y3,y4,y5,y6⟩,-⟩:=blkE L3.out.2
 go_wp2_with fail
 refine Calls.mono C3.out ?_
 rintro e u3 ⟨⟨r3,he,hr⟩,hg⟩
 subst he
 have L4:Hid (w.grownBy u3 none∧u3.heap[w.heap.size]? = some (Obj.cells #[.int .i64 p.k,.int .i64 p.n,.slice a1 l1 c1,.slice a2 l2 c2,.slice a3 l3 c3,.slice a4 l4 c4,.slice a5 l5 c5] 27)):=⟨grown_trans L3.out.1 hg,(hg.block _ (lt_of_block L3.out.2) (by simp)).trans L3.out.2⟩
 clear C3 hg L3 y0 y1 y2 y3 y4 y5 y6
 simp only[]
 rcases hr with rfl|⟨hr3,hs3⟩
 ·
  go_wp2
  go_ret
  exact ⟨⟨-1,rfl,.inl rfl⟩,L4.out.1⟩
 have C4:Hid _:=HA.out u3 r3 L4.out.1 hr3 (by omega)
 obtain ⟨⟨y0,y1,y2,y3,y4,y5,y6⟩,-⟩:=blkE L4.out.2
 go_wp2_with fail
 refine Calls.mono C4.out ?_
 rintro e u4 ⟨⟨r4,he,hr⟩,hg⟩
 subst he
 have L5:Hid (w.grownBy u4 none∧u4.heap[w.heap.size]? = some (Obj.cells #[.int .i64 p.k,.int .i64 p.n,.slice a1 l1 c1,.slice a2 l2 c2,.slice a3 l3 c3,.slice a4 l4 c4,.slice a5 l5 c5] 27)):=⟨grown_trans L4.out.1 hg,(hg.block _ (lt_of_block L4.out.2) (by simp)).trans L4.out.2⟩
 clear C4 hg L4 y0 y1 y2 y3 y4 y5 y6
 simp only[]
 rcases hr with rfl|⟨hr4,hs4⟩
 ·
  go_wp2
  go_ret
  exact ⟨⟨-1,rfl,.inl rfl⟩,L5.out.1⟩
 go_wp2
 go_ret
 exact ⟨⟨r4,rfl,.inr ⟨hr4,by unfold szPE;omega⟩⟩,L5.out.1⟩
set_option maxRecDepth 4000 in
set_option maxHeartbeats 4000000 in
theorem szEA_of (hc:List Int) (hv:List (List Int)) (p:PE) (B:Nat) (e0:Option Addr) (q0 d0:Nat) (e1:Option Addr) (q1 d1:Nat) (a1:Option Addr) (l1 c1:Nat) (a2:Option Addr) (l2 c2:Nat) (a3:Option Addr) (l3 c3:Nat) (a4:Option Addr) (l4 c4:Nat) (a5:Option Addr) (l5 c5:Nat) (L:Int) (w:World) (h:RdB w e0 q0 hc∧SlSC w e1 q1 d1 hv) (h0:0≤L) (h1:L≤1048576)
  (Hb:∀ u L,w.grownBy u none→0≤L→L≤1048576→Calls Tryz.prog 23 #[.agg #[.int .i64 p.k,.int .i64 p.n,.slice a1 l1 c1,.slice a2 l2 c2,.slice a3 l3 c3,.slice a4 l4 c4,.slice a5 l5 c5],.int .i64 L] u fun e v=>SzW L B e∧u.grownBy v none) :
  Calls Tryz.prog 83 #[.agg #[.slice e0 q0 d0,.slice e1 q1 d1,.int .i64 p.k,.int .i64 p.n,.slice a1 l1 c1,.slice a2 l2 c2,.slice a3 l3 c3,.slice a4 l4 c4,.slice a5 l5 c5],.int .i64 L] w fun e u=>SzW L ((hc.length+szW hv)+B) e∧w.grownBy u none:=by
 have g0:=World.grownBy_alloc w (.cells #[.slice e0 q0 d0,.slice e1 q1 d1,.int .i64 p.k,.int .i64 p.n,.slice a1 l1 c1,.slice a2 l2 c2,.slice a3 l3 c3,.slice a4 l4 c4,.slice a5 l5 c5] 116) none
 have b0:=heap_alloc_new w (.cells #[.slice e0 q0 d0,.slice e1 q1 d1,.int .i64 p.k,.int .i64 p.n,.slice a1 l1 c1,.slice a2 l2 c2,.slice a3 l3 c3,.slice a4 l4 c4,.slice a5 l5 c5] 116)
 have HB:Hid _:=Hb
 have HN:Hid (∀ u,w.grownBy u none→RdB u e0 q0 hc∧SlSC u e1 q1 d1 hv):=fun u hu=>⟨h.1.none hu,h.2.none hu⟩
 clear Hb h
 have L0:Hid (w.grownBy _ none∧_=some (Obj.cells #[.slice e0 q0 d0,.slice e1 q1 d1,.int .i64 p.k,.int .i64 p.n,.slice a1 l1 c1,.slice a2 l2 c2,.slice a3 l3 c3,.slice a4 l4 c4,.slice a5 l5 c5] 116)):=⟨g0,b0⟩
 have C0:Hid _:=szByW e0 q0 d0 hc L _ ((HN.out _ g0).1) h0 h1
 obtain ⟨⟨y0,y1,y2,y3,y4,y5,y6,y7,y8⟩,-⟩:=blkEA b0
 clear g0 b0
 go_enter Tryz.func83,Tryz.ntmps83
 go_wp2_with fail
 refine Calls.mono C0.out ?_
 rintro e u0 ⟨⟨r0,he,hr⟩,hg⟩
 subst he
 have L1:Hid (w.grownBy u0 none∧u0.heap[w.heap.size]? = some (Obj.cells #[.slice e0 q0 d0,.slice e1 q1 d1,.int .i64 p.k,.int .i64 p.n,.slice a1 l1 c1,.slice a2 l2 c2,.slice a3 l3 c3,.slice a4 l4 c4,.slice a5 l5 c5] 116)):=⟨grown_trans L0.out.1 hg,(hg.block _ (lt_of_block L0.out.2) (by simp)).trans L0.out.2⟩
 clear C0 hg L0 y0 y1 y2 y3 y4 y5 y6 y7 y8
 simp only[]
 rcases hr with rfl|⟨hr0,hs0⟩
 ·
  go_wp2
  go_ret
  exact ⟨⟨-1,rfl,.inl rfl⟩,L1.out.1⟩
 have C1:Hid _:=szWW e1 q1 d1 hv r0 u0 ((HN.out _ L1.out.1).2.1) hr0 (by omega)
 obtain ⟨⟨y0,y1,y2,y3,y4,y5,y6,y7,y8⟩,-⟩:=blkEA L1.out.2
 go_wp2_with fail
 refine Calls.mono C1.out ?_
 rintro e u1 ⟨⟨r1,he,hr⟩,hg⟩
 subst he
 have L2:Hid (w.grownBy u1 none∧u1.heap[w.heap.size]? = some (Obj.cells #[.slice e0 q0 d0,.slice e1 q1 d1,.int .i64 p.k,.int .i64 p.n,.slice a1 l1 c1,.slice a2 l2 c2,.slice a3 l3 c3,.slice a4 l4 c4,.slice a5 l5 c5] 116)):=⟨grown_trans L1.out.1 hg,(hg.block _ (lt_of_block L1.out.2) (by simp)).trans L1.out.2⟩
 clear C1 hg L1 y0 y1 y2 y3 y4 y5 y6 y7 y8
 simp only[]
 rcases hr with rfl|⟨hr1,hs1⟩
 ·
  go_wp2
  go_ret
  exact ⟨⟨-1,rfl,.inl rfl⟩,L2.out.1⟩
 have C2:Hid _:=HB.out u1 r1 L2.out.1 hr1 (by omega)
 obtain ⟨⟨y0,y1,y2,y3,y4,y5,y6,y7,y8⟩,-⟩:=blkEA L2.out.2
 go_wp2_with fail
 refine Calls.mono C2.out ?_
 rintro e u2 ⟨⟨r2,he,hr⟩,hg⟩
 subst he
 have L3:Hid (w.grownBy u2 none∧u2.heap[w.heap.size]? = some (Obj.cells #[.slice e0 q0 d0,.slice e1 q1 d1,.int .i64 p.k,.int .i64 p.n,.slice a1 l1 c1,.slice a2 l2 c2,.slice a3 l3 c3,.slice a4 l4 c4,.slice a5 l5 c5] 116)):=⟨grown_trans L2.out.1 hg,(hg.block _ (lt_of_block L2.out.2) (by simp)).trans L2.out.2⟩
 clear C2 hg L2 y0 y1 y2 y3 y4 y5 y6 y7 y8
 simp only[]
 rcases hr with rfl|⟨hr2,hs2⟩
 ·
  go_wp2
  go_ret
  exact ⟨⟨-1,rfl,.inl rfl⟩,L3.out.1⟩
 go_wp2
 go_ret
 exact ⟨⟨r2,rfl,.inr ⟨hr2,by omega⟩⟩,L3.out.1⟩
set_option maxRecDepth 4000 in
set_option maxHeartbeats 8000000 in
theorem szES (m:Nat):(∀ (g:GE) (a:Option Addr) (l c:Nat) (L:Int) (w:World),g.size≤m→SlGE w false a l c g→0≤L→L≤1048576→Calls Tryz.prog 42 #[.slice a l c,.int .i64 L] w fun e u=>SzW L g.size e∧w.grownBy u none) ∧
  (∀ (g:GE) (a:Option Addr) (l c:Nat) (L:Int) (w:World),g.size≤m→SlGE w true a l c g→0≤L→L≤1048576→Calls Tryz.prog 43 #[.slice a l c,.int .i64 L] w fun e u=>SzW L g.size e∧w.grownBy u none):=by
 induction m with
 | zero =>
  constructor
  ·
   intro g a l c L w hm h h0 h1
   have hlen:=g.len_le
   have hl:=h.2.1
   have hfl:=h.1
   obtain rfl:l=0:=by omega
   obtain rfl:=GE.nil_of_len hfl
   clear h
   go_enter Tryz.func42,Tryz.ntmps42
   go_wp2
   refine wp_loop_rounds 1 ?_
   rw[rounds_succ]
   go_wp2
   go_ret
   exact ⟨⟨_,rfl,.inr ⟨by omega,by simp [GE.size]⟩⟩,World.grownBy.refl _ _⟩
  ·
   intro g a l c L w hm h h0 h1
   have hlen:=g.len_le
   have hl:=h.2.1
   have hfl:=h.1
   obtain rfl:l=0:=by omega
   obtain rfl:=GE.nil_of_len hfl
   clear h
   go_enter Tryz.func43,Tryz.ntmps43
   go_wp2
   refine wp_loop_rounds 1 ?_
   rw[rounds_succ]
   go_wp2
   go_ret
   exact ⟨⟨_,rfl,.inr ⟨by omega,by simp [GE.size]⟩⟩,World.grownBy.refl _ _⟩
 | succ m ih =>
  have IH:Hid _:=ih
  clear ih
  constructor
  ·
   intro g a l c L w hm h h0 h1
   have hlen:=g.len_le
   have hl:=h.2.1
   have hfl:=h.1
   by_cases hneg:L - (l:Int) < 0
   ·
    go_enter Tryz.func42,Tryz.ntmps42
    go_wp2
    go_ret
    exact ⟨⟨-1,rfl,.inl rfl⟩,World.grownBy.refl _ _⟩
   rcases h.cases with ⟨rfl,rfl⟩|⟨b,o,rfl,hin,hpos⟩
   ·
    go_enter Tryz.func42,Tryz.ntmps42
    go_wp2
    refine wp_loop_rounds 1 ?_
    rw[rounds_succ]
    go_wp2
    go_ret
    exact ⟨⟨_,rfl,.inr ⟨by omega,by simp [GE.size]⟩⟩,World.grownBy.refl _ _⟩
   have IN:Hid (InGE w w false g b o):=hin
   clear hin h
   go_enter Tryz.func42,Tryz.ntmps42
   go_wp2
   go_loopw [1,5] (fun v i wr=>∃ (j:Nat) (R:GE) (Lj:Int),j≤l∧i = .int .i64 j∧v = .int .i64 Lj∧0≤Lj∧Lj≤1048576∧Hid (w.grownBy wr none∧InGE wr wr false R b (o+j * 7))∧R.len+j=l∧R.size≤m+1∧Hid (Lj - (R.size - R.len:Int)≤L - g.size)) (fun _ i _=>l - (intOf i).toNat)
   case atStart =>
    refine ⟨0,g,_,Nat.zero_le _,rfl,rfl,by omega,by omega,⟨World.grownBy.refl _ _,by simpa using IN.out⟩,by omega,hm,?_⟩
    show (_:Int)≤_
    omega
   case round =>
    obtain ⟨j,R,Lj,hj,rfl,rfl,hj0,hj1,HR,hRl,hRm,HV⟩:=hrel
    by_cases hlt:j < l
    ·
     obtain ⟨q,hq⟩:∃ q,R.len=q+1:=⟨R.len - 1,by omega⟩
     obtain ⟨hc,hv,p,kids,alts,R',rfl,hR'⟩:=GE.cons_of_len hq
     have hg:=HR.out.1
     obtain ⟨hhv,a1,l1,c1,a2,l2,c2,a3,l3,c3,a4,l4,c4,a5,l5,c5,⟨k0,k1,k2,k3,k4,k5,k6⟩,hnd,hR2⟩:=HR.out.2.kid
     rw[show o+j * 7+7=o+(j+1) * 7 by omega] at hR2
     have hz0:hc.length+szW hv=0:=by obtain ⟨rfl,rfl⟩:=hhv;rfl
     clear hhv
     simp only[GE.size] at hRm
     have hks:kids.size≤m:=by omega
     have has:alts.size≤m:=by omega
     have CC:Hid _:=szET_of p kids alts a1 l1 c1 a2 l2 c2 a3 l3 c3 a4 l4 c4 a5 l5 c5 Lj wr hnd hj0 hj1 (fun u2 L hu2 h0 h1=>IH.out.1 kids a4 l4 c4 L u2 hks (hnd.2.2.2.1.none hu2) h0 h1) (fun u2 L hu2 h0 h1=>IH.out.2 alts a5 l5 c5 L u2 has (hnd.2.2.2.2.none hu2) h0 h1)
     have FX:Hid (InGE wr wr false R' b (o+(j+1) * 7)∧w.grownBy wr none):=⟨hR2,hg⟩
     clear hnd hR2 hg IN HR
     simp only[GE.len] at hRl
     go_wp2_with fail
     refine Calls.mono CC.out ?_
     rintro e u ⟨⟨r,he,hr⟩,hgu⟩
     subst he
     have FY:Hid (w.grownBy u none∧InGE u u false R' b (o+(j+1) * 7)):=⟨grown_trans FX.out.2 hgu,FX.out.1.le (CLe.grown hgu) (CLe.grown hgu)⟩
     have hl2:=R'.len_le
     have hv:=HV.out
     simp only[GE.size,GE.len] at hv
     clear CC hgu FX k0 k1 k2 k3 k4 k5 k6 HV
     simp only[]
     rcases hr with rfl|⟨hr0,hr1⟩
     ·
      go_wp2
      go_ret
      exact ⟨⟨-1,rfl,.inl rfl⟩,FY.out.1⟩
     ·
      have HV2:Hid (r - (R'.size - R'.len:Int)≤L - g.size):=by show (_:Int)≤_;omega
      clear hv
      go_wp2
      go_roundw
      case rel=>exact ⟨j+1,R',r,by omega,by go_num,rfl,by omega,by omega,FY,by omega,by omega,HV2⟩
      case measure=>simp [intOf];omega
    ·
     obtain rfl:j=l:=by omega
     obtain rfl:R = .nil:=GE.nil_of_len (by omega)
     have E:Hid ((Lj≤L - g.size)∧w.grownBy wr none):=⟨by have:=HV.out;simp [GE.size,GE.len] at this;omega,HR.out.1⟩
     clear HR IN HV
     go_wp2
     go_ret
     exact ⟨⟨Lj,rfl,.inr ⟨hj0,by have:=E.out.1;omega⟩⟩,E.out.2⟩
  ·
   intro g a l c L w hm h h0 h1
   have hlen:=g.len_le
   have hl:=h.2.1
   have hfl:=h.1
   by_cases hneg:L - (l:Int) < 0
   ·
    go_enter Tryz.func43,Tryz.ntmps43
    go_wp2
    go_ret
    exact ⟨⟨-1,rfl,.inl rfl⟩,World.grownBy.refl _ _⟩
   rcases h.cases with ⟨rfl,rfl⟩|⟨b,o,rfl,hin,hpos⟩
   ·
    go_enter Tryz.func43,Tryz.ntmps43
    go_wp2
    refine wp_loop_rounds 1 ?_
    rw[rounds_succ]
    go_wp2
    go_ret
    exact ⟨⟨_,rfl,.inr ⟨by omega,by simp [GE.size]⟩⟩,World.grownBy.refl _ _⟩
   have IN:Hid (InGE w w true g b o):=hin
   clear hin h
   go_enter Tryz.func43,Tryz.ntmps43
   go_wp2
   go_loopw [1,5] (fun v i wr=>∃ (j:Nat) (R:GE) (Lj:Int),j≤l∧i = .int .i64 j∧v = .int .i64 Lj∧0≤Lj∧Lj≤1048576∧Hid (w.grownBy wr none∧InGE wr wr true R b (o+j * 9))∧R.len+j=l∧R.size≤m+1∧Hid (Lj - (R.size - R.len:Int)≤L - g.size)) (fun _ i _=>l - (intOf i).toNat)
   case atStart =>
    refine ⟨0,g,_,Nat.zero_le _,rfl,rfl,by omega,by omega,⟨World.grownBy.refl _ _,by simpa using IN.out⟩,by omega,hm,?_⟩
    show (_:Int)≤_
    omega
   case round =>
    obtain ⟨j,R,Lj,hj,rfl,rfl,hj0,hj1,HR,hRl,hRm,HV⟩:=hrel
    by_cases hlt:j < l
    ·
     obtain ⟨q,hq⟩:∃ q,R.len=q+1:=⟨R.len - 1,by omega⟩
     obtain ⟨hc,hv,p,kids,alts,R',rfl,hR'⟩:=GE.cons_of_len hq
     have hg:=HR.out.1
     obtain ⟨e0,q0,d0,e1,q1,d1,a1,l1,c1,a2,l2,c2,a3,l3,c3,a4,l4,c4,a5,l5,c5,⟨m0,m1⟩,hgd,⟨k0,k1,k2,k3,k4,k5,k6⟩,hnd,hR2⟩:=HR.out.2.alt
     rw[show o+j * 9+9=o+(j+1) * 9 by omega] at hR2
     simp only[GE.size] at hRm
     have hks:kids.size≤m:=by omega
     have has:alts.size≤m:=by omega
     have CC:Hid _:=szEA_of hc hv p _ e0 q0 d0 e1 q1 d1 a1 l1 c1 a2 l2 c2 a3 l3 c3 a4 l4 c4 a5 l5 c5 Lj wr hgd hj0 hj1 (fun u L hu h0 h1=>szET_of p kids alts a1 l1 c1 a2 l2 c2 a3 l3 c3 a4 l4 c4 a5 l5 c5 L u (hnd.none hu) h0 h1 (fun u2 L hu2 h0 h1=>IH.out.1 kids a4 l4 c4 L u2 hks ((hnd.2.2.2.1.none hu).none hu2) h0 h1) (fun u2 L hu2 h0 h1=>IH.out.2 alts a5 l5 c5 L u2 has ((hnd.2.2.2.2.none hu).none hu2) h0 h1))
     have FX:Hid (InGE wr wr true R' b (o+(j+1) * 9)∧w.grownBy wr none):=⟨hR2,hg⟩
     clear hnd hR2 hg IN HR hgd
     simp only[GE.len] at hRl
     go_wp2_with fail
     refine Calls.mono CC.out ?_
     rintro e u ⟨⟨r,he,hr⟩,hgu⟩
     subst he
     have FY:Hid (w.grownBy u none∧InGE u u true R' b (o+(j+1) * 9)):=⟨grown_trans FX.out.2 hgu,FX.out.1.le (CLe.grown hgu) (CLe.grown hgu)⟩
     have hl2:=R'.len_le
     have hv:=HV.out
     simp only[GE.size,GE.len] at hv
     clear CC hgu FX m0 m1 k0 k1 k2 k3 k4 k5 k6 HV
     simp only[]
     rcases hr with rfl|⟨hr0,hr1⟩
     ·
      go_wp2
      go_ret
      exact ⟨⟨-1,rfl,.inl rfl⟩,FY.out.1⟩
     ·
      have HV2:Hid (r - (R'.size - R'.len:Int)≤L - g.size):=by show (_:Int)≤_;omega
      clear hv
      go_wp2
      go_roundw
      case rel=>exact ⟨j+1,R',r,by omega,by go_num,rfl,by omega,by omega,FY,by omega,by omega,HV2⟩
      case measure=>simp [intOf];omega
    ·
     obtain rfl:j=l:=by omega
     obtain rfl:R = .nil:=GE.nil_of_len (by omega)
     have E:Hid ((Lj≤L - g.size)∧w.grownBy wr none):=⟨by have:=HV.out;simp [GE.size,GE.len] at this;omega,HR.out.1⟩
     clear HR IN HV
     go_wp2
     go_ret
     exact ⟨⟨Lj,rfl,.inr ⟨hj0,by have:=E.out.1;omega⟩⟩,E.out.2⟩
theorem szET (p:PE) (kids alts:GE) (a1:Option Addr) (l1 c1:Nat) (a2:Option Addr) (l2 c2:Nat) (a3:Option Addr) (l3 c3:Nat) (a4:Option Addr) (l4 c4:Nat) (a5:Option Addr) (l5 c5:Nat) (L:Int) (w:World) (h:NdE w p kids alts a1 l1 c1 a2 l2 c2 a3 l3 c3 a4 l4 c4 a5 l5 c5) (h0:0≤L) (h1:L≤1048576) :
  Calls Tryz.prog 23 #[.agg #[.int .i64 p.k,.int .i64 p.n,.slice a1 l1 c1,.slice a2 l2 c2,.slice a3 l3 c3,.slice a4 l4 c4,.slice a5 l5 c5],.int .i64 L] w fun e u=>SzW L (szPE p+kids.size+alts.size) e∧w.grownBy u none :=
 szET_of p kids alts a1 l1 c1 a2 l2 c2 a3 l3 c3 a4 l4 c4 a5 l5 c5 L w h h0 h1 (fun u L hu h0 h1=>(szES kids.size).1 kids a4 l4 c4 L u (Nat.le_refl _) (h.2.2.2.1.none hu) h0 h1) (fun u L hu h0 h1=>(szES alts.size).2 alts a5 l5 c5 L u (Nat.le_refl _) (h.2.2.2.2.none hu) h0 h1)
end Go.Proofs.YtblbnillilbacaaGreatDoor.By
namespace Go.Proofs.YtblbnillilbacaaGreatDoor.By
open Go.RowKit
set_option linter.unusedVariables false
end Go.Proofs.YtblbnillilbacaaGreatDoor.By
namespace Go.Proofs.YtblbnillilbacaaGreatDoor.By
open Go.RowKit
set_option linter.unusedVariables false
end Go.Proofs.YtblbnillilbacaaGreatDoor.By
namespace Go.Proofs.YtblbnillilbacaaGreatDoor.By
open Go.RowKit
set_option linter.unusedVariables false
set_option linter.unusedSimpArgs false
theorem fillE {w:World} {p:Nat} {t:TypeId} {o0 o1 o2 o3 o4 o5 o6:Value} (v0 v1 v2 v3 v4 v5 v6:Value) (h:w.heap[p]? = some (.cells #[o0,o1,o2,o3,o4,o5,o6] t (0,0))) :
  (((((((w.setCell ⟨p,0,none⟩ (v0)).setCell ⟨p,1,none⟩ (v1)).setCell ⟨p,2,none⟩ (v2)).setCell ⟨p,3,none⟩ (v3)).setCell ⟨p,4,none⟩ (v4)).setCell ⟨p,5,none⟩ (v5)).setCell ⟨p,6,none⟩ (v6)).heap[p]? = some (.cells #[v0,v1,v2,v3,v4,v5,v6] t (0,0))∧w.grownBy (((((((w.setCell ⟨p,0,none⟩ (v0)).setCell ⟨p,1,none⟩ (v1)).setCell ⟨p,2,none⟩ (v2)).setCell ⟨p,3,none⟩ (v3)).setCell ⟨p,4,none⟩ (v4)).setCell ⟨p,5,none⟩ (v5)).setCell ⟨p,6,none⟩ (v6)) (some p):=by
 have h0:(w.setCell ⟨p,0,none⟩ (v0)).heap[p]? = some (.cells #[v0,o1,o2,o3,o4,o5,o6] t (0,0)):=heap_setCell_same _ p 0 _ t v0 h
 have h1:((w.setCell ⟨p,0,none⟩ (v0)).setCell ⟨p,1,none⟩ (v1)).heap[p]? = some (.cells #[v0,v1,o2,o3,o4,o5,o6] t (0,0)):=heap_setCell_same _ p 1 _ t v1 h0
 have h2:(((w.setCell ⟨p,0,none⟩ (v0)).setCell ⟨p,1,none⟩ (v1)).setCell ⟨p,2,none⟩ (v2)).heap[p]? = some (.cells #[v0,v1,v2,o3,o4,o5,o6] t (0,0)):=heap_setCell_same _ p 2 _ t v2 h1
 have h3:((((w.setCell ⟨p,0,none⟩ (v0)).setCell ⟨p,1,none⟩ (v1)).setCell ⟨p,2,none⟩ (v2)).setCell ⟨p,3,none⟩ (v3)).heap[p]? = some (.cells #[v0,v1,v2,v3,o4,o5,o6] t (0,0)):=heap_setCell_same _ p 3 _ t v3 h2
 have h4:(((((w.setCell ⟨p,0,none⟩ (v0)).setCell ⟨p,1,none⟩ (v1)).setCell ⟨p,2,none⟩ (v2)).setCell ⟨p,3,none⟩ (v3)).setCell ⟨p,4,none⟩ (v4)).heap[p]? = some (.cells #[v0,v1,v2,v3,v4,o5,o6] t (0,0)):=heap_setCell_same _ p 4 _ t v4 h3
 have h5:((((((w.setCell ⟨p,0,none⟩ (v0)).setCell ⟨p,1,none⟩ (v1)).setCell ⟨p,2,none⟩ (v2)).setCell ⟨p,3,none⟩ (v3)).setCell ⟨p,4,none⟩ (v4)).setCell ⟨p,5,none⟩ (v5)).heap[p]? = some (.cells #[v0,v1,v2,v3,v4,v5,o6] t (0,0)):=heap_setCell_same _ p 5 _ t v5 h4
 have h6:(((((((w.setCell ⟨p,0,none⟩ (v0)).setCell ⟨p,1,none⟩ (v1)).setCell ⟨p,2,none⟩ (v2)).setCell ⟨p,3,none⟩ (v3)).setCell ⟨p,4,none⟩ (v4)).setCell ⟨p,5,none⟩ (v5)).setCell ⟨p,6,none⟩ (v6)).heap[p]? = some (.cells #[v0,v1,v2,v3,v4,v5,v6] t (0,0)):=heap_setCell_same _ p 6 _ t v6 h5
 exact ⟨h6,grown_trans (grown_trans (grown_trans (grown_trans (grown_trans (grown_trans (grown_trans (World.grownBy.refl _ _) (grown_setCell _ _ _ _)) (grown_setCell _ _ _ _)) (grown_setCell _ _ _ _)) (grown_setCell _ _ _ _)) (grown_setCell _ _ _ _)) (grown_setCell _ _ _ _)) (grown_setCell _ _ _ _)⟩
theorem fillEA {w:World} {p:Nat} {t:TypeId} {o0 o1 o2 o3 o4 o5 o6 o7 o8:Value} (v0 v1 v2 v3 v4 v5 v6 v7 v8:Value) (h:w.heap[p]? = some (.cells #[o0,o1,o2,o3,o4,o5,o6,o7,o8] t (0,0))) :
  (((((((((w.setCell ⟨p,0,none⟩ (v0)).setCell ⟨p,1,none⟩ (v1)).setCell ⟨p,2,none⟩ (v2)).setCell ⟨p,3,none⟩ (v3)).setCell ⟨p,4,none⟩ (v4)).setCell ⟨p,5,none⟩ (v5)).setCell ⟨p,6,none⟩ (v6)).setCell ⟨p,7,none⟩ (v7)).setCell ⟨p,8,none⟩ (v8)).heap[p]? = some (.cells #[v0,v1,v2,v3,v4,v5,v6,v7,v8] t (0,0))∧w.grownBy (((((((((w.setCell ⟨p,0,none⟩ (v0)).setCell ⟨p,1,none⟩ (v1)).setCell ⟨p,2,none⟩ (v2)).setCell ⟨p,3,none⟩ (v3)).setCell ⟨p,4,none⟩ (v4)).setCell ⟨p,5,none⟩ (v5)).setCell ⟨p,6,none⟩ (v6)).setCell ⟨p,7,none⟩ (v7)).setCell ⟨p,8,none⟩ (v8)) (some p):=by
 have h0:(w.setCell ⟨p,0,none⟩ (v0)).heap[p]? = some (.cells #[v0,o1,o2,o3,o4,o5,o6,o7,o8] t (0,0)):=heap_setCell_same _ p 0 _ t v0 h
 have h1:((w.setCell ⟨p,0,none⟩ (v0)).setCell ⟨p,1,none⟩ (v1)).heap[p]? = some (.cells #[v0,v1,o2,o3,o4,o5,o6,o7,o8] t (0,0)):=heap_setCell_same _ p 1 _ t v1 h0
 have h2:(((w.setCell ⟨p,0,none⟩ (v0)).setCell ⟨p,1,none⟩ (v1)).setCell ⟨p,2,none⟩ (v2)).heap[p]? = some (.cells #[v0,v1,v2,o3,o4,o5,o6,o7,o8] t (0,0)):=heap_setCell_same _ p 2 _ t v2 h1
 have h3:((((w.setCell ⟨p,0,none⟩ (v0)).setCell ⟨p,1,none⟩ (v1)).setCell ⟨p,2,none⟩ (v2)).setCell ⟨p,3,none⟩ (v3)).heap[p]? = some (.cells #[v0,v1,v2,v3,o4,o5,o6,o7,o8] t (0,0)):=heap_setCell_same _ p 3 _ t v3 h2
 have h4:(((((w.setCell ⟨p,0,none⟩ (v0)).setCell ⟨p,1,none⟩ (v1)).setCell ⟨p,2,none⟩ (v2)).setCell ⟨p,3,none⟩ (v3)).setCell ⟨p,4,none⟩ (v4)).heap[p]? = some (.cells #[v0,v1,v2,v3,v4,o5,o6,o7,o8] t (0,0)):=heap_setCell_same _ p 4 _ t v4 h3
 have h5:((((((w.setCell ⟨p,0,none⟩ (v0)).setCell ⟨p,1,none⟩ (v1)).setCell ⟨p,2,none⟩ (v2)).setCell ⟨p,3,none⟩ (v3)).setCell ⟨p,4,none⟩ (v4)).setCell ⟨p,5,none⟩ (v5)).heap[p]? = some (.cells #[v0,v1,v2,v3,v4,v5,o6,o7,o8] t (0,0)):=heap_setCell_same _ p 5 _ t v5 h4
 have h6:(((((((w.setCell ⟨p,0,none⟩ (v0)).setCell ⟨p,1,none⟩ (v1)).setCell ⟨p,2,none⟩ (v2)).setCell ⟨p,3,none⟩ (v3)).setCell ⟨p,4,none⟩ (v4)).setCell ⟨p,5,none⟩ (v5)).setCell ⟨p,6,none⟩ (v6)).heap[p]? = some (.cells #[v0,v1,v2,v3,v4,v5,v6,o7,o8] t (0,0)):=heap_setCell_same _ p 6 _ t v6 h5
 have h7:((((((((w.setCell ⟨p,0,none⟩ (v0)).setCell ⟨p,1,none⟩ (v1)).setCell ⟨p,2,none⟩ (v2)).setCell ⟨p,3,none⟩ (v3)).setCell ⟨p,4,none⟩ (v4)).setCell ⟨p,5,none⟩ (v5)).setCell ⟨p,6,none⟩ (v6)).setCell ⟨p,7,none⟩ (v7)).heap[p]? = some (.cells #[v0,v1,v2,v3,v4,v5,v6,v7,o8] t (0,0)):=heap_setCell_same _ p 7 _ t v7 h6
 have h8:(((((((((w.setCell ⟨p,0,none⟩ (v0)).setCell ⟨p,1,none⟩ (v1)).setCell ⟨p,2,none⟩ (v2)).setCell ⟨p,3,none⟩ (v3)).setCell ⟨p,4,none⟩ (v4)).setCell ⟨p,5,none⟩ (v5)).setCell ⟨p,6,none⟩ (v6)).setCell ⟨p,7,none⟩ (v7)).setCell ⟨p,8,none⟩ (v8)).heap[p]? = some (.cells #[v0,v1,v2,v3,v4,v5,v6,v7,v8] t (0,0)):=heap_setCell_same _ p 8 _ t v8 h7
 exact ⟨h8,grown_trans (grown_trans (grown_trans (grown_trans (grown_trans (grown_trans (grown_trans (grown_trans (grown_trans (World.grownBy.refl _ _) (grown_setCell _ _ _ _)) (grown_setCell _ _ _ _)) (grown_setCell _ _ _ _)) (grown_setCell _ _ _ _)) (grown_setCell _ _ _ _)) (grown_setCell _ _ _ _)) (grown_setCell _ _ _ _)) (grown_setCell _ _ _ _)) (grown_setCell _ _ _ _)⟩
theorem BlkN.put7 {w:World} {t:TypeId} {g k:Nat} (h:BlkN w t g k) (j:Nat) (hj:j+6 < k) (v0 v1 v2 v3 v4 v5 v6:Value):BlkN (((((((w.setCell ⟨g,j,none⟩ (v0)).setCell ⟨g,j+1,none⟩ (v1)).setCell ⟨g,j+2,none⟩ (v2)).setCell ⟨g,j+3,none⟩ (v3)).setCell ⟨g,j+4,none⟩ (v4)).setCell ⟨g,j+5,none⟩ (v5)).setCell ⟨g,j+6,none⟩ (v6)) t g k∧w.grownBy (((((((w.setCell ⟨g,j,none⟩ (v0)).setCell ⟨g,j+1,none⟩ (v1)).setCell ⟨g,j+2,none⟩ (v2)).setCell ⟨g,j+3,none⟩ (v3)).setCell ⟨g,j+4,none⟩ (v4)).setCell ⟨g,j+5,none⟩ (v5)).setCell ⟨g,j+6,none⟩ (v6)) (some g)∧((((((((w.setCell ⟨g,j,none⟩ (v0)).setCell ⟨g,j+1,none⟩ (v1)).setCell ⟨g,j+2,none⟩ (v2)).setCell ⟨g,j+3,none⟩ (v3)).setCell ⟨g,j+4,none⟩ (v4)).setCell ⟨g,j+5,none⟩ (v5)).setCell ⟨g,j+6,none⟩ (v6)).cell? ⟨g,j,none⟩=some v0∧(((((((w.setCell ⟨g,j,none⟩ (v0)).setCell ⟨g,j+1,none⟩ (v1)).setCell ⟨g,j+2,none⟩ (v2)).setCell ⟨g,j+3,none⟩ (v3)).setCell ⟨g,j+4,none⟩ (v4)).setCell ⟨g,j+5,none⟩ (v5)).setCell ⟨g,j+6,none⟩ (v6)).cell? ⟨g,j+1,none⟩=some v1∧(((((((w.setCell ⟨g,j,none⟩ (v0)).setCell ⟨g,j+1,none⟩ (v1)).setCell ⟨g,j+2,none⟩ (v2)).setCell ⟨g,j+3,none⟩ (v3)).setCell ⟨g,j+4,none⟩ (v4)).setCell ⟨g,j+5,none⟩ (v5)).setCell ⟨g,j+6,none⟩ (v6)).cell? ⟨g,j+2,none⟩=some v2∧(((((((w.setCell ⟨g,j,none⟩ (v0)).setCell ⟨g,j+1,none⟩ (v1)).setCell ⟨g,j+2,none⟩ (v2)).setCell ⟨g,j+3,none⟩ (v3)).setCell ⟨g,j+4,none⟩ (v4)).setCell ⟨g,j+5,none⟩ (v5)).setCell ⟨g,j+6,none⟩ (v6)).cell? ⟨g,j+3,none⟩=some v3∧(((((((w.setCell ⟨g,j,none⟩ (v0)).setCell ⟨g,j+1,none⟩ (v1)).setCell ⟨g,j+2,none⟩ (v2)).setCell ⟨g,j+3,none⟩ (v3)).setCell ⟨g,j+4,none⟩ (v4)).setCell ⟨g,j+5,none⟩ (v5)).setCell ⟨g,j+6,none⟩ (v6)).cell? ⟨g,j+4,none⟩=some v4∧(((((((w.setCell ⟨g,j,none⟩ (v0)).setCell ⟨g,j+1,none⟩ (v1)).setCell ⟨g,j+2,none⟩ (v2)).setCell ⟨g,j+3,none⟩ (v3)).setCell ⟨g,j+4,none⟩ (v4)).setCell ⟨g,j+5,none⟩ (v5)).setCell ⟨g,j+6,none⟩ (v6)).cell? ⟨g,j+5,none⟩=some v5∧(((((((w.setCell ⟨g,j,none⟩ (v0)).setCell ⟨g,j+1,none⟩ (v1)).setCell ⟨g,j+2,none⟩ (v2)).setCell ⟨g,j+3,none⟩ (v3)).setCell ⟨g,j+4,none⟩ (v4)).setCell ⟨g,j+5,none⟩ (v5)).setCell ⟨g,j+6,none⟩ (v6)).cell? ⟨g,j+6,none⟩=some v6)∧∀ i,i < j→(((((((w.setCell ⟨g,j,none⟩ (v0)).setCell ⟨g,j+1,none⟩ (v1)).setCell ⟨g,j+2,none⟩ (v2)).setCell ⟨g,j+3,none⟩ (v3)).setCell ⟨g,j+4,none⟩ (v4)).setCell ⟨g,j+5,none⟩ (v5)).setCell ⟨g,j+6,none⟩ (v6)).cell? ⟨g,i,none⟩=w.cell? ⟨g,i,none⟩:=by
 obtain ⟨h0,k0,c0,o0⟩:=h.set (j) (by omega) v0
 obtain ⟨h1,k1,c1,o1⟩:=h0.set (j+1) (by omega) v1
 obtain ⟨h2,k2,c2,o2⟩:=h1.set (j+2) (by omega) v2
 obtain ⟨h3,k3,c3,o3⟩:=h2.set (j+3) (by omega) v3
 obtain ⟨h4,k4,c4,o4⟩:=h3.set (j+4) (by omega) v4
 obtain ⟨h5,k5,c5,o5⟩:=h4.set (j+5) (by omega) v5
 obtain ⟨h6,k6,c6,o6⟩:=h5.set (j+6) (by omega) v6
 exact ⟨h6,grown_trans (grown_trans (grown_trans (grown_trans (grown_trans (grown_trans (k0) k1) k2) k3) k4) k5) k6,⟨(o6 j (by omega)).trans ((o5 j (by omega)).trans ((o4 j (by omega)).trans ((o3 j (by omega)).trans ((o2 j (by omega)).trans ((o1 j (by omega)).trans (c0)))))),(o6 (j+1) (by omega)).trans ((o5 (j+1) (by omega)).trans ((o4 (j+1) (by omega)).trans ((o3 (j+1) (by omega)).trans ((o2 (j+1) (by omega)).trans (c1))))),(o6 (j+2) (by omega)).trans ((o5 (j+2) (by omega)).trans ((o4 (j+2) (by omega)).trans ((o3 (j+2) (by omega)).trans (c2)))),(o6 (j+3) (by omega)).trans ((o5 (j+3) (by omega)).trans ((o4 (j+3) (by omega)).trans (c3))),(o6 (j+4) (by omega)).trans ((o5 (j+4) (by omega)).trans (c4)),(o6 (j+5) (by omega)).trans (c5),c6⟩,fun i hi=>(o6 i (by omega)).trans ((o5 i (by omega)).trans ((o4 i (by omega)).trans ((o3 i (by omega)).trans ((o2 i (by omega)).trans ((o1 i (by omega)).trans (o0 i (by omega)))))))⟩
theorem BlkN.put9 {w:World} {t:TypeId} {g k:Nat} (h:BlkN w t g k) (j:Nat) (hj:j+8 < k) (v0 v1 v2 v3 v4 v5 v6 v7 v8:Value):BlkN (((((((((w.setCell ⟨g,j,none⟩ (v0)).setCell ⟨g,j+1,none⟩ (v1)).setCell ⟨g,j+2,none⟩ (v2)).setCell ⟨g,j+3,none⟩ (v3)).setCell ⟨g,j+4,none⟩ (v4)).setCell ⟨g,j+5,none⟩ (v5)).setCell ⟨g,j+6,none⟩ (v6)).setCell ⟨g,j+7,none⟩ (v7)).setCell ⟨g,j+8,none⟩ (v8)) t g k∧w.grownBy (((((((((w.setCell ⟨g,j,none⟩ (v0)).setCell ⟨g,j+1,none⟩ (v1)).setCell ⟨g,j+2,none⟩ (v2)).setCell ⟨g,j+3,none⟩ (v3)).setCell ⟨g,j+4,none⟩ (v4)).setCell ⟨g,j+5,none⟩ (v5)).setCell ⟨g,j+6,none⟩ (v6)).setCell ⟨g,j+7,none⟩ (v7)).setCell ⟨g,j+8,none⟩ (v8)) (some g)∧((((((((((w.setCell ⟨g,j,none⟩ (v0)).setCell ⟨g,j+1,none⟩ (v1)).setCell ⟨g,j+2,none⟩ (v2)).setCell ⟨g,j+3,none⟩ (v3)).setCell ⟨g,j+4,none⟩ (v4)).setCell ⟨g,j+5,none⟩ (v5)).setCell ⟨g,j+6,none⟩ (v6)).setCell ⟨g,j+7,none⟩ (v7)).setCell ⟨g,j+8,none⟩ (v8)).cell? ⟨g,j,none⟩=some v0∧(((((((((w.setCell ⟨g,j,none⟩ (v0)).setCell ⟨g,j+1,none⟩ (v1)).setCell ⟨g,j+2,none⟩ (v2)).setCell ⟨g,j+3,none⟩ (v3)).setCell ⟨g,j+4,none⟩ (v4)).setCell ⟨g,j+5,none⟩ (v5)).setCell ⟨g,j+6,none⟩ (v6)).setCell ⟨g,j+7,none⟩ (v7)).setCell ⟨g,j+8,none⟩ (v8)).cell? ⟨g,j+1,none⟩=some v1∧(((((((((w.setCell ⟨g,j,none⟩ (v0)).setCell ⟨g,j+1,none⟩ (v1)).setCell ⟨g,j+2,none⟩ (v2)).setCell ⟨g,j+3,none⟩ (v3)).setCell ⟨g,j+4,none⟩ (v4)).setCell ⟨g,j+5,none⟩ (v5)).setCell ⟨g,j+6,none⟩ (v6)).setCell ⟨g,j+7,none⟩ (v7)).setCell ⟨g,j+8,none⟩ (v8)).cell? ⟨g,j+2,none⟩=some v2∧(((((((((w.setCell ⟨g,j,none⟩ (v0)).setCell ⟨g,j+1,none⟩ (v1)).setCell ⟨g,j+2,none⟩ (v2)).setCell ⟨g,j+3,none⟩ (v3)).setCell ⟨g,j+4,none⟩ (v4)).setCell ⟨g,j+5,none⟩ (v5)).setCell ⟨g,j+6,none⟩ (v6)).setCell ⟨g,j+7,none⟩ (v7)).setCell ⟨g,j+8,none⟩ (v8)).cell? ⟨g,j+3,none⟩=some v3∧(((((((((w.setCell ⟨g,j,none⟩ (v0)).setCell ⟨g,j+1,none⟩ (v1)).setCell ⟨g,j+2,none⟩ (v2)).setCell ⟨g,j+3,none⟩ (v3)).setCell ⟨g,j+4,none⟩ (v4)).setCell ⟨g,j+5,none⟩ (v5)).setCell ⟨g,j+6,none⟩ (v6)).setCell ⟨g,j+7,none⟩ (v7)).setCell ⟨g,j+8,none⟩ (v8)).cell? ⟨g,j+4,none⟩=some v4∧(((((((((w.setCell ⟨g,j,none⟩ (v0)).setCell ⟨g,j+1,none⟩ (v1)).setCell ⟨g,j+2,none⟩ (v2)).setCell ⟨g,j+3,none⟩ (v3)).setCell ⟨g,j+4,none⟩ (v4)).setCell ⟨g,j+5,none⟩ (v5)).setCell ⟨g,j+6,none⟩ (v6)).setCell ⟨g,j+7,none⟩ (v7)).setCell ⟨g,j+8,none⟩ (v8)).cell? ⟨g,j+5,none⟩=some v5∧(((((((((w.setCell ⟨g,j,none⟩ (v0)).setCell ⟨g,j+1,none⟩ (v1)).setCell ⟨g,j+2,none⟩ (v2)).setCell ⟨g,j+3,none⟩ (v3)).setCell ⟨g,j+4,none⟩ (v4)).setCell ⟨g,j+5,none⟩ (v5)).setCell ⟨g,j+6,none⟩ (v6)).setCell ⟨g,j+7,none⟩ (v7)).setCell ⟨g,j+8,none⟩ (v8)).cell? ⟨g,j+6,none⟩=some v6∧(((((((((w.setCell ⟨g,j,none⟩ (v0)).setCell ⟨g,j+1,none⟩ (v1)).setCell ⟨g,j+2,none⟩ (v2)).setCell ⟨g,j+3,none⟩ (v3)).setCell ⟨g,j+4,none⟩ (v4)).setCell ⟨g,j+5,none⟩ (v5)).setCell ⟨g,j+6,none⟩ (v6)).setCell ⟨g,j+7,none⟩ (v7)).setCell ⟨g,j+8,none⟩ (v8)).cell? ⟨g,j+7,none⟩=some v7∧(((((((((w.setCell ⟨g,j,none⟩ (v0)).setCell ⟨g,j+1,none⟩ (v1)).setCell ⟨g,j+2,none⟩ (v2)).setCell ⟨g,j+3,none⟩ (v3)).setCell ⟨g,j+4,none⟩ (v4)).setCell ⟨g,j+5,none⟩ (v5)).setCell ⟨g,j+6,none⟩ (v6)).setCell ⟨g,j+7,none⟩ (v7)).setCell ⟨g,j+8,none⟩ (v8)).cell? ⟨g,j+8,none⟩=some v8)∧∀ i,i < j→(((((((((w.setCell ⟨g,j,none⟩ (v0)).setCell ⟨g,j+1,none⟩ (v1)).setCell ⟨g,j+2,none⟩ (v2)).setCell ⟨g,j+3,none⟩ (v3)).setCell ⟨g,j+4,none⟩ (v4)).setCell ⟨g,j+5,none⟩ (v5)).setCell ⟨g,j+6,none⟩ (v6)).setCell ⟨g,j+7,none⟩ (v7)).setCell ⟨g,j+8,none⟩ (v8)).cell? ⟨g,i,none⟩=w.cell? ⟨g,i,none⟩:=by
 obtain ⟨h0,k0,c0,o0⟩:=h.set (j) (by omega) v0
 obtain ⟨h1,k1,c1,o1⟩:=h0.set (j+1) (by omega) v1
 obtain ⟨h2,k2,c2,o2⟩:=h1.set (j+2) (by omega) v2
 obtain ⟨h3,k3,c3,o3⟩:=h2.set (j+3) (by omega) v3
 obtain ⟨h4,k4,c4,o4⟩:=h3.set (j+4) (by omega) v4
 obtain ⟨h5,k5,c5,o5⟩:=h4.set (j+5) (by omega) v5
 obtain ⟨h6,k6,c6,o6⟩:=h5.set (j+6) (by omega) v6
 obtain ⟨h7,k7,c7,o7⟩:=h6.set (j+7) (by omega) v7
 obtain ⟨h8,k8,c8,o8⟩:=h7.set (j+8) (by omega) v8
 exact ⟨h8,grown_trans (grown_trans (grown_trans (grown_trans (grown_trans (grown_trans (grown_trans (grown_trans (k0) k1) k2) k3) k4) k5) k6) k7) k8,⟨(o8 j (by omega)).trans ((o7 j (by omega)).trans ((o6 j (by omega)).trans ((o5 j (by omega)).trans ((o4 j (by omega)).trans ((o3 j (by omega)).trans ((o2 j (by omega)).trans ((o1 j (by omega)).trans (c0)))))))),(o8 (j+1) (by omega)).trans ((o7 (j+1) (by omega)).trans ((o6 (j+1) (by omega)).trans ((o5 (j+1) (by omega)).trans ((o4 (j+1) (by omega)).trans ((o3 (j+1) (by omega)).trans ((o2 (j+1) (by omega)).trans (c1))))))),(o8 (j+2) (by omega)).trans ((o7 (j+2) (by omega)).trans ((o6 (j+2) (by omega)).trans ((o5 (j+2) (by omega)).trans ((o4 (j+2) (by omega)).trans ((o3 (j+2) (by omega)).trans (c2)))))),(o8 (j+3) (by omega)).trans ((o7 (j+3) (by omega)).trans ((o6 (j+3) (by omega)).trans ((o5 (j+3) (by omega)).trans ((o4 (j+3) (by omega)).trans (c3))))),(o8 (j+4) (by omega)).trans ((o7 (j+4) (by omega)).trans ((o6 (j+4) (by omega)).trans ((o5 (j+4) (by omega)).trans (c4)))),(o8 (j+5) (by omega)).trans ((o7 (j+5) (by omega)).trans ((o6 (j+5) (by omega)).trans (c5))),(o8 (j+6) (by omega)).trans ((o7 (j+6) (by omega)).trans (c6)),(o8 (j+7) (by omega)).trans (c7),c8⟩,fun i hi=>(o8 i (by omega)).trans ((o7 i (by omega)).trans ((o6 i (by omega)).trans ((o5 i (by omega)).trans ((o4 i (by omega)).trans ((o3 i (by omega)).trans ((o2 i (by omega)).trans ((o1 i (by omega)).trans (o0 i (by omega)))))))))⟩
theorem infoGE:(Tryz.prog.info? 36).map (fun i=>(i.zero,i.size,i.bytes))=some (some (.agg #[.int .i64 0,.int .i64 0,.slice none 0 0,.slice none 0 0,.slice none 0 0,.slice none 0 0,.slice none 0 0]),7,136):=by kernel_rfl
theorem makeGE (n:Nat) (hn:n≤4194304) (w:World):(Instr.makeSlice 33 (.int .i64 (n:Int)) (.int .i64 (n:Int))).run Tryz.prog w = .ok (.slice (some ⟨w.heap.size,0,none⟩) n n) (w.alloc (.cells (madeCells #[.int .i64 0,.int .i64 0,.slice none 0 0,.slice none 0 0,.slice none 0 0,.slice none 0 0,.slice none 0 0] (n * 7)) 36)):=by
 obtain ⟨i0,hi,hz0,hz1,hz2⟩:=info_parts infoGE
 have h:=run_make (P:=Tryz.prog) (w:=w) 33 36 i0 _ Tryz.underlying33 hi hz0 .i64 .i64 (n:Int) (n:Int) (by omega) (by omega) (by rw[hz2];omega) (by omega)
 rw[hz1] at h
 simpa [Value.cells] using h
theorem makeGE0 (w:World):(Instr.makeSlice 33 (.int .i64 0) (.int .i64 0)).run Tryz.prog w = .ok (.slice (some ⟨w.heap.size,0,none⟩) 0 0) (w.alloc (.cells (madeCells #[.int .i64 0,.int .i64 0,.slice none 0 0,.slice none 0 0,.slice none 0 0,.slice none 0 0,.slice none 0 0] 0) 36)):=makeGE 0 (by omega) w
theorem madeGE_blk (w:World) (n:Nat):BlkN (w.alloc (.cells (madeCells #[.int .i64 0,.int .i64 0,.slice none 0 0,.slice none 0 0,.slice none 0 0,.slice none 0 0,.slice none 0 0] (n * 7)) 36)) 36 w.heap.size (n * 7):=⟨_,heap_alloc_new w _,by simp [madeCells]⟩
theorem infoGEA:(Tryz.prog.info? 87).map (fun i=>(i.zero,i.size,i.bytes))=some (some (.agg #[.slice none 0 0,.slice none 0 0,.int .i64 0,.int .i64 0,.slice none 0 0,.slice none 0 0,.slice none 0 0,.slice none 0 0,.slice none 0 0]),9,184):=by kernel_rfl
theorem makeGEA (n:Nat) (hn:n≤4194304) (w:World):(Instr.makeSlice 34 (.int .i64 (n:Int)) (.int .i64 (n:Int))).run Tryz.prog w = .ok (.slice (some ⟨w.heap.size,0,none⟩) n n) (w.alloc (.cells (madeCells #[.slice none 0 0,.slice none 0 0,.int .i64 0,.int .i64 0,.slice none 0 0,.slice none 0 0,.slice none 0 0,.slice none 0 0,.slice none 0 0] (n * 9)) 87)):=by
 obtain ⟨i0,hi,hz0,hz1,hz2⟩:=info_parts infoGEA
 have h:=run_make (P:=Tryz.prog) (w:=w) 34 87 i0 _ Tryz.underlying34 hi hz0 .i64 .i64 (n:Int) (n:Int) (by omega) (by omega) (by rw[hz2];omega) (by omega)
 rw[hz1] at h
 simpa [Value.cells] using h
theorem makeGEA0 (w:World):(Instr.makeSlice 34 (.int .i64 0) (.int .i64 0)).run Tryz.prog w = .ok (.slice (some ⟨w.heap.size,0,none⟩) 0 0) (w.alloc (.cells (madeCells #[.slice none 0 0,.slice none 0 0,.int .i64 0,.int .i64 0,.slice none 0 0,.slice none 0 0,.slice none 0 0,.slice none 0 0,.slice none 0 0] 0) 87)):=makeGEA 0 (by omega) w
theorem madeGEA_blk (w:World) (n:Nat):BlkN (w.alloc (.cells (madeCells #[.slice none 0 0,.slice none 0 0,.int .i64 0,.int .i64 0,.slice none 0 0,.slice none 0 0,.slice none 0 0,.slice none 0 0,.slice none 0 0] (n * 9)) 87)) 87 w.heap.size (n * 9):=⟨_,heap_alloc_new w _,by simp [madeCells]⟩
end Go.Proofs.YtblbnillilbacaaGreatDoor.By
