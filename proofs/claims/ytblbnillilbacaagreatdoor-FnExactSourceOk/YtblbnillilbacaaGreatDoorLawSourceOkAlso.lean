/-
 Several texts in one (MEz, MG, LawSourceOk). No statement is proved here.
-/
import Derived.Test.YtblbnillilbacaaGreatDoorZ0
import Derived.Test.YtblbnillilbacaaGreatDoorMEA
import Derived.Test.YtblbnillilbacaaGreatDoorMEB
import Derived.Test.YtblbnillilbacaaGreatDoorMEC
import Derived.Deep.DeepCutAuto
import Derived.Deep.CutBlock
import Derived.Test.YtblbnillilbacaaGreatDoorMF
import Derived.Test.YtblbnillilbacaaGreatDoorSSrc
namespace Go.Proofs.YtblbnillilbacaaGreatDoor.By
open Go.RowKit
set_option linter.unusedVariables false
set_option linter.unusedSimpArgs false
theorem l5sayT_of (W0:World) (m:Nat) (IH0:SaC W0 m):SaC W0 (m+1):=by
 intro p kids alts a1 l1 c1 a2 l2 c2 a3 l3 c3 a4 l4 c4 a5 l5 c5 v zs w d hm h ho hb hw hlen
 by_cases h15:p.k=15
 ·
  exact l5sayB W0 m IH0 p kids alts a1 l1 c1 a2 l2 c2 a3 l3 c3 a4 l4 c4 a5 l5 c5 v zs w d h15 hm h ho hb hw hlen
 by_cases hA:p.k=0∨p.k=1∨p.k=2∨p.k=3∨p.k=5∨p.k=18
 ·
  exact l5sayA W0 m IH0 p kids alts a1 l1 c1 a2 l2 c2 a3 l3 c3 a4 l4 c4 a5 l5 c5 v zs w d hA hm h ho hb hw hlen
 ·
  exact l5sayC W0 m IH0 p kids alts a1 l1 c1 a2 l2 c2 a3 l3 c3 a4 l4 c4 a5 l5 c5 v zs w d (by refine ⟨?_,?_,?_,?_,?_,?_,h15⟩ <;> omega) hm h ho hb hw hlen
theorem sayEx:∀ (W0:World) (m:Nat),SaC W0 m
 | W0,0=>fun p kids alts _ _ _ _ _ _ _ _ _ _ _ _ _ _ _ _ _ _ _ hm=>absurd hm (Nat.not_lt_zero _)
 | W0,m+1=>l5sayT_of W0 m (sayEx W0 m)
end Go.Proofs.YtblbnillilbacaaGreatDoor.By
namespace Go.Proofs.YtblbnillilbacaaGreatDoor.By
open Go.RowKit
set_option linter.unusedVariables false
set_option linter.unusedSimpArgs false
set_option maxRecDepth 8000 in
set_option maxHeartbeats 8000000 in
theorem specSourceT (x:RSrc) (a0:Option Addr) (l0 c0:Nat) (a1:Option Addr) (l1 c1:Nat) (a2:Option Addr) (l2 c2:Nat) (a3:Option Addr) (l3 c3:Nat) (a4:Option Addr) (l4 c4:Nat) (a5:Option Addr) (l5 c5:Nat) (w:World) (h:RdSrc w x a0 l0 c0 a1 l1 c1 a2 l2 c2 a3 l3 c3 a4 l4 c4 a5 l5 c5) :
  Calls Tryz.prog 8 #[.agg #[.slice a0 l0 c0,.int .i64 x.p.k,.int .i64 x.p.n,.slice a1 l1 c1,.slice a2 l2 c2,.slice a3 l3 c3,.slice a4 l4 c4,.slice a5 l5 c5]] w fun e u=>e = .returned (.bool (srcV x))∧w.grownBy u none:=by
 have gA:=World.grownBy_alloc w (.cells #[.slice a0 l0 c0,.int .i64 x.p.k,.int .i64 x.p.n,.slice a1 l1 c1,.slice a2 l2 c2,.slice a3 l3 c3,.slice a4 l4 c4,.slice a5 l5 c5] 38) none
 have bA:=heap_alloc_new w (.cells #[.slice a0 l0 c0,.int .i64 x.p.k,.int .i64 x.p.n,.slice a1 l1 c1,.slice a2 l2 c2,.slice a3 l3 c3,.slice a4 l4 c4,.slice a5 l5 c5] 38)
 have HN:Hid (∀ u,w.grownBy u none→RdSrc u x a0 l0 c0 a1 l1 c1 a2 l2 c2 a3 l3 c3 a4 l4 c4 a5 l5 c5):=fun u hu=>h.none hu
 have L0:Hid (w.grownBy (w.alloc (.cells #[.slice a0 l0 c0,.int .i64 x.p.k,.int .i64 x.p.n,.slice a1 l1 c1,.slice a2 l2 c2,.slice a3 l3 c3,.slice a4 l4 c4,.slice a5 l5 c5] 38)) none∧(w.alloc (.cells #[.slice a0 l0 c0,.int .i64 x.p.k,.int .i64 x.p.n,.slice a1 l1 c1,.slice a2 l2 c2,.slice a3 l3 c3,.slice a4 l4 c4,.slice a5 l5 c5] 38)).heap[w.heap.size]? = some (.cells #[.slice a0 l0 c0,.int .i64 x.p.k,.int .i64 x.p.n,.slice a1 l1 c1,.slice a2 l2 c2,.slice a3 l3 c3,.slice a4 l4 c4,.slice a5 l5 c5] 38 (0,0))):=⟨gA,bA⟩
 have C0:Hid _:=specDatasT x.ds a0 l0 c0 _ (HN.out _ gA).1.1 (HN.out _ gA).1.2
 rw[specV_eq] at C0
 obtain ⟨⟨y0,y1,y2,y3,y4,y5,y6,y7⟩,-⟩:=blkSrc bA
 clear h gA bA
 go_enter Tryz.func8,Tryz.ntmps8
 go_wp2_with fail
 refine Calls.mono C0.out ?_
 rintro e u0 ⟨rfl,hg⟩
 have L1:Hid (w.grownBy u0 none∧u0.heap[w.heap.size]? = some (.cells #[.slice a0 l0 c0,.int .i64 x.p.k,.int .i64 x.p.n,.slice a1 l1 c1,.slice a2 l2 c2,.slice a3 l3 c3,.slice a4 l4 c4,.slice a5 l5 c5] 38 (0,0))):=⟨grown_trans L0.out.1 hg,(hg.block _ (lt_of_block L0.out.2) (by simp)).trans L0.out.2⟩
 clear C0 hg L0 y0 y1 y2 y3 y4 y5 y6 y7
 obtain ⟨⟨y0,y1,y2,y3,y4,y5,y6,y7⟩,-⟩:=blkSrc L1.out.2
 simp only[]
 cases hd:implV x.ds with
 | false =>
  have EV:Hid (srcV x=false):=by show _=_;unfold srcV srcP;rw[hd];rfl
  clear y0 y1 y2 y3 y4 y5 y6 y7 hd
  go_wp2
  go_ret
  exact ⟨by rw[EV.out];rfl,L1.out.1⟩
 | true =>
  have C1:Hid _:=l5eT 40 1 rfl x.p x.kids x.alts a1 l1 c1 a2 l2 c2 a3 l3 c3 a4 l4 c4 a5 l5 c5 u0 (HN.out _ L1.out.1).2
  go_wp2_with fail
  refine Calls.mono C1.out ?_
  rintro e u1 ⟨he,hg⟩
  subst he
  have L2:Hid (w.grownBy u1 none∧u1.heap[w.heap.size]? = some (.cells #[.slice a0 l0 c0,.int .i64 x.p.k,.int .i64 x.p.n,.slice a1 l1 c1,.slice a2 l2 c2,.slice a3 l3 c3,.slice a4 l4 c4,.slice a5 l5 c5] 38 (0,0))):=⟨grown_trans L1.out.1 hg,(hg.block _ (lt_of_block L1.out.2) (by simp)).trans L1.out.2⟩
  clear C1 hg L1 y0 y1 y2 y3 y4 y5 y6 y7
  obtain ⟨⟨y0,y1,y2,y3,y4,y5,y6,y7⟩,-⟩:=blkSrc L2.out.2
  rcases spR_cases x.p x.kids x.alts 40 with ⟨e1,e2⟩|⟨e1,e2,e3⟩
  ·
   have EV:Hid (srcV x=false):=by
    show _=_
    unfold srcV srcP
    rw[okE_sp]
    rcases e2 with e2|e2
    ·
     rw[e2];simp
    ·
     have:¬ 1+x.kids.cnt+x.alts.cnt≤300:=by omega
     simp [this]
   rw[e1]
   clear e1 e2 hd y0 y1 y2 y3 y4 y5 y6 y7
   simp only[]
   go_wp2
   go_ret
   exact ⟨by rw[EV.out];rfl,L2.out.1⟩
  ·
   have hPP:srcP x=true:=by unfold srcP;rw[hd,okE_sp,e2];simpa using e3
   have HP:Hid (srcP x=true):=hPP
   rw[e1]
   have C2:Hid _:=l5printT x a0 l0 c0 a1 l1 c1 a2 l2 c2 a3 l3 c3 a4 l4 c4 a5 l5 c5 u1 (HN.out _ L2.out.1) hPP (sayEx u1 301)
   clear e1 e2 hd hPP
   generalize 1+x.kids.cnt+x.alts.cnt=N at *
   have hN0:¬ (N:Int) < 0:=by omega
   simp only[]
   go_wp2_with fail
   refine Calls.mono C2.out ?_
   rintro e u2 ⟨v2,rfl,ho,hg⟩
   obtain ⟨-,a9,c9,rfl,hO⟩:=ownsS ho
   have L3:Hid (w.grownBy u2 none):=grown_trans L2.out.1 hg
   clear C2 ho hg hO L2 y0 y1 y2 y3 y4 y5 y6 y7
   simp only[]
   obtain ⟨M,hM⟩:∃ M,(srcX x).length=M:=⟨_,rfl⟩
   rw[hM]
   by_cases h4:M≤4000
   ·
    have EV:Hid (srcV x=true):=by show _=_;unfold srcV;rw[HP.out];simp;omega
    have h4':(M:Int)≤4000:=by omega
    clear hM
    go_wp2
    go_ret
    exact ⟨by rw[EV.out];rfl,L3.out⟩
   ·
    have EV:Hid (srcV x=false):=by show _=_;unfold srcV;rw[HP.out];simp;omega
    have h4':¬ (M:Int)≤4000:=by omega
    clear hM
    go_wp2
    go_ret
    exact ⟨by rw[EV.out];rfl,L3.out⟩
end Go.Proofs.YtblbnillilbacaaGreatDoor.By
namespace Go.Proofs.YtblbnillilbacaaGreatDoor.By
open Go.RowKit
set_option linter.unusedVariables false
set_option linter.unusedSimpArgs false
set_option maxRecDepth 8000 in
set_option maxHeartbeats 8000000 in
theorem lawSourceOk (x:RSrc) (a0:Option Addr) (l0 c0:Nat) (a1:Option Addr) (l1 c1:Nat) (a2:Option Addr) (l2 c2:Nat) (a3:Option Addr) (l3 c3:Nat) (a4:Option Addr) (l4 c4:Nat) (a5:Option Addr) (l5 c5:Nat) (w:World) (h:RdSrc w x a0 l0 c0 a1 l1 c1 a2 l2 c2 a3 l3 c3 a4 l4 c4 a5 l5 c5) (hF:Bas w) :
  Calls Tryz.prog 3 #[.agg #[.slice a0 l0 c0,.int .i64 x.p.k,.int .i64 x.p.n,.slice a1 l1 c1,.slice a2 l2 c2,.slice a3 l3 c3,.slice a4 l4 c4,.slice a5 l5 c5]] w fun e u=>e = .returned (.bool true)∧w.grownBy u none:=by
 have g0:=World.grownBy_alloc w (.cells #[.slice a0 l0 c0,.int .i64 x.p.k,.int .i64 x.p.n,.slice a1 l1 c1,.slice a2 l2 c2,.slice a3 l3 c3,.slice a4 l4 c4,.slice a5 l5 c5] 29) none
 have b0:=heap_alloc_new w (.cells #[.slice a0 l0 c0,.int .i64 x.p.k,.int .i64 x.p.n,.slice a1 l1 c1,.slice a2 l2 c2,.slice a3 l3 c3,.slice a4 l4 c4,.slice a5 l5 c5] 29)
 have HF:Hid (∀ u,w.grownBy u none→Bas u):=fun u hu=>hF.grown hu
 clear hF
 have HS:Hid (∀ u,w.grownBy u none→RdSrc u x a0 l0 c0 a1 l1 c1 a2 l2 c2 a3 l3 c3 a4 l4 c4 a5 l5 c5):=fun u hu=>h.none hu
 have C0:Hid _:=szSrcT x a0 l0 c0 a1 l1 c1 a2 l2 c2 a3 l3 c3 a4 l4 c4 a5 l5 c5 1048576 _ (h.none g0) (by omega) (by omega)
 have L0:Hid (w.grownBy _ none∧_=some (Obj.cells #[.slice a0 l0 c0,.int .i64 x.p.k,.int .i64 x.p.n,.slice a1 l1 c1,.slice a2 l2 c2,.slice a3 l3 c3,.slice a4 l4 c4,.slice a5 l5 c5] 29)):=⟨g0,b0⟩
 obtain ⟨⟨y0,y1,y2,y3,y4,y5,y6,y7⟩,-⟩:=blkSrc b0
 clear h g0 b0
 go_enter Tryz.func3,Tryz.ntmps3
 go_wp2_with fail
 refine Calls.mono C0.out ?_
 rintro e w1 ⟨⟨r,he,hr⟩,hg⟩
 subst he
 have L1:Hid (w.grownBy w1 none∧w1.heap[w.heap.size]? = some (Obj.cells #[.slice a0 l0 c0,.int .i64 x.p.k,.int .i64 x.p.n,.slice a1 l1 c1,.slice a2 l2 c2,.slice a3 l3 c3,.slice a4 l4 c4,.slice a5 l5 c5] 29)):=⟨grown_trans L0.out.1 hg,(hg.block _ (lt_of_block L0.out.2) (by simp)).trans L0.out.2⟩
 clear C0 L0 hg y0 y1 y2 y3 y4 y5 y6 y7
 simp only[]
 rcases hr with rfl|⟨hr0,hr1⟩
 ·
  go_wp2
  go_ret
  exact ⟨rfl,L1.out.1⟩
 have hs':szSrc x≤1048576:=by omega
 have hneg:¬ r < 0:=by omega
 have C1:Hid _:=toSrcT x a0 l0 c0 a1 l1 c1 a2 l2 c2 a3 l3 c3 a4 l4 c4 a5 l5 c5 w1 (HS.out _ L1.out.1) hs'
 obtain ⟨⟨y0,y1,y2,y3,y4,y5,y6,y7⟩,-⟩:=blkSrc L1.out.2
 go_wp2_with fail
 refine Calls.mono C1.out ?_
 rintro e w2 ⟨t0,v0,t1,v1,t2,v2,t3,v3,t4,v4,t5,v5,he,hg,hn⟩
 subst he
 have L2:Hid (w.grownBy w2 none∧w2.heap[w.heap.size]? = some (Obj.cells #[.slice a0 l0 c0,.int .i64 x.p.k,.int .i64 x.p.n,.slice a1 l1 c1,.slice a2 l2 c2,.slice a3 l3 c3,.slice a4 l4 c4,.slice a5 l5 c5] 29)):=⟨grown_trans L1.out.1 hg,(hg.block _ (lt_of_block L1.out.2) (by simp)).trans L1.out.2⟩
 have C2:Hid _:=specSourceT x t0 l0 v0 t1 l1 v1 t2 l2 v2 t3 l3 v3 t4 l4 v4 t5 l5 v5 w2 (hn.le CLe.unhidz)
 clear C1 L1 hg hn y0 y1 y2 y3 y4 y5 y6 y7
 simp only[]
 go_wp2_with fail
 refine Calls.mono C2.out ?_
 rintro e w3 ⟨he,hg⟩
 subst he
 have L3:Hid (w.grownBy w3 none∧w3.heap[w.heap.size]? = some (Obj.cells #[.slice a0 l0 c0,.int .i64 x.p.k,.int .i64 x.p.n,.slice a1 l1 c1,.slice a2 l2 c2,.slice a3 l3 c3,.slice a4 l4 c4,.slice a5 l5 c5] 29)):=⟨grown_trans L2.out.1 hg,(hg.block _ (lt_of_block L2.out.2) (by simp)).trans L2.out.2⟩
 clear C2 L2 hg
 have C3:Hid _:=toSrcT x a0 l0 c0 a1 l1 c1 a2 l2 c2 a3 l3 c3 a4 l4 c4 a5 l5 c5 w3 (HS.out _ L3.out.1) hs'
 obtain ⟨⟨y0,y1,y2,y3,y4,y5,y6,y7⟩,-⟩:=blkSrc L3.out.2
 simp only[]
 go_wp2_with fail
 refine Calls.mono C3.out ?_
 rintro e w4 ⟨s0,z0,s1,z1,s2,z2,s3,z3,s4,z4,s5,z5,he,hg,hn⟩
 subst he
 have L4:Hid (w.grownBy w4 none∧w4.heap[w.heap.size]? = some (Obj.cells #[.slice a0 l0 c0,.int .i64 x.p.k,.int .i64 x.p.n,.slice a1 l1 c1,.slice a2 l2 c2,.slice a3 l3 c3,.slice a4 l4 c4,.slice a5 l5 c5] 29)∧RdSrc w4 x s0 l0 z0 s1 l1 z1 s2 l2 z2 s3 l3 z3 s4 l4 z4 s5 l5 z5):=⟨grown_trans L3.out.1 hg,(hg.block _ (lt_of_block L3.out.2) (by simp)).trans L3.out.2,hn.le CLe.unhidz⟩
 clear C3 L3 hg hn y0 y1 y2 y3 y4 y5 y6 y7
 have ga:=World.grownBy_alloc w4 (.cells #[.slice s0 l0 z0,.int .i64 x.p.k,.int .i64 x.p.n,.slice s1 l1 z1,.slice s2 l2 z2,.slice s3 l3 z3,.slice s4 l4 z4,.slice s5 l5 z5] 38) none
 have ba:=heap_alloc_new w4 (.cells #[.slice s0 l0 z0,.int .i64 x.p.k,.int .i64 x.p.n,.slice s1 l1 z1,.slice s2 l2 z2,.slice s3 l3 z3,.slice s4 l4 z4,.slice s5 l5 z5] 38)
 have C4:Hid _:=implSourceT x s0 l0 z0 s1 l1 z1 s2 l2 z2 s3 l3 z3 s4 l4 z4 s5 l5 z5 _ (L4.out.2.2.none ga) (HF.out _ (grown_trans L4.out.1 ga)) hs'
 have L5:Hid (w.grownBy _ none∧_=some (Obj.cells #[.slice a0 l0 c0,.int .i64 x.p.k,.int .i64 x.p.n,.slice a1 l1 c1,.slice a2 l2 c2,.slice a3 l3 c3,.slice a4 l4 c4,.slice a5 l5 c5] 29)∧RdSrc _ x s0 l0 z0 s1 l1 z1 s2 l2 z2 s3 l3 z3 s4 l4 z4 s5 l5 z5∧_=some (Obj.cells #[.slice s0 l0 z0,.int .i64 x.p.k,.int .i64 x.p.n,.slice s1 l1 z1,.slice s2 l2 z2,.slice s3 l3 z3,.slice s4 l4 z4,.slice s5 l5 z5] 38)):=⟨grown_trans L4.out.1 ga,(ga.block _ (lt_of_block L4.out.2.1) (by simp)).trans L4.out.2.1,L4.out.2.2.none ga,ba⟩
 clear L4 ga ba
 simp only[]
 go_wp2_with fail
 refine Calls.mono C4.out ?_
 rintro e w5 ⟨he,hg⟩
 subst he
 generalize w4.heap.size=p4 at *
 have L6:Hid (w.grownBy w5 none∧w5.heap[w.heap.size]? = some (Obj.cells #[.slice a0 l0 c0,.int .i64 x.p.k,.int .i64 x.p.n,.slice a1 l1 c1,.slice a2 l2 c2,.slice a3 l3 c3,.slice a4 l4 c4,.slice a5 l5 c5] 29)∧RdSrc w5 x s0 l0 z0 s1 l1 z1 s2 l2 z2 s3 l3 z3 s4 l4 z4 s5 l5 z5∧w5.heap[p4]? = some (Obj.cells #[.slice s0 l0 z0,.int .i64 x.p.k,.int .i64 x.p.n,.slice s1 l1 z1,.slice s2 l2 z2,.slice s3 l3 z3,.slice s4 l4 z4,.slice s5 l5 z5] 38)):=⟨grown_trans L5.out.1 hg,(hg.block _ (lt_of_block L5.out.2.1) (by simp)).trans L5.out.2.1,L5.out.2.2.1.none hg,(hg.block _ (lt_of_block L5.out.2.2.2) (by simp)).trans L5.out.2.2.2⟩
 clear L5 C4 hg
 generalize w.heap.size=p0 at *
 have gd:=grown_drew (World.grownBy.refl w5 none)
 have C6:Hid _:=toSrcT x a0 l0 c0 a1 l1 c1 a2 l2 c2 a3 l3 c3 a4 l4 c4 a5 l5 c5 w5.drew (HS.out _ (grown_trans L6.out.1 gd)) hs'
 have TT:Hid (∀ u,w5.drew.grownBy u none→((u.cell? ⟨p4,0,none⟩=some (.slice s0 l0 z0)∧u.cell? ⟨p4,1,none⟩=some (.int .i64 x.p.k)∧u.cell? ⟨p4,2,none⟩=some (.int .i64 x.p.n)∧u.cell? ⟨p4,3,none⟩=some (.slice s1 l1 z1)∧u.cell? ⟨p4,4,none⟩=some (.slice s2 l2 z2)∧u.cell? ⟨p4,5,none⟩=some (.slice s3 l3 z3)∧u.cell? ⟨p4,6,none⟩=some (.slice s4 l4 z4)∧u.cell? ⟨p4,7,none⟩=some (.slice s5 l5 z5))∧(u.cell? ⟨p0,0,none⟩=some (.slice a0 l0 c0)∧u.cell? ⟨p0,1,none⟩=some (.int .i64 x.p.k)∧u.cell? ⟨p0,2,none⟩=some (.int .i64 x.p.n)∧u.cell? ⟨p0,3,none⟩=some (.slice a1 l1 c1)∧u.cell? ⟨p0,4,none⟩=some (.slice a2 l2 c2)∧u.cell? ⟨p0,5,none⟩=some (.slice a3 l3 c3)∧u.cell? ⟨p0,6,none⟩=some (.slice a4 l4 c4)∧u.cell? ⟨p0,7,none⟩=some (.slice a5 l5 c5)))):=fun u hu=>by
  have hgu:=grown_trans gd hu
  exact ⟨(blkSrc ((hgu.block _ (lt_of_block L6.out.2.2.2) (by simp)).trans L6.out.2.2.2)).1,(blkSrc ((hgu.block _ (lt_of_block L6.out.2.1) (by simp)).trans L6.out.2.1)).1⟩
 have L7:Hid (w.grownBy w5.drew none∧RdSrc w5.drew x s0 l0 z0 s1 l1 z1 s2 l2 z2 s3 l3 z3 s4 l4 z4 s5 l5 z5):=⟨grown_trans L6.out.1 gd,L6.out.2.2.1.none gd⟩
 clear gd L6
 generalize srcV x=bb at *
 simp only[]
 go_wp2_with fail
 refine wp_region_held_drew (S:=(fun u=>((u.cell? ⟨p4,0,none⟩=some (.slice s0 l0 z0)∧u.cell? ⟨p4,1,none⟩=some (.int .i64 x.p.k)∧u.cell? ⟨p4,2,none⟩=some (.int .i64 x.p.n)∧u.cell? ⟨p4,3,none⟩=some (.slice s1 l1 z1)∧u.cell? ⟨p4,4,none⟩=some (.slice s2 l2 z2)∧u.cell? ⟨p4,5,none⟩=some (.slice s3 l3 z3)∧u.cell? ⟨p4,6,none⟩=some (.slice s4 l4 z4)∧u.cell? ⟨p4,7,none⟩=some (.slice s5 l5 z5))∧(u.cell? ⟨p0,0,none⟩=some (.slice a0 l0 c0)∧u.cell? ⟨p0,1,none⟩=some (.int .i64 x.p.k)∧u.cell? ⟨p0,2,none⟩=some (.int .i64 x.p.n)∧u.cell? ⟨p0,3,none⟩=some (.slice a1 l1 c1)∧u.cell? ⟨p0,4,none⟩=some (.slice a2 l2 c2)∧u.cell? ⟨p0,5,none⟩=some (.slice a3 l3 c3)∧u.cell? ⟨p0,6,none⟩=some (.slice a4 l4 c4)∧u.cell? ⟨p0,7,none⟩=some (.slice a5 l5 c5))))) (by kernel_rfl) (TT.out _ (World.grownBy.refl _ _)) (fun hH=>?_)
 generalize w5.drew=u at *
 simp only[List.size_toArray,List.length_cons,List.length_nil,Nat.reduceAdd,Array.replicate,List.replicate]
 refine tk 0 ?_ rfl ?_ hH ?_
 rotate_left
 ·
  (intro v hS;obtain ⟨⟨x0,x1,x2,x3,x4,x5,x6,x7⟩,y0,y1,y2,y3,y4,y5,y6,y7⟩:=hS;go_simp;try with_reducible rfl)
 simp only[Act.put,nA,nB,nC,nD,nE,nF]
 refine tk 1 ?_ rfl ?_ hH ?_
 rotate_left
 ·
  (intro v hS;obtain ⟨⟨x0,x1,x2,x3,x4,x5,x6,x7⟩,y0,y1,y2,y3,y4,y5,y6,y7⟩:=hS;go_simp;try with_reducible rfl)
 simp only[Act.put,nA,nB,nC,nD,nE,nF]
 refine rd 2 rfl (fun K hK=>?_)
 go_simp
 refine Calls.mono C6.out ?_
 rintro e w6 ⟨q0,r0,q1,r1,q2,r2,q3,r3,q4,r4,q5,r5,he,hg,hn⟩
 subst he
 refine hK.out _ _ (TT.out _ hg) (fun hH2=>?_)
 clear hK K hH
 have hH:=hH2
 clear hH2
 have C7:Hid _:=eqSrcT x s0 q0 l0 z0 r0 s1 q1 l1 z1 r1 s2 q2 l2 z2 r2 s3 q3 l3 z3 r3 s4 q4 l4 z4 r4 s5 q5 l5 z5 r5 w6 (L7.out.2.none hg) (hn.le CLe.unhidz) hs'
 have L8:Hid (w.grownBy w6 none∧u.grownBy w6 none):=⟨grown_trans L7.out.1 hg,hg⟩
 clear L7 C6 hn hg
 simp only[Act.put,nA,nB,nC,nD,nE,nF]
 refine rd 3 rfl (fun K hK=>?_)
 go_simp
 refine Calls.mono C7.out ?_
 rintro e w7 ⟨he,hg⟩
 subst he
 refine hK.out _ _ (TT.out _ (grown_trans L8.out.2 hg)) (fun hH2=>?_)
 clear hK K hH
 have hH:=hH2
 clear hH2
 have L9:Hid (w.grownBy w7 none):=grown_trans L8.out.1 hg
 clear L8 C7 hg TT
 simp only[Act.put,nA,nB,nC,nD,nE,nF]
 refine tk 4 ?_ rfl ?_ hH ?_
 rotate_left
 ·
  (intro v hS;go_simp;try with_reducible rfl)
 simp only[Act.put,nA,nB,nC,nD,nE,nF]
 refine wpAnyH_done (by kernel_rfl) ?_ _
 go_wp2
 go_ret
 exact ⟨rfl,L9.out⟩
end Go.Proofs.YtblbnillilbacaaGreatDoor.By
