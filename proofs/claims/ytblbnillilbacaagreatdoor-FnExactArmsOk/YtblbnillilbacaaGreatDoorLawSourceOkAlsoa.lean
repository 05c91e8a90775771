/-
  No statement is proved here.
-/
import Derived.Test.YtblbnillilbacaaGreatDoorMEAa
import Derived.Test.YtblbnillilbacaaGreatDoorMEBa
import Derived.Test.YtblbnillilbacaaGreatDoorMECa
import Derived.Test.YtblbnillilbacaaGreatDoorMFa
namespace Go.Proofs.YtblbnillilbacaaGreatDoor.By
set_option maxRecDepth 100000
set_option maxHeartbeats 16000000
open Go.RowKit
set_option linter.unusedVariables false
set_option linter.unusedSimpArgs false
theorem l5sayT_of (W0:World) (m:Nat) (IH0:SaC W0 m):SaC W0 (m+1):=by
 intro p kids alts a1 l1 c1 a2 l2 c2 a3 l3 c3 a4 l4 c4 a5 l5 c5 v zs w d hm h ho hb hw hlen;by_cases h15:p.k=15
 ·
  exact l5sayB W0 m IH0 p kids alts a1 l1 c1 a2 l2 c2 a3 l3 c3 a4 l4 c4 a5 l5 c5 v zs w d h15 hm h ho hb hw hlen
 by_cases hA:p.k=0∨p.k=1∨p.k=2∨p.k=3∨p.k=5∨p.k=18
 ·
  exact l5sayA W0 m IH0 p kids alts a1 l1 c1 a2 l2 c2 a3 l3 c3 a4 l4 c4 a5 l5 c5 v zs w d hA hm h ho hb hw hlen
 ·
  exact l5sayC W0 m IH0 p kids alts a1 l1 c1 a2 l2 c2 a3 l3 c3 a4 l4 c4 a5 l5 c5 v zs w d (by refine ⟨?_,?_,?_,?_,?_,?_,h15⟩ <;> omega) hm h ho hb hw hlen
theorem sayEx:∀ (W0:World) (m:Nat),SaC W0 m
 | W0,0=>fun p kids alts _ _ _ _ _ _ _ _ _ _ _ _ _ _ _ _ _ _ _ hm=>absurd hm (Nat.not_lt_zero _)
 | W0,m+1=>l5sayT_of W0 m (sayEx W0 m)
theorem specSourceT (x:RSrc) (a0:Option Addr) (l0 c0:Nat) (a1:Option Addr) (l1 c1:Nat) (a2:Option Addr) (l2 c2:Nat) (a3:Option Addr) (l3 c3:Nat) (a4:Option Addr) (l4 c4:Nat) (a5:Option Addr) (l5 c5:Nat) (w:World) (h:RdSrc w x a0 l0 c0 a1 l1 c1 a2 l2 c2 a3 l3 c3 a4 l4 c4 a5 l5 c5) :
  Calls Tryz.prog 8 #[.agg #[.slice a0 l0 c0,.int .i64 x.p.k,.int .i64 x.p.n,.slice a1 l1 c1,.slice a2 l2 c2,.slice a3 l3 c3,.slice a4 l4 c4,.slice a5 l5 c5]] w fun e u=>e = .returned (.bool (srcV x))∧w.grownBy u none:=by
 have gA:=gal w (.cells #[.slice a0 l0 c0,.int .i64 x.p.k,.int .i64 x.p.n,.slice a1 l1 c1,.slice a2 l2 c2,.slice a3 l3 c3,.slice a4 l4 c4,.slice a5 l5 c5] 38) none;have bA:=heap_alloc_new w (.cells #[.slice a0 l0 c0,.int .i64 x.p.k,.int .i64 x.p.n,.slice a1 l1 c1,.slice a2 l2 c2,.slice a3 l3 c3,.slice a4 l4 c4,.slice a5 l5 c5] 38)
 have HN:Hid (∀ u,w.grownBy u none→RdSrc u x a0 l0 c0 a1 l1 c1 a2 l2 c2 a3 l3 c3 a4 l4 c4 a5 l5 c5):=fun u hu=>h.none hu
 have L0:Hid (w.grownBy (w.alloc (.cells #[.slice a0 l0 c0,.int .i64 x.p.k,.int .i64 x.p.n,.slice a1 l1 c1,.slice a2 l2 c2,.slice a3 l3 c3,.slice a4 l4 c4,.slice a5 l5 c5] 38)) none∧(w.alloc (.cells #[.slice a0 l0 c0,.int .i64 x.p.k,.int .i64 x.p.n,.slice a1 l1 c1,.slice a2 l2 c2,.slice a3 l3 c3,.slice a4 l4 c4,.slice a5 l5 c5] 38)).heap[w.heap.size]? = some (.cells #[.slice a0 l0 c0,.int .i64 x.p.k,.int .i64 x.p.n,.slice a1 l1 c1,.slice a2 l2 c2,.slice a3 l3 c3,.slice a4 l4 c4,.slice a5 l5 c5] 38 (0,0))):=⟨gA,bA⟩;have C0:Hid _:=specDatasT x.ds a0 l0 c0 _ (HN.out _ gA).1.1 (HN.out _ gA).1.2;rw[specV_eq] at C0;obtain ⟨⟨y0,y1,y2,y3,y4,y5,y6,y7⟩,-⟩:=blkSrc bA;clear h gA bA;go_enter Tryz.func8,Tryz.ntmps8;go_wp2_with fail;refine Calls.mono C0.out ?_;rintro e u0 ⟨rfl,hg⟩;have L1:Hid (w.grownBy u0 none∧u0.heap[w.heap.size]? = some (.cells #[.slice a0 l0 c0,.int .i64 x.p.k,.int .i64 x.p.n,.slice a1 l1 c1,.slice a2 l2 c2,.slice a3 l3 c3,.slice a4 l4 c4,.slice a5 l5 c5] 38 (0,0))):=⟨gtr L0.out.1 hg,(hg.block _ (lt_of_block L0.out.2) (by simp)).trans L0.out.2⟩
 clear C0 hg L0 y0 y1 y2 y3 y4 y5 y6 y7;obtain ⟨⟨y0,y1,y2,y3,y4,y5,y6,y7⟩,-⟩:=blkSrc L1.out.2;simp only[]
 cases hd:implV x.ds with
 | false =>
  have EV:Hid (srcV x=false):=by show _=_;unfold srcV srcP;rw[hd];rfl
  clear y0 y1 y2 y3 y4 y5 y6 y7 hd;go_wp2;go_ret;exact ⟨by rw[EV.out];rfl,L1.out.1⟩
 | true =>
  have C1:Hid _:=l5eT 40 1 rfl x.p x.kids x.alts a1 l1 c1 a2 l2 c2 a3 l3 c3 a4 l4 c4 a5 l5 c5 u0 (HN.out _ L1.out.1).2;go_wp2_with fail;refine Calls.mono C1.out ?_;rintro e u1 ⟨he,hg⟩;subst he;have L2:Hid (w.grownBy u1 none∧u1.heap[w.heap.size]? = some (.cells #[.slice a0 l0 c0,.int .i64 x.p.k,.int .i64 x.p.n,.slice a1 l1 c1,.slice a2 l2 c2,.slice a3 l3 c3,.slice a4 l4 c4,.slice a5 l5 c5] 38 (0,0))):=⟨gtr L1.out.1 hg,(hg.block _ (lt_of_block L1.out.2) (by simp)).trans L1.out.2⟩;clear C1 hg L1 y0 y1 y2 y3 y4 y5 y6 y7;obtain ⟨⟨y0,y1,y2,y3,y4,y5,y6,y7⟩,-⟩:=blkSrc L2.out.2;rcases spR_cases x.p x.kids x.alts 40 with ⟨e1,e2⟩|⟨e1,e2,e3⟩
  ·
   have EV:Hid (srcV x=false):=by
    show _=_
    unfold srcV srcP;rw[okE_sp];rcases e2 with e2|e2
    ·
     rw[e2];simp
    ·
     have:¬ 1+x.kids.cnt+x.alts.cnt≤300:=by omega
     simp [this]
   rw[e1];clear e1 e2 hd y0 y1 y2 y3 y4 y5 y6 y7;simp only[];go_wp2;go_ret;exact ⟨by rw[EV.out];rfl,L2.out.1⟩
  ·
   have hPP:srcP x=true:=by unfold srcP;rw[hd,okE_sp,e2];simpa using e3
   have HP:Hid (srcP x=true):=hPP;rw[e1];have C2:Hid _:=l5printT x a0 l0 c0 a1 l1 c1 a2 l2 c2 a3 l3 c3 a4 l4 c4 a5 l5 c5 u1 (HN.out _ L2.out.1) hPP (sayEx u1 301);clear e1 e2 hd hPP;generalize 1+x.kids.cnt+x.alts.cnt=N at *
   have hN0:¬ (N:Int) < 0:=by omega
   simp only[];go_wp2_with fail;refine Calls.mono C2.out ?_;rintro e u2 ⟨v2,rfl,ho,hg⟩;obtain ⟨-,a9,c9,rfl,hO⟩:=ownsS ho;have L3:Hid (w.grownBy u2 none):=gtr L2.out.1 hg;clear C2 ho hg hO L2 y0 y1 y2 y3 y4 y5 y6 y7;simp only[];obtain ⟨M,hM⟩:∃ M,(srcX x).length=M:=⟨_,rfl⟩;rw[hM];by_cases h4:M≤4000
   ·
    have EV:Hid (srcV x=true):=by show _=_;unfold srcV;rw[HP.out];simp;omega
    have h4':(M:Int)≤4000:=by omega
    clear hM;go_wp2;go_ret;exact ⟨by rw[EV.out];rfl,L3.out⟩
   ·
    have EV:Hid (srcV x=false):=by show _=_;unfold srcV;rw[HP.out];simp;omega
    have h4':¬ (M:Int)≤4000:=by omega
    clear hM;go_wp2;go_ret;exact ⟨by rw[EV.out];rfl,L3.out⟩
end Go.Proofs.YtblbnillilbacaaGreatDoor.By
