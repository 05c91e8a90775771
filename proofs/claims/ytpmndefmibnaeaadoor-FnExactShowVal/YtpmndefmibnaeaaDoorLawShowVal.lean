/-
  The walk of laws.FnExactShowVal. No statement is proved here.
-/
import Derived.Test.YtpmndefmibnaeaaDoorVIf
import Derived.Test.YtpmndefmibnaeaaDoorVSz
import Derived.Test.YtpmndefmibnaeaaDoorVEq
import Derived.Test.YtpmndefmibnaeaaDoorVTo
import Derived.Test.YtpmndefmibnaeaaDoorMV
import Derived.Deep.RegionHeld
import Derived.Deep.DeepCutAuto
namespace Go.Proofs.YtpmndefmibnaeaaDoor.By
open Go.RowKit
set_option linter.unusedVariables false
set_option linter.unusedSimpArgs false

theorem OwS.mk {B n c lo hi : Nat} {w u : World} {a : Option Addr} {zs : List Int} (h : OwS B w a n c zs) (ht : Mk lo hi w u) (hb : ∀ y, (Value.slice a n c).ownBlock = some y → y < lo ∨ hi ≤ y) : OwS B u a n c zs :=
  h.of fun g cur hg e => ht.block g (lt_of_block hg) (hb g e.symm)
theorem OwS.away {B n c : Nat} {w u : World} {a : Option Addr} {zs : List Int} {r : Option Nat} (h : OwS B w a n c zs) (hg : w.grownBy u r) (hb : ∀ y, (Value.slice a n c).ownBlock = some y → some y ≠ r) : OwS B u a n c zs :=
  h.of fun g cur hgg e => hg.block g (lt_of_block hgg) (hb g e.symm)

set_option maxRecDepth 8000 in
set_option maxHeartbeats 8000000 in
theorem lawShowVal (x : RVal) (a1 : Option Addr) (l1 c1 : Nat) (a2 : Option Addr) (l2 c2 : Nat) (cs : V) (ac : Option Addr) (lc cc : Nat) (w : World) (h : RdVal w x a1 l1 a2 l2) (hcs : SlVal w ac lc cs) (hok : okX x) (hokc : okN cs) (hTab : ∀ u, Below w.heap.size w u → Lib.TabIs Tryd.prog u "internal/strconv.uint64pow10" .u64 Lib.pow10Tab) :
    Calls Tryd.prog 3 #[.agg #[.int .i64 x.k, .int .i64 x.n, .slice a1 l1 c1, .slice a2 l2 c2], .slice ac lc cc] w fun e u => e = .returned (.bool true) ∧ w.grownBy u none := by
  have g0 := World.grownBy_alloc w (.cells #[.int .i64 x.k, .int .i64 x.n, .slice a1 l1 c1, .slice a2 l2 c2] 25) none
  have b0 := heap_alloc_new w (.cells #[.int .i64 x.k, .int .i64 x.n, .slice a1 l1 c1, .slice a2 l2 c2] 25)
  have C1 : Hid _ := szT_all x.list.size x a1 l1 c1 a2 l2 c2 1048576 _ (Nat.le_refl _) (h.none g0) (by omega) (by omega)
  have HD : Hid (RdVal w x a1 l1 a2 l2) := h
  have HC : Hid (SlVal w ac lc cs) := hcs
  have HE : Hid (∀ (u : World) (b : Option Addr) (c : Nat), w.grownBy u none → SlVal u b lc cs → lc ≤ c → cs.size ≤ 1048576 → Env u cs b lc c) := fun u b c hu h1 h2 h3 => ⟨h1, h2, h3, hokc, fun z hz => hTab z ((below_of_grown hu).trans (hz.mono hu.size))⟩
  have L0 : Hid (w.grownBy _ none ∧ _ = some (Obj.cells #[.int .i64 x.k, .int .i64 x.n, .slice a1 l1 c1, .slice a2 l2 c2] 25)) := ⟨g0, b0⟩
  obtain ⟨⟨y0, y1, y2, y3⟩, -⟩ := blkVal b0
  clear g0 b0 h hcs hTab
  go_enter Tryd.func3, Tryd.ntmps3
  go_wp2_with fail
  refine Calls.mono C1.out ?_
  rintro e w1 ⟨⟨r0, he, hr⟩, hg⟩
  subst he
  obtain ⟨g0, b0⟩ := L0.out
  have g1 := grown_trans g0 hg
  have b1 := (hg.block _ (lt_of_block b0) (by simp)).trans b0
  clear hg L0 C1 g0 b0 y0 y1 y2 y3
  simp only []
  rcases hr with rfl | ⟨hr0, hr1⟩
  · have G1 : Hid (w.grownBy w1 none) := g1
    clear g1 b1
    go_wp2
    go_ret
    exact ⟨rfl, G1.out⟩
  have hs' : szVal x ≤ 1048576 := by omega
  have hneg : ¬ r0 < 0 := by omega
  have hr1' : r0 ≤ 1048576 := by omega
  generalize ep : w.heap.size = p at b1
  have EP : Hid (w.heap.size = p) := ep
  try simp only [ep]
  have L1 : Hid ((w.grownBy w1 none) ∧ (w1.heap[p]? = some (Obj.cells #[.int .i64 x.k, .int .i64 x.n, .slice a1 l1 c1, .slice a2 l2 c2] 25))) := ⟨g1, b1⟩
  clear g1 b1 ep
  go_wp2_with fail
  have C2 : Hid _ := szS_all cs.size cs ac lc cc r0 w1 (Nat.le_refl _) (HC.out.none (L1.out.1)) hr0 hr1'
  refine Calls.mono C2.out ?_
  rintro e w2 ⟨⟨r1, he, hr⟩, hg⟩
  subst he
  have L2 : Hid ((w.grownBy w2 none) ∧ (w2.heap[p]? = some (Obj.cells #[.int .i64 x.k, .int .i64 x.n, .slice a1 l1 c1, .slice a2 l2 c2] 25))) := ⟨grown_trans (L1.out.1) hg, (World.grownBy.block hg _ (lt_of_block (L1.out.2)) (by simp)).trans (L1.out.2)⟩
  clear L1
  clear hg C2
  simp only []
  rcases hr with rfl | ⟨hr2, hr3⟩
  · have G1 : Hid (w.grownBy w2 none) := L2.out.1
    clear L2
    go_wp2
    go_ret
    exact ⟨rfl, G1.out⟩
  have hcz : cs.size ≤ 1048576 := by omega
  have hneg2 : ¬ r1 < 0 := by omega
  have hN : (shownV cs x).length ≤ 4194304 := by have := shownV_len cs x; omega
  clear hr0 hr1 hr1' hr2 hr3
  obtain ⟨⟨x0_0, x0_1, x0_2, x0_3⟩, -⟩ := blkVal (L2.out.2)
  go_wp2_with fail
  refine Calls.mono (toT_all x.list.size x a1 l1 c1 a2 l2 c2 w2 (Nat.le_refl _) (HD.out.none (L2.out.1)) hs') ?_
  rintro e w3 ⟨t1, v1, t2, v2, he, -, -, hg, hn⟩
  subst he
  have L3 : Hid ((w.grownBy w3 none) ∧ (w3.heap[p]? = some (Obj.cells #[.int .i64 x.k, .int .i64 x.n, .slice a1 l1 c1, .slice a2 l2 c2] 25)) ∧ (RdVal w3 x t1 l1 t2 l2)) := ⟨grown_trans (L2.out.1) hg, (World.grownBy.block hg _ (lt_of_block (L2.out.2)) (by simp)).trans (L2.out.2), hn.le CLe.unhidz⟩
  clear L2 x0_0 x0_1 x0_2 x0_3
  clear hg
  simp only []
  clear hn
  go_wp2_with fail
  refine Calls.mono (toS_all cs.size cs ac lc cc w3 (Nat.le_refl _) (HC.out.none (L3.out.1)) hcz) ?_
  rintro e w4 ⟨ta, va, he, -, hg, hn⟩
  subst he
  have L4 : Hid ((w.grownBy w4 none) ∧ (w4.heap[p]? = some (Obj.cells #[.int .i64 x.k, .int .i64 x.n, .slice a1 l1 c1, .slice a2 l2 c2] 25)) ∧ (RdVal w4 x t1 l1 t2 l2) ∧ (SlVal w4 ta lc cs)) := ⟨grown_trans (L3.out.1) hg, (World.grownBy.block hg _ (lt_of_block (L3.out.2.1)) (by simp)).trans (L3.out.2.1), RdVal.none (L3.out.2.2) hg, hn.le CLe.unhidz⟩
  clear L3
  clear hg
  simp only []
  clear hn
  go_wp2_with fail
  refine Calls.mono (specShowT cs x t1 l1 v1 t2 l2 v2 ta lc va w4 (L4.out.2.2.1) ⟨L4.out.2.2.2, hcz, hokc⟩ hs' hok) ?_
  rintro e w5 ⟨aw, cw, he, hw, hg⟩
  subst he
  have L5 : Hid ((w.grownBy w5 none) ∧ (w5.heap[p]? = some (Obj.cells #[.int .i64 x.k, .int .i64 x.n, .slice a1 l1 c1, .slice a2 l2 c2] 25)) ∧ (OwS w4.heap.size w5 aw (shownV cs x).length cw (shownV cs x))) := ⟨grown_trans (L4.out.1) hg, (World.grownBy.block hg _ (lt_of_block (L4.out.2.1)) (by simp)).trans (L4.out.2.1), hw⟩
  clear L4
  clear hg
  simp only []
  clear hw
  generalize hZS : shownV cs x = ZS at *
  generalize hNN : ZS.length = N at *
  have HZN : Hid (ZS.length = N) := hNN
  obtain ⟨⟨x1_0, x1_1, x1_2, x1_3⟩, -⟩ := blkVal (L5.out.2.1)
  go_wp2_with fail
  refine Calls.mono (toT_all x.list.size x a1 l1 c1 a2 l2 c2 w5 (Nat.le_refl _) (HD.out.none (L5.out.1)) hs') ?_
  rintro e w6 ⟨s1, z1, s2, z2, he, hl1, -, hg, hn⟩
  subst he
  have ga := World.grownBy_alloc w6 (.cells #[.int .i64 x.k, .int .i64 x.n, .slice s1 l1 z1, .slice s2 l2 z2] 31) none
  have ba := heap_alloc_new w6 (.cells #[.int .i64 x.k, .int .i64 x.n, .slice s1 l1 z1, .slice s2 l2 z2] 31)
  have hgg := grown_trans hg ga
  have hlw : ∀ y, (Value.slice aw N cw).ownBlock = some y → y < w5.heap.size := fun y hy => ((L5.out.2.2).lt y hy).2
  have hpr : w.heap.size ≤ w5.heap.size ∧ p < w5.heap.size := ⟨(L5.out.1).size, lt_of_block (L5.out.2.1)⟩
  have L6 : Hid ((w.grownBy (w6.alloc (.cells #[.int .i64 x.k, .int .i64 x.n, .slice s1 l1 z1, .slice s2 l2 z2] 31)) none) ∧ ((w6.alloc (.cells #[.int .i64 x.k, .int .i64 x.n, .slice s1 l1 z1, .slice s2 l2 z2] 31)).heap[p]? = some (Obj.cells #[.int .i64 x.k, .int .i64 x.n, .slice a1 l1 c1, .slice a2 l2 c2] 25)) ∧ (OwS w4.heap.size (w6.alloc (.cells #[.int .i64 x.k, .int .i64 x.n, .slice s1 l1 z1, .slice s2 l2 z2] 31)) aw N cw ZS) ∧ ((w6.alloc (.cells #[.int .i64 x.k, .int .i64 x.n, .slice s1 l1 z1, .slice s2 l2 z2] 31)).heap[w6.heap.size]? = some (Obj.cells #[.int .i64 x.k, .int .i64 x.n, .slice s1 l1 z1, .slice s2 l2 z2] 31)) ∧ (RdVal (hideZ (w6.alloc (.cells #[.int .i64 x.k, .int .i64 x.n, .slice s1 l1 z1, .slice s2 l2 z2] 31)) w5.heap.size) x s1 l1 s2 l2) ∧ (∀ y, (Value.slice aw N cw).ownBlock = some y → y < w5.heap.size) ∧ (w.heap.size ≤ w5.heap.size ∧ p < w5.heap.size) ∧ (w5.heap.size ≤ (w6.alloc (.cells #[.int .i64 x.k, .int .i64 x.n, .slice s1 l1 z1, .slice s2 l2 z2] 31)).heap.size)) := ⟨grown_trans (L5.out.1) hgg, (World.grownBy.block hgg _ (lt_of_block (L5.out.2.1)) (by simp)).trans (L5.out.2.1), OwS.kept (L5.out.2.2) hgg, ba, hn.le (hiz_grown ga), hlw, hpr, hgg.size⟩
  clear L5 x1_0 x1_1 x1_2 x1_3
  clear hg ga ba hgg hn hlw hpr
  simp only []
  go_wp2_with fail
  generalize er : w6.heap.size = r at *
  generalize w6.alloc (.cells #[.int .i64 x.k, .int .i64 x.n, .slice s1 l1 z1, .slice s2 l2 z2] 31) = w7 at *
  generalize el : w5.heap.size = lo at *
  refine Calls.mono (toS_all cs.size cs ac lc cc w7 (Nat.le_refl _) (HC.out.none (L6.out.1)) hcz) ?_
  rintro e w8 ⟨sa, za, he, hl2, hg, hn⟩
  subst he
  have L7 : Hid ((w.grownBy w8 none) ∧ (w8.heap[p]? = some (Obj.cells #[.int .i64 x.k, .int .i64 x.n, .slice a1 l1 c1, .slice a2 l2 c2] 25)) ∧ (OwS w4.heap.size w8 aw N cw ZS) ∧ (w8.heap[r]? = some (Obj.cells #[.int .i64 x.k, .int .i64 x.n, .slice s1 l1 z1, .slice s2 l2 z2] 31)) ∧ (RdVal (hideR w8 lo w8.heap.size) x s1 l1 s2 l2) ∧ (∀ y, (Value.slice aw N cw).ownBlock = some y → y < lo) ∧ (w.heap.size ≤ lo ∧ p < lo) ∧ (lo ≤ w8.heap.size) ∧ (SlVal (hideR w8 lo w8.heap.size) sa lc cs) ∧ (w8.heap.size ≤ w8.heap.size) ∧ (lo ≤ w8.heap.size)) := ⟨grown_trans (L6.out.1) hg, (World.grownBy.block hg _ (lt_of_block (L6.out.2.1)) (by simp)).trans (L6.out.2.1), OwS.kept (L6.out.2.2.1) hg, (World.grownBy.block hg _ (lt_of_block (L6.out.2.2.2.1)) (by simp)).trans (L6.out.2.2.2.1), (RdVal.le (L6.out.2.2.2.2.1) (hiz_grown hg)).le (CLe.toR (World.grownBy.refl w8 none)), L6.out.2.2.2.2.2.1, L6.out.2.2.2.2.2.2.1, Nat.le_trans (L6.out.2.2.2.2.2.2.2) hg.size, (hn.le (hiz_low (L6.out.2.2.2.2.2.2.2))).le (CLe.toR (World.grownBy.refl w8 none)), Nat.le_refl _, Nat.le_trans (L6.out.2.2.2.2.2.2.2) hg.size⟩
  clear L6
  clear hg hn
  simp only []
  obtain ⟨⟨x2_0, x2_1, x2_2, x2_3⟩, -⟩ := blkVal (L7.out.2.2.2.1)
  go_wp2_with fail
  refine Calls.mono (implShowT cs x s1 l1 z1 s2 l2 z2 sa lc za w8 ((L7.out.2.2.2.2.1).le CLe.unhir) hl1 (HE.out w8 sa za (L7.out.1) ((L7.out.2.2.2.2.2.2.2.2.1).le CLe.unhir) hl2 hcz) hs' hok) ?_
  rintro e w9 ⟨ag, cg, he, hw, hg⟩
  rw [hZS, HZN.out] at he
  subst he
  have L8 : Hid ((w.grownBy w9 none) ∧ (w9.heap[p]? = some (Obj.cells #[.int .i64 x.k, .int .i64 x.n, .slice a1 l1 c1, .slice a2 l2 c2] 25)) ∧ (OwS w4.heap.size w9 aw N cw ZS) ∧ (w9.heap[r]? = some (Obj.cells #[.int .i64 x.k, .int .i64 x.n, .slice s1 l1 z1, .slice s2 l2 z2] 31)) ∧ (RdVal (hideR w9 lo w8.heap.size) x s1 l1 s2 l2) ∧ (∀ y, (Value.slice aw N cw).ownBlock = some y → y < lo) ∧ (w.heap.size ≤ lo ∧ p < lo) ∧ (lo ≤ w9.heap.size) ∧ (SlVal (hideR w9 lo w8.heap.size) sa lc cs) ∧ (w8.heap.size ≤ w9.heap.size) ∧ (lo ≤ w8.heap.size) ∧ (OwS w8.heap.size w9 ag N cg (ZS))) := ⟨grown_trans (L7.out.1) hg, (World.grownBy.block hg _ (lt_of_block (L7.out.2.1)) (by simp)).trans (L7.out.2.1), OwS.kept (L7.out.2.2.1) hg, (World.grownBy.block hg _ (lt_of_block (L7.out.2.2.2.1)) (by simp)).trans (L7.out.2.2.2.1), RdVal.le (L7.out.2.2.2.2.1) (hir_grown hg), L7.out.2.2.2.2.2.1, L7.out.2.2.2.2.2.2.1, Nat.le_trans (L7.out.2.2.2.2.2.2.2.1) hg.size, SlVal.le (L7.out.2.2.2.2.2.2.2.2.1) (hir_grown hg), Nat.le_trans (L7.out.2.2.2.2.2.2.2.2.2.1) hg.size, L7.out.2.2.2.2.2.2.2.2.2.2, by rw [hZS] at hw; rw [HZN.out] at hw; exact hw⟩
  clear L7 x2_0 x2_1 x2_2 x2_3
  clear hg
  simp only []
  clear hw er el hl1 hl2
  go_wp2_with fail
  refine Calls.mono (eqBS ag aw N cg cw ZS w9 (L8.out.2.2.2.2.2.2.2.2.2.2.2).reads (L8.out.2.2.1).reads hN) ?_
  rintro e w10 ⟨rfl, hg⟩
  have L9 : Hid ((w.grownBy w10 none) ∧ (w10.heap[p]? = some (Obj.cells #[.int .i64 x.k, .int .i64 x.n, .slice a1 l1 c1, .slice a2 l2 c2] 25)) ∧ (OwS w4.heap.size w10 aw N cw ZS) ∧ (w10.heap[r]? = some (Obj.cells #[.int .i64 x.k, .int .i64 x.n, .slice s1 l1 z1, .slice s2 l2 z2] 31)) ∧ (RdVal (hideR w10 lo w8.heap.size) x s1 l1 s2 l2) ∧ (∀ y, (Value.slice aw N cw).ownBlock = some y → y < lo) ∧ (w.heap.size ≤ lo ∧ p < lo) ∧ (lo ≤ w10.heap.size) ∧ (SlVal (hideR w10 lo w8.heap.size) sa lc cs) ∧ (w8.heap.size ≤ w10.heap.size) ∧ (lo ≤ w8.heap.size) ∧ (OwS w8.heap.size w10 ag N cg (ZS))) := ⟨grown_trans (L8.out.1) hg, (World.grownBy.block hg _ (lt_of_block (L8.out.2.1)) (by simp)).trans (L8.out.2.1), OwS.kept (L8.out.2.2.1) hg, (World.grownBy.block hg _ (lt_of_block (L8.out.2.2.2.1)) (by simp)).trans (L8.out.2.2.2.1), RdVal.le (L8.out.2.2.2.2.1) (hir_grown hg), L8.out.2.2.2.2.2.1, L8.out.2.2.2.2.2.2.1, Nat.le_trans (L8.out.2.2.2.2.2.2.2.1) hg.size, SlVal.le (L8.out.2.2.2.2.2.2.2.2.1) (hir_grown hg), Nat.le_trans (L8.out.2.2.2.2.2.2.2.2.2.1) hg.size, L8.out.2.2.2.2.2.2.2.2.2.2.1, OwS.kept (L8.out.2.2.2.2.2.2.2.2.2.2.2) hg⟩
  clear L8
  clear hg
  simp only []
  go_wp2_with fail
  have L10 : Hid ((w.grownBy w10.drew none) ∧ (w10.drew.heap[p]? = some (Obj.cells #[.int .i64 x.k, .int .i64 x.n, .slice a1 l1 c1, .slice a2 l2 c2] 25)) ∧ (OwS w4.heap.size w10.drew aw N cw ZS) ∧ (w10.drew.heap[r]? = some (Obj.cells #[.int .i64 x.k, .int .i64 x.n, .slice s1 l1 z1, .slice s2 l2 z2] 31)) ∧ (RdVal (hideR w10.drew lo w8.heap.size) x s1 l1 s2 l2) ∧ (∀ y, (Value.slice aw N cw).ownBlock = some y → y < lo) ∧ (w.heap.size ≤ lo ∧ p < lo) ∧ (lo ≤ w10.drew.heap.size) ∧ (SlVal (hideR w10.drew lo w8.heap.size) sa lc cs) ∧ (w8.heap.size ≤ w10.drew.heap.size) ∧ (lo ≤ w8.heap.size) ∧ (OwS w8.heap.size w10.drew ag N cg (ZS))) := ⟨grown_trans (L9.out.1) (grown_drew (World.grownBy.refl w10 none)), (World.grownBy.block (grown_drew (World.grownBy.refl w10 none)) _ (lt_of_block (L9.out.2.1)) (by simp)).trans (L9.out.2.1), OwS.kept (L9.out.2.2.1) (grown_drew (World.grownBy.refl w10 none)), (World.grownBy.block (grown_drew (World.grownBy.refl w10 none)) _ (lt_of_block (L9.out.2.2.2.1)) (by simp)).trans (L9.out.2.2.2.1), RdVal.le (L9.out.2.2.2.2.1) (hir_grown (grown_drew (World.grownBy.refl w10 none))), L9.out.2.2.2.2.2.1, L9.out.2.2.2.2.2.2.1, Nat.le_trans (L9.out.2.2.2.2.2.2.2.1) (grown_drew (World.grownBy.refl w10 none)).size, SlVal.le (L9.out.2.2.2.2.2.2.2.2.1) (hir_grown (grown_drew (World.grownBy.refl w10 none))), Nat.le_trans (L9.out.2.2.2.2.2.2.2.2.2.1) (grown_drew (World.grownBy.refl w10 none)).size, L9.out.2.2.2.2.2.2.2.2.2.2.1, OwS.kept (L9.out.2.2.2.2.2.2.2.2.2.2.2) (grown_drew (World.grownBy.refl w10 none))⟩
  clear L9
  refine wp_region_held_drew (S := (fun u0 => (u0.cell? ⟨p, 0, none⟩ = some (.int .i64 x.k) ∧ u0.cell? ⟨p, 1, none⟩ = some (.int .i64 x.n) ∧ u0.cell? ⟨p, 2, none⟩ = some (.slice a1 l1 c1) ∧ u0.cell? ⟨p, 3, none⟩ = some (.slice a2 l2 c2)) ∧ (u0.cell? ⟨r, 0, none⟩ = some (.int .i64 x.k) ∧ u0.cell? ⟨r, 1, none⟩ = some (.int .i64 x.n) ∧ u0.cell? ⟨r, 2, none⟩ = some (.slice s1 l1 z1) ∧ u0.cell? ⟨r, 3, none⟩ = some (.slice s2 l2 z2)))) (by kernel_rfl) ⟨(blkVal (L10.out.2.1)).1, (blkVal (L10.out.2.2.2.1)).1⟩ (fun hH => ?_)
  generalize w10.drew = u0 at *
  simp only [List.size_toArray, List.length_cons, List.length_nil, Nat.reduceAdd, Array.replicate, List.replicate]
  refine wpAnyH_take (i := 0) (v := ?_) rfl (by kernel_rfl) (by kernel_rfl) (by kernel_rfl) (fun _ _ _ h => h) (Or.inl ⟨by rfl, ?_⟩) hH ?_
  rotate_left
  · (intro v hS; obtain ⟨⟨s00, s01, s02, s03⟩, s10, s11, s12, s13⟩ := hS; go_simp; try with_reducible rfl)
  simp only [Act.put, List.setIfInBounds_toArray, List.set_cons_zero, List.set_cons_succ, List.getElem_toArray, List.getElem_cons_succ, List.getElem_cons_zero]
  refine wpAnyH_take (i := 1) (v := ?_) rfl (by kernel_rfl) (by kernel_rfl) (by kernel_rfl) (fun _ _ _ h => h) (Or.inl ⟨by rfl, ?_⟩) hH ?_
  rotate_left
  · (intro v hS; obtain ⟨⟨s00, s01, s02, s03⟩, s10, s11, s12, s13⟩ := hS; go_simp; try with_reducible rfl)
  simp only [Act.put, List.setIfInBounds_toArray, List.set_cons_zero, List.set_cons_succ, List.getElem_toArray, List.getElem_cons_succ, List.getElem_cons_zero]
  refine wpAnyH_ready (rs := [2]) (by kernel_rfl) (by simp) ?_
  refine AllReadyH.cons rfl (fun K hK => ?_) AllReadyH.nil
  go_simp
  refine Calls.mono (toT_all x.list.size x a1 l1 c1 a2 l2 c2 u0 (Nat.le_refl _) (HD.out.none (L10.out.1)) hs') ?_
  rintro e u1 ⟨q1, d1, q2, d2, he, -, -, hg, hn⟩
  subst he
  have L11 : Hid ((w.grownBy u1 none) ∧ (u1.heap[p]? = some (Obj.cells #[.int .i64 x.k, .int .i64 x.n, .slice a1 l1 c1, .slice a2 l2 c2] 25)) ∧ (OwS w4.heap.size u1 aw N cw ZS) ∧ (u1.heap[r]? = some (Obj.cells #[.int .i64 x.k, .int .i64 x.n, .slice s1 l1 z1, .slice s2 l2 z2] 31)) ∧ (RdVal (hideR u1 lo w8.heap.size) x s1 l1 s2 l2) ∧ (∀ y, (Value.slice aw N cw).ownBlock = some y → y < lo) ∧ (w.heap.size ≤ lo ∧ p < lo) ∧ (lo ≤ u1.heap.size) ∧ (SlVal (hideR u1 lo w8.heap.size) sa lc cs) ∧ (w8.heap.size ≤ u1.heap.size) ∧ (lo ≤ w8.heap.size) ∧ (OwS w8.heap.size u1 ag N cg (ZS)) ∧ (RdVal u1 x q1 l1 q2 l2)) := ⟨grown_trans (L10.out.1) hg, (World.grownBy.block hg _ (lt_of_block (L10.out.2.1)) (by simp)).trans (L10.out.2.1), OwS.kept (L10.out.2.2.1) hg, (World.grownBy.block hg _ (lt_of_block (L10.out.2.2.2.1)) (by simp)).trans (L10.out.2.2.2.1), RdVal.le (L10.out.2.2.2.2.1) (hir_grown hg), L10.out.2.2.2.2.2.1, L10.out.2.2.2.2.2.2.1, Nat.le_trans (L10.out.2.2.2.2.2.2.2.1) hg.size, SlVal.le (L10.out.2.2.2.2.2.2.2.2.1) (hir_grown hg), Nat.le_trans (L10.out.2.2.2.2.2.2.2.2.2.1) hg.size, L10.out.2.2.2.2.2.2.2.2.2.2.1, OwS.kept (L10.out.2.2.2.2.2.2.2.2.2.2.2) hg, hn.le CLe.unhidz⟩
  clear L10
  refine hK.out _ _ ⟨(blkVal (L11.out.2.1)).1, (blkVal (L11.out.2.2.2.1)).1⟩ (fun hH2 => ?_)
  clear hK K hH
  have hH := hH2
  clear hH2 hg
  simp only [Act.put, List.setIfInBounds_toArray, List.set_cons_zero, List.set_cons_succ, List.getElem_toArray, List.getElem_cons_succ, List.getElem_cons_zero]
  clear hn
  refine wpAnyH_ready (rs := [3]) (by kernel_rfl) (by simp) ?_
  refine AllReadyH.cons rfl (fun K hK => ?_) AllReadyH.nil
  go_simp
  refine Calls.mono (eqT_all x.list.size x s1 q1 l1 z1 d1 s2 q2 l2 z2 d2 u1 (Nat.le_refl _) ((L11.out.2.2.2.2.1).le CLe.unhir) (L11.out.2.2.2.2.2.2.2.2.2.2.2.2) (by omega)) ?_
  rintro e u2 ⟨he, hg⟩
  subst he
  have L12 : Hid ((w.grownBy u2 none) ∧ (u2.heap[p]? = some (Obj.cells #[.int .i64 x.k, .int .i64 x.n, .slice a1 l1 c1, .slice a2 l2 c2] 25)) ∧ (OwS w4.heap.size u2 aw N cw ZS) ∧ (u2.heap[r]? = some (Obj.cells #[.int .i64 x.k, .int .i64 x.n, .slice s1 l1 z1, .slice s2 l2 z2] 31)) ∧ (RdVal (hideR u2 lo w8.heap.size) x s1 l1 s2 l2) ∧ (∀ y, (Value.slice aw N cw).ownBlock = some y → y < lo) ∧ (w.heap.size ≤ lo ∧ p < lo) ∧ (lo ≤ u2.heap.size) ∧ (SlVal (hideR u2 lo w8.heap.size) sa lc cs) ∧ (w8.heap.size ≤ u2.heap.size) ∧ (lo ≤ w8.heap.size) ∧ (OwS w8.heap.size u2 ag N cg (ZS))) := ⟨grown_trans (L11.out.1) hg, (World.grownBy.block hg _ (lt_of_block (L11.out.2.1)) (by simp)).trans (L11.out.2.1), OwS.kept (L11.out.2.2.1) hg, (World.grownBy.block hg _ (lt_of_block (L11.out.2.2.2.1)) (by simp)).trans (L11.out.2.2.2.1), RdVal.le (L11.out.2.2.2.2.1) (hir_grown hg), L11.out.2.2.2.2.2.1, L11.out.2.2.2.2.2.2.1, Nat.le_trans (L11.out.2.2.2.2.2.2.2.1) hg.size, SlVal.le (L11.out.2.2.2.2.2.2.2.2.1) (hir_grown hg), Nat.le_trans (L11.out.2.2.2.2.2.2.2.2.2.1) hg.size, L11.out.2.2.2.2.2.2.2.2.2.2.1, OwS.kept (L11.out.2.2.2.2.2.2.2.2.2.2.2.1) hg⟩
  clear L11
  refine hK.out _ _ ⟨(blkVal (L12.out.2.1)).1, (blkVal (L12.out.2.2.2.1)).1⟩ (fun hH2 => ?_)
  clear hK K hH
  have hH := hH2
  clear hH2 hg
  simp only [Act.put, List.setIfInBounds_toArray, List.set_cons_zero, List.set_cons_succ, List.getElem_toArray, List.getElem_cons_succ, List.getElem_cons_zero]
  refine wpAnyH_take (i := 4) (v := ?_) rfl (by kernel_rfl) (by kernel_rfl) (by kernel_rfl) (fun _ _ _ h => h) (Or.inl ⟨by rfl, ?_⟩) hH ?_
  rotate_left
  · (intro v hS; go_simp; try with_reducible rfl)
  simp only [Act.put, List.setIfInBounds_toArray, List.set_cons_zero, List.set_cons_succ, List.getElem_toArray, List.getElem_cons_succ, List.getElem_cons_zero]
  refine wpAnyH_done (by kernel_rfl) ?_ _
  go_wp2_with fail
  refine Calls.mono (toS_all cs.size cs ac lc cc u2 (Nat.le_refl _) (HC.out.none (L12.out.1)) hcz) ?_
  rintro e u3 ⟨qa, da, he, -, hg, hn⟩
  subst he
  have L13 : Hid ((w.grownBy u3 none) ∧ (u3.heap[p]? = some (Obj.cells #[.int .i64 x.k, .int .i64 x.n, .slice a1 l1 c1, .slice a2 l2 c2] 25)) ∧ (OwS w4.heap.size u3 aw N cw ZS) ∧ (u3.heap[r]? = some (Obj.cells #[.int .i64 x.k, .int .i64 x.n, .slice s1 l1 z1, .slice s2 l2 z2] 31)) ∧ (RdVal (hideR u3 lo w8.heap.size) x s1 l1 s2 l2) ∧ (∀ y, (Value.slice aw N cw).ownBlock = some y → y < lo) ∧ (w.heap.size ≤ lo ∧ p < lo) ∧ (lo ≤ u3.heap.size) ∧ (SlVal (hideR u3 lo w8.heap.size) sa lc cs) ∧ (w8.heap.size ≤ u3.heap.size) ∧ (lo ≤ w8.heap.size) ∧ (OwS w8.heap.size u3 ag N cg (ZS)) ∧ (SlVal u3 qa lc cs)) := ⟨grown_trans (L12.out.1) hg, (World.grownBy.block hg _ (lt_of_block (L12.out.2.1)) (by simp)).trans (L12.out.2.1), OwS.kept (L12.out.2.2.1) hg, (World.grownBy.block hg _ (lt_of_block (L12.out.2.2.2.1)) (by simp)).trans (L12.out.2.2.2.1), RdVal.le (L12.out.2.2.2.2.1) (hir_grown hg), L12.out.2.2.2.2.2.1, L12.out.2.2.2.2.2.2.1, Nat.le_trans (L12.out.2.2.2.2.2.2.2.1) hg.size, SlVal.le (L12.out.2.2.2.2.2.2.2.2.1) (hir_grown hg), Nat.le_trans (L12.out.2.2.2.2.2.2.2.2.2.1) hg.size, L12.out.2.2.2.2.2.2.2.2.2.2.1, OwS.kept (L12.out.2.2.2.2.2.2.2.2.2.2.2) hg, hn.le CLe.unhidz⟩
  clear L12
  clear hg
  simp only []
  clear hn
  go_wp2_with fail
  refine Calls.mono (eqS_all cs.size cs sa qa lc za da u3 (Nat.le_refl _) ((L13.out.2.2.2.2.2.2.2.2.1).le CLe.unhir) (L13.out.2.2.2.2.2.2.2.2.2.2.2.2) (by omega)) ?_
  rintro e u4 ⟨rfl, hg⟩
  have L14 : Hid ((w.grownBy u4 none) ∧ (u4.heap[p]? = some (Obj.cells #[.int .i64 x.k, .int .i64 x.n, .slice a1 l1 c1, .slice a2 l2 c2] 25)) ∧ (OwS w4.heap.size u4 aw N cw ZS) ∧ (u4.heap[r]? = some (Obj.cells #[.int .i64 x.k, .int .i64 x.n, .slice s1 l1 z1, .slice s2 l2 z2] 31)) ∧ (RdVal (hideR u4 lo w8.heap.size) x s1 l1 s2 l2) ∧ (∀ y, (Value.slice aw N cw).ownBlock = some y → y < lo) ∧ (w.heap.size ≤ lo ∧ p < lo) ∧ (lo ≤ u4.heap.size) ∧ (SlVal (hideR u4 lo w8.heap.size) sa lc cs) ∧ (w8.heap.size ≤ u4.heap.size) ∧ (lo ≤ w8.heap.size) ∧ (OwS w8.heap.size u4 ag N cg (ZS))) := ⟨grown_trans (L13.out.1) hg, (World.grownBy.block hg _ (lt_of_block (L13.out.2.1)) (by simp)).trans (L13.out.2.1), OwS.kept (L13.out.2.2.1) hg, (World.grownBy.block hg _ (lt_of_block (L13.out.2.2.2.1)) (by simp)).trans (L13.out.2.2.2.1), RdVal.le (L13.out.2.2.2.2.1) (hir_grown hg), L13.out.2.2.2.2.2.1, L13.out.2.2.2.2.2.2.1, Nat.le_trans (L13.out.2.2.2.2.2.2.2.1) hg.size, SlVal.le (L13.out.2.2.2.2.2.2.2.2.1) (hir_grown hg), Nat.le_trans (L13.out.2.2.2.2.2.2.2.2.2.1) hg.size, L13.out.2.2.2.2.2.2.2.2.2.2.1, OwS.kept (L13.out.2.2.2.2.2.2.2.2.2.2.2.1) hg⟩
  clear L13
  clear hg
  simp only []
  obtain ⟨⟨x3_0, x3_1, x3_2, x3_3⟩, -⟩ := blkVal (L14.out.2.2.2.1)
  have hd1 : (1 : Int) + 4 * (szVal x : Nat) ≤ 4611686018427387904 := by omega
  go_wp2_with fail
  refine Calls.mono (mrVa lo w8.heap.size x s1 l1 z1 s2 l2 z2 1 u4 (RdB.sh (L14.out.2.2.2.2.1).1) (SlVal.sh (L14.out.2.2.2.2.1).2) (L14.out.2.2.2.2.1).1.1.1 (L14.out.2.2.2.2.2.2.2.2.2.1) (by omega) hd1) ?_
  rintro e u5 ⟨k8, he, hk8, hk8', ht⟩
  subst he
  have L15 : Hid ((w.grownBy u5 none) ∧ (u5.heap[p]? = some (Obj.cells #[.int .i64 x.k, .int .i64 x.n, .slice a1 l1 c1, .slice a2 l2 c2] 25)) ∧ (OwS w4.heap.size u5 aw N cw (ZS)) ∧ (OwS w8.heap.size u5 ag N cg (ZS)) ∧ (∀ y, (Value.slice aw N cw).ownBlock = some y → y < lo) ∧ (w.heap.size ≤ lo ∧ p < lo) ∧ (lo ≤ w8.heap.size) ∧ (ShLVal (hideR u5 lo w8.heap.size) sa lc cs)) := ⟨Mk.fresh (L14.out.1) ht (L14.out.2.2.2.2.2.2.1).1, (ht.block p (lt_of_block (L14.out.2.1)) (.inl (L14.out.2.2.2.2.2.2.1).2)).trans (L14.out.2.1), OwS.mk (L14.out.2.2.1) ht (fun y hy => .inl ((L14.out.2.2.2.2.2.1) y hy)), OwS.mk (L14.out.2.2.2.2.2.2.2.2.2.2.2) ht (fun y hy => .inr ((L14.out.2.2.2.2.2.2.2.2.2.2.2).lt y hy).1), L14.out.2.2.2.2.2.1, L14.out.2.2.2.2.2.2.1, L14.out.2.2.2.2.2.2.2.2.2.2.1, (SlVal.sh (L14.out.2.2.2.2.2.2.2.2.1)).like ht.like⟩
  clear L14 x3_0 x3_1 x3_2 x3_3
  clear ht
  simp only []
  have hd2 : k8 + 4 * (cs.size : Nat) ≤ 4611686018427387904 := by omega
  go_wp2_with fail
  refine Calls.mono (mrVal lo w8.heap.size cs.size cs sa lc za k8 u5 (Nat.le_refl _) (L15.out.2.2.2.2.2.2.2) (by omega) hd2) ?_
  rintro e u6 ⟨k9, he, hk9, hk9', ht⟩
  subst he
  have L16 : Hid ((w.grownBy u6 none) ∧ (u6.heap[p]? = some (Obj.cells #[.int .i64 x.k, .int .i64 x.n, .slice a1 l1 c1, .slice a2 l2 c2] 25)) ∧ (OwS w4.heap.size u6 aw N cw (ZS)) ∧ (OwS w8.heap.size u6 ag N cg (ZS)) ∧ (∀ y, (Value.slice aw N cw).ownBlock = some y → y < lo) ∧ (w.heap.size ≤ lo ∧ p < lo) ∧ (lo ≤ w8.heap.size)) := ⟨Mk.fresh (L15.out.1) ht (L15.out.2.2.2.2.2.1).1, (ht.block p (lt_of_block (L15.out.2.1)) (.inl (L15.out.2.2.2.2.2.1).2)).trans (L15.out.2.1), OwS.mk (L15.out.2.2.1) ht (fun y hy => .inl ((L15.out.2.2.2.2.1) y hy)), OwS.mk (L15.out.2.2.2.1) ht (fun y hy => .inr ((L15.out.2.2.2.1).lt y hy).1), L15.out.2.2.2.2.1, L15.out.2.2.2.2.2.1, L15.out.2.2.2.2.2.2.1⟩
  clear L15
  clear ht
  simp only []
  have hk1 : decide (k9 < 0) = false := by simp; omega
  have hk2 : ¬ k9 < 0 := by omega
  clear hd1 hd2 hk8 hk8' hk9 hk9'
  go_wp2_with fail
  refine Calls.mono (eqBS ag aw N cg cw ZS u6 (L16.out.2.2.2.1).reads (L16.out.2.2.1).reads hN) ?_
  rintro e u7 ⟨rfl, hg⟩
  have L17 : Hid ((w.grownBy u7 none) ∧ (u7.heap[p]? = some (Obj.cells #[.int .i64 x.k, .int .i64 x.n, .slice a1 l1 c1, .slice a2 l2 c2] 25)) ∧ (OwS w4.heap.size u7 aw N cw (ZS)) ∧ (OwS w8.heap.size u7 ag N cg (ZS)) ∧ (∀ y, (Value.slice aw N cw).ownBlock = some y → y < lo) ∧ (w.heap.size ≤ lo ∧ p < lo) ∧ (lo ≤ w8.heap.size)) := ⟨grown_trans (L16.out.1) hg, (World.grownBy.block hg _ (lt_of_block (L16.out.2.1)) (by simp)).trans (L16.out.2.1), OwS.kept (L16.out.2.2.1) hg, OwS.kept (L16.out.2.2.2.1) hg, L16.out.2.2.2.2.1, L16.out.2.2.2.2.2.1, L16.out.2.2.2.2.2.2⟩
  clear L16
  clear hg
  simp only []
  clear hk1 hk2
  go_wp2_with fail
  refine Calls.mono (markBS w8.heap.size N cg ag ZS 1 u7 (L17.out.2.2.2.1) hN (by omega) (by omega)) ?_
  rintro e u8 ⟨rfl, hg, hm⟩
  have L18 : Hid ((w.grownBy u8 none) ∧ (u8.heap[p]? = some (Obj.cells #[.int .i64 x.k, .int .i64 x.n, .slice a1 l1 c1, .slice a2 l2 c2] 25)) ∧ (OwS w4.heap.size u8 aw N cw (ZS)) ∧ (OwS w8.heap.size u8 ag N cg (marks 1 N))) := ⟨(L17.out.2.2.2.1).grown (A := 0) hg (L17.out.1) (Nat.le_trans (L17.out.2.2.2.2.2.1).1 (L17.out.2.2.2.2.2.2)), (L17.out.2.2.2.1).box hg (L17.out.2.1) (by decide), OwS.away (L17.out.2.2.1) hg (fun y hy e => by have h1 := (L17.out.2.2.2.2.1) y hy; have h2 := ((L17.out.2.2.2.1).lt y e.symm).1; have h3 := L17.out.2.2.2.2.2.2; omega), hm⟩
  clear L17
  clear hg hm
  simp only []
  have hq1 : ¬ ((1 : Int) + N < 0) := by omega
  go_wp2_with fail
  refine Calls.mono (heldBS ag N cg 1 u8 (L18.out.2.2.2).reads hN (by omega) (by omega)) ?_
  rintro e u9 ⟨rfl, hg⟩
  have L19 : Hid ((w.grownBy u9 none) ∧ (u9.heap[p]? = some (Obj.cells #[.int .i64 x.k, .int .i64 x.n, .slice a1 l1 c1, .slice a2 l2 c2] 25)) ∧ (OwS w4.heap.size u9 aw N cw (ZS)) ∧ (OwS w8.heap.size u9 ag N cg (marks 1 N))) := ⟨grown_trans (L18.out.1) hg, (World.grownBy.block hg _ (lt_of_block (L18.out.2.1)) (by simp)).trans (L18.out.2.1), OwS.kept (L18.out.2.2.1) hg, OwS.kept (L18.out.2.2.2) hg⟩
  clear L18
  clear hg
  simp only []
  obtain ⟨⟨x4_0, x4_1, x4_2, x4_3⟩, -⟩ := blkVal (L19.out.2.1)
  go_wp2_with fail
  refine Calls.mono (toT_all x.list.size x a1 l1 c1 a2 l2 c2 u9 (Nat.le_refl _) (HD.out.none (L19.out.1)) hs') ?_
  rintro e u10 ⟨j1, k1, j2, k2, he, hl1, -, hg, hn⟩
  subst he
  have L20 : Hid ((w.grownBy u10 none) ∧ (u10.heap[p]? = some (Obj.cells #[.int .i64 x.k, .int .i64 x.n, .slice a1 l1 c1, .slice a2 l2 c2] 25)) ∧ (OwS w4.heap.size u10 aw N cw (ZS)) ∧ (OwS w8.heap.size u10 ag N cg (marks 1 N)) ∧ (RdVal u10 x j1 l1 j2 l2)) := ⟨grown_trans (L19.out.1) hg, (World.grownBy.block hg _ (lt_of_block (L19.out.2.1)) (by simp)).trans (L19.out.2.1), OwS.kept (L19.out.2.2.1) hg, OwS.kept (L19.out.2.2.2) hg, hn.le CLe.unhidz⟩
  clear L19 x4_0 x4_1 x4_2 x4_3
  clear hg
  simp only []
  clear hn
  go_wp2_with fail
  refine Calls.mono (toS_all cs.size cs ac lc cc u10 (Nat.le_refl _) (HC.out.none (L20.out.1)) hcz) ?_
  rintro e u11 ⟨ja, ka, he, hl2, hg, hn⟩
  subst he
  have L21 : Hid ((w.grownBy u11 none) ∧ (u11.heap[p]? = some (Obj.cells #[.int .i64 x.k, .int .i64 x.n, .slice a1 l1 c1, .slice a2 l2 c2] 25)) ∧ (OwS w4.heap.size u11 aw N cw (ZS)) ∧ (OwS w8.heap.size u11 ag N cg (marks 1 N)) ∧ (RdVal u11 x j1 l1 j2 l2) ∧ (SlVal u11 ja lc cs)) := ⟨grown_trans (L20.out.1) hg, (World.grownBy.block hg _ (lt_of_block (L20.out.2.1)) (by simp)).trans (L20.out.2.1), OwS.kept (L20.out.2.2.1) hg, OwS.kept (L20.out.2.2.2.1) hg, RdVal.none (L20.out.2.2.2.2) hg, hn.le CLe.unhidz⟩
  clear L20
  clear hg
  simp only []
  clear hn
  go_wp2_with fail
  refine Calls.mono (implShowT cs x j1 l1 k1 j2 l2 k2 ja lc ka u11 (L21.out.2.2.2.2.1) hl1 (HE.out u11 ja ka (L21.out.1) (L21.out.2.2.2.2.2) hl2 hcz) hs' hok) ?_
  rintro e u12 ⟨ah, ch, he, hw, hg⟩
  rw [hZS, HZN.out] at he
  subst he
  have L22 : Hid ((w.grownBy u12 none) ∧ (u12.heap[p]? = some (Obj.cells #[.int .i64 x.k, .int .i64 x.n, .slice a1 l1 c1, .slice a2 l2 c2] 25)) ∧ (OwS w4.heap.size u12 aw N cw (ZS)) ∧ (OwS w8.heap.size u12 ag N cg (marks 1 N)) ∧ (OwS u11.heap.size u12 ah N ch (ZS))) := ⟨grown_trans (L21.out.1) hg, (World.grownBy.block hg _ (lt_of_block (L21.out.2.1)) (by simp)).trans (L21.out.2.1), OwS.kept (L21.out.2.2.1) hg, OwS.kept (L21.out.2.2.2.1) hg, by rw [hZS] at hw; rw [HZN.out] at hw; exact hw⟩
  clear L21
  clear hg
  simp only []
  clear hw hl1 hl2
  go_wp2_with fail
  refine Calls.mono (eqBS ah aw N ch cw ZS u12 (L22.out.2.2.2.2).reads (L22.out.2.2.1).reads hN) ?_
  rintro e u13 ⟨rfl, hg⟩
  have L23 : Hid ((w.grownBy u13 none) ∧ (u13.heap[p]? = some (Obj.cells #[.int .i64 x.k, .int .i64 x.n, .slice a1 l1 c1, .slice a2 l2 c2] 25)) ∧ (OwS w4.heap.size u13 aw N cw (ZS)) ∧ (OwS w8.heap.size u13 ag N cg (marks 1 N)) ∧ (OwS u11.heap.size u13 ah N ch (ZS))) := ⟨grown_trans (L22.out.1) hg, (World.grownBy.block hg _ (lt_of_block (L22.out.2.1)) (by simp)).trans (L22.out.2.1), OwS.kept (L22.out.2.2.1) hg, OwS.kept (L22.out.2.2.2.1) hg, OwS.kept (L22.out.2.2.2.2) hg⟩
  clear L22
  clear hg
  simp only []
  go_wp2_with fail
  refine Calls.mono (heldBS ag N cg 1 u13 (L23.out.2.2.2.1).reads hN (by omega) (by omega)) ?_
  rintro e u14 ⟨rfl, hg⟩
  have L24 : Hid ((w.grownBy u14 none) ∧ (u14.heap[p]? = some (Obj.cells #[.int .i64 x.k, .int .i64 x.n, .slice a1 l1 c1, .slice a2 l2 c2] 25)) ∧ (OwS w4.heap.size u14 aw N cw (ZS)) ∧ (OwS w8.heap.size u14 ag N cg (marks 1 N)) ∧ (OwS u11.heap.size u14 ah N ch (ZS))) := ⟨grown_trans (L23.out.1) hg, (World.grownBy.block hg _ (lt_of_block (L23.out.2.1)) (by simp)).trans (L23.out.2.1), OwS.kept (L23.out.2.2.1) hg, OwS.kept (L23.out.2.2.2.1) hg, OwS.kept (L23.out.2.2.2.2) hg⟩
  clear L23
  clear hg
  simp only []
  go_wp2
  go_ret
  exact ⟨rfl, L24.out.1⟩
end Go.Proofs.YtpmndefmibnaeaaDoor.By
