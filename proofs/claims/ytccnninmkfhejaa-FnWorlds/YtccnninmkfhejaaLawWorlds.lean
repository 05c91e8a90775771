/-
  The walk of laws.FnWorlds. No statement is proved here.
-/
import Derived.Test.YtccnninmkfhejaaYBg
import Derived.Test.YtccnninmkfhejaaYDf
import Derived.Test.YtccnninmkfhejaaWV
namespace Go.Proofs.Ytccnninmkfhejaa.By
open Go.RowKit
set_option linter.unusedVariables false
set_option linter.unusedSimpArgs false

set_option maxRecDepth 8000 in
set_option maxHeartbeats 8000000 in
theorem lawWorlds (a : Option Addr) (n cap : Nat) (zs : List Int) (hz : Byt zs) (w : World) (hr : Reads w a n zs) (hn : n ≤ 9223372036854775807) :
    Calls Try.prog 3 #[.slice a n cap] w fun e u => e = .returned (.bool true) ∧ w.grownBy u none := by
  have CD : Hid _ := drawForeignT a n cap zs w hr hz hn
  clear hr hz hn
  go_enter Try.func3, Try.ntmps3
  go_wp2_with fail
  refine Calls.mono CD.out ?_
  rintro e w1 ⟨x, d1, l1, k1, d2, l2, k2, d3, l3, k3, kind, A, C, lit, la, ll, lc, rfl, ⟨B, vs, hi, ho⟩, hb, hkI, hAI, hCI, hsz, htr, hll, hg⟩
  clear CD
  have HK : Hid (I64x kind ∧ I64x A ∧ I64x C ∧ szWorld x ≤ 1000 ∧ x.trace.length ≤ 3 ∧ ll ≤ 5 ∧ lit.length = ll) := ⟨hkI, hAI, hCI, hsz, htr, hll, hb.1.1⟩
  have HL : Hid (x.draws.length = l1 ∧ x.store.length = l2 ∧ x.trace.length = l3 ∧ l2 ≤ 4194304 ∧ l3 ≤ 4194304 ∧ l3 ≤ 3) := by
    obtain ⟨q1, q2, q3⟩ := ow_len ho
    have h9 := hsz
    unfold szWorld at h9
    rw [szEntrys_eq] at h9
    exact ⟨q1, q2, q3, by omega, by omega, by omega⟩
  clear hkI hAI hCI hsz htr hll
  have ga := World.grownBy_alloc w1 (.cells #[.int .i64 x.ticks, .slice d1 l1 k1, .slice d2 l2 k2, .slice d3 l3 k3] 27) none
  have ba := heap_alloc_new w1 (.cells #[.int .i64 x.ticks, .slice d1 l1 k1, .slice d2 l2 k2, .slice d3 l3 k3] 27)
  have hgg := grown_trans hg ga
  have L1 : Hid ((w.grownBy (w1.alloc (.cells #[.int .i64 x.ticks, .slice d1 l1 k1, .slice d2 l2 k2, .slice d3 l3 k3] 27)) none) ∧ ((w1.alloc (.cells #[.int .i64 x.ticks, .slice d1 l1 k1, .slice d2 l2 k2, .slice d3 l3 k3] 27)).heap[w1.heap.size]? = some (Obj.cells #[.int .i64 x.ticks, .slice d1 l1 k1, .slice d2 l2 k2, .slice d3 l3 k3] 27)) ∧ (OwW (w1.alloc (.cells #[.int .i64 x.ticks, .slice d1 l1 k1, .slice d2 l2 k2, .slice d3 l3 k3] 27)) B x d1 l1 d2 l2 k2 d3 l3 k3 vs hi) ∧ (RdB (w1.alloc (.cells #[.int .i64 x.ticks, .slice d1 l1 k1, .slice d2 l2 k2, .slice d3 l3 k3] 27)) la ll lit)) := ⟨hgg, ba, ow_none ho ga, hb.none ga⟩
  clear hg ga ba hgg ho hb
  simp only []
  obtain ⟨⟨x0_0, x0_1, x0_2, x0_3⟩, -⟩ := blkWorld (L1.out.2.1)
  go_wp2_with fail
  generalize (w1.alloc (.cells #[.int .i64 x.ticks, .slice d1 l1 k1, .slice d2 l2 k2, .slice d3 l3 k3] 27)) = u1 at *
  generalize w1.heap.size = p at *
  obtain ⟨y, R, b, hHF⟩ : ∃ y R b, forV x kind A C lit = (y, R, b) := ⟨_, _, _, rfl⟩
  have HF : Hid (forV x kind A C lit = (y, R, b)) := hHF
  clear hHF
  obtain ⟨m1, hm1⟩ : ∃ m, y.draws.length = m := ⟨_, rfl⟩
  obtain ⟨m2, hm2⟩ : ∃ m, y.store.length = m := ⟨_, rfl⟩
  obtain ⟨m3, hm3⟩ : ∃ m, y.trace.length = m := ⟨_, rfl⟩
  have HN : Hid (y.draws.length = m1 ∧ y.store.length = m2 ∧ y.trace.length = m3) := ⟨hm1, hm2, hm3⟩
  clear hm1 hm2 hm3
  refine Calls.mono (implF x y kind A C R b lit HF.out m1 m2 m3 HN.out.1 HN.out.2.1 HN.out.2.2 d1 l1 k1 d2 l2 k2 d3 l3 k3 la ll lc u1 ((ow_rd (L1.out.2.2.1) HL.out.2.2.2.1 HL.out.2.2.2.2.1).le CLe.unhidz) (L1.out.2.2.2) HK.out.1 (Nat.le_trans HK.out.2.2.2.1 (by omega))) ?_
  rintro e w3 ⟨e1, f1, e2, f2, e3, f3, us, hj, he, ho, hg⟩
  subst he
  have ga := World.grownBy_alloc w3 (.cells #[.int .i64 y.ticks, .slice e1 m1 f1, .slice e2 m2 f2, .slice e3 m3 f3] 27) none
  have ba := heap_alloc_new w3 (.cells #[.int .i64 y.ticks, .slice e1 m1 f1, .slice e2 m2 f2, .slice e3 m3 f3] 27)
  have hgg := grown_trans hg ga
  have L2 : Hid ((w.grownBy (w3.alloc (.cells #[.int .i64 y.ticks, .slice e1 m1 f1, .slice e2 m2 f2, .slice e3 m3 f3] 27)) none) ∧ ((w3.alloc (.cells #[.int .i64 y.ticks, .slice e1 m1 f1, .slice e2 m2 f2, .slice e3 m3 f3] 27)).heap[p]? = some (Obj.cells #[.int .i64 x.ticks, .slice d1 l1 k1, .slice d2 l2 k2, .slice d3 l3 k3] 27)) ∧ (OwW (w3.alloc (.cells #[.int .i64 y.ticks, .slice e1 m1 f1, .slice e2 m2 f2, .slice e3 m3 f3] 27)) B x d1 l1 d2 l2 k2 d3 l3 k3 vs hi) ∧ ((w3.alloc (.cells #[.int .i64 y.ticks, .slice e1 m1 f1, .slice e2 m2 f2, .slice e3 m3 f3] 27)).heap[w3.heap.size]? = some (Obj.cells #[.int .i64 y.ticks, .slice e1 m1 f1, .slice e2 m2 f2, .slice e3 m3 f3] 27)) ∧ (OwW (w3.alloc (.cells #[.int .i64 y.ticks, .slice e1 m1 f1, .slice e2 m2 f2, .slice e3 m3 f3] 27)) u1.heap.size y e1 m1 e2 m2 f2 e3 m3 f3 us hj)) := ⟨grown_trans (L1.out.1) hgg, (World.grownBy.block hgg _ (lt_of_block (L1.out.2.1)) (by simp)).trans (L1.out.2.1), ow_none (L1.out.2.2.1) hgg, ba, ow_none ho ga⟩
  clear L1 x0_0 x0_1 x0_2 x0_3
  clear hg ga ba hgg ho
  simp only []
  by_cases hok : forOk x kind A C lit = true
  rotate_left
  · have hbad : R = 0 ∧ b = false := by
      have h9 := forV_bad (by simpa using hok : forOk x kind A C lit = false)
      rw [HF.out] at h9
      cases h9
      exact ⟨rfl, rfl⟩
    obtain ⟨rfl, rfl⟩ := hbad
    have HO : Hid (¬ ((0 ≤ kind ∧ kind ≤ 4) ∧ wokV x = true ∧ isW A = true ∧ isW C = true ∧ lit.length ≤ 64 ∧ x.trace.length < 20000)) := fun h => hok (forOk_iff.2 h)
    clear hok
    obtain ⟨⟨x1_0, x1_1, x1_2, x1_3⟩, -⟩ := blkWorld (L2.out.2.1)
    go_wp2_with fail
    refine Calls.mono (specWorldOkT x d1 l1 k1 d2 l2 k2 d3 l3 k3 _ ((ow_rd (L2.out.2.2.1) HL.out.2.2.2.1 HL.out.2.2.2.2.1).le CLe.unhidz)) ?_
    rintro e w4 ⟨rfl, hg⟩
    have L3 : Hid ((w.grownBy w4 none) ∧ (w4.heap[p]? = some (Obj.cells #[.int .i64 x.ticks, .slice d1 l1 k1, .slice d2 l2 k2, .slice d3 l3 k3] 27)) ∧ (OwW w4 B x d1 l1 d2 l2 k2 d3 l3 k3 vs hi) ∧ (w4.heap[w3.heap.size]? = some (Obj.cells #[.int .i64 y.ticks, .slice e1 m1 f1, .slice e2 m2 f2, .slice e3 m3 f3] 27)) ∧ (OwW w4 u1.heap.size y e1 m1 e2 m2 f2 e3 m3 f3 us hj)) := ⟨grown_trans (L2.out.1) hg, (World.grownBy.block hg _ (lt_of_block (L2.out.2.1)) (by simp)).trans (L2.out.2.1), ow_none (L2.out.2.2.1) hg, (World.grownBy.block hg _ (lt_of_block (L2.out.2.2.2.1)) (by simp)).trans (L2.out.2.2.2.1), ow_none (L2.out.2.2.2.2) hg⟩
    clear L2 x1_0 x1_1 x1_2 x1_3
    clear hg
    simp only []
    have G4 : Hid (w.grownBy w4 none) := L3.out.1
    have HO2 : Hid (wokV x = true → 0 ≤ kind → kind ≤ 4 → wd A = A → wd C = C → 64 < ll) := fun h1 h2 h3 h4 h5 => by
      have h6 := HK.out
      by_cases h7 : 64 < ll
      · exact h7
      · exact absurd ⟨⟨h2, h3⟩, h1, by simp [isW, h4], by simp [isW, h5], by omega, by omega⟩ HO.out
    clear L3 HO
    generalize wokV x = wk at *
    generalize hWA : wd A = WA at HO2
    have HWA : Hid (wd A = WA) := hWA
    clear hWA
    generalize hWC : wd C = WC at HO2
    have HWC : Hid (wd C = WC) := hWC
    clear hWC
    cases wk with
    | false =>
      go_wp2
      go_ret
      exact ⟨rfl, G4.out⟩
    | true =>
    by_cases q1 : kind < 0
    · go_wp2
      go_ret
      exact ⟨rfl, G4.out⟩
    by_cases q2 : 4 < kind
    · go_wp2
      go_ret
      exact ⟨rfl, G4.out⟩
    go_wp2_with fail
    refine Calls.mono (specWrapT A w4) ?_
    rintro e u' ⟨rfl, rfl⟩
    rw [HWA.out]
    by_cases q3 : A = WA
    rotate_left
    · go_wp2
      go_ret
      exact ⟨rfl, G4.out⟩
    subst q3
    go_wp2_with fail
    refine Calls.mono (specWrapT C u') ?_
    rintro e u'' ⟨rfl, rfl⟩
    rw [HWC.out]
    by_cases q4 : C = WC
    rotate_left
    · go_wp2
      go_ret
      exact ⟨rfl, G4.out⟩
    subst q4
    have q5 := HO2.out (by first | rfl | trivial) (by omega) (by omega) (by first | rfl | trivial) (by first | rfl | trivial)
    have q6 : decide ((64 : Int) < (ll : Int)) = true := by simp; omega
    go_wp2
    go_ret
    first
      | exact ⟨rfl, G4.out⟩
      | exact ⟨by show Ending.returned (Value.bool (decide ((64 : Int) < (ll : Int)))) = _; rw [q6], G4.out⟩
  obtain ⟨hw1, hb1, ev, ht1, hev1, hev2⟩ := forV_good hok
  have hOK := forOk_iff.1 hok
  rw [HF.out] at hw1 hb1 ht1 hev1
  simp only at hw1 hb1 ht1 hev1
  subst hb1
  have HG : Hid (wokV y = true ∧ y.trace = x.trace ++ [ev] ∧ ev.res = R ∧ ev.cap = kind) := ⟨hw1, ht1, hev1, hev2⟩
  have HPT : Hid _ := forV_put (x := x) (A := A) (C := C) hOK.2.1 hOK.2.2.1 hOK.2.2.2.1 (Nat.lt_of_le_of_lt HK.out.2.2.2.2.1 (by omega))
  have hm3 : m3 = l3 + 1 := by have h8 := HN.out.2.2; have h9 := HL.out.2.2.1; rw [ht1, List.length_append] at h8; simp at h8; omega
  obtain rfl := hm3
  have HY : Hid (m2 ≤ 4194304 ∧ (l3 + 1) ≤ 4194304) := by
    have h8 := wokV_iff.1 hw1
    have h7 := HN.out
    exact ⟨by omega, by omega⟩
  clear hw1 ht1 hev1 hev2 hOK hok
  obtain ⟨⟨x2_0, x2_1, x2_2, x2_3⟩, -⟩ := blkWorld (L2.out.2.1)
  obtain ⟨⟨x3_0, x3_1, x3_2, x3_3⟩, -⟩ := blkWorld (L2.out.2.2.2.1)
  go_wp2_with fail
  generalize (w3.alloc (.cells #[.int .i64 y.ticks, .slice e1 m1 f1, .slice e2 m2 f2, .slice e3 (l3 + 1) f3] 27)) = u2 at *
  generalize w3.heap.size = q at *
  refine Calls.mono (implWorldOkT y e1 m1 f1 e2 m2 f2 e3 (l3 + 1) f3 u2 ((ow_rd (L2.out.2.2.2.2) HY.out.1 HY.out.2).le CLe.unhidz)) ?_
  rintro e w4 ⟨rfl, hg⟩
  have L4 : Hid ((w.grownBy w4 none) ∧ (w4.heap[p]? = some (Obj.cells #[.int .i64 x.ticks, .slice d1 l1 k1, .slice d2 l2 k2, .slice d3 l3 k3] 27)) ∧ (OwW w4 B x d1 l1 d2 l2 k2 d3 l3 k3 vs hi) ∧ (w4.heap[q]? = some (Obj.cells #[.int .i64 y.ticks, .slice e1 m1 f1, .slice e2 m2 f2, .slice e3 (l3 + 1) f3] 27)) ∧ (OwW w4 u1.heap.size y e1 m1 e2 m2 f2 e3 (l3 + 1) f3 us hj)) := ⟨grown_trans (L2.out.1) hg, (World.grownBy.block hg _ (lt_of_block (L2.out.2.1)) (by simp)).trans (L2.out.2.1), ow_none (L2.out.2.2.1) hg, (World.grownBy.block hg _ (lt_of_block (L2.out.2.2.2.1)) (by simp)).trans (L2.out.2.2.2.1), ow_none (L2.out.2.2.2.2) hg⟩
  clear L2 x2_0 x2_1 x2_2 x2_3 x3_0 x3_1 x3_2 x3_3
  clear hg
  simp only []
  rw [HG.out.1]
  obtain ⟨bt, ot, rfl, hin⟩ : ∃ b o, e3 = some ⟨b, o, none⟩ ∧ InEvP w4 y.trace b o := by
    rcases ow_tr (L4.out.2.2.2.2) with h9 | h9
    · omega
    · exact h9
  rw [HG.out.2.1] at hin
  have L5 : Hid ((w.grownBy w4 none) ∧ (w4.heap[p]? = some (Obj.cells #[.int .i64 x.ticks, .slice d1 l1 k1, .slice d2 l2 k2, .slice d3 l3 k3] 27)) ∧ (OwW w4 B x d1 l1 d2 l2 k2 d3 l3 k3 vs hi) ∧ (w4.heap[q]? = some (Obj.cells #[.int .i64 y.ticks, .slice e1 m1 f1, .slice e2 m2 f2, .slice (some ⟨bt, ot, none⟩) (l3 + 1) f3] 27)) ∧ (OwW w4 u1.heap.size y e1 m1 e2 m2 f2 (some ⟨bt, ot, none⟩) (l3 + 1) f3 us hj) ∧ (InEvP w4 (x.trace ++ [ev]) bt ot)) := ⟨L4.out.1, L4.out.2.1, L4.out.2.2.1, L4.out.2.2.2.1, L4.out.2.2.2.2, hin⟩
  clear L4
  clear hin
  have CB : Hid _ := beginsT x.trace ev d3 (some ⟨bt, ot, none⟩) l3 (l3 + 1) k3 f3 w4 rfl HL.out.2.2.1 (by have := HL.out.2.2.2.2.2; omega) (ow_tr (L5.out.2.2.1)) bt ot rfl (L5.out.2.2.2.2.2)
  have hl3 : l3 ≤ 3 := HL.out.2.2.2.2.2
  obtain ⟨⟨x4_0, x4_1, x4_2, x4_3⟩, -⟩ := blkWorld (L5.out.2.1)
  obtain ⟨⟨x5_0, x5_1, x5_2, x5_3⟩, -⟩ := blkWorld (L5.out.2.2.2.1)
  go_wp2_with fail
  refine Calls.mono (CB.out) ?_
  rintro e w5 ⟨rfl, hg⟩
  have L6 : Hid ((w.grownBy w5 none) ∧ (w5.heap[p]? = some (Obj.cells #[.int .i64 x.ticks, .slice d1 l1 k1, .slice d2 l2 k2, .slice d3 l3 k3] 27)) ∧ (OwW w5 B x d1 l1 d2 l2 k2 d3 l3 k3 vs hi) ∧ (w5.heap[q]? = some (Obj.cells #[.int .i64 y.ticks, .slice e1 m1 f1, .slice e2 m2 f2, .slice (some ⟨bt, ot, none⟩) (l3 + 1) f3] 27)) ∧ (OwW w5 u1.heap.size y e1 m1 e2 m2 f2 (some ⟨bt, ot, none⟩) (l3 + 1) f3 us hj) ∧ (InEvP w5 (x.trace ++ [ev]) bt ot)) := ⟨grown_trans (L5.out.1) hg, (World.grownBy.block hg _ (lt_of_block (L5.out.2.1)) (by simp)).trans (L5.out.2.1), ow_none (L5.out.2.2.1) hg, (World.grownBy.block hg _ (lt_of_block (L5.out.2.2.2.1)) (by simp)).trans (L5.out.2.2.2.1), ow_none (L5.out.2.2.2.2.1) hg, InEvP.none hg (L5.out.2.2.2.2.2)⟩
  clear L5 x4_0 x4_1 x4_2 x4_3 x5_0 x5_1 x5_2 x5_3
  clear hg
  simp only []
  clear CB
  obtain ⟨c0, c4⟩ := inEvP_last (L6.out.2.2.2.2.2)
  rw [HL.out.2.2.1, HG.out.2.2.2] at c0
  rw [HL.out.2.2.1, HG.out.2.2.1] at c4
  obtain ⟨⟨x6_0, x6_1, x6_2, x6_3⟩, -⟩ := blkWorld (L6.out.2.1)
  obtain ⟨⟨x7_0, x7_1, x7_2, x7_3⟩, -⟩ := blkWorld (L6.out.2.2.2.1)
  go_wp2_with fail
  clear c0 c4
  obtain ⟨y2, R2, b2, hHF2⟩ : ∃ y R b, forV x 4 A C [] = (y, R, b) := ⟨_, _, _, rfl⟩
  have HF2 : Hid (forV x 4 A C [] = (y2, R2, b2)) := hHF2
  clear hHF2
  obtain ⟨s1, hm1⟩ : ∃ m, y2.draws.length = m := ⟨_, rfl⟩
  obtain ⟨s2, hm2⟩ : ∃ m, y2.store.length = m := ⟨_, rfl⟩
  obtain ⟨s3, hm3⟩ : ∃ m, y2.trace.length = m := ⟨_, rfl⟩
  have HN2 : Hid (y2.draws.length = s1 ∧ y2.store.length = s2 ∧ y2.trace.length = s3) := ⟨hm1, hm2, hm3⟩
  clear hm1 hm2 hm3
  refine Calls.mono (implF x y2 4 A C R2 b2 [] HF2.out s1 s2 s3 HN2.out.1 HN2.out.2.1 HN2.out.2.2 d1 l1 k1 d2 l2 k2 d3 l3 k3 none 0 0 w5 ((ow_rd (L6.out.2.2.1) HL.out.2.2.2.1 HL.out.2.2.2.2.1).le CLe.unhidz) (⟨⟨rfl, .inl rfl⟩, fun z hz => by simp at hz, by omega⟩ : RdB _ none 0 []) (show I64x 4 from ⟨by omega, by omega⟩) (Nat.le_trans HK.out.2.2.2.1 (by omega))) ?_
  rintro e w6 ⟨p1, g1, p2, g2, p3, g3, ws, ha, he, ho, hg⟩
  subst he
  have ga := World.grownBy_alloc w6 (.cells #[.int .i64 y2.ticks, .slice p1 s1 g1, .slice p2 s2 g2, .slice p3 s3 g3] 27) none
  have ba := heap_alloc_new w6 (.cells #[.int .i64 y2.ticks, .slice p1 s1 g1, .slice p2 s2 g2, .slice p3 s3 g3] 27)
  have hgg := grown_trans hg ga
  have L7 : Hid ((w.grownBy (w6.alloc (.cells #[.int .i64 y2.ticks, .slice p1 s1 g1, .slice p2 s2 g2, .slice p3 s3 g3] 27)) none) ∧ ((w6.alloc (.cells #[.int .i64 y2.ticks, .slice p1 s1 g1, .slice p2 s2 g2, .slice p3 s3 g3] 27)).heap[p]? = some (Obj.cells #[.int .i64 x.ticks, .slice d1 l1 k1, .slice d2 l2 k2, .slice d3 l3 k3] 27)) ∧ (OwW (w6.alloc (.cells #[.int .i64 y2.ticks, .slice p1 s1 g1, .slice p2 s2 g2, .slice p3 s3 g3] 27)) B x d1 l1 d2 l2 k2 d3 l3 k3 vs hi) ∧ ((w6.alloc (.cells #[.int .i64 y2.ticks, .slice p1 s1 g1, .slice p2 s2 g2, .slice p3 s3 g3] 27)).heap[w6.heap.size]? = some (Obj.cells #[.int .i64 y2.ticks, .slice p1 s1 g1, .slice p2 s2 g2, .slice p3 s3 g3] 27)) ∧ (OwW (w6.alloc (.cells #[.int .i64 y2.ticks, .slice p1 s1 g1, .slice p2 s2 g2, .slice p3 s3 g3] 27)) w5.heap.size y2 p1 s1 p2 s2 g2 p3 s3 g3 ws ha)) := ⟨grown_trans (L6.out.1) hgg, (World.grownBy.block hgg _ (lt_of_block (L6.out.2.1)) (by simp)).trans (L6.out.2.1), ow_none (L6.out.2.2.1) hgg, ba, ow_none ho ga⟩
  clear L6 x6_0 x6_1 x6_2 x6_3 x7_0 x7_1 x7_2 x7_3
  clear hg ga ba hgg ho
  simp only []
  have HP2 := HPT.out
  rw [HF2.out] at HP2
  simp only at HP2
  obtain ⟨hp1, hp2, hp3⟩ := HP2
  subst hp1
  have HS2 : Hid (szWorld y2 ≤ 1130) := by
    have h9 := forV_sz2 x 4 A C []
    rw [HF2.out] at h9
    exact Nat.le_trans h9 (by have := HK.out.2.2.2.1; omega)
  have HB2 : Hid (s2 ≤ 4194304 ∧ s3 ≤ 4194304) := by
    have h9 := HS2.out
    have h8 := HN2.out
    have h7 := szEvents_len y2.trace
    unfold szWorld at h9
    rw [szEntrys_eq] at h9
    exact ⟨by omega, by omega⟩
  obtain ⟨y3, got, b3, hHF3⟩ : ∃ y R b, forV y2 3 A 0 [] = (y, R, b) := ⟨_, _, _, rfl⟩
  have HF3 : Hid (forV y2 3 A 0 [] = (y3, got, b3)) := hHF3
  clear hHF3
  obtain ⟨t1, hm1⟩ : ∃ m, y3.draws.length = m := ⟨_, rfl⟩
  obtain ⟨t2, hm2⟩ : ∃ m, y3.store.length = m := ⟨_, rfl⟩
  obtain ⟨t3, hm3⟩ : ∃ m, y3.trace.length = m := ⟨_, rfl⟩
  have HN3 : Hid (y3.draws.length = t1 ∧ y3.store.length = t2 ∧ y3.trace.length = t3) := ⟨hm1, hm2, hm3⟩
  clear hm1 hm2 hm3
  obtain ⟨y4, there, b4, hHF4⟩ : ∃ y R b, forV x 3 A 0 [] = (y, R, b) := ⟨_, _, _, rfl⟩
  have HF4 : Hid (forV x 3 A 0 [] = (y4, there, b4)) := hHF4
  clear hHF4
  obtain ⟨o1, hm1⟩ : ∃ m, y4.draws.length = m := ⟨_, rfl⟩
  obtain ⟨o2, hm2⟩ : ∃ m, y4.store.length = m := ⟨_, rfl⟩
  obtain ⟨o3, hm3⟩ : ∃ m, y4.trace.length = m := ⟨_, rfl⟩
  have HN4 : Hid (y4.draws.length = o1 ∧ y4.store.length = o2 ∧ y4.trace.length = o3) := ⟨hm1, hm2, hm3⟩
  clear hm1 hm2 hm3
  rw [HF3.out] at hp2 hp3
  rw [HF4.out] at hp3
  simp only at hp2 hp3
  subst hp2
  have HP3 : Hid (got = C ∨ x.store.length = 20 ∧ there = 0) := hp3
  clear hp3 HPT
  obtain ⟨⟨x8_0, x8_1, x8_2, x8_3⟩, -⟩ := blkWorld (L7.out.2.2.2.1)
  go_wp2_with fail
  generalize (w6.alloc (.cells #[.int .i64 y2.ticks, .slice p1 s1 g1, .slice p2 s2 g2, .slice p3 s3 g3] 27)) = u6 at *
  generalize w6.heap.size = q2 at *
  refine Calls.mono (implF y2 y3 3 A 0 got true [] HF3.out t1 t2 t3 HN3.out.1 HN3.out.2.1 HN3.out.2.2 p1 s1 g1 p2 s2 g2 p3 s3 g3 none 0 0 u6 ((ow_rd (L7.out.2.2.2.2) HB2.out.1 HB2.out.2).le CLe.unhidz) (⟨⟨rfl, .inl rfl⟩, fun z hz => by simp at hz, by omega⟩ : RdB _ none 0 []) (show I64x 3 from ⟨by omega, by omega⟩) (Nat.le_trans HS2.out (by omega))) ?_
  rintro e w7 ⟨h1, z1, h2, z2, h3, z3, xs, hb, he, ho, hg⟩
  subst he
  have ga := World.grownBy_alloc w7 (.cells #[.int .i64 y3.ticks, .slice h1 t1 z1, .slice h2 t2 z2, .slice h3 t3 z3] 27) none
  have ba := heap_alloc_new w7 (.cells #[.int .i64 y3.ticks, .slice h1 t1 z1, .slice h2 t2 z2, .slice h3 t3 z3] 27)
  have hgg := grown_trans hg ga
  have L8 : Hid ((w.grownBy (w7.alloc (.cells #[.int .i64 y3.ticks, .slice h1 t1 z1, .slice h2 t2 z2, .slice h3 t3 z3] 27)) none) ∧ ((w7.alloc (.cells #[.int .i64 y3.ticks, .slice h1 t1 z1, .slice h2 t2 z2, .slice h3 t3 z3] 27)).heap[p]? = some (Obj.cells #[.int .i64 x.ticks, .slice d1 l1 k1, .slice d2 l2 k2, .slice d3 l3 k3] 27)) ∧ (OwW (w7.alloc (.cells #[.int .i64 y3.ticks, .slice h1 t1 z1, .slice h2 t2 z2, .slice h3 t3 z3] 27)) B x d1 l1 d2 l2 k2 d3 l3 k3 vs hi) ∧ ((w7.alloc (.cells #[.int .i64 y3.ticks, .slice h1 t1 z1, .slice h2 t2 z2, .slice h3 t3 z3] 27)).heap[w7.heap.size]? = some (Obj.cells #[.int .i64 y3.ticks, .slice h1 t1 z1, .slice h2 t2 z2, .slice h3 t3 z3] 27))) := ⟨grown_trans (L7.out.1) hgg, (World.grownBy.block hgg _ (lt_of_block (L7.out.2.1)) (by simp)).trans (L7.out.2.1), ow_none (L7.out.2.2.1) hgg, ba⟩
  clear L7 x8_0 x8_1 x8_2 x8_3
  clear hg ga ba hgg
  clear ho
  simp only []
  obtain ⟨⟨x9_0, x9_1, x9_2, x9_3⟩, -⟩ := blkWorld (L8.out.2.1)
  go_wp2_with fail
  generalize (w7.alloc (.cells #[.int .i64 y3.ticks, .slice h1 t1 z1, .slice h2 t2 z2, .slice h3 t3 z3] 27)) = u7 at *
  generalize w7.heap.size = q3 at *
  refine Calls.mono (implF x y4 3 A 0 there b4 [] HF4.out o1 o2 o3 HN4.out.1 HN4.out.2.1 HN4.out.2.2 d1 l1 k1 d2 l2 k2 d3 l3 k3 none 0 0 u7 ((ow_rd (L8.out.2.2.1) HL.out.2.2.2.1 HL.out.2.2.2.2.1).le CLe.unhidz) (⟨⟨rfl, .inl rfl⟩, fun z hz => by simp at hz, by omega⟩ : RdB _ none 0 []) (show I64x 3 from ⟨by omega, by omega⟩) (Nat.le_trans HK.out.2.2.2.1 (by omega))) ?_
  rintro e w8 ⟨i1, j1, i2, j2, i3, j3, ys, hc, he, ho, hg⟩
  subst he
  have ga := World.grownBy_alloc w8 (.cells #[.int .i64 y4.ticks, .slice i1 o1 j1, .slice i2 o2 j2, .slice i3 o3 j3] 27) none
  have ba := heap_alloc_new w8 (.cells #[.int .i64 y4.ticks, .slice i1 o1 j1, .slice i2 o2 j2, .slice i3 o3 j3] 27)
  have hgg := grown_trans hg ga
  have L9 : Hid ((w.grownBy (w8.alloc (.cells #[.int .i64 y4.ticks, .slice i1 o1 j1, .slice i2 o2 j2, .slice i3 o3 j3] 27)) none) ∧ ((w8.alloc (.cells #[.int .i64 y4.ticks, .slice i1 o1 j1, .slice i2 o2 j2, .slice i3 o3 j3] 27)).heap[p]? = some (Obj.cells #[.int .i64 x.ticks, .slice d1 l1 k1, .slice d2 l2 k2, .slice d3 l3 k3] 27)) ∧ ((w8.alloc (.cells #[.int .i64 y4.ticks, .slice i1 o1 j1, .slice i2 o2 j2, .slice i3 o3 j3] 27)).heap[w8.heap.size]? = some (Obj.cells #[.int .i64 y4.ticks, .slice i1 o1 j1, .slice i2 o2 j2, .slice i3 o3 j3] 27))) := ⟨grown_trans (L8.out.1) hgg, (World.grownBy.block hgg _ (lt_of_block (L8.out.2.1)) (by simp)).trans (L8.out.2.1), ba⟩
  clear L8 x9_0 x9_1 x9_2 x9_3
  clear hg ga ba hgg
  clear ho
  simp only []
  by_cases hgc : got = C
  · subst hgc
    obtain ⟨⟨x10_0, x10_1, x10_2, x10_3⟩, -⟩ := blkWorld (L9.out.2.1)
    go_wp2
    go_ret
    exact ⟨rfl, L9.out.1⟩
  have hP := HP3.out
  have h20 : l2 = 20 ∧ there = 0 := by
    rcases hP with h9 | ⟨h9, h8⟩
    · exact absurd h9 hgc
    · exact ⟨by rw [← HL.out.2.1]; exact h9, h8⟩
  obtain ⟨rfl, rfl⟩ := h20
  have hgb : (got == C) = false := by simp [hgc]
  clear hP
  obtain ⟨⟨x11_0, x11_1, x11_2, x11_3⟩, -⟩ := blkWorld (L9.out.2.1)
  go_wp2
  go_ret
  exact ⟨rfl, L9.out.1⟩
end Go.Proofs.Ytccnninmkfhejaa.By
