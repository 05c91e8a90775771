/-
  Marks on trees of values that were copied. No statement is proved here.
-/
import Derived.Test.YtpmndefmibnaeaaDoorMV0
namespace Go.Proofs.YtpmndefmibnaeaaDoor.By
open Go.RowKit
set_option linter.unusedVariables false
set_option linter.unusedSimpArgs false

/-- How a list of values lies, whatever numbers it bears. -/
def ShVal (w : World) : V → Nat → Nat → Prop
  | .nil, _, _ => True
  | .cons k n t d r, b, off => ((∃ z, w.cell? ⟨b, off, none⟩ = some (.int .i64 z)) ∧ (∃ z, w.cell? ⟨b, off + 1, none⟩ = some (.int .i64 z)) ∧ (∃ a l c, w.cell? ⟨b, off + 2, none⟩ = some (.slice a l c) ∧ ShN w .u8 a l t.length) ∧ (∃ a l c, w.cell? ⟨b, off + 3, none⟩ = some (.slice a l c) ∧ d.len = l ∧ l ≤ 9223372036854775807 ∧ (l = 0 ∨ ∃ b' o', a = some ⟨b', o', none⟩ ∧ ShVal w d b' o'))) ∧ ShVal w r b (off + 4)
def ShLVal (w : World) (a : Option Addr) (l : Nat) (xs : V) : Prop := xs.len = l ∧ l ≤ 9223372036854775807 ∧ (l = 0 ∨ ∃ b o, a = some ⟨b, o, none⟩ ∧ ShVal w xs b o)
theorem ShVal.like {w u : World} (hk : CLk w u) (xs : V) : ∀ b off, ShVal w xs b off → ShVal u xs b off := by
  induction xs with
  | nil => intro b off _; trivial
  | cons k n t d r ihd ihr =>
    intro b off h
    obtain ⟨⟨h0, h1, ⟨a2, l2, c2, h2, s2⟩, ⟨a3, l3, c3, h3, e1, e2, e3⟩⟩, hr⟩ := h
    refine ⟨⟨hk.int h0, hk.int h1, ⟨a2, l2, c2, hk.slice h2, s2.like hk⟩, ⟨a3, l3, c3, hk.slice h3, e1, e2, ?_⟩⟩, ihr _ _ hr⟩
    rcases e3 with e3 | ⟨b', o', e, e3⟩
    · exact .inl e3
    · exact .inr ⟨b', o', e, ihd _ _ e3⟩
theorem ShLVal.like {w u : World} {xs : V} {a : Option Addr} {l : Nat} (h : ShLVal w a l xs) (hk : CLk w u) : ShLVal u a l xs := by
  obtain ⟨h1, h2, h3⟩ := h
  refine ⟨h1, h2, ?_⟩
  rcases h3 with h3 | ⟨b, o, e, h3⟩
  · exact .inl h3
  · exact .inr ⟨b, o, e, ShVal.like hk _ _ _ h3⟩
theorem InVal.sh {w : World} (xs : V) : ∀ b off, InVal w w xs b off → ShVal w xs b off := by
  induction xs with
  | nil => intro b off _; trivial
  | cons k n t d r ihd ihr =>
    intro b off h
    obtain ⟨⟨a1, l1, c1, a2, l2, c2, ⟨k0, k1, k2, k3⟩, -, ht, e1, e2, e3⟩, hr⟩ := h
    refine ⟨⟨⟨_, k0⟩, ⟨_, k1⟩, ⟨a1, l1, c1, k2, ⟨RdB.sh ht, ht.1.1.symm⟩⟩, ⟨a2, l2, c2, k3, e1, e2, ?_⟩⟩, ihr _ _ hr⟩
    rcases e3 with e3 | ⟨b', o', e, e3⟩
    · exact .inl e3
    · exact .inr ⟨b', o', e, ihd _ _ e3⟩
theorem SlVal.sh {w : World} {xs : V} {a : Option Addr} {l : Nat} (h : SlVal w a l xs) : ShLVal w a l xs := by
  obtain ⟨h1, h2, h3⟩ := h
  refine ⟨h1, h2, ?_⟩
  rcases h3 with h3 | ⟨b, o, e, h3⟩
  · exact .inl h3
  · exact .inr ⟨b, o, e, InVal.sh _ _ _ h3⟩

set_option maxRecDepth 8000 in
set_option maxHeartbeats 8000000 in
theorem mrVal (lo hi : Nat) : ∀ (m : Nat) (xs : V) (a : Option Addr) (l c : Nat) (k0 : Int) (w : World), xs.size ≤ m → ShLVal (hideR w lo hi) a l xs → 0 ≤ k0 → k0 + 4 * (xs.size : Nat) ≤ 4611686018427387904 →
    Calls Tryd.prog 15 #[.slice a l c, .int .i64 k0] w fun e u => ∃ k' : Int, e = .returned (.int .i64 k') ∧ k0 ≤ k' ∧ k' ≤ k0 + 4 * (xs.size : Nat) ∧ Mk lo hi w u := by
  intro m
  induction m using Nat.strongRecOn with
  | _ m ih =>
  intro xs a l c k0 w hm h hk0 hk1
  have IH : Hid _ := ih
  have hxl : xs.len = l := h.1
  have hle := V.len_le xs
  have HX : Hid _ := h.2.2
  clear h ih
  go_enter Tryd.func15, Tryd.ntmps15
  go_wp2
  go_loopw [1, 5] (fun v i wr => ∃ (j : Nat) (R : V) (kj : Int), j ≤ l ∧ i = .int .i64 j ∧ v = .int .i64 kj ∧ k0 ≤ kj ∧ kj + 4 * (R.size : Nat) ≤ k0 + 4 * (xs.size : Nat) ∧ R.size ≤ m ∧ R.len + j = l ∧ Hid ((l = 0 ∨ ∃ b o, a = some ⟨b, o, none⟩ ∧ ShVal (hideR wr lo hi) R b (o + j * 4)) ∧ Mk lo hi w wr)) (fun _ i _ => l - (intOf i).toNat)
  case atStart => exact ⟨0, xs, k0, Nat.zero_le _, rfl, rfl, Int.le_refl _, Int.le_refl _, hm, by omega, by simpa using HX.out, Mk.refl _ _ _⟩
  case round =>
    obtain ⟨j, R, K, hj, rfl, rfl, hkj, hks, hRm, hRl, HR⟩ := hrel
    by_cases hlt : j < l
    · obtain ⟨x, r, rfl⟩ : ∃ x r, R = V.cn x r := by
        cases R with
        | nil => simp only [V.len] at hRl; omega
        | cons k n t d r => exact ⟨⟨k, n, t, d⟩, r, rfl⟩
      simp only [V.len_cn] at hRl
      simp only [V.size_cn, szVal] at hks hRm
      obtain ⟨b, o, rfl, hsh⟩ : ∃ b o, a = some ⟨b, o, none⟩ ∧ ShVal (hideR wr lo hi) (V.cn x r) b (o + j * 4) := by
        rcases HR.out.1 with h0 | h0
        · omega
        · exact h0
      obtain ⟨⟨⟨z0, d0⟩, ⟨z1, d1⟩, ⟨ta, tl, tc, d2, s2⟩, ⟨va, vl, vc, d3, s3⟩⟩, hr⟩ := hsh
      have s3 : ShLVal (hideR wr lo hi) va vl x.list := s3
      have M1 := Mk.set d0 K
      obtain ⟨z1', d1'⟩ := M1.like.int ⟨_, d1⟩
      have M2 := M1.trans (Mk.set d1' (K + 1))
      have c0 := (hideR_open d0).1
      have f0 := (hideR_open d0).2
      have c1 := (hideR_open d1').1
      have f1 := (hideR_open d1').2
      have htl : tl = x.text.length := s2.2
      have w1 : IntKind.i64.wrap (K + 1) = K + 1 := IntWalk.i64_in _ ⟨by omega, by omega⟩
      have w2 : IntKind.i64.wrap (K + 1 + 1) = K + 1 + 1 := IntWalk.i64_in _ ⟨by omega, by omega⟩
      have L3 : Hid _ := And.intro (M2.like.slice d2) (And.intro (s2.like M2.like) (And.intro (M2.like.slice d3) (And.intro (s3.like M2.like) (And.intro (ShVal.like M2.like _ _ _ hr) (HR.out.2.trans M2)))))
      have CB : Hid _ := mrB lo hi ta tl tc (K + 1 + 1) _ L3.out.2.1.1 (by omega) (by omega)
      clear M1 M2 d0 d1 d2 d3 d1' s2 s3 hr HR HX
      have HB : Hid (K + 4 * (1 + (x.text.length + x.list.size) + r.size : Nat) ≤ k0 + 4 * (xs.size : Nat) ∧ k0 ≤ K ∧ r.len + 1 + j = l ∧ tl = x.text.length ∧ k0 + 4 * (xs.size : Nat) ≤ 4611686018427387904 ∧ 0 ≤ k0 ∧ 1 + (x.text.length + x.list.size) + r.size ≤ m) := ⟨by omega, hkj, hRl, htl, hk1, hk0, by omega⟩
      have hl4 : l ≤ 4611686018427387904 := by omega
      clear hks hkj hRl htl hk1 hk0 hle hxl hRm
      go_upto_region 8 with fail
      clear c0 c1 f0 f1
      generalize ((wr.setCell ⟨b, o + j * 4, none⟩ (.int .i64 K)).setCell ⟨b, o + j * 4 + 1, none⟩ (.int .i64 (K + 1))) = z at *
      have c2 := (hideR_open L3.out.1).1
      go_wp2_with fail
      refine Calls.mono CB.out ?_
      rintro e u ⟨k1, rfl, hk1', hk2', hm1⟩
      have L4 : Hid _ := And.intro (hm1.like.slice L3.out.2.2.1) (And.intro (L3.out.2.2.2.1.like hm1.like) (And.intro (ShVal.like hm1.like _ _ _ L3.out.2.2.2.2.1) (L3.out.2.2.2.2.2.trans hm1)))
      have hB := HB.out
      have CV : Hid _ := IH.out x.list.size (by omega) x.list va vl vc k1 u (Nat.le_refl _) L4.out.2.1 (by omega) (by omega)
      have HB1 : Hid (K ≤ k1 ∧ k1 ≤ K + 1 + 1 + 4 * (tl : Nat)) := ⟨by omega, hk2'⟩
      have c3 := (hideR_open L4.out.1).1
      clear CB L3 c2 hm1 hB hk1' hk2'
      simp only []
      go_wp2_with fail
      refine Calls.mono CV.out ?_
      rintro e v ⟨k2, rfl, hk3', hk4', hm2⟩
      have hB := HB.out
      have hB1 := HB1.out
      have FQ : Hid (ShVal (hideR v lo hi) r b (o + j * 4 + 4) ∧ Mk lo hi w v) := ⟨ShVal.like hm2.like _ _ _ L4.out.2.2.1, L4.out.2.2.2.trans hm2⟩
      have HB2 : Hid (k0 ≤ k2 ∧ k2 + 4 * (r.size : Nat) ≤ k0 + 4 * (xs.size : Nat) ∧ r.len + (j + 1) = l ∧ r.size ≤ m) := ⟨by omega, by omega, by omega, by omega⟩
      clear CV L4 c3 hm2 hB hB1 HB HB1 hk3' hk4'
      simp only []
      go_wp2
      go_roundw
      case rel => exact ⟨j + 1, r, k2, by omega, by go_num, rfl, HB2.out.1, HB2.out.2.1, HB2.out.2.2.2, HB2.out.2.2.1, .inr ⟨b, o, rfl, by rw [show o + (j + 1) * 4 = o + j * 4 + 4 by omega]; exact FQ.out.1⟩, FQ.out.2⟩
      case measure => simp [intOf]; omega
    · obtain rfl : j = l := by omega
      go_wp2
      go_ret
      exact ⟨_, rfl, by omega, by omega, HR.out.2⟩

set_option maxRecDepth 4000 in
set_option maxHeartbeats 4000000 in
theorem mrVa (lo hi : Nat) (x : RVal) (a1 : Option Addr) (l1 c1 : Nat) (a2 : Option Addr) (l2 c2 : Nat) (k0 : Int) (w : World) (h1 : ShI (hideR w lo hi) .u8 a1 l1) (h2 : ShLVal (hideR w lo hi) a2 l2 x.list) (hl : x.text.length = l1) (hh : hi ≤ w.heap.size) (hk0 : 0 ≤ k0) (hk1 : k0 + 4 * (szVal x : Nat) ≤ 4611686018427387904) :
    Calls Tryd.prog 14 #[.agg #[.int .i64 x.k, .int .i64 x.n, .slice a1 l1 c1, .slice a2 l2 c2], .int .i64 k0] w fun e u => ∃ k' : Int, e = .returned (.int .i64 k') ∧ k0 ≤ k' ∧ k' ≤ k0 + 4 * (szVal x : Nat) ∧ Mk lo hi w u := by
  have g0 := World.grownBy_alloc w (.cells #[.int .i64 x.k, .int .i64 x.n, .slice a1 l1 c1, .slice a2 l2 c2] 31) none
  have b0 := heap_alloc_new w (.cells #[.int .i64 x.k, .int .i64 x.n, .slice a1 l1 c1, .slice a2 l2 c2] 31)
  have M0 : Mk lo hi w _ := Mk.grown g0
  have hsz : szVal x = l1 + x.list.size := by unfold szVal; omega
  have CB : Hid _ := mrB lo hi a1 l1 c1 k0 _ (h1.like M0.like) hk0 (by omega)
  have L0 : Hid _ := And.intro (h2.like M0.like) (And.intro M0 b0)
  have hp := lt_of_block b0
  obtain ⟨⟨y0, y1, y2, y3⟩, -⟩ := blkVal b0
  clear g0 b0 M0 h1 h2
  go_enter Tryd.func14, Tryd.ntmps14
  go_wp2_with fail
  refine Calls.mono CB.out ?_
  rintro e u ⟨k1, rfl, hk1', hk2', hm⟩
  have b1 := (hm.block _ hp (.inr hh)).trans L0.out.2.2
  have CV : Hid _ := mrVal lo hi _ x.list a2 l2 c2 k1 u (Nat.le_refl _) (L0.out.1.like hm.like) (by omega) (by omega)
  have L1 : Hid _ := L0.out.2.1.trans hm
  clear CB L0 hm hp y0 y1 y2 y3
  obtain ⟨⟨y0, y1, y2, y3⟩, -⟩ := blkVal b1
  simp only []
  go_wp2_with fail
  refine Calls.mono CV.out ?_
  rintro e v ⟨k2, rfl, hk3', hk4', hm⟩
  have FQ : Hid _ := L1.out.trans hm
  clear CV L1 hm y0 y1 y2 y3 b1
  simp only []
  go_wp2
  go_ret
  exact ⟨_, rfl, by omega, by omega, FQ.out⟩
end Go.Proofs.YtpmndefmibnaeaaDoor.By
