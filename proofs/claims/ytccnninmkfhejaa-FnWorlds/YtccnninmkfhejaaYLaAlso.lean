/-
  Several texts in one (MYs, MYv, MYw, YLa). No statement is proved here.
-/
import Derived.Test.YtccnninmkfhejaaMY0
import Derived.Test.YtccnninmkfhejaaWS
import Derived.Test.YtccnninmkfhejaaYL0Also
namespace Go.Proofs.Ytccnninmkfhejaa.By
open Go.RowKit
set_option linter.unusedVariables false
set_option linter.unusedSimpArgs false

/-- How Event lies, whatever numbers it bears. -/
def ElEvent (w : World) (x : REvent) (b off : Nat) : Prop := (∃ z, w.cell? ⟨b, off, none⟩ = some (.int .i64 z)) ∧ (∃ z, w.cell? ⟨b, off + 1, none⟩ = some (.int .i64 z)) ∧ (∃ z, w.cell? ⟨b, off + 2, none⟩ = some (.int .i64 z)) ∧ (∃ a l c, w.cell? ⟨b, off + 3, none⟩ = some (.slice a l c) ∧ ShN w .u8 a l x.lit.length) ∧ (∃ z, w.cell? ⟨b, off + 4, none⟩ = some (.int .i64 z))
def ShEvent (w : World) : List REvent → Nat → Nat → Prop
  | [], _, _ => True
  | x :: r, b, off => ElEvent w x b off ∧ ShEvent w r b (off + 5)
def ShLEvent (w : World) (a : Option Addr) (l : Nat) (xs : List REvent) : Prop := xs.length = l ∧ l ≤ 9223372036854775807 ∧ (l = 0 ∨ ∃ b o, a = some ⟨b, o, none⟩ ∧ ShEvent w xs b o)
theorem ShEvent.like {w u : World} (hk : CLk w u) (xs : List REvent) : ∀ b off, ShEvent w xs b off → ShEvent u xs b off := by
  induction xs with
  | nil => intro b off _; trivial
  | cons x r ih =>
    intro b off h
    obtain ⟨⟨h0, h1, h2, ⟨a3, l3, c3, h3, s3⟩, h4⟩, hr⟩ := h
    exact ⟨⟨hk.int h0, hk.int h1, hk.int h2, ⟨a3, l3, c3, hk.slice h3, s3.like hk⟩, hk.int h4⟩, ih _ _ hr⟩
theorem ShLEvent.like {w u : World} {xs : List REvent} {a : Option Addr} {l : Nat} (h : ShLEvent w a l xs) (hk : CLk w u) : ShLEvent u a l xs := by
  obtain ⟨h1, h2, h3⟩ := h
  refine ⟨h1, h2, ?_⟩
  rcases h3 with h3 | ⟨b, o, e, h3⟩
  · exact .inl h3
  · exact .inr ⟨b, o, e, ShEvent.like hk _ _ _ h3⟩
theorem InEvent.sh {w : World} (xs : List REvent) : ∀ b off, InEvent w w xs b off → ShEvent w xs b off := by
  induction xs with
  | nil => intro b off _; trivial
  | cons x r ih =>
    intro b off h
    obtain ⟨⟨a1, l1, c1, ⟨k0, k1, k2, k3, k4⟩, hd⟩, hr⟩ := h
    exact ⟨⟨⟨_, k0⟩, ⟨_, k1⟩, ⟨_, k2⟩, ⟨a1, l1, c1, k3, ⟨RdB.sh hd, (hd).1.1.symm⟩⟩, ⟨_, k4⟩⟩, ih _ _ hr⟩
theorem SlEvent.sh {w : World} {xs : List REvent} {a : Option Addr} {l : Nat} (h : SlEvent w a l xs) : ShLEvent w a l xs := by
  obtain ⟨h1, h2, h3⟩ := h
  refine ⟨h1, h2, ?_⟩
  rcases h3 with h3 | ⟨b, o, e, h3⟩
  · exact .inl h3
  · exact .inr ⟨b, o, e, h3.sh⟩


end Go.Proofs.Ytccnninmkfhejaa.By

namespace Go.Proofs.Ytccnninmkfhejaa.By
open Go.RowKit
set_option linter.unusedVariables false
set_option linter.unusedSimpArgs false

set_option maxRecDepth 8000 in
set_option maxHeartbeats 8000000 in
theorem mrV (lo hi : Nat) (xs : List REvent) (a : Option Addr) (l c : Nat) (k0 : Int) (w : World) (h : ShLEvent (hideR w lo hi) a l xs) (hs : szEvents xs ≤ 4194304) (hk0 : 0 ≤ k0) (hk1 : k0 ≤ 1073741824) :
    Calls Try.prog 46 #[.slice a l c, .int .i64 k0] w fun e u => ∃ k' : Int, e = .returned (.int .i64 k') ∧ k0 ≤ k' ∧ k' ≤ k0 + 4 * (szEvents xs : Nat) ∧ Mk lo hi w u := by
  have hxl : xs.length = l := h.1
  have hle := szEvents_len xs
  have HX : Hid _ := h.2.2
  clear h
  go_enter Try.func46, Try.ntmps46
  go_wp2
  go_loopw [1, 5] (fun v i wr => ∃ (j : Nat) (R : List REvent) (kj : Int), j ≤ l ∧ i = .int .i64 j ∧ v = .int .i64 kj ∧ k0 ≤ kj ∧ kj + 4 * (szEvents R : Nat) ≤ k0 + 4 * (szEvents xs : Nat) ∧ R.length + j = l ∧ Hid ((l = 0 ∨ ∃ b o, a = some ⟨b, o, none⟩ ∧ ShEvent (hideR wr lo hi) R b (o + j * 5)) ∧ Mk lo hi w wr)) (fun _ i _ => l - (intOf i).toNat)
  case atStart => exact ⟨0, xs, k0, Nat.zero_le _, rfl, rfl, Int.le_refl _, Int.le_refl _, by omega, by simpa using HX.out, Mk.refl _ _ _⟩
  case round =>
    obtain ⟨j, R, K, hj, rfl, rfl, hkj, hks, hRl, HR⟩ := hrel
    by_cases hlt : j < l
    · obtain ⟨x, r, rfl⟩ : ∃ x r, R = x :: r := by
        cases R with
        | nil => simp at hRl; omega
        | cons x r => exact ⟨x, r, rfl⟩
      simp only [List.length_cons] at hRl
      simp only [szEvents, szEvent] at hks
      obtain ⟨b, o, rfl, hsh⟩ : ∃ b o, a = some ⟨b, o, none⟩ ∧ ShEvent (hideR wr lo hi) (x :: r) b (o + j * 5) := by
        rcases HR.out.1 with h0 | h0
        · omega
        · exact h0
      obtain ⟨⟨⟨z0, d0⟩, ⟨z1, d1⟩, ⟨z2, d2⟩, ⟨ta, tl, tc, d3, s3⟩, ⟨z4, d4⟩⟩, hr⟩ := hsh
      have M1 := Mk.set d0 K
      obtain ⟨z1', d1'⟩ := M1.like.int ⟨_, d1⟩
      have M2 := M1.trans (Mk.set d1' (K + 1))
      obtain ⟨z2', d2'⟩ := M2.like.int ⟨_, d2⟩
      have M3 := M2.trans (Mk.set d2' (K + 1 + 1))
      have c0 := (hideR_open d0).1
      have f0 := (hideR_open d0).2
      have c1 := (hideR_open d1').1
      have f1 := (hideR_open d1').2
      have c2 := (hideR_open d2').1
      have f2 := (hideR_open d2').2
      have htl : tl = x.lit.length := s3.2
      have w1 : IntKind.i64.wrap (K + 1) = K + 1 := IntWalk.i64_in _ ⟨by omega, by omega⟩
      have w2 : IntKind.i64.wrap (K + 1 + 1) = K + 1 + 1 := IntWalk.i64_in _ ⟨by omega, by omega⟩
      have w3 : IntKind.i64.wrap (K + 1 + 1 + 1) = K + 1 + 1 + 1 := IntWalk.i64_in _ ⟨by omega, by omega⟩
      have L3 : Hid _ := And.intro (M3.like.slice d3) (And.intro (s3.like M3.like) (And.intro (M3.like.int ⟨_, d4⟩) (And.intro (ShEvent.like M3.like _ _ _ hr) (HR.out.2.trans M3))))
      have CB : Hid _ := mrB lo hi ta tl tc (K + 1 + 1 + 1) _ L3.out.2.1.1 (by omega) (by omega)
      clear M1 M2 M3 d0 d1 d2 d3 d4 d1' d2' s3 hr HR HX
      have HB : Hid (K + 4 * (1 + x.lit.length + szEvents r : Nat) ≤ k0 + 4 * (szEvents xs : Nat) ∧ k0 ≤ K ∧ r.length + 1 + j = l ∧ tl = x.lit.length ∧ szEvents xs ≤ 4194304 ∧ k0 ≤ 1073741824 ∧ 0 ≤ k0) := ⟨by omega, hkj, hRl, htl, hs, hk1, hk0⟩
      have hl4 : l ≤ 4194304 := by omega
      clear hks hkj hRl htl hs hk1 hk0 hle hxl
      go_upto_region 10 with fail
      clear c0 c1 c2 f0 f1 f2
      generalize (((wr.setCell ⟨b, o + j * 5, none⟩ (.int .i64 K)).setCell ⟨b, o + j * 5 + 1, none⟩ (.int .i64 (K + 1))).setCell ⟨b, o + j * 5 + 2, none⟩ (.int .i64 (K + 1 + 1))) = z at *
      have c3 := (hideR_open L3.out.1).1
      go_wp2_with fail
      refine Calls.mono CB.out ?_
      rintro e u ⟨k', rfl, hk1', hk2', hm⟩
      have hB := HB.out
      obtain ⟨-, -, h4, hr, hmk⟩ := L3.out
      obtain ⟨z4, d4⟩ := hm.like.int h4
      have c4 := (hideR_open d4).1
      have f4 := (hideR_open d4).2
      have M5 := hm.trans (Mk.set d4 k')
      have w5 : IntKind.i64.wrap (k' + 1) = k' + 1 := IntWalk.i64_in _ ⟨by omega, by omega⟩
      have FQ : Hid (ShEvent (hideR (u.setCell ⟨b, o + j * 5 + 4, none⟩ (.int .i64 k')) lo hi) r b (o + j * 5 + 5) ∧ Mk lo hi w (u.setCell ⟨b, o + j * 5 + 4, none⟩ (.int .i64 k'))) := ⟨ShEvent.like M5.like _ _ _ hr, hmk.trans M5⟩
      have HB2 : Hid (k0 ≤ k' + 1 ∧ k' + 1 + 4 * (szEvents r : Nat) ≤ k0 + 4 * (szEvents xs : Nat) ∧ r.length + (j + 1) = l) := ⟨by omega, by omega, by omega⟩
      clear CB L3 c3 h4 hr hmk d4 M5 hm hB HB hk1' hk2'
      simp only []
      go_wp2
      go_roundw
      case rel => exact ⟨j + 1, r, k' + 1, by omega, by go_num, by go_num, HB2.out.1, HB2.out.2.1, HB2.out.2.2, .inr ⟨b, o, rfl, by rw [show o + (j + 1) * 5 = o + j * 5 + 5 by omega]; exact FQ.out.1⟩, FQ.out.2⟩
      case measure => simp [intOf]; omega
    · obtain rfl : j = l := by omega
      go_wp2
      go_ret
      exact ⟨_, rfl, by omega, by omega, HR.out.2⟩
end Go.Proofs.Ytccnninmkfhejaa.By

namespace Go.Proofs.Ytccnninmkfhejaa.By
open Go.RowKit
set_option linter.unusedVariables false
set_option linter.unusedSimpArgs false

set_option maxRecDepth 8000 in
set_option maxHeartbeats 4000000 in
theorem mrWo (lo hi : Nat) (x : RWorld) (a1 : Option Addr) (l1 c1 : Nat) (a2 : Option Addr) (l2 c2 : Nat) (a3 : Option Addr) (l3 c3 : Nat) (k0 : Int) (w : World) (h : RdWorld (hideR w lo hi) x a1 l1 a2 l2 a3 l3) (hh : hi ≤ w.heap.size) (hs : szWorld x ≤ 1048576) (hk0 : 0 ≤ k0) (hk1 : k0 ≤ 1048576) :
    Calls Try.prog 17 #[.agg #[.int .i64 x.ticks, .slice a1 l1 c1, .slice a2 l2 c2, .slice a3 l3 c3], .int .i64 k0] w fun e u => ∃ k' : Int, e = .returned (.int .i64 k') ∧ k0 ≤ k' ∧ k' ≤ k0 + 4 * (szWorld x : Nat) ∧ Mk lo hi w u := by
  have n1 : x.draws.length = l1 := h.1.1.1
  have n2 : x.store.length = l2 := h.2.1.1
  have le2 := szEntrys_len x.store
  have hsz : szWorld x = x.draws.length + szEntrys x.store + szEvents x.trace := rfl
  have b0 := heap_alloc_new w (.cells #[.int .i64 x.ticks, .slice a1 l1 c1, .slice a2 l2 c2, .slice a3 l3 c3] 27)
  have g0 := World.grownBy_alloc w (.cells #[.int .i64 x.ticks, .slice a1 l1 c1, .slice a2 l2 c2, .slice a3 l3 c3] 27) none
  have M0 : Hid (Mk lo hi w _ ∧ _) := And.intro (Mk.grown (lo := lo) (hi := hi) g0) b0
  have SE : l2 = 0 ∨ ∃ b o, a2 = some ⟨b, o, none⟩ ∧ ∀ i, i < l2 * 2 → ∃ z, (hideR w lo hi).cell? ⟨b, o + i, none⟩ = some (.int .i64 z) := by
    rcases h.2.1.cases with ⟨h0, -⟩ | ⟨b, o, e, hin, -⟩
    · exact .inl h0
    · refine .inr ⟨b, o, e, fun i hi => ?_⟩
      have ha := hin.at (k := i / 2) (by omega)
      rcases (by omega : i = i / 2 * 2 ∨ i = i / 2 * 2 + 1) with e2 | e2
      · rw [e2]; exact ⟨_, ha.1⟩
      · rw [e2, ← Nat.add_assoc]; exact ⟨_, ha.2⟩
  have SH : Hid (ShI (hideR w lo hi) .i64 a1 l1 ∧ (l2 = 0 ∨ ∃ b o, a2 = some ⟨b, o, none⟩ ∧ ∀ i, i < l2 * 2 → ∃ z, (hideR w lo hi).cell? ⟨b, o + i, none⟩ = some (.int .i64 z)) ∧ ShLEvent (hideR w lo hi) a3 l3 x.trace) := ⟨h.1.sh, SE, h.2.2.sh⟩
  have HB : Hid (l1 + szEntrys x.store + szEvents x.trace = szWorld x ∧ l2 ≤ szEntrys x.store ∧ szWorld x ≤ 1048576 ∧ 0 ≤ k0 ∧ k0 ≤ 1048576 ∧ hi ≤ w.heap.size) := ⟨by omega, by omega, hs, hk0, hk1, hh⟩
  have C0 : Hid _ := mrI lo hi a1 l1 c1 k0 _ (SH.out.1.like M0.out.1.like) hk0 (by omega)
  have y1 := (blkWorld b0).1.2.1
  clear h b0 g0 SE n1 n2 le2 hsz hs hk0 hk1 hh
  go_enter Try.func17, Try.ntmps17
  go_wp2_with fail
  refine Calls.mono C0.out ?_
  rintro e u ⟨q1, rfl, ha1, hb1, hm⟩
  have M1 : Hid (Mk lo hi w u ∧ _) := And.intro (M0.out.1.trans hm) ((hm.block _ (lt_of_block M0.out.2) (.inr HB.out.2.2.2.2.2)).trans M0.out.2)
  have hB := HB.out
  have C1 : Hid _ := mrE lo hi a2 l2 c2 q1 u (by
    rcases SH.out.2.1 with h0 | ⟨b, o, e, hc⟩
    · exact .inl h0
    · exact .inr ⟨b, o, e, fun i hi => M1.out.1.like.int (hc i hi)⟩) (by omega) (by omega) (by omega)
  have Q1 : Hid (k0 ≤ q1 ∧ q1 ≤ k0 + 4 * (l1 : Nat)) := ⟨ha1, hb1⟩
  have y2 := (blkWorld M1.out.2).1.2.2.1
  clear C0 M0 hm y1 hB ha1 hb1
  simp only []
  go_wp2_with fail
  refine Calls.mono C1.out ?_
  rintro e z ⟨q2, rfl, ha2, hb2, hm⟩
  have M2 : Hid (Mk lo hi w z ∧ _) := And.intro (M1.out.1.trans hm) ((hm.block _ (lt_of_block M1.out.2) (.inr HB.out.2.2.2.2.2)).trans M1.out.2)
  have hB := HB.out
  have hQ := Q1.out
  have C2 : Hid _ := mrV lo hi x.trace a3 l3 c3 q2 z (SH.out.2.2.like M2.out.1.like) (by omega) (by omega) (by omega)
  have Q2 : Hid (q1 ≤ q2 ∧ q2 ≤ q1 + 4 * (l2 : Nat)) := ⟨ha2, hb2⟩
  have y3 := (blkWorld M2.out.2).1.2.2.2
  clear C1 M1 hm y2 hB hQ ha2 hb2
  simp only []
  go_wp2_with fail
  refine Calls.mono C2.out ?_
  rintro e y ⟨q3, rfl, ha3, hb3, hm⟩
  have FQ : Hid (k0 ≤ q3 ∧ q3 ≤ k0 + 4 * (szWorld x : Nat) ∧ Mk lo hi w y) := by
    have hB := HB.out
    have hQ := Q1.out
    have hR := Q2.out
    exact ⟨by omega, by omega, M2.out.1.trans hm⟩
  clear C2 M2 hm y3 ha3 hb3
  simp only []
  go_wp2
  go_ret
  exact ⟨q3, rfl, FQ.out⟩
end Go.Proofs.Ytccnninmkfhejaa.By

namespace Go.Proofs.Ytccnninmkfhejaa.By
open Go.RowKit
set_option linter.unusedVariables false
set_option linter.unusedSimpArgs false

theorem ow_len {u : World} {B : Nat} {y : RWorld} {d1 : Option Addr} {m1 : Nat} {d2 : Option Addr} {m2 k2 : Nat} {d3 : Option Addr} {m3 k3 : Nat} {vs : List Value} {hi : Nat} (h : OwW u B y d1 m1 d2 m2 k2 d3 m3 k3 vs hi) : y.draws.length = m1 ∧ y.store.length = m2 ∧ y.trace.length = m3 :=
  ⟨h.1.1, by have := h.2.1.1; rw [vE_len] at this; omega, by have := h.2.2.1.1; rw [h.2.2.2.1.len] at this; omega⟩
theorem ow_rd {u : World} {B : Nat} {y : RWorld} {d1 : Option Addr} {m1 : Nat} {d2 : Option Addr} {m2 k2 : Nat} {d3 : Option Addr} {m3 k3 : Nat} {vs : List Value} {hi : Nat} (h : OwW u B y d1 m1 d2 m2 k2 d3 m3 k3 vs hi) (h2 : m2 ≤ 4194304) (h3 : m3 ≤ 4194304) : RdWorld (hideZ u B) y d1 m1 d2 m2 d3 m3 :=
  ⟨h.1.rd, own_slE h.2.1 (by omega), own_slV h.2.2.1 h.2.2.2.1 (by omega)⟩
theorem row_same {w u : World} {B : Nat} {t : TypeId} {s n : Nat} {v : Value} {zs : List Value} (h : w.ownsRow B t s v n zs) (hb : ∀ m, B ≤ m → m < w.heap.size → u.heap[m]? = w.heap[m]?) : u.ownsRow B t s v n zs := by
  refine ⟨h.1, ?_⟩
  rcases h.2 with h0 | ⟨g, cap, cur, e, hg, hc, hr⟩
  · exact .inl h0
  · exact .inr ⟨g, cap, cur, e, hg, (hb g hg (lt_of_block hc)).trans hc, hr⟩
theorem evo_same {w u : World} {B : Nat} (hb : ∀ m, B ≤ m → m < w.heap.size → u.heap[m]? = w.heap[m]?) {hi : Nat} : ∀ {xs : List REvent} {vs : List Value} {lo : Nat}, B ≤ lo → EvO w hi xs vs lo → EvO u hi xs vs lo
  | [], _, _, _, h => h
  | x :: r, vs, lo, hB, ⟨a, l, c, mid, vs', e, ⟨ho, hby, hl⟩, hm, hlm, hr⟩ => ⟨a, l, c, mid, vs', e, ⟨row_same ho (fun m h1 h2 => hb m (Nat.le_trans hB h1) h2), hby, hl⟩, hm, hlm, evo_same hb (Nat.le_trans hB hlm) hr⟩
theorem ow_same {w u : World} {B : Nat} {y : RWorld} {d1 : Option Addr} {m1 : Nat} {d2 : Option Addr} {m2 k2 : Nat} {d3 : Option Addr} {m3 k3 : Nat} {vs : List Value} {hi : Nat} (h : OwW w B y d1 m1 d2 m2 k2 d3 m3 k3 vs hi) (hb : ∀ m, B ≤ m → m < w.heap.size → u.heap[m]? = w.heap[m]?) (hs : w.heap.size ≤ u.heap.size) : OwW u B y d1 m1 d2 m2 k2 d3 m3 k3 vs hi := by
  obtain ⟨⟨a1, a2, a3⟩, h2, h3, h4, h5⟩ := h
  refine ⟨⟨a1, a2, ?_⟩, row_same h2 hb, row_same h3 hb, evo_same hb (Nat.le_refl _) h4, Nat.le_trans h5 hs⟩
  rcases a3 with h0 | ⟨g, o, cur, e, hg, hc, hr⟩
  · exact .inl h0
  · exact .inr ⟨g, o, cur, e, hg, (hb g hg (lt_of_block hc)).trans hc, hr⟩
theorem hir_same {w u : World} {lo hi : Nat} (hb : ∀ m, lo ≤ m → m < hi → m < w.heap.size → u.heap[m]? = w.heap[m]?) : CLe (hideR w lo hi) (hideR u lo hi) := fun p v hv => by
  obtain ⟨h1, h2, cur, t, h3⟩ := hideR_inv hv
  have e := hb p.block h1.1 h1.2 (lt_of_block h3)
  rw [cell_any (w := w) ((hideR_heap (w := u) h1.1 h1.2 (e.trans h3)).trans h3.symm)]
  exact h2
theorem below_fresh {a w u : World} {B : Nat} (h : a.grownBy w none) (k : Below B w u) (hb : a.heap.size ≤ B) : a.grownBy u none :=
  ⟨k.os.trans h.os, k.tape.trans h.tape, k.output.trans h.output, Nat.le_trans h.size k.size, fun i hi _ => (k.block i (by omega)).trans (h.block i hi (by simp))⟩

theorem eqB3 (a a' : Option Addr) (n c c' : Nat) (zs : List Int) (w : World) (h : Reads w a n zs) (h' : Reads w a' n zs) (hn : n ≤ 4194304) :
    Calls Try.prog 16 #[.slice a n c, .slice a' n c'] w fun e u => e = .returned (.bool true) ∧ w.grownBy u none :=
  (eqT a a' n c c' zs w h h' hn).mono fun e u ⟨he, hq⟩ => ⟨he, quiet hq⟩
theorem specF (x y : RWorld) (kind A C R : Int) (b : Bool) (lit : List Int) (hF : forV x kind A C lit = (y, R, b)) (m1 m2 m3 : Nat) (e1 : y.draws.length = m1) (e2 : y.store.length = m2) (e3 : y.trace.length = m3) (a1 : Option Addr) (l1 c1 : Nat) (a2 : Option Addr) (l2 c2 : Nat) (a3 : Option Addr) (l3 c3 : Nat) (a : Option Addr) (l c : Nat) (w : World) (h : RdWorld w x a1 l1 a2 l2 a3 l3) (hl : RdB w a l lit) (hs : szWorld x ≤ 1048576) :
    Calls Try.prog 12 #[.agg #[.int .i64 x.ticks, .slice a1 l1 c1, .slice a2 l2 c2, .slice a3 l3 c3], .int .i64 kind, .int .i64 A, .int .i64 C, .slice a l c] w fun e u => ∃ d1 k1 d2 k2 d3 k3 vs hi, e = .returned (.tuple #[.agg #[.int .i64 y.ticks, .slice d1 m1 k1, .slice d2 m2 k2, .slice d3 m3 k3], .int .i64 R, .bool b]) ∧ OwW u w.heap.size y d1 m1 d2 m2 k2 d3 m3 k3 vs hi ∧ w.grownBy u none := by
  refine (specForeignT x kind A C lit a1 l1 c1 a2 l2 c2 a3 l3 c3 a l c w h hl hs).mono ?_
  rw [hF]
  rintro e u ⟨d1, n1, k1, d2, n2, k2, d3, n3, k3, vs, hi, rfl, ho, hg⟩
  obtain ⟨q1, q2, q3⟩ := ow_len ho
  simp only at q1 q2 q3 ho
  subst e1 e2 e3 q1 q2 q3
  exact ⟨d1, k1, d2, k2, d3, k3, vs, hi, rfl, ho, hg⟩
theorem implF (x y : RWorld) (kind A C R : Int) (b : Bool) (lit : List Int) (hF : forV x kind A C lit = (y, R, b)) (m1 m2 m3 : Nat) (e1 : y.draws.length = m1) (e2 : y.store.length = m2) (e3 : y.trace.length = m3) (a1 : Option Addr) (l1 c1 : Nat) (a2 : Option Addr) (l2 c2 : Nat) (a3 : Option Addr) (l3 c3 : Nat) (a : Option Addr) (l c : Nat) (w : World) (h : RdWorld w x a1 l1 a2 l2 a3 l3) (hl : RdB w a l lit) (hk : I64x kind) (hs : szWorld x ≤ 1048576) :
    Calls Try.prog 6 #[.agg #[.int .i64 x.ticks, .slice a1 l1 c1, .slice a2 l2 c2, .slice a3 l3 c3], .int .i64 kind, .int .i64 A, .int .i64 C, .slice a l c] w fun e u => ∃ d1 k1 d2 k2 d3 k3 vs hi, e = .returned (.tuple #[.agg #[.int .i64 y.ticks, .slice d1 m1 k1, .slice d2 m2 k2, .slice d3 m3 k3], .int .i64 R, .bool b]) ∧ OwW u w.heap.size y d1 m1 d2 m2 k2 d3 m3 k3 vs hi ∧ w.grownBy u none := by
  refine (implForeignT x kind A C lit a1 l1 c1 a2 l2 c2 a3 l3 c3 a l c w h hl hk hs).mono ?_
  rw [hF]
  rintro e u ⟨d1, n1, k1, d2, n2, k2, d3, n3, k3, vs, hi, rfl, ho, hg⟩
  obtain ⟨q1, q2, q3⟩ := ow_len ho
  simp only at q1 q2 q3 ho
  subst e1 e2 e3 q1 q2 q3
  exact ⟨d1, k1, d2, k2, d3, k3, vs, hi, rfl, ho, hg⟩
end Go.Proofs.Ytccnninmkfhejaa.By
