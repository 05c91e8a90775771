/-
  Several texts in one (MYs, MYv). No statement is proved here.
-/
import Derived.Test.YtccnninmkfhejaaMY0
namespace Go.Proofs.Ytccnninmkfhejaa.By
open Go.RowKit
set_option linter.unusedVariables false
set_option linter.unusedSimpArgs false

/-- How Event lies, whatever numbers it bears. -/
def ElEvent (w : World) (x : REvent) (b off : Nat) : Prop := (∃ z, w.cell? ⟨b, off, none⟩ = some (.int .i64 z)) ∧ (∃ z, w.cell? ⟨b, off + 1, none⟩ = some (.int .i64 z)) ∧ (∃ z, w.cell? ⟨b, off + 2, none⟩ = some (.int .i64 z)) ∧ (∃ a l c, w.cell? ⟨b, off + 3, none⟩ = some (.slice a l c) ∧ ShN w .u8 a l x.lit.length) ∧ (∃ z, w.cell? ⟨b, off + 4, none⟩ = some (.int .i64 z))
def ShEvent (w : World) : List REvent → Nat → Nat → Prop
  | [], _, _ => True
  | x :: r, b, off => ElEvent w x b off ∧ ShEvent w r b (off + 5)
def ShLEvent (w : World) (a : Option Addr) (l : Nat) (xs : List REvent) : Prop := xs.length = l ∧ l ≤ 9223372036854775807 ∧ (l = 0 ∨ ∃ b o, a = some ⟨b, o, none⟩ ∧ ShEvent w xs b o)
theorem ShEvent.like {w u : World} (hk : CLk w u) (xs : List REvent) : ∀ b off, ShEvent w xs b off → ShEvent u xs b off := by
  induction xs with
  | nil => intro b off _; trivial
  | cons x r ih =>
    intro b off h
    obtain ⟨⟨h0, h1, h2, ⟨a3, l3, c3, h3, s3⟩, h4⟩, hr⟩ := h
    exact ⟨⟨hk.int h0, hk.int h1, hk.int h2, ⟨a3, l3, c3, hk.slice h3, s3.like hk⟩, hk.int h4⟩, ih _ _ hr⟩
theorem ShLEvent.like {w u : World} {xs : List REvent} {a : Option Addr} {l : Nat} (h : ShLEvent w a l xs) (hk : CLk w u) : ShLEvent u a l xs := by
  obtain ⟨h1, h2, h3⟩ := h
  refine ⟨h1, h2, ?_⟩
  rcases h3 with h3 | ⟨b, o, e, h3⟩
  · exact .inl h3
  · exact .inr ⟨b, o, e, ShEvent.like hk _ _ _ h3⟩
theorem InEvent.sh {w : World} (xs : List REvent) : ∀ b off, InEvent w w xs b off → ShEvent w xs b off := by
  induction xs with
  | nil => intro b off _; trivial
  | cons x r ih =>
    intro b off h
    obtain ⟨⟨a1, l1, c1, ⟨k0, k1, k2, k3, k4⟩, hd⟩, hr⟩ := h
    exact ⟨⟨⟨_, k0⟩, ⟨_, k1⟩, ⟨_, k2⟩, ⟨a1, l1, c1, k3, ⟨RdB.sh hd, (hd).1.1.symm⟩⟩, ⟨_, k4⟩⟩, ih _ _ hr⟩
theorem SlEvent.sh {w : World} {xs : List REvent} {a : Option Addr} {l : Nat} (h : SlEvent w a l xs) : ShLEvent w a l xs := by
  obtain ⟨h1, h2, h3⟩ := h
  refine ⟨h1, h2, ?_⟩
  rcases h3 with h3 | ⟨b, o, e, h3⟩
  · exact .inl h3
  · exact .inr ⟨b, o, e, h3.sh⟩


end Go.Proofs.Ytccnninmkfhejaa.By

namespace Go.Proofs.Ytccnninmkfhejaa.By
open Go.RowKit
set_option linter.unusedVariables false
set_option linter.unusedSimpArgs false

set_option maxRecDepth 8000 in
set_option maxHeartbeats 8000000 in
theorem mrV (lo hi : Nat) (xs : List REvent) (a : Option Addr) (l c : Nat) (k0 : Int) (w : World) (h : ShLEvent (hideR w lo hi) a l xs) (hs : szEvents xs ≤ 4194304) (hk0 : 0 ≤ k0) (hk1 : k0 ≤ 1073741824) :
    Calls Try.prog 46 #[.slice a l c, .int .i64 k0] w fun e u => ∃ k' : Int, e = .returned (.int .i64 k') ∧ k0 ≤ k' ∧ k' ≤ k0 + 4 * (szEvents xs : Nat) ∧ Mk lo hi w u := by
  have hxl : xs.length = l := h.1
  have hle := szEvents_len xs
  have HX : Hid _ := h.2.2
  clear h
  go_enter Try.func46, Try.ntmps46
  go_wp2
  go_loopw [1, 5] (fun v i wr => ∃ (j : Nat) (R : List REvent) (kj : Int), j ≤ l ∧ i = .int .i64 j ∧ v = .int .i64 kj ∧ k0 ≤ kj ∧ kj + 4 * (szEvents R : Nat) ≤ k0 + 4 * (szEvents xs : Nat) ∧ R.length + j = l ∧ Hid ((l = 0 ∨ ∃ b o, a = some ⟨b, o, none⟩ ∧ ShEvent (hideR wr lo hi) R b (o + j * 5)) ∧ Mk lo hi w wr)) (fun _ i _ => l - (intOf i).toNat)
  case atStart => exact ⟨0, xs, k0, Nat.zero_le _, rfl, rfl, Int.le_refl _, Int.le_refl _, by omega, by simpa using HX.out, Mk.refl _ _ _⟩
  case round =>
    obtain ⟨j, R, K, hj, rfl, rfl, hkj, hks, hRl, HR⟩ := hrel
    by_cases hlt : j < l
    · obtain ⟨x, r, rfl⟩ : ∃ x r, R = x :: r := by
        cases R with
        | nil => simp at hRl; omega
        | cons x r => exact ⟨x, r, rfl⟩
      simp only [List.length_cons] at hRl
      simp only [szEvents, szEvent] at hks
      obtain ⟨b, o, rfl, hsh⟩ : ∃ b o, a = some ⟨b, o, none⟩ ∧ ShEvent (hideR wr lo hi) (x :: r) b (o + j * 5) := by
        rcases HR.out.1 with h0 | h0
        · omega
        · exact h0
      obtain ⟨⟨⟨z0, d0⟩, ⟨z1, d1⟩, ⟨z2, d2⟩, ⟨ta, tl, tc, d3, s3⟩, ⟨z4, d4⟩⟩, hr⟩ := hsh
      have M1 := Mk.set d0 K
      obtain ⟨z1', d1'⟩ := M1.like.int ⟨_, d1⟩
      have M2 := M1.trans (Mk.set d1' (K + 1))
      obtain ⟨z2', d2'⟩ := M2.like.int ⟨_, d2⟩
      have M3 := M2.trans (Mk.set d2' (K + 1 + 1))
      have c0 := (hideR_open d0).1
      have f0 := (hideR_open d0).2
      have c1 := (hideR_open d1').1
      have f1 := (hideR_open d1').2
      have c2 := (hideR_open d2').1
      have f2 := (hideR_open d2').2
      have htl : tl = x.lit.length := s3.2
      have w1 : IntKind.i64.wrap (K + 1) = K + 1 := IntWalk.i64_in _ ⟨by omega, by omega⟩
      have w2 : IntKind.i64.wrap (K + 1 + 1) = K + 1 + 1 := IntWalk.i64_in _ ⟨by omega, by omega⟩
      have w3 : IntKind.i64.wrap (K + 1 + 1 + 1) = K + 1 + 1 + 1 := IntWalk.i64_in _ ⟨by omega, by omega⟩
      have L3 : Hid _ := And.intro (M3.like.slice d3) (And.intro (s3.like M3.like) (And.intro (M3.like.int ⟨_, d4⟩) (And.intro (ShEvent.like M3.like _ _ _ hr) (HR.out.2.trans M3))))
      have CB : Hid _ := mrB lo hi ta tl tc (K + 1 + 1 + 1) _ L3.out.2.1.1 (by omega) (by omega)
      clear M1 M2 M3 d0 d1 d2 d3 d4 d1' d2' s3 hr HR HX
      have HB : Hid (K + 4 * (1 + x.lit.length + szEvents r : Nat) ≤ k0 + 4 * (szEvents xs : Nat) ∧ k0 ≤ K ∧ r.length + 1 + j = l ∧ tl = x.lit.length ∧ szEvents xs ≤ 4194304 ∧ k0 ≤ 1073741824 ∧ 0 ≤ k0) := ⟨by omega, hkj, hRl, htl, hs, hk1, hk0⟩
      have hl4 : l ≤ 4194304 := by omega
      clear hks hkj hRl htl hs hk1 hk0 hle hxl
      go_upto_region 10 with fail
      clear c0 c1 c2 f0 f1 f2
      generalize (((wr.setCell ⟨b, o + j * 5, none⟩ (.int .i64 K)).setCell ⟨b, o + j * 5 + 1, none⟩ (.int .i64 (K + 1))).setCell ⟨b, o + j * 5 + 2, none⟩ (.int .i64 (K + 1 + 1))) = z at *
      have c3 := (hideR_open L3.out.1).1
      go_wp2_with fail
      refine Calls.mono CB.out ?_
      rintro e u ⟨k', rfl, hk1', hk2', hm⟩
      have hB := HB.out
      obtain ⟨-, -, h4, hr, hmk⟩ := L3.out
      obtain ⟨z4, d4⟩ := hm.like.int h4
      have c4 := (hideR_open d4).1
      have f4 := (hideR_open d4).2
      have M5 := hm.trans (Mk.set d4 k')
      have w5 : IntKind.i64.wrap (k' + 1) = k' + 1 := IntWalk.i64_in _ ⟨by omega, by omega⟩
      have FQ : Hid (ShEvent (hideR (u.setCell ⟨b, o + j * 5 + 4, none⟩ (.int .i64 k')) lo hi) r b (o + j * 5 + 5) ∧ Mk lo hi w (u.setCell ⟨b, o + j * 5 + 4, none⟩ (.int .i64 k'))) := ⟨ShEvent.like M5.like _ _ _ hr, hmk.trans M5⟩
      have HB2 : Hid (k0 ≤ k' + 1 ∧ k' + 1 + 4 * (szEvents r : Nat) ≤ k0 + 4 * (szEvents xs : Nat) ∧ r.length + (j + 1) = l) := ⟨by omega, by omega, by omega⟩
      clear CB L3 c3 h4 hr hmk d4 M5 hm hB HB hk1' hk2'
      simp only []
      go_wp2
      go_roundw
      case rel => exact ⟨j + 1, r, k' + 1, by omega, by go_num, by go_num, HB2.out.1, HB2.out.2.1, HB2.out.2.2, .inr ⟨b, o, rfl, by rw [show o + (j + 1) * 5 = o + j * 5 + 5 by omega]; exact FQ.out.1⟩, FQ.out.2⟩
      case measure => simp [intOf]; omega
    · obtain rfl : j = l := by omega
      go_wp2
      go_ret
      exact ⟨_, rfl, by omega, by omega, HR.out.2⟩
end Go.Proofs.Ytccnninmkfhejaa.By
