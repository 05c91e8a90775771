/-
  Contracts of the law's own helpers for trees (how large, a copy, the same), for this seat's proofs. No statement is proved here.
-/
import Derived.Test.YtbeejgacdcncgaaRows
import Derived.Test.YtbeejgacdcncgaaTBase
import Derived.WalkKit
import Derived.ProofKit
import Derived.WalkSpells
import Derived.RegionTactic
import Derived.Deep.QuietTactic
import Derived.BigQuiet
import Derived.Deep.RegionWith
import Derived.Handy
namespace Go.Proofs.Ytbeejgacdcncgaa.By
open Go.RowKit
set_option linter.unusedVariables false

/-- What is left of L behind all of f. -/
def szV (f : F) (L : Int) : Int := if (f.size : Int) ≤ L then L - f.size else -1

/-- The same, where the trees of R themselves are counted already. -/
def szR (R : F) (L : Int) : Int := if (R.size : Int) - R.len ≤ L then L - (R.size - R.len) else -1
theorem szR_nil {L : Int} (h : 0 ≤ L) : szR .nil L = L := by
  have : szR .nil L = if (0 : Int) ≤ L then L - 0 else -1 := rfl
  rw [this, if_pos h, Int.sub_zero]
theorem szR_all {f : F} {L : Int} {l : Nat} (h : f.len = l) : szV f L = szR f (L - l) := by
  unfold szV szR
  by_cases hs : (f.size : Int) ≤ L
  · rw [if_pos hs, if_pos (by omega)]; omega
  · rw [if_neg hs, if_neg (by omega)]
theorem szR_cons {k n : Int} {d r : F} {L : Int} (h : (d.size : Int) ≤ L) : szR (.cons k n d r) L = szR r (L - d.size) := by
  unfold szR
  have e1 : ((F.cons k n d r).size : Int) = 1 + d.size + r.size := by simp [F.size]
  have e2 : ((F.cons k n d r).len : Int) = r.len + 1 := by simp [F.len]
  rw [e1, e2]
  by_cases hq : (r.size : Int) - r.len ≤ L - d.size
  · rw [if_pos (by omega), if_pos hq]; omega
  · rw [if_neg (by omega), if_neg hq]
theorem szR_less {k n : Int} {d r : F} {L : Int} (h : ¬ (d.size : Int) ≤ L) : szR (.cons k n d r) L = -1 := by
  have := r.len_le
  unfold szR
  have e1 : ((F.cons k n d r).size : Int) = 1 + d.size + r.size := by simp [F.size]
  have e2 : ((F.cons k n d r).len : Int) = r.len + 1 := by simp [F.len]
  rw [e1, e2, if_neg (by omega)]

set_option maxHeartbeats 1000000 in
theorem szT_of {d : F} {a : Option Addr} {l c : Nat} {L : Int} (k n : Int) (w : World) (h : SlF w a l d)
    (H : ∀ w', w.grownBy w' none → Calls Try.prog 23 #[.slice a l c, .int .i64 L] w' fun e u => e = .returned (.int .i64 (szV d L)) ∧ w'.grownBy u none) :
    Calls Try.prog 10 #[.agg #[.int .i64 k, .int .i64 n, .slice a l c], .int .i64 L] w fun e u => e = .returned (.int .i64 (szV d L)) ∧ w.grownBy u none := by
  have g0 := World.grownBy_alloc w (.cells #[.int .i64 k, .int .i64 n, .slice a l c] 25) none
  have H0 : Hid _ := H _ g0
  have G0 : Hid (w.grownBy _ none) := g0
  clear g0 H
  go_enter Try.func10, Try.ntmps10
  go_wp2_with fail
  refine Calls.mono H0.out ?_
  rintro e u ⟨rfl, hg⟩
  have G1 : Hid (w.grownBy u none) := grown_trans G0.out hg
  clear hg G0 H0
  simp only []
  by_cases hs : (d.size : Int) ≤ L
  · have e1 : szV d L = L - d.size := if_pos hs
    have E : Hid (szV d L = L - d.size) := e1
    rw [e1]
    clear e1
    go_wp2
    go_ret
    exact ⟨by rw [E.out]; rfl, G1.out⟩
  · have e1 : szV d L = -1 := if_neg hs
    have E : Hid (szV d L = -1) := e1
    rw [e1]
    clear e1
    go_wp2
    go_ret
    exact ⟨by rw [E.out]; rfl, G1.out⟩

set_option maxHeartbeats 2000000 in
theorem szS (m : Nat) : ∀ (f : F) (a : Option Addr) (l c : Nat) (L : Int) (w : World), f.size ≤ m → SlF w a l f → 0 ≤ L → L ≤ 1048576 →
    Calls Try.prog 23 #[.slice a l c, .int .i64 L] w fun e u => e = .returned (.int .i64 (szV f L)) ∧ w.grownBy u none := by
  induction m with
  | zero =>
    intro f a l c L w hm h h0 h1
    have hlen := f.len_le
    obtain ⟨e1, e2, -⟩ := h
    obtain rfl : l = 0 := by omega
    obtain rfl := F.nil_of_len e1
    go_enter Try.func23, Try.ntmps23
    go_wp2
    refine wp_loop_rounds 1 ?_
    rw [rounds_succ]
    go_wp2
    go_ret
    exact ⟨by simp [szV, F.size, h0], World.grownBy.refl _ _⟩
  | succ m ih =>
    intro f a l c L w hm h h0 h1
    have hlen := f.len_le
    have hl := h.2.1
    have hfl := h.1
    by_cases hneg : L - (l : Int) < 0
    · have ev : szV f L = -1 := if_neg (by omega)
      rw [ev]
      go_enter Try.func23, Try.ntmps23
      go_wp2
      go_ret
      exact ⟨rfl, World.grownBy.refl _ _⟩
    rcases h.cases with ⟨rfl, rfl⟩ | ⟨b, o, rfl, hin, -, hpos⟩
    · go_enter Try.func23, Try.ntmps23
      go_wp2
      refine wp_loop_rounds 1 ?_
      rw [rounds_succ]
      go_wp2
      go_ret
      exact ⟨by simp [szV, F.size, h0], World.grownBy.refl _ _⟩
    have IH : Hid _ := ih
    have IN : Hid (InF w f b o) := hin
    clear ih hin h
    go_enter Try.func23, Try.ntmps23
    go_wp2
    go_loopw [1, 5] (fun v i wr => ∃ (j : Nat) (R : F) (Lj : Int), j ≤ l ∧ i = .int .i64 j ∧ v = .int .i64 Lj ∧ 0 ≤ Lj ∧ Lj ≤ 1048576 ∧ w.grownBy wr none ∧ InF wr R b (o + j * 3) ∧ R.len + j = l ∧ R.size ≤ f.size ∧ szV f L = szR R Lj) (fun _ i _ => l - (intOf i).toNat)
    case atStart =>
      refine ⟨0, f, _, Nat.zero_le _, rfl, rfl, by omega, by omega, World.grownBy.refl _ _, by simpa using IN.out, by omega, Nat.le_refl _, szR_all hfl⟩
    case round =>
      obtain ⟨j, R, Lj, hj, rfl, rfl, hj0, hj1, hg, hR, hRl, hRs, hv⟩ := hrel
      by_cases hlt : j < l
      · obtain ⟨q, hq⟩ : ∃ q, R.len = q + 1 := ⟨R.len - 1, by omega⟩
        obtain ⟨kk, nn, d, R', rfl, hR'⟩ := F.cons_of_len hq
        obtain ⟨a', l', c', c0, c1, c2, hd, hR2⟩ := hR.out
        have e3 : o + j * 3 + 3 = o + (j + 1) * 3 := by omega
        rw [e3] at hR2
        have lens := R'.len_le
        have hds : d.size ≤ m := by simp only [F.size] at hRs hm; omega
        have C := szT_of (c := c') (L := Lj) kk nn wr hd (fun w' hw' => IH.out d a' l' c' Lj w' hds (hd.none hw') hj0 hj1)
        have CC : Hid _ := C
        have HV : Hid (szV f L = _) := hv
        have FX : Hid (InF wr R' b (o + (j + 1) * 3) ∧ w.grownBy wr none) := ⟨hR2, hg⟩
        clear C hd hR hR2 hg hv IN IH
        go_wp2_with fail
        refine Calls.mono CC.out ?_
        rintro e u ⟨rfl, hgu⟩
        obtain ⟨hR2, hg⟩ := FX.out
        have FY : Hid (InF u R' b (o + (j + 1) * 3) ∧ w.grownBy u none) := ⟨hR2.none hgu, grown_trans hg hgu⟩
        clear hR2 hg hgu CC c0 c1 c2 FX
        simp only []
        by_cases hs : (d.size : Int) ≤ Lj
        · have e1 : szV d Lj = Lj - d.size := if_pos hs
          rw [e1]
          clear e1
          go_wp2
          go_roundw
          case rel =>
            refine ⟨j + 1, R', _, by omega, by go_num, rfl, by omega, by omega, FY.out.2, FY.out.1, by omega, by simp only [F.size] at hRs; omega, HV.out.trans (szR_cons hs)⟩
          case measure => simp [intOf]; omega
        · have e1 : szV d Lj = -1 := if_neg hs
          rw [e1]
          have E : Hid (szV f L = -1) := HV.out.trans (szR_less hs)
          clear e1
          go_wp2
          go_ret
          exact ⟨by rw [E.out]; rfl, FY.out.2⟩
      · obtain rfl : j = l := by omega
        obtain rfl : R = .nil := F.nil_of_len (by omega)
        have E : Hid (szV f L = Lj) := hv.trans (szR_nil hj0)
        clear hv
        go_wp2
        go_ret
        exact ⟨by rw [E.out]; rfl, hg⟩
end Go.Proofs.Ytbeejgacdcncgaa.By
