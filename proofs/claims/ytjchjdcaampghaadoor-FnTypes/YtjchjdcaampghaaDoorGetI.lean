/-
  The landed GetNum answers what the plain function getNum does. No statement is proved here.
-/
import Derived.Test.YtjchjdcaampghaaDoorGetP
namespace Go.Proofs.YtjchjdcaampghaaDoor.By
open Go.RowKit
set_option linter.unusedVariables false

theorem pow7 (k : Nat) : (2 : Int) ^ (7 * (k : Int)).toNat = 128 ^ k := by
  have e : (7 * (k : Int)).toNat = 7 * k := by omega
  rw [e, Int.pow_mul]; rfl

set_option maxHeartbeats 4000000 in
theorem implGet (a : Option Addr) (n cap : Nat) (zs : List Int) (p : Int) (w : World) (h : Reads w a n zs) (hz : Byt zs) (hn : n ≤ 4194304) (hp : p ≤ 9223372036854775807) :
    Calls Tryd.prog 44 #[.slice a n cap, .int .i64 p] w fun e w' => e = .returned (.tuple #[.int .i64 (getNum zs p).1, .int .i64 (getNum zs p).2]) ∧ ∃ m, w' = w.drewN m := by
  obtain ⟨hl, h⟩ := h
  by_cases hneg : p < 0
  · have e : getNum zs p = (0, -1) := by rw [getNum, if_pos hneg]
    rw [e]
    clear h hl hz e
    go_enter Tryd.func44, Tryd.ntmps44
    go_wp2
    go_ret2
    exact ⟨rfl, 0, rfl⟩
  have e0 : getNum zs p = getAt zs p.toNat 5 0 0 := by rw [getNum, if_neg hneg]
  rw [e0]
  by_cases hfar : (n : Int) ≤ p
  · rw [getAt_out (by omega)]
    clear h hl hz e0
    go_enter Tryd.func44, Tryd.ntmps44
    go_wp2
    refine wp_loop_rounds 1 ?_
    rw [rounds_succ]
    go_wp2
    go_ret2
    exact ⟨rfl, 0, rfl⟩
  obtain ⟨q, rfl⟩ : ∃ q : Nat, p = q := ⟨p.toNat, by omega⟩
  have hq : q < n := by omega
  rcases h with h | ⟨b, off, rfl, hc⟩
  · omega
  rw [Int.toNat_natCast]
  clear e0 hfar
  obtain ⟨r1, r2, hr⟩ : ∃ r1 r2, getAt zs q 5 0 0 = (r1, r2) := ⟨_, _, rfl⟩
  rw [hr]
  have HR : Hid (getAt zs q 5 0 0 = (r1, r2)) := hr
  clear hr
  go_enter Tryd.func44, Tryd.ntmps44
  go_wp2
  go_loopw [6, 7] (fun v i wr => ∃ (k m : Nat) (N U : Int), k ≤ 5 ∧ i = .int .i64 k ∧ v = .int .i64 N ∧ Hid (U = 128 ^ k) ∧ 0 ≤ N ∧ N < U ∧ Hid (getAt zs q (5 - k) k N = (r1, r2)) ∧ wr = w.drewN m) (fun _ i _ => 5 - (intOf i).toNat)
  case atStart => exact ⟨0, 0, 0, 1, by omega, rfl, rfl, rfl, by omega, by decide, HR, rfl⟩
  case round =>
    obtain ⟨k, m, N, U, hk, rfl, rfl, HU, hN0, hN1, HK, rfl⟩ := hrel
    clear HR
    by_cases hk5 : k < 5
    · by_cases hqk : q + k < n
      · obtain ⟨x, hx⟩ : ∃ x, x = zs.getD (q + k) 0 := ⟨_, rfl⟩
        have hb := byt_get hz (q + k)
        rw [← List.getD_eq_getElem?_getD, ← hx] at hb
        obtain ⟨hx0, hx1⟩ := hb
        have hcx : w.cell? ⟨b, off + (q + k), none⟩ = some (.int .u8 x) := by rw [hx]; exact hc (q + k) hqk
        have hpow : (2 : Int) ^ (7 * (k : Int)).toNat = U := by rw [pow7, HU.out]
        have HX : Hid (x = zs.getD (q + k) 0) := hx
        obtain ⟨hU0, hU1⟩ := unit_le HU.out hk5
        obtain ⟨hP0, hP1⟩ := prod_le (x := x) hx0 hU0
        have HK' : Hid (getAt zs q ((4 - k) + 1) k N = (r1, r2)) := by have := HK.out; rwa [show 5 - k = (4 - k) + 1 by omega] at this
        have HL : Hid (q + k < zs.length) := by rw [hl]; exact hqk
        clear hx hc hz hl HK
        by_cases h1 : 128 ≤ x
        · have HN : Hid (getAt zs q (5 - (k + 1)) (k + 1) (N + x % 128 * U) = (r1, r2)) := by
            have := HK'.out; rw [getAt_more HL.out HX.out HU.out h1] at this; rwa [show 5 - (k + 1) = 4 - k by omega]
          go_wp2
          go_roundw
          case rel => exact ⟨k + 1, m, N + x % 128 * U, U * 128, by omega, by go_num, rfl, unit_step HU.out, by omega, by omega, HN, rfl⟩
          case measure => simp [intOf]; omega
        · by_cases hA : x ≤ 0 ∧ 0 < k
          · obtain ⟨hA, hB⟩ := hA
            have HF : Hid ((0, -1) = (r1, r2)) := by have := HK'.out; rwa [getAt_no HL.out HX.out HU.out (by omega) (.inl ⟨by omega, hB⟩)] at this
            go_wp2
            all_goals (go_ret2; exact ⟨ret2 HF.out, m, rfl⟩)
          · by_cases hC : 2147483647 < N + x % 128 * U
            · have HF : Hid ((0, -1) = (r1, r2)) := by have := HK'.out; rwa [getAt_no HL.out HX.out HU.out (by omega) (.inr hC)] at this
              have h3 : 0 < x := by
                rcases (show 0 < x ∨ k = 0 by omega) with h3 | rfl
                · exact h3
                · have := HU.out; rw [Int.pow_zero] at this; omega
              go_wp2
              all_goals (go_ret2; exact ⟨ret2 HF.out, m, rfl⟩)
            · have HF : Hid ((N + x % 128 * U, (q : Int) + k + 1) = (r1, r2)) := by have := HK'.out; rwa [getAt_yes HL.out HX.out HU.out (by omega) (by omega)] at this
              rcases (show 0 < x ∨ (x ≤ 0 ∧ k < 1) by omega) with h3 | ⟨h3, h4⟩
              · go_wp2
                all_goals (go_ret2; exact ⟨ret2 HF.out, m, rfl⟩)
              · have HF' : Hid ((N, (q : Int) + 1) = (r1, r2)) := at_zero (by omega) (by omega) HF.out
                go_wp2
                all_goals (go_ret2; first | exact ⟨ret2 HF.out, m, rfl⟩ | exact ⟨ret2 HF'.out, m, rfl⟩)
      · have HF : Hid ((0, -1) = (r1, r2)) := by have := HK.out; rwa [getAt_out (by omega)] at this
        clear hc hz hl
        go_wp2
        all_goals (go_ret2; exact ⟨ret2 HF.out, m, rfl⟩)
    · obtain rfl : k = 5 := by omega
      have HF : Hid ((0, -1) = (r1, r2)) := HK.out
      clear hc hz hl
      go_wp2
      all_goals (go_ret2; exact ⟨ret2 HF.out, m, rfl⟩)
end Go.Proofs.YtjchjdcaampghaaDoor.By
