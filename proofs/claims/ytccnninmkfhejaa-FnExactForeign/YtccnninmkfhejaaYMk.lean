/-
  Marks on rows of our own, and what holds them: ints and entries. No statement is proved here.
-/
import Derived.Test.YtccnninmkfhejaaYSf
namespace Go.Proofs.Ytccnninmkfhejaa.By
open Go.RowKit
set_option linter.unusedVariables false
set_option linter.unusedSimpArgs false

def mkI (k : Int) : Nat → List Int
  | 0 => []
  | n + 1 => mkI k n ++ [k + n]
def mkE (k : Int) : Nat → List REntry
  | 0 => []
  | n + 1 => mkE k n ++ [⟨k + 2 * n, k + 2 * n + 1⟩]
theorem mkI_len (k : Int) : ∀ n, (mkI k n).length = n
  | 0 => rfl
  | n + 1 => by simp [mkI, mkI_len k n]
theorem mkE_len (k : Int) : ∀ n, (mkE k n).length = n
  | 0 => rfl
  | n + 1 => by simp [mkE, mkE_len k n]
theorem keyAt_app {P : List REntry} {y : REntry} {i : Nat} (h : i < P.length) : keyAt (P ++ [y]) i = keyAt P i ∧ valAt (P ++ [y]) i = valAt P i := by
  simp [keyAt, valAt, List.getD, List.getElem?_append_left h]
theorem mkE_at (k : Int) : ∀ n i, i < n → keyAt (mkE k n) i = k + 2 * i ∧ valAt (mkE k n) i = k + 2 * i + 1
  | 0, i, h => by omega
  | n + 1, i, h => by
    by_cases e : i = n
    · subst e
      have hl := mkE_len k i
      refine ⟨?_, ?_⟩
      · simp [mkE, keyAt, List.getD, hl]
      · simp [mkE, valAt, List.getD, hl]
    · have := keyAt_app (P := mkE k n) (y := ⟨k + 2 * n, k + 2 * n + 1⟩) (i := i) (by rw [mkE_len]; omega)
      rw [mkE, this.1, this.2]
      exact mkE_at k n i (by omega)

set_option maxHeartbeats 2000000 in
theorem heldEs (a : Option Addr) (n c : Nat) (k0 : Int) (w : World) (h : SlEntry w a n (mkE k0 n)) (hn : n ≤ 4194304) (hk0 : 0 ≤ k0) (hk1 : k0 ≤ 16777216) :
    Calls Try.prog 48 #[.slice a n c, .int .i64 k0] w fun e u => e = .returned (.int .i64 (k0 + 2 * n)) ∧ u = w := by
  have HC : Hid (∀ k, k < n → ∃ b o, a = some ⟨b, o, none⟩ ∧ w.cell? ⟨b, o + k * 2, none⟩ = some (.int .i64 (k0 + 2 * k)) ∧ w.cell? ⟨b, o + k * 2 + 1, none⟩ = some (.int .i64 (k0 + 2 * k + 1))) := fun k hk => by
    rcases h.cases with ⟨h0, -⟩ | ⟨b, o, e, hin, -⟩
    · omega
    · have := hin.at (k := k) (by rw [mkE_len]; exact hk)
      rw [(mkE_at k0 n k hk).1, (mkE_at k0 n k hk).2] at this
      exact ⟨b, o, e, this⟩
  clear h
  go_enter Try.func48, Try.ntmps48
  go_wp2
  go_loop [1, 5] (fun v i => ∃ k : Nat, k ≤ n ∧ i = .int .i64 k ∧ v = .int .i64 (k0 + 2 * k)) (fun _ i => n - (intOf i).toNat)
  case atStart => exact ⟨0, Nat.zero_le _, rfl, by simp⟩
  case round =>
    obtain ⟨k, hk, rfl, rfl⟩ := hrel
    by_cases hlt : k < n
    · obtain ⟨b, o, rfl, h1, h2⟩ := HC.out k hlt
      have hw : IntKind.i64.wrap (k0 + 2 * k + 1) = k0 + 2 * k + 1 := IntWalk.i64_in _ ⟨by omega, by omega⟩
      go_wp2
      go_round
      case rel => exact ⟨k + 1, by omega, by go_num, by go_num⟩
      case measure => simp [intOf]; omega
    · obtain rfl : k = n := by omega
      go_wp2
      go_ret
      first | exact ⟨rfl, rfl⟩ | rfl

set_option maxHeartbeats 2000000 in
theorem markEs (a : Option Addr) (n c B : Nat) (V : List Value) (k0 : Int) (w : World) (h : w.ownsRow B 66 2 (.slice a n c) n V) (hV : ∀ j, j < n * 2 → ∃ x, V[j]? = some (.int .i64 x)) (hn : n ≤ 4194304) (hk0 : 0 ≤ k0) (hk1 : k0 ≤ 16777216) :
    Calls Try.prog 45 #[.slice a n c, .int .i64 k0] w fun e u => e = .returned (.int .i64 (k0 + 2 * n)) ∧ u.ownsRow B 66 2 (.slice a n c) n (vE (mkE k0 n)) ∧ w.grownBy u (Value.slice a n c).ownBlock := by
  have HR0 : Hid (w.ownsRow B 66 2 (.slice a n c) n V) := h
  have HV : Hid (∀ j, j < n * 2 → ∃ x, V[j]? = some (.int .i64 x)) := hV
  have hVl : V.length = n * 2 := h.1
  clear h hV
  go_enter Try.func45, Try.ntmps45
  go_wp2
  go_loopw [1, 5] (fun v i wr => ∃ k : Nat, k ≤ n ∧ i = .int .i64 k ∧ v = .int .i64 (k0 + 2 * k) ∧ Hid (wr.ownsRow B 66 2 (.slice a n c) n (vE (mkE k0 k) ++ V.drop (k * 2)) ∧ w.grownBy wr (Value.slice a n c).ownBlock)) (fun _ i _ => n - (intOf i).toNat)
  case atStart => exact ⟨0, Nat.zero_le _, rfl, by simp, by simpa [mkE, vE] using HR0.out, World.grownBy.refl _ _⟩
  case round =>
    obtain ⟨k, hk, rfl, rfl, HL⟩ := hrel
    by_cases hlt : k < n
    · obtain ⟨x, hx⟩ := HV.out (k * 2) (by omega)
      obtain ⟨y, hy⟩ := HV.out (k * 2 + 1) (by omega)
      have hml : (vE (mkE k0 k)).length = k * 2 := by rw [vE_len, mkE_len]
      obtain ⟨D, hD⟩ : ∃ D, V.drop (k * 2) = .int .i64 x :: .int .i64 y :: D := by
        have h1 := List.getElem?_eq_some_iff.1 hx
        have h2 := List.getElem?_eq_some_iff.1 hy
        refine ⟨V.drop (k * 2 + 1 + 1), ?_⟩
        rw [List.drop_eq_getElem_cons h1.1, h1.2, List.drop_eq_getElem_cons h2.1, h2.2]
      have hD2 : V.drop ((k + 1) * 2) = D := by
        rw [show (k + 1) * 2 = k * 2 + 2 by omega, ← List.drop_drop, hD]; rfl
      obtain ⟨g, rfl, hbg, ⟨cur, hcur⟩, hcell⟩ : ∃ g, a = some ⟨g, 0, none⟩ ∧ B ≤ g ∧ (∃ cur, wr.heap[g]? = some (.cells cur 66 (0, 0))) ∧ ∀ j v, (vE (mkE k0 k) ++ V.drop (k * 2))[j]? = some v → (hideZ wr B).cell? ⟨g, j, none⟩ = some v := by
        rcases row_cell HL.out.1 with h0 | h0
        · omega
        · exact h0
      have c0 : wr.cell? ⟨g, k * 2, none⟩ = some (.int .i64 x) := CLe.unhidz _ _ (hcell _ _ (by rw [List.getElem?_append_right (by omega), hml, hD]; simp))
      have c1 : wr.cell? ⟨g, k * 2 + 1, none⟩ = some (.int .i64 y) := CLe.unhidz _ _ (hcell _ _ (by rw [List.getElem?_append_right (by omega), hml, hD]; simp))
      have f0 := frozen_of_row wr g (k * 2) _ _ hcur
      have f1 := frozen_of_row wr g (k * 2 + 1) _ _ hcur
      have s1 := HL.out.1.stored (k * 2) (.int .i64 (k0 + 2 * k))
      have s2 := s1.1.stored (k * 2 + 1) (.int .i64 (k0 + 2 * k + 1))
      have hw : IntKind.i64.wrap (k0 + 2 * k + 1) = k0 + 2 * k + 1 := IntWalk.i64_in _ ⟨by omega, by omega⟩
      have FQ : Hid (_ ∧ w.grownBy ((wr.setCell ⟨g, k * 2, none⟩ (.int .i64 (k0 + 2 * k))).setCell ⟨g, k * 2 + 1, none⟩ (.int .i64 (k0 + 2 * k + 1))) (Value.slice (some ⟨g, 0, none⟩) n c).ownBlock) := And.intro s2.1 (grown_trans (grown_trans HL.out.2 s1.2) s2.2)
      have HE : Hid ((((vE (mkE k0 k) ++ V.drop (k * 2)).set (k * 2) (.int .i64 (k0 + 2 * k))).set (k * 2 + 1) (.int .i64 (k0 + 2 * k + 1))) = vE (mkE k0 (k + 1)) ++ V.drop ((k + 1) * 2)) := by
        show _ = _
        rw [List.set_append_right _ _ (by omega), List.set_append_right _ _ (by omega), hml, hD, hD2, mkE, vE_app]
        simp [vE, show k * 2 + 1 - k * 2 = 1 by omega]
      clear hcell hcur s1 s2 HL HR0 HV hx hy hD hD2 hml
      go_wp2
      go_roundw
      case rel => exact ⟨k + 1, by omega, by go_num, by go_num, row_eq FQ.out.1 HE.out, FQ.out.2⟩
      case measure => simp [intOf]; omega
    · obtain rfl : k = n := by omega
      go_wp2
      go_ret
      exact ⟨rfl, row_eq HL.out.1 (by rw [List.drop_eq_nil_of_le (by omega), List.append_nil]), HL.out.2⟩
end Go.Proofs.Ytccnninmkfhejaa.By
