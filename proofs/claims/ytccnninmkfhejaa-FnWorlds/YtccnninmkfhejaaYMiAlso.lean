/-
  Several texts in one (YMk, YMi). No statement is proved here.
-/
import Derived.Test.YtccnninmkfhejaaYSf
namespace Go.Proofs.Ytccnninmkfhejaa.By
open Go.RowKit
set_option linter.unusedVariables false
set_option linter.unusedSimpArgs false

def mkI (k : Int) : Nat → List Int
  | 0 => []
  | n + 1 => mkI k n ++ [k + n]
def mkE (k : Int) : Nat → List REntry
  | 0 => []
  | n + 1 => mkE k n ++ [⟨k + 2 * n, k + 2 * n + 1⟩]
theorem mkI_len (k : Int) : ∀ n, (mkI k n).length = n
  | 0 => rfl
  | n + 1 => by simp [mkI, mkI_len k n]
theorem mkE_len (k : Int) : ∀ n, (mkE k n).length = n
  | 0 => rfl
  | n + 1 => by simp [mkE, mkE_len k n]
theorem keyAt_app {P : List REntry} {y : REntry} {i : Nat} (h : i < P.length) : keyAt (P ++ [y]) i = keyAt P i ∧ valAt (P ++ [y]) i = valAt P i := by
  simp [keyAt, valAt, List.getD, List.getElem?_append_left h]
theorem mkE_at (k : Int) : ∀ n i, i < n → keyAt (mkE k n) i = k + 2 * i ∧ valAt (mkE k n) i = k + 2 * i + 1
  | 0, i, h => by omega
  | n + 1, i, h => by
    by_cases e : i = n
    · subst e
      have hl := mkE_len k i
      refine ⟨?_, ?_⟩
      · simp [mkE, keyAt, List.getD, hl]
      · simp [mkE, valAt, List.getD, hl]
    · have := keyAt_app (P := mkE k n) (y := ⟨k + 2 * n, k + 2 * n + 1⟩) (i := i) (by rw [mkE_len]; omega)
      rw [mkE, this.1, this.2]
      exact mkE_at k n i (by omega)

set_option maxHeartbeats 2000000 in
theorem heldEs (a : Option Addr) (n c : Nat) (k0 : Int) (w : World) (h : SlEntry w a n (mkE k0 n)) (hn : n ≤ 4194304) (hk0 : 0 ≤ k0) (hk1 : k0 ≤ 16777216) :
    Calls Try.prog 48 #[.slice a n c, .int .i64 k0] w fun e u => e = .returned (.int .i64 (k0 + 2 * n)) ∧ u = w := by
  have HC : Hid (∀ k, k < n → ∃ b o, a = some ⟨b, o, none⟩ ∧ w.cell? ⟨b, o + k * 2, none⟩ = some (.int .i64 (k0 + 2 * k)) ∧ w.cell? ⟨b, o + k * 2 + 1, none⟩ = some (.int .i64 (k0 + 2 * k + 1))) := fun k hk => by
    rcases h.cases with ⟨h0, -⟩ | ⟨b, o, e, hin, -⟩
    · omega
    · have := hin.at (k := k) (by rw [mkE_len]; exact hk)
      rw [(mkE_at k0 n k hk).1, (mkE_at k0 n k hk).2] at this
      exact ⟨b, o, e, this⟩
  clear h
  go_enter Try.func48, Try.ntmps48
  go_wp2
  go_loop [1, 5] (fun v i => ∃ k : Nat, k ≤ n ∧ i = .int .i64 k ∧ v = .int .i64 (k0 + 2 * k)) (fun _ i => n - (intOf i).toNat)
  case atStart => exact ⟨0, Nat.zero_le _, rfl, by simp⟩
  case round =>
    obtain ⟨k, hk, rfl, rfl⟩ := hrel
    by_cases hlt : k < n
    · obtain ⟨b, o, rfl, h1, h2⟩ := HC.out k hlt
      have hw : IntKind.i64.wrap (k0 + 2 * k + 1) = k0 + 2 * k + 1 := IntWalk.i64_in _ ⟨by omega, by omega⟩
      go_wp2
      go_round
      case rel => exact ⟨k + 1, by omega, by go_num, by go_num⟩
      case measure => simp [intOf]; omega
    · obtain rfl : k = n := by omega
      go_wp2
      go_ret
      first | exact ⟨rfl, rfl⟩ | rfl

set_option maxHeartbeats 2000000 in
theorem markEs (a : Option Addr) (n c B : Nat) (V : List Value) (k0 : Int) (w : World) (h : w.ownsRow B 66 2 (.slice a n c) n V) (hV : ∀ j, j < n * 2 → ∃ x, V[j]? = some (.int .i64 x)) (hn : n ≤ 4194304) (hk0 : 0 ≤ k0) (hk1 : k0 ≤ 16777216) :
    Calls Try.prog 45 #[.slice a n c, .int .i64 k0] w fun e u => e = .returned (.int .i64 (k0 + 2 * n)) ∧ u.ownsRow B 66 2 (.slice a n c) n (vE (mkE k0 n)) ∧ w.grownBy u (Value.slice a n c).ownBlock := by
  have HR0 : Hid (w.ownsRow B 66 2 (.slice a n c) n V) := h
  have HV : Hid (∀ j, j < n * 2 → ∃ x, V[j]? = some (.int .i64 x)) := hV
  have hVl : V.length = n * 2 := h.1
  clear h hV
  go_enter Try.func45, Try.ntmps45
  go_wp2
  go_loopw [1, 5] (fun v i wr => ∃ k : Nat, k ≤ n ∧ i = .int .i64 k ∧ v = .int .i64 (k0 + 2 * k) ∧ Hid (wr.ownsRow B 66 2 (.slice a n c) n (vE (mkE k0 k) ++ V.drop (k * 2)) ∧ w.grownBy wr (Value.slice a n c).ownBlock)) (fun _ i _ => n - (intOf i).toNat)
  case atStart => exact ⟨0, Nat.zero_le _, rfl, by simp, by simpa [mkE, vE] using HR0.out, World.grownBy.refl _ _⟩
  case round =>
    obtain ⟨k, hk, rfl, rfl, HL⟩ := hrel
    by_cases hlt : k < n
    · obtain ⟨x, hx⟩ := HV.out (k * 2) (by omega)
      obtain ⟨y, hy⟩ := HV.out (k * 2 + 1) (by omega)
      have hml : (vE (mkE k0 k)).length = k * 2 := by rw [vE_len, mkE_len]
      obtain ⟨D, hD⟩ : ∃ D, V.drop (k * 2) = .int .i64 x :: .int .i64 y :: D := by
        have h1 := List.getElem?_eq_some_iff.1 hx
        have h2 := List.getElem?_eq_some_iff.1 hy
        refine ⟨V.drop (k * 2 + 1 + 1), ?_⟩
        rw [List.drop_eq_getElem_cons h1.1, h1.2, List.drop_eq_getElem_cons h2.1, h2.2]
      have hD2 : V.drop ((k + 1) * 2) = D := by
        rw [show (k + 1) * 2 = k * 2 + 2 by omega, ← List.drop_drop, hD]; rfl
      obtain ⟨g, rfl, hbg, ⟨cur, hcur⟩, hcell⟩ : ∃ g, a = some ⟨g, 0, none⟩ ∧ B ≤ g ∧ (∃ cur, wr.heap[g]? = some (.cells cur 66 (0, 0))) ∧ ∀ j v, (vE (mkE k0 k) ++ V.drop (k * 2))[j]? = some v → (hideZ wr B).cell? ⟨g, j, none⟩ = some v := by
        rcases row_cell HL.out.1 with h0 | h0
        · omega
        · exact h0
      have c0 : wr.cell? ⟨g, k * 2, none⟩ = some (.int .i64 x) := CLe.unhidz _ _ (hcell _ _ (by rw [List.getElem?_append_right (by omega), hml, hD]; simp))
      have c1 : wr.cell? ⟨g, k * 2 + 1, none⟩ = some (.int .i64 y) := CLe.unhidz _ _ (hcell _ _ (by rw [List.getElem?_append_right (by omega), hml, hD]; simp))
      have f0 := frozen_of_row wr g (k * 2) _ _ hcur
      have f1 := frozen_of_row wr g (k * 2 + 1) _ _ hcur
      have s1 := HL.out.1.stored (k * 2) (.int .i64 (k0 + 2 * k))
      have s2 := s1.1.stored (k * 2 + 1) (.int .i64 (k0 + 2 * k + 1))
      have hw : IntKind.i64.wrap (k0 + 2 * k + 1) = k0 + 2 * k + 1 := IntWalk.i64_in _ ⟨by omega, by omega⟩
      have FQ : Hid (_ ∧ w.grownBy ((wr.setCell ⟨g, k * 2, none⟩ (.int .i64 (k0 + 2 * k))).setCell ⟨g, k * 2 + 1, none⟩ (.int .i64 (k0 + 2 * k + 1))) (Value.slice (some ⟨g, 0, none⟩) n c).ownBlock) := And.intro s2.1 (grown_trans (grown_trans HL.out.2 s1.2) s2.2)
      have HE : Hid ((((vE (mkE k0 k) ++ V.drop (k * 2)).set (k * 2) (.int .i64 (k0 + 2 * k))).set (k * 2 + 1) (.int .i64 (k0 + 2 * k + 1))) = vE (mkE k0 (k + 1)) ++ V.drop ((k + 1) * 2)) := by
        show _ = _
        rw [List.set_append_right _ _ (by omega), List.set_append_right _ _ (by omega), hml, hD, hD2, mkE, vE_app]
        simp [vE, show k * 2 + 1 - k * 2 = 1 by omega]
      clear hcell hcur s1 s2 HL HR0 HV hx hy hD hD2 hml
      go_wp2
      go_roundw
      case rel => exact ⟨k + 1, by omega, by go_num, by go_num, row_eq FQ.out.1 HE.out, FQ.out.2⟩
      case measure => simp [intOf]; omega
    · obtain rfl : k = n := by omega
      go_wp2
      go_ret
      exact ⟨rfl, row_eq HL.out.1 (by rw [List.drop_eq_nil_of_le (by omega), List.append_nil]), HL.out.2⟩
end Go.Proofs.Ytccnninmkfhejaa.By

namespace Go.Proofs.Ytccnninmkfhejaa.By
open Go.RowKit
set_option linter.unusedVariables false
set_option linter.unusedSimpArgs false

def mkB (k : Int) : Nat → List Int
  | 0 => []
  | n + 1 => mkB k n ++ [(k + n) % 256]
theorem mkB_len (k : Int) : ∀ n, (mkB k n).length = n
  | 0 => rfl
  | n + 1 => by simp [mkB, mkB_len k n]
theorem mkB_at (k : Int) : ∀ n i, i < n → (mkB k n).getD i 0 = (k + i) % 256
  | 0, i, h => by omega
  | n + 1, i, h => by
    have hl := mkB_len k n
    by_cases e : i = n
    · subst e; simp [mkB, List.getD, hl]
    · have := mkB_at k n i (by omega)
      rw [← this, mkB]
      simp [List.getD, List.getElem?_append_left (show i < (mkB k n).length by omega)]
theorem mkB_byt (k : Int) (n : Nat) : Byt (mkB k n) := by
  intro z hz
  induction n with
  | zero => simp [mkB] at hz
  | succ n ih =>
    rcases List.mem_append.1 (show z ∈ mkB k n ++ [(k + n) % 256] from hz) with h | h
    · exact ih h
    · simp at h; omega
theorem mkI_at (k : Int) : ∀ n i, i < n → (mkI k n).getD i 0 = k + i
  | 0, i, h => by omega
  | n + 1, i, h => by
    have hl := mkI_len k n
    by_cases e : i = n
    · subst e; simp [mkI, List.getD, hl]
    · have := mkI_at k n i (by omega)
      rw [← this, mkI]
      simp [List.getD, List.getElem?_append_left (show i < (mkI k n).length by omega)]

set_option maxHeartbeats 2000000 in
theorem heldIs (a : Option Addr) (n c : Nat) (k0 : Int) (w : World) (h : RdI w a n (mkI k0 n)) (hn : n ≤ 4194304) (hk0 : 0 ≤ k0) (hk1 : k0 ≤ 16777216) :
    Calls Try.prog 47 #[.slice a n c, .int .i64 k0] w fun e u => e = .returned (.int .i64 (k0 + n)) ∧ w.grownBy u none := by
  have HC : Hid (∀ k, k < n → ∃ b o, a = some ⟨b, o, none⟩ ∧ w.cell? ⟨b, o + k, none⟩ = some (.int .i64 (k0 + k))) := fun k hk => by
    rcases h.1.2 with h0 | ⟨b, o, e, hc⟩
    · omega
    · have := hc k hk
      rw [mkI_at k0 n k hk] at this
      exact ⟨b, o, e, this⟩
  clear h
  go_enter Try.func47, Try.ntmps47
  go_wp2
  go_loop [1, 5] (fun v i => ∃ k : Nat, k ≤ n ∧ i = .int .i64 k ∧ v = .int .i64 (k0 + k)) (fun _ i => n - (intOf i).toNat)
  case atStart => exact ⟨0, Nat.zero_le _, rfl, by simp⟩
  case round =>
    obtain ⟨k, hk, rfl, rfl⟩ := hrel
    by_cases hlt : k < n
    · obtain ⟨b, o, rfl, h1⟩ := HC.out k hlt
      go_wp2
      go_round
      case rel => exact ⟨k + 1, by omega, by go_num, by go_num⟩
      case measure => simp [intOf]; omega
    · obtain rfl : k = n := by omega
      go_wp2
      go_ret
      first | exact ⟨rfl, World.grownBy.refl _ _⟩ | exact World.grownBy.refl _ _

set_option maxHeartbeats 2000000 in
theorem heldBs (a : Option Addr) (n c : Nat) (k0 : Int) (w : World) (h : RdB w a n (mkB k0 n)) (hn : n ≤ 4194304) (hk0 : 0 ≤ k0) (hk1 : k0 ≤ 1073741824) :
    Calls Try.prog 69 #[.slice a n c, .int .i64 k0] w fun e u => e = .returned (.int .i64 (k0 + n)) ∧ w.grownBy u none := by
  have HC : Hid (∀ k, k < n → ∃ b o, a = some ⟨b, o, none⟩ ∧ w.cell? ⟨b, o + k, none⟩ = some (.int .u8 ((k0 + k) % 256))) := fun k hk => by
    rcases h.1.2 with h0 | ⟨b, o, e, hc⟩
    · omega
    · have := hc k hk
      rw [mkB_at k0 n k hk] at this
      exact ⟨b, o, e, this⟩
  clear h
  go_enter Try.func69, Try.ntmps69
  go_wp2
  go_loop [1, 5] (fun v i => ∃ k : Nat, k ≤ n ∧ i = .int .i64 k ∧ v = .int .i64 (k0 + k)) (fun _ i => n - (intOf i).toNat)
  case atStart => exact ⟨0, Nat.zero_le _, rfl, by simp⟩
  case round =>
    obtain ⟨k, hk, rfl, rfl⟩ := hrel
    by_cases hlt : k < n
    · obtain ⟨b, o, rfl, h1⟩ := HC.out k hlt
      have hw : IntKind.u8.wrap (k0 + k) = (k0 + k) % 256 := rfl
      go_wp2
      go_round
      case rel => exact ⟨k + 1, by omega, by go_num, by go_num⟩
      case measure => simp [intOf]; omega
    · obtain rfl : k = n := by omega
      go_wp2
      go_ret
      first | exact ⟨rfl, World.grownBy.refl _ _⟩ | exact World.grownBy.refl _ _

/-- Ints in a block of our own, place by place. -/
def IX (w : World) (B : Nat) (a : Option Addr) (l : Nat) (f : Nat → Int) : Prop :=
  l = 0 ∨ ∃ g o cur, a = some ⟨g, o, none⟩ ∧ B ≤ g ∧ w.heap[g]? = some (.cells cur 3 (0, 0)) ∧ ∀ i, i < l → cur[o + i]? = some (.int .i64 (f i))
def tgA (a : Option Addr) : Option Nat := a.map (·.block)

set_option maxHeartbeats 2000000 in
theorem markIs (a : Option Addr) (n c B : Nat) (zs : List Int) (k0 : Int) (w : World) (h : OwI0 w B a n zs) (hn : n ≤ 4194304) (hk0 : 0 ≤ k0) (hk1 : k0 ≤ 16777216) :
    Calls Try.prog 44 #[.slice a n c, .int .i64 k0] w fun e u => e = .returned (.int .i64 (k0 + n)) ∧ OwI0 u B a n (mkI k0 n) ∧ w.grownBy u (tgA a) := by
  have HR0 : Hid (IX w B a n (fun i => zs.getD i 0)) := h.2.2
  clear h
  go_enter Try.func44, Try.ntmps44
  go_wp2
  go_loopw [1, 5] (fun v i wr => ∃ k : Nat, k ≤ n ∧ i = .int .i64 k ∧ v = .int .i64 (k0 + k) ∧ Hid (IX wr B a n (fun i => if i < k then k0 + i else zs.getD i 0) ∧ w.grownBy wr (tgA a))) (fun _ i _ => n - (intOf i).toNat)
  case atStart => exact ⟨0, Nat.zero_le _, rfl, by simp, by simpa using HR0.out, World.grownBy.refl _ _⟩
  case round =>
    obtain ⟨k, hk, rfl, rfl, HL⟩ := hrel
    by_cases hlt : k < n
    · obtain ⟨g, o, cur, rfl, hbg, hcur, hc⟩ : ∃ g o cur, a = some ⟨g, o, none⟩ ∧ B ≤ g ∧ wr.heap[g]? = some (.cells cur 3 (0, 0)) ∧ ∀ i, i < n → cur[o + i]? = some (.int .i64 (if i < k then k0 + i else zs.getD i 0)) := by
        rcases HL.out.1 with h0 | h0
        · omega
        · exact h0
      have c0 : wr.cell? ⟨g, o + k, none⟩ = some (.int .i64 (zs.getD k 0)) := by
        rw [cell_of_row _ g _ cur 3 (0, 0) hcur]
        have := hc k hlt
        rw [if_neg (by omega)] at this
        exact this
      have f0 := frozen_of_row wr g (o + k) _ _ hcur
      have hos : o + k < cur.size := by have := hc k hlt; exact (Array.getElem?_eq_some_iff.1 this).1
      have FQ : Hid (IX (wr.setCell ⟨g, o + k, none⟩ (.int .i64 (k0 + k))) B (some ⟨g, o, none⟩) n (fun i => if i < k + 1 then k0 + i else zs.getD i 0) ∧ w.grownBy (wr.setCell ⟨g, o + k, none⟩ (.int .i64 (k0 + k))) (tgA (some ⟨g, o, none⟩))) := by
        refine ⟨.inr ⟨g, o, _, rfl, hbg, heap_setCell_same _ g (o + k) _ _ _ hcur, fun i hi => ?_⟩, grown_trans HL.out.2 (grown_setCell _ _ _ _)⟩
        rw [Array.getElem?_setIfInBounds]
        by_cases e : i = k
        · subst e; simp [hos]
        · rw [if_neg (by omega), hc i hi]
          show _ = some (Value.int .i64 (if i < k + 1 then k0 + i else zs.getD i 0))
          by_cases h2 : i < k
          · rw [if_pos h2, if_pos (by omega)]
          · rw [if_neg h2, if_neg (by omega)]
      clear hc hcur HL HR0 hos
      go_wp2
      go_roundw
      case rel => exact ⟨k + 1, by omega, by go_num, by go_num, FQ.out⟩
      case measure => simp [intOf]; omega
    · obtain rfl : k = n := by omega
      have FQ : Hid (OwI0 wr B a k (mkI k0 k)) := by
        refine ⟨mkI_len _ _, by omega, ?_⟩
        rcases HL.out.1 with h0 | ⟨g, o, cur, e, hb, hcu, hc⟩
        · exact .inl h0
        · refine .inr ⟨g, o, cur, e, hb, hcu, fun i hi => ?_⟩
          rw [mkI_at k0 k i hi, hc i hi]
          show some (Value.int .i64 (if i < k then k0 + i else zs.getD i 0)) = _
          rw [if_pos hi]
      go_wp2
      go_ret
      exact ⟨rfl, FQ.out, HL.out.2⟩

set_option maxHeartbeats 2000000 in
theorem markBs (a : Option Addr) (n c B : Nat) (zs : List Int) (k0 : Int) (w : World) (h : w.ownsRow B 5 1 (.slice a n c) n (vB zs)) (hn : n ≤ 4194304) (hk0 : 0 ≤ k0) (hk1 : k0 ≤ 1073741824) :
    Calls Try.prog 18 #[.slice a n c, .int .i64 k0] w fun e u => e = .returned (.int .i64 (k0 + n)) ∧ u.ownsRow B 5 1 (.slice a n c) n (vB (mkB k0 n)) ∧ w.grownBy u (Value.slice a n c).ownBlock := by
  have HR0 : Hid (w.ownsRow B 5 1 (.slice a n c) n (vB zs)) := h
  have hVl : zs.length = n := by have := h.1; rw [vB_len] at this; omega
  clear h
  go_enter Try.func18, Try.ntmps18
  go_wp2
  go_loopw [1, 5] (fun v i wr => ∃ k : Nat, k ≤ n ∧ i = .int .i64 k ∧ v = .int .i64 (k0 + k) ∧ Hid (wr.ownsRow B 5 1 (.slice a n c) n (vB (mkB k0 k) ++ vB (zs.drop k)) ∧ w.grownBy wr (Value.slice a n c).ownBlock)) (fun _ i _ => n - (intOf i).toNat)
  case atStart => exact ⟨0, Nat.zero_le _, rfl, by simp, by simpa [mkB, vB] using HR0.out, World.grownBy.refl _ _⟩
  case round =>
    obtain ⟨k, hk, rfl, rfl, HL⟩ := hrel
    by_cases hlt : k < n
    · have hml : (vB (mkB k0 k)).length = k := by rw [vB_len, mkB_len]
      have hD := List.drop_eq_getElem_cons (show k < zs.length by omega)
      obtain ⟨g, rfl, hbg, ⟨cur, hcur⟩, hcell⟩ : ∃ g, a = some ⟨g, 0, none⟩ ∧ B ≤ g ∧ (∃ cur, wr.heap[g]? = some (.cells cur 5 (0, 0))) ∧ ∀ j v, (vB (mkB k0 k) ++ vB (zs.drop k))[j]? = some v → (hideZ wr B).cell? ⟨g, j, none⟩ = some v := by
        rcases row_cell HL.out.1 with h0 | h0
        · omega
        · exact h0
      have c0 : wr.cell? ⟨g, k, none⟩ = some (.int .u8 (zs[k]'(by omega))) := CLe.unhidz _ _ (hcell _ _ (by rw [List.getElem?_append_right (by omega), hml, hD]; simp [vB]))
      have f0 := frozen_of_row wr g k _ _ hcur
      have s1 := HL.out.1.stored k (.int .u8 ((k0 + k) % 256))
      have hw : IntKind.u8.wrap (k0 + k) = (k0 + k) % 256 := rfl
      have FQ : Hid (_ ∧ w.grownBy (wr.setCell ⟨g, k, none⟩ (.int .u8 ((k0 + k) % 256))) (Value.slice (some ⟨g, 0, none⟩) n c).ownBlock) := And.intro s1.1 (grown_trans HL.out.2 s1.2)
      have HE : Hid ((vB (mkB k0 k) ++ vB (zs.drop k)).set k (.int .u8 ((k0 + k) % 256)) = vB (mkB k0 (k + 1)) ++ vB (zs.drop (k + 1))) := by
        show _ = _
        rw [List.set_append_right _ _ (by omega), hml, hD, mkB, Nat.sub_self]
        show vB (mkB k0 k) ++ (Value.int .u8 ((k0 + k) % 256) :: vB (zs.drop (k + 1))) = _
        simp only [vB, List.map_append, List.map_cons, List.map_nil, List.append_assoc, List.cons_append, List.nil_append]
      obtain ⟨z0, hz0⟩ : ∃ z0, wr.cell? ⟨g, k, none⟩ = some (.int .u8 z0) := ⟨_, c0⟩
      clear hcell hcur s1 HL HR0 hD hml c0
      go_wp2
      go_roundw
      case rel => exact ⟨k + 1, by omega, by go_num, by go_num, row_eq FQ.out.1 HE.out, FQ.out.2⟩
      case measure => simp [intOf]; omega
    · obtain rfl : k = n := by omega
      go_wp2
      go_ret
      exact ⟨rfl, row_eq HL.out.1 (by rw [List.drop_eq_nil_of_le (by omega)]; simp [vB]), HL.out.2⟩
end Go.Proofs.Ytccnninmkfhejaa.By
