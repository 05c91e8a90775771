/-
  Several texts in one (TLaw, GS, HMk, HHelp, Mk, EEq, GQ, Help, EC0). No statement is proved here.
-/
import Derived.Test.YtpdkgmagjhibkaaGreatDoorTEqAlso
import Derived.Test.YtpdkgmagjhibkaaGreatDoorRows
import Derived.Test.YtpdkgmagjhibkaaGreatDoorHBaseAlso
import Derived.WalkKit
import Derived.ProofKit
import Derived.WalkSpells
import Derived.RegionTactic
import Derived.Deep.QuietTactic
import Derived.BigQuiet
import Derived.Test.YtpdkgmagjhibkaaGreatDoorEBAlso
namespace Go.Proofs.YtpdkgmagjhibkaaGreatDoor.By
open Go.RowKit
set_option linter.unusedVariables false

/-- The law's size, as long as there is room. -/
theorem szTr (d : F) (k n : Int) (a : Option Addr) (l c : Nat) (L : Int) (w : World) (h : SlF w a l d) (h0 : 0 ≤ L) (h1 : L ≤ 1048576) :
    Calls Tryz.prog 68 #[.agg #[.int .i64 k, .int .i64 n, .slice a l c], .int .i64 L] w fun e u => e = .returned (.int .i64 (szV d L)) ∧ w.grownBy u none :=
  szT_of k n w h (fun w' hw => szS d.size d a l c L w' (Nat.le_refl _) (h.none hw) h0 h1)
theorem toTr (d : F) (k n : Int) (a : Option Addr) (l c : Nat) (w : World) (h : SlF w a l d) (hs : d.size ≤ 1048576) :
    Calls Tryz.prog 79 #[.agg #[.int .i64 k, .int .i64 n, .slice a l c]] w fun e u => ∃ a' c' bs, e = .returned (.agg #[.int .i64 k, .int .i64 n, .slice a' l c']) ∧ w.grownBy u none ∧ New w u 60 a' l c' d bs :=
  toT_of k n w h (fun w' hw => toS d.size d a l c w' (Nat.le_refl _) hs (h.none hw))
theorem eqTr (d : F) (k n : Int) (a a' : Option Addr) (l c c' : Nat) (w : World) (h : SlF w a l d) (h' : SlF w a' l d) :
    Calls Tryz.prog 83 #[.agg #[.int .i64 k, .int .i64 n, .slice a l c], .agg #[.int .i64 k, .int .i64 n, .slice a' l c']] w fun e u => e = .returned (.bool true) ∧ w.grownBy u none :=
  eqT_of k n w (fun w' hw => eqS d.size d a a' l c c' w' (Nat.le_refl _) (h.none hw) (h'.none hw))
end Go.Proofs.YtpdkgmagjhibkaaGreatDoor.By

namespace Go.Proofs.YtpdkgmagjhibkaaGreatDoor.By
open Go.RowKit
set_option linter.unusedVariables false
set_option linter.unusedSimpArgs false

def SzW (L : Int) (t : Nat) (e : Ending) : Prop := ∃ r, e = .returned (.int .i64 r) ∧ (r = -1 ∨ (0 ≤ r ∧ r + t ≤ L))

set_option maxHeartbeats 400000 in
theorem szByW (a : Option Addr) (n c : Nat) (zs : List Int) (L : Int) (w : World) (h : RdB w a n zs) (h0 : 0 ≤ L) (h1 : L ≤ 1048576) :
    Calls Tryz.prog 124 #[.slice a n c, .int .i64 L] w fun e u => SzW L zs.length e ∧ w.grownBy u none := by
  have hn := h.2.2
  have hl := h.1.1
  clear h
  by_cases hneg : L - (n : Int) < 0
  · go_enter Tryz.func124, Tryz.ntmps124
    go_wp2
    go_ret
    exact ⟨⟨-1, rfl, .inl rfl⟩, World.grownBy.refl _ _⟩
  · go_enter Tryz.func124, Tryz.ntmps124
    go_wp2
    go_ret
    exact ⟨⟨_, rfl, .inr ⟨by omega, by omega⟩⟩, World.grownBy.refl _ _⟩

set_option maxHeartbeats 400000 in
theorem szInW (a : Option Addr) (n c : Nat) (zs : List Int) (L : Int) (w : World) (h : RdI w a n zs) (h0 : 0 ≤ L) (h1 : L ≤ 1048576) :
    Calls Tryz.prog 24 #[.slice a n c, .int .i64 L] w fun e u => SzW L zs.length e ∧ w.grownBy u none := by
  have hn := h.2
  have hl := h.1.1
  clear h
  by_cases hneg : L - (n : Int) < 0
  · go_enter Tryz.func24, Tryz.ntmps24
    go_wp2
    go_ret
    exact ⟨⟨-1, rfl, .inl rfl⟩, World.grownBy.refl _ _⟩
  · go_enter Tryz.func24, Tryz.ntmps24
    go_wp2
    go_ret
    exact ⟨⟨_, rfl, .inr ⟨by omega, by omega⟩⟩, World.grownBy.refl _ _⟩

theorem szTrW (d : F) (k n : Int) (a : Option Addr) (l c : Nat) (L : Int) (w : World) (h : SlF w a l d) (h0 : 0 ≤ L) (h1 : L ≤ 1048576) :
    Calls Tryz.prog 68 #[.agg #[.int .i64 k, .int .i64 n, .slice a l c], .int .i64 L] w fun e u => SzW L d.size e ∧ w.grownBy u none := by
  refine (szTr d k n a l c L w h h0 h1).mono ?_
  rintro e u ⟨he, hg⟩
  refine ⟨⟨_, he, ?_⟩, hg⟩
  unfold szV
  split
  · exact .inr ⟨by omega, by omega⟩
  · exact .inl rfl
end Go.Proofs.YtpdkgmagjhibkaaGreatDoor.By

namespace Go.Proofs.YtpdkgmagjhibkaaGreatDoor.By
open Go.RowKit
set_option linter.unusedVariables false

theorem infoI : (Tryz.prog.info? 3).map (fun i => (i.zero, i.size, i.bytes)) = some (some (.int .i64 0), 1, 8) := by kernel_rfl

/-- 'make([]int, n)'. -/
theorem makeI (n : Nat) (hn : n ≤ 4194304) (w : World) : (Instr.makeSlice 24 (.int .i64 (n : Int)) (.int .i64 (n : Int))).run Tryz.prog w = .ok (.slice (some ⟨w.heap.size, 0, none⟩) n n) (w.alloc (.cells (madeCells #[.int .i64 0] n) 3)) := by
  obtain ⟨i0, hi, hz0, hz1, hz2⟩ := info_parts infoI
  have h := run_make (P := Tryz.prog) (w := w) 24 3 i0 (.int .i64 0) Tryz.underlying24 hi hz0 .i64 .i64 (n : Int) (n : Int) (by omega) (by omega) (by rw [hz2]; omega) (by omega)
  rw [hz1] at h
  simpa [Value.cells] using h
theorem makeI0 (w : World) : (Instr.makeSlice 24 (.int .i64 0) (.int .i64 0)).run Tryz.prog w = .ok (.slice (some ⟨w.heap.size, 0, none⟩) 0 0) (w.alloc (.cells (madeCells #[.int .i64 0] 0) 3)) := makeI 0 (by omega) w

theorem madeI_row (w : World) (n : Nat) : RowI (w.alloc (.cells (madeCells #[.int .i64 0] n) 3)) 3 w.heap.size n (List.replicate n 0) := by
  refine ⟨_, heap_alloc_new w _, ?_, ?_, by simp⟩
  · have := congrArg List.length (toList_madeCells_one (.int .i64 0) n); simpa using this
  · rw [toList_madeCells_one]; simp [valsI]

end Go.Proofs.YtpdkgmagjhibkaaGreatDoor.By

namespace Go.Proofs.YtpdkgmagjhibkaaGreatDoor.By
open Go.RowKit
set_option linter.unusedVariables false

set_option maxHeartbeats 1000000 in
theorem toI0 (a : Option Addr) (n cap : Nat) (zs : List Int) (w : World) (h : ReadsI w a n zs) (hn : n ≤ 1048576) :
    Calls Tryz.prog 29 #[.slice a n cap] w fun e w' => e = .returned (.slice (some ⟨w.heap.size, 0, none⟩) n n) ∧ w.grownBy w' none ∧ w'.heap.size = w.heap.size + 1 ∧ RowI w' 3 w.heap.size n zs := by
  obtain ⟨hl, h⟩ := h
  have hmk := makeI n (by omega)
  have hr0 := madeI_row w n
  rcases h with h0 | ⟨b, off, rfl, hc⟩
  · subst h0
    obtain rfl : zs = [] := List.eq_nil_of_length_eq_zero hl
    clear hmk
    have hmk := makeI0
    go_enter Tryz.func29, Tryz.ntmps29
    go_wp2
    refine wp_loop_rounds 1 ?_
    rw [rounds_succ]
    go_wp2
    go_ret
    exact ⟨rfl, World.grownBy_alloc _ _ _, by simp, hr0⟩
  · go_enter Tryz.func29, Tryz.ntmps29
    go_wp2
    go_loopw [4] (fun i wr => ∃ k : Nat, k ≤ n ∧ i = .int .i64 k ∧ w.grownBy wr none ∧ wr.heap.size = w.heap.size + 1 ∧ RowI wr 3 w.heap.size n (zs.take k ++ List.replicate (n - k) 0)) (fun i _ => n - (intOf i).toNat)
    case atStart => exact ⟨0, Nat.zero_le _, rfl, World.grownBy_alloc _ _ _, by simp, by simpa using hr0⟩
    case round =>
      obtain ⟨k, hk, rfl, hg, hs, hrow⟩ := hrel
      by_cases hlt : k < n
      · have hcb := hg.cell (hc k hlt) (by simp)
        have hlen : (zs.take k ++ List.replicate (n - k) 0).length = n := by simp; omega
        have hco := hrow.cell k (by omega)
        have hfr := hrow.free k
        have hst := hrow.store k (zs.getD k 0)
        have hrow' : RowI (wr.setCell ⟨w.heap.size, k, none⟩ (.int .i64 (zs.getD k 0))) 3 w.heap.size n (zs.take (k + 1) ++ List.replicate (n - (k + 1)) 0) := by
          have e : (zs.take k ++ List.replicate (n - k) 0).set k (zs.getD k 0) = zs.take (k + 1) ++ List.replicate (n - (k + 1)) 0 := set_step zs n k hl hlt
          rw [← e]; exact hst
        have HR : Hid (RowI (wr.setCell ⟨w.heap.size, k, none⟩ (.int .i64 (zs.getD k 0))) 3 w.heap.size n (zs.take (k + 1) ++ List.replicate (n - (k + 1)) 0)) := hrow'
        have HG : Hid (w.grownBy (wr.setCell ⟨w.heap.size, k, none⟩ (.int .i64 (zs.getD k 0))) none) := grown_own hg _ (Nat.le_refl _) _ _
        clear hst hrow' hmk hr0 hrow hlen
        have hkz : k < zs.length := by omega
        go_wp2
        go_roundw
        case rel => exact ⟨k + 1, by omega, by go_num, by simpa [hkz] using HG.out, by simpa [World.setCell] using hs, by simpa [hkz] using HR.out⟩
        case measure => simp [intOf]; omega
      · obtain rfl : k = n := by omega
        clear hmk hr0
        go_wp2
        go_ret
        exact ⟨rfl, hg, hs, by simpa [List.take_of_length_le (Nat.le_of_eq hl)] using hrow⟩

theorem toI (a : Option Addr) (n cap : Nat) (zs : List Int) (w : World) (h : ReadsI w a n zs) (hn : n ≤ 1048576) :
    Calls Tryz.prog 29 #[.slice a n cap] w fun e w' => ∃ g, e = .returned (.slice (some ⟨g, 0, none⟩) n n) ∧ w.grownBy w' none ∧ w.heap.size ≤ g ∧ RowI w' 3 g n zs :=
  (toI0 a n cap zs w h hn).mono fun e w' ⟨he, hg, _, hr⟩ => ⟨_, he, hg, Nat.le_refl _, hr⟩

set_option maxHeartbeats 1000000 in
theorem eqI (a a' : Option Addr) (n cap cap' : Nat) (zs : List Int) (w : World) (h : ReadsI w a n zs) (h' : ReadsI w a' n zs) (hn : n ≤ 4194304) :
    Calls Tryz.prog 19 #[.slice a n cap, .slice a' n cap'] w fun e w' => e = .returned (.bool true) ∧ ∃ m, w' = w.drewN m := by
  obtain ⟨hl, h⟩ := h
  obtain ⟨-, h'⟩ := h'
  by_cases h0 : n = 0
  · subst h0
    clear h h'
    go_enter Tryz.func19, Tryz.ntmps19
    go_wp2
    refine wp_loop_rounds 1 ?_
    rw [rounds_succ]
    go_wp2
    go_ret
    exact ⟨rfl, 0, rfl⟩
  · rcases h with h | ⟨b, off, rfl, hc⟩
    · exact absurd h h0
    rcases h' with h' | ⟨b', off', rfl, hc'⟩
    · exact absurd h' h0
    go_enter Tryz.func19, Tryz.ntmps19
    go_wp2
    go_loopw [5] (fun i wr => ∃ k m : Nat, k ≤ n ∧ i = .int .i64 k ∧ wr = w.drewN m) (fun i _ => n - (intOf i).toNat)
    case atStart => exact ⟨0, 0, Nat.zero_le _, rfl, rfl⟩
    case round =>
      obtain ⟨k, m, hk, rfl, rfl⟩ := hrel
      by_cases hlt : k < n
      · have c1 := hc k hlt
        have c2 := hc' k hlt
        have hki : (k : Int) < (n : Int) := by omega
        go_wp2
        go_quiet (fail)
        go_wp2
        go_roundw
        case rel => exact ⟨k + 1, _, by omega, by go_num, rfl⟩
        case measure => simp [intOf]; omega
      · go_wp2
        go_ret
        exact ⟨rfl, m, rfl⟩

set_option maxHeartbeats 1000000 in
theorem markI (g n cap : Nat) (a : Option Addr) (zs : List Int) (k0 : Int) (w : World) (h : OwnI w 3 g a n zs) (hn : n ≤ 4194304) (hk0 : 0 ≤ k0) (hk1 : k0 ≤ 16777216) :
    Calls Tryz.prog 20 #[.slice a n cap, .int .i64 k0] w fun e w' => e = .returned (.int .i64 (k0 + n)) ∧ w.grownBy w' (tgt n g) ∧ OwnI w' 3 g a n (marksI k0 n) := by
  obtain ⟨hl, h⟩ := h
  by_cases h0 : n = 0
  · subst h0
    clear h
    go_enter Tryz.func20, Tryz.ntmps20
    go_wp2
    refine wp_loop_rounds 1 ?_
    rw [rounds_succ]
    go_wp2
    go_ret
    exact ⟨by simp, World.grownBy.refl _ _, OwnI.empty _ _ _ _⟩
  rcases h with h | ⟨off, rfl, h⟩
  · exact absurd h h0
  have et : tgt n g = some g := if_neg h0
  rw [et]
  clear et
  go_enter Tryz.func20, Tryz.ntmps20
  go_wp2
  go_loopw [1, 5] (fun v i wr => ∃ k : Nat, k ≤ n ∧ i = .int .i64 k ∧ v = .int .i64 (k0 + k) ∧ w.grownBy wr (some g) ∧ RowAt wr 3 g off (halfI zs k0 k)) (fun _ i _ => n - (intOf i).toNat)
  case atStart => exact ⟨0, Nat.zero_le _, rfl, by simp, World.grownBy.refl _ _, by rw [halfI_zero]; exact h⟩
  case round =>
    obtain ⟨k, hk, rfl, rfl, hg, hrow⟩ := hrel
    by_cases hlt : k < n
    · have hco := hrow.cell k (by rw [halfI_len _ _ _ (by omega)]; omega)
      have hfr := hrow.free (off + k)
      have hst := hrow.store k (k0 + k)
      rw [halfI_step _ _ _ (by omega)] at hst
      have HR : Hid (RowAt (wr.setCell ⟨g, off + k, none⟩ (.int .i64 (k0 + k))) 3 g off (halfI zs k0 (k + 1))) := hst
      have HG : Hid (w.grownBy (wr.setCell ⟨g, off + k, none⟩ (.int .i64 (k0 + k))) (some g)) := grown_trans hg (grown_setCell _ _ _ _)
      obtain ⟨old, hold⟩ : ∃ x, wr.cell? ⟨g, off + k, none⟩ = some (.int .i64 x) := ⟨_, hco⟩
      clear hst hrow hco h
      go_wp2
      go_roundw
      case rel => exact ⟨k + 1, by omega, by go_num, by go_num, HG.out, HR.out⟩
      case measure => simp [intOf]; omega
    · obtain rfl : k = n := by omega
      go_wp2
      go_ret
      refine ⟨rfl, hg, marksI_len _ _, .inr ⟨off, rfl, ?_⟩⟩
      rw [← hl] at hrow ⊢
      rw [halfI_all] at hrow
      exact hrow

set_option maxHeartbeats 1000000 in
theorem heldI (a : Option Addr) (n cap : Nat) (k0 : Int) (w : World) (h : ReadsI w a n (marksI k0 n)) (hn : n ≤ 4194304) (hk0 : 0 ≤ k0) (hk1 : k0 ≤ 16777216) :
    Calls Tryz.prog 21 #[.slice a n cap, .int .i64 k0] w fun e w' => e = .returned (.int .i64 (k0 + n)) ∧ ∃ m, w' = w.drewN m := by
  obtain ⟨hl, h⟩ := h
  by_cases h0 : n = 0
  · subst h0
    clear h
    go_enter Tryz.func21, Tryz.ntmps21
    go_wp2
    refine wp_loop_rounds 1 ?_
    rw [rounds_succ]
    go_wp2
    go_ret
    exact ⟨by simp, 0, rfl⟩
  · rcases h with h | ⟨b, off, rfl, hc⟩
    · exact absurd h h0
    go_enter Tryz.func21, Tryz.ntmps21
    go_wp2
    go_loopw [1, 5] (fun v i wr => ∃ k m : Nat, k ≤ n ∧ i = .int .i64 k ∧ v = .int .i64 (k0 + k) ∧ wr = w.drewN m) (fun _ i _ => n - (intOf i).toNat)
    case atStart => exact ⟨0, 0, Nat.zero_le _, rfl, by simp, rfl⟩
    case round =>
      obtain ⟨k, m, hk, rfl, rfl, rfl⟩ := hrel
      by_cases hlt : k < n
      · have c1 : w.cell? ⟨b, off + k, none⟩ = some (.int .i64 (k0 + (k : Int))) := by
          have := hc k hlt
          rw [marksI_get k0 n k hlt] at this; exact this
        clear hc hl
        go_wp2
        go_roundw
        case rel => exact ⟨k + 1, _, by omega, by go_num, by go_num, rfl⟩
        case measure => simp [intOf]; omega
      · obtain rfl : k = n := by omega
        go_wp2
        go_ret
        exact ⟨rfl, m, rfl⟩
end Go.Proofs.YtpdkgmagjhibkaaGreatDoor.By

namespace Go.Proofs.YtpdkgmagjhibkaaGreatDoor.By
open Go.RowKit
set_option linter.unusedVariables false

theorem info5 : (Tryz.prog.info? 5).map (fun i => (i.zero, i.size, i.bytes)) = some (some (.int .u8 0), 1, 1) := by kernel_rfl

/-- 'make([]byte, n)'. -/
theorem make_run (n : Nat) (hn : n ≤ 4194304) (w : World) : (Instr.makeSlice 36 (.int .i64 (n : Int)) (.int .i64 (n : Int))).run Tryz.prog w = .ok (.slice (some ⟨w.heap.size, 0, none⟩) n n) (w.alloc (.cells (madeCells #[.int .u8 0] n) 5)) := by
  obtain ⟨i0, hi, hz0, hz1, hz2⟩ := info_parts info5
  have h := run_make (P := Tryz.prog) (w := w) 36 5 i0 (.int .u8 0) Tryz.underlying36 hi hz0 .i64 .i64 (n : Int) (n : Int) (by omega) (by omega) (by rw [hz2]; omega) (by omega)
  rw [hz1] at h
  simpa [Value.cells] using h

theorem make_run0 (w : World) : (Instr.makeSlice 36 (.int .i64 0) (.int .i64 0)).run Tryz.prog w = .ok (.slice (some ⟨w.heap.size, 0, none⟩) 0 0) (w.alloc (.cells (madeCells #[.int .u8 0] 0) 5)) := make_run 0 (by omega) w
end Go.Proofs.YtpdkgmagjhibkaaGreatDoor.By

namespace Go.Proofs.YtpdkgmagjhibkaaGreatDoor.By
open Go.RowKit
set_option linter.unusedVariables false
set_option linter.unusedSimpArgs false

set_option maxHeartbeats 1000000 in
theorem eqBy0 (a a' : Option Addr) (n cap cap' : Nat) (zs : List Int) (w : World) (h : Reads w a n zs) (h' : Reads w a' n zs) (hn : n ≤ 4194304) :
    Calls Tryz.prog 13 #[.slice a n cap, .slice a' n cap'] w fun e w' => e = .returned (.bool true) ∧ ∃ m, w' = w.drewN m := by
  obtain ⟨hl, h⟩ := h
  obtain ⟨-, h'⟩ := h'
  by_cases h0 : n = 0
  · subst h0
    clear h h'
    go_enter Tryz.func13, Tryz.ntmps13
    go_wp2
    refine wp_loop_rounds 1 ?_
    rw [rounds_succ]
    go_wp2
    go_ret
    exact ⟨rfl, 0, rfl⟩
  · rcases h with h | ⟨b, off, rfl, hc⟩
    · exact absurd h h0
    rcases h' with h' | ⟨b', off', rfl, hc'⟩
    · exact absurd h' h0
    go_enter Tryz.func13, Tryz.ntmps13
    go_wp2
    go_loopw [5] (fun i wr => ∃ k m : Nat, k ≤ n ∧ i = .int .i64 k ∧ wr = w.drewN m) (fun i _ => n - (intOf i).toNat)
    case atStart => exact ⟨0, 0, Nat.zero_le _, rfl, rfl⟩
    case round =>
      obtain ⟨k, m, hk, rfl, rfl⟩ := hrel
      by_cases hlt : k < n
      · have c1 := hc k hlt
        have c2 := hc' k hlt
        have hki : (k : Int) < (n : Int) := by omega
        go_wp2
        go_quiet (fail)
        go_wp2
        go_roundw
        case rel => exact ⟨k + 1, _, by omega, by go_num, rfl⟩
        case measure => simp [intOf]; omega
      · go_wp2
        go_ret
        exact ⟨rfl, m, rfl⟩

theorem eqBy (a a' : Option Addr) (n cap cap' : Nat) (zs : List Int) (w : World) (h : Reads w a n zs) (h' : Reads w a' n zs) (hn : n ≤ 4194304) :
    Calls Tryz.prog 13 #[.slice a n cap, .slice a' n cap'] w fun e u => e = .returned (.bool true) ∧ w.grownBy u none := by
  refine (eqBy0 a a' n cap cap' zs w h h' hn).mono ?_
  rintro e u ⟨he, hm⟩
  exact ⟨he, quiet hm⟩
end Go.Proofs.YtpdkgmagjhibkaaGreatDoor.By

namespace Go.Proofs.YtpdkgmagjhibkaaGreatDoor.By
open Go.RowKit
set_option linter.unusedVariables false
set_option linter.unusedSimpArgs false

set_option maxHeartbeats 1000000 in
theorem eqIn0 (a a' : Option Addr) (n cap cap' : Nat) (zs : List Int) (w : World) (h : ReadsI w a n zs) (h' : ReadsI w a' n zs) (hn : n ≤ 4194304) :
    Calls Tryz.prog 19 #[.slice a n cap, .slice a' n cap'] w fun e w' => e = .returned (.bool true) ∧ ∃ m, w' = w.drewN m := by
  obtain ⟨hl, h⟩ := h
  obtain ⟨-, h'⟩ := h'
  by_cases h0 : n = 0
  · subst h0
    clear h h'
    go_enter Tryz.func19, Tryz.ntmps19
    go_wp2
    refine wp_loop_rounds 1 ?_
    rw [rounds_succ]
    go_wp2
    go_ret
    exact ⟨rfl, 0, rfl⟩
  · rcases h with h | ⟨b, off, rfl, hc⟩
    · exact absurd h h0
    rcases h' with h' | ⟨b', off', rfl, hc'⟩
    · exact absurd h' h0
    go_enter Tryz.func19, Tryz.ntmps19
    go_wp2
    go_loopw [5] (fun i wr => ∃ k m : Nat, k ≤ n ∧ i = .int .i64 k ∧ wr = w.drewN m) (fun i _ => n - (intOf i).toNat)
    case atStart => exact ⟨0, 0, Nat.zero_le _, rfl, rfl⟩
    case round =>
      obtain ⟨k, m, hk, rfl, rfl⟩ := hrel
      by_cases hlt : k < n
      · have c1 := hc k hlt
        have c2 := hc' k hlt
        have hki : (k : Int) < (n : Int) := by omega
        go_wp2
        go_quiet (fail)
        go_wp2
        go_roundw
        case rel => exact ⟨k + 1, _, by omega, by go_num, rfl⟩
        case measure => simp [intOf]; omega
      · go_wp2
        go_ret
        exact ⟨rfl, m, rfl⟩

theorem eqIn (a a' : Option Addr) (n cap cap' : Nat) (zs : List Int) (w : World) (h : RdI w a n zs) (h' : RdI w a' n zs) (hn : n ≤ 4194304) :
    Calls Tryz.prog 19 #[.slice a n cap, .slice a' n cap'] w fun e u => e = .returned (.bool true) ∧ w.grownBy u none := by
  refine (eqIn0 a a' n cap cap' zs w h.1 h'.1 hn).mono ?_
  rintro e u ⟨he, hm⟩
  exact ⟨he, quiet hm⟩
end Go.Proofs.YtpdkgmagjhibkaaGreatDoor.By

namespace Go.Proofs.YtpdkgmagjhibkaaGreatDoor.By
open Go.RowKit
set_option linter.unusedVariables false

set_option maxHeartbeats 1000000 in
theorem toB0 (a : Option Addr) (n cap : Nat) (zs : List Int) (w : World) (h : Reads w a n zs) (hn : n ≤ 1048576) :
    Calls Tryz.prog 125 #[.slice a n cap] w fun e w' => e = .returned (.slice (some ⟨w.heap.size, 0, none⟩) n n) ∧ w.grownBy w' none ∧ w'.heap.size = w.heap.size + 1 ∧ Row w' w.heap.size n zs := by
  obtain ⟨hl, h⟩ := h
  have hmk := make_run n (by omega)
  have hr0 := made_row w n
  rcases h with h0 | ⟨b, off, rfl, hc⟩
  · subst h0
    obtain rfl : zs = [] := List.eq_nil_of_length_eq_zero hl
    clear hmk
    have hmk := make_run0
    go_enter Tryz.func125, Tryz.ntmps125
    go_wp2
    refine wp_loop_rounds 1 ?_
    rw [rounds_succ]
    go_wp2
    go_ret
    exact ⟨rfl, World.grownBy_alloc _ _ _, by simp, hr0⟩
  · go_enter Tryz.func125, Tryz.ntmps125
    go_wp2
    go_loopw [4] (fun i wr => ∃ k : Nat, k ≤ n ∧ i = .int .i64 k ∧ w.grownBy wr none ∧ wr.heap.size = w.heap.size + 1 ∧ Row wr w.heap.size n (zs.take k ++ List.replicate (n - k) 0)) (fun i _ => n - (intOf i).toNat)
    case atStart => exact ⟨0, Nat.zero_le _, rfl, World.grownBy_alloc _ _ _, by simp, by simpa using hr0⟩
    case round =>
      obtain ⟨k, hk, rfl, hg, hs, hrow⟩ := hrel
      have hlt0 : k < n → w.cell? ⟨b, off + k, none⟩ = some (.int .u8 (zs.getD k 0)) := hc k
      by_cases hlt : k < n
      · have hcb := hg.cell (hc k hlt) (by simp)
        have hlen : (zs.take k ++ List.replicate (n - k) 0).length = n := by simp; omega
        have hco := hrow.cell k (by omega)
        have hfr := hrow.free k
        have hst := hrow.store k (zs.getD k 0)
        have hrow' : Row (wr.setCell ⟨w.heap.size, k, none⟩ (.int .u8 (zs.getD k 0))) w.heap.size n (zs.take (k + 1) ++ List.replicate (n - (k + 1)) 0) := by
          have e : (zs.take k ++ List.replicate (n - k) 0).set k (zs.getD k 0) = zs.take (k + 1) ++ List.replicate (n - (k + 1)) 0 := set_step zs n k hl hlt
          rw [← e]; exact hst
        have HR : Hid (Row (wr.setCell ⟨w.heap.size, k, none⟩ (.int .u8 (zs.getD k 0))) w.heap.size n (zs.take (k + 1) ++ List.replicate (n - (k + 1)) 0)) := hrow'
        have HG : Hid (w.grownBy (wr.setCell ⟨w.heap.size, k, none⟩ (.int .u8 (zs.getD k 0))) none) := grown_own hg _ (Nat.le_refl _) _ _
        clear hst hrow' hmk hr0 hrow hlen
        have hkz : k < zs.length := by omega
        go_wp2
        go_roundw
        case rel => exact ⟨k + 1, by omega, by go_num, by simpa [hkz] using HG.out, by simpa [World.setCell] using hs, by simpa [hkz] using HR.out⟩
        case measure => simp [intOf]; omega
      · obtain rfl : k = n := by omega
        clear hmk hr0
        go_wp2
        go_ret
        exact ⟨rfl, hg, hs, by simpa [List.take_of_length_le (Nat.le_of_eq hl)] using hrow⟩

theorem toB (a : Option Addr) (n cap : Nat) (zs : List Int) (w : World) (h : Reads w a n zs) (hn : n ≤ 1048576) :
    Calls Tryz.prog 125 #[.slice a n cap] w fun e w' => ∃ g, e = .returned (.slice (some ⟨g, 0, none⟩) n n) ∧ w.grownBy w' none ∧ w.heap.size ≤ g ∧ Row w' g n zs :=
  (toB0 a n cap zs w h hn).mono fun e w' ⟨he, hg, _, hr⟩ => ⟨_, he, hg, Nat.le_refl _, hr⟩

set_option maxHeartbeats 1000000 in
theorem eqT (a a' : Option Addr) (n cap cap' : Nat) (zs : List Int) (w : World) (h : Reads w a n zs) (h' : Reads w a' n zs) (hn : n ≤ 4194304) :
    Calls Tryz.prog 13 #[.slice a n cap, .slice a' n cap'] w fun e w' => e = .returned (.bool true) ∧ ∃ m, w' = w.drewN m := by
  obtain ⟨hl, h⟩ := h
  obtain ⟨-, h'⟩ := h'
  by_cases h0 : n = 0
  · subst h0
    clear h h'
    go_enter Tryz.func13, Tryz.ntmps13
    go_wp2
    refine wp_loop_rounds 1 ?_
    rw [rounds_succ]
    go_wp2
    go_ret
    exact ⟨rfl, 0, rfl⟩
  · rcases h with h | ⟨b, off, rfl, hc⟩
    · exact absurd h h0
    rcases h' with h' | ⟨b', off', rfl, hc'⟩
    · exact absurd h' h0
    go_enter Tryz.func13, Tryz.ntmps13
    go_wp2
    go_loopw [5] (fun i wr => ∃ k m : Nat, k ≤ n ∧ i = .int .i64 k ∧ wr = w.drewN m) (fun i _ => n - (intOf i).toNat)
    case atStart => exact ⟨0, 0, Nat.zero_le _, rfl, rfl⟩
    case round =>
      obtain ⟨k, m, hk, rfl, rfl⟩ := hrel
      by_cases hlt : k < n
      · have c1 := hc k hlt
        have c2 := hc' k hlt
        have hki : (k : Int) < (n : Int) := by omega
        go_wp2
        go_quiet (fail)
        go_wp2
        go_roundw
        case rel => exact ⟨k + 1, _, by omega, by go_num, rfl⟩
        case measure => simp [intOf]; omega
      · go_wp2
        go_ret
        exact ⟨rfl, m, rfl⟩

set_option maxHeartbeats 1000000 in
theorem markT (g n cap : Nat) (zs : List Int) (k0 : Int) (w : World) (h : Row w g cap zs) (hl : zs.length = n) (hn : n ≤ 4194304) (hk0 : 0 ≤ k0) (hk1 : k0 ≤ 4194304) :
    Calls Tryz.prog 15 #[.slice (some ⟨g, 0, none⟩) n cap, .int .i64 k0] w fun e w' => e = .returned (.int .i64 (k0 + n)) ∧ w.grownBy w' (some g) ∧ w'.heap.size = w.heap.size ∧ Row w' g cap (marks k0 n) := by
  go_enter Tryz.func15, Tryz.ntmps15
  go_wp2
  go_loopw [1, 5] (fun v i wr => ∃ k : Nat, k ≤ n ∧ i = .int .i64 k ∧ v = .int .i64 (k0 + k) ∧ w.grownBy wr (some g) ∧ wr.heap.size = w.heap.size ∧ Row wr g cap (half zs k0 k)) (fun _ i _ => n - (intOf i).toNat)
  case atStart => exact ⟨0, Nat.zero_le _, rfl, by simp, World.grownBy.refl _ _, rfl, by rw [half_zero]; exact h⟩
  case round =>
    obtain ⟨k, hk, rfl, rfl, hg, hs, hrow⟩ := hrel
    by_cases hlt : k < n
    · have hco := hrow.cell k (by rw [half_len _ _ _ (by omega)]; omega)
      have hfr := hrow.free k
      have hst := hrow.store k ((k0 + k) % 256)
      rw [half_step _ _ _ (by omega)] at hst
      have HR : Hid (Row (wr.setCell ⟨g, k, none⟩ (.int .u8 ((k0 + k) % 256))) g cap (half zs k0 (k + 1))) := hst
      have HG : Hid (w.grownBy (wr.setCell ⟨g, k, none⟩ (.int .u8 ((k0 + k) % 256))) (some g)) := grown_trans hg (grown_setCell _ _ _ _)
      obtain ⟨old, hold⟩ : ∃ x, wr.cell? ⟨g, k, none⟩ = some (.int .u8 x) := ⟨_, hco⟩
      clear hst hrow hco h
      go_wp2
      go_roundw
      case rel => exact ⟨k + 1, by omega, by go_num, by go_num, HG.out, by simpa [World.setCell] using hs, HR.out⟩
      case measure => simp [intOf]; omega
    · obtain rfl : k = n := by omega
      go_wp2
      go_ret
      refine ⟨rfl, hg, hs, ?_⟩
      rw [← hl] at hrow ⊢
      rw [half_all] at hrow
      exact hrow

set_option maxHeartbeats 1000000 in
theorem heldT (a : Option Addr) (n cap : Nat) (k0 : Int) (w : World) (h : Reads w a n (marks k0 n)) (hn : n ≤ 4194304) (hk0 : 0 ≤ k0) (hk1 : k0 ≤ 4194304) :
    Calls Tryz.prog 16 #[.slice a n cap, .int .i64 k0] w fun e w' => e = .returned (.int .i64 (k0 + n)) ∧ ∃ m, w' = w.drewN m := by
  obtain ⟨hl, h⟩ := h
  by_cases h0 : n = 0
  · subst h0
    clear h
    go_enter Tryz.func16, Tryz.ntmps16
    go_wp2
    refine wp_loop_rounds 1 ?_
    rw [rounds_succ]
    go_wp2
    go_ret
    exact ⟨by simp, 0, rfl⟩
  · rcases h with h | ⟨b, off, rfl, hc⟩
    · exact absurd h h0
    go_enter Tryz.func16, Tryz.ntmps16
    go_wp2
    go_loopw [1, 5] (fun v i wr => ∃ k m : Nat, k ≤ n ∧ i = .int .i64 k ∧ v = .int .i64 (k0 + k) ∧ wr = w.drewN m) (fun _ i _ => n - (intOf i).toNat)
    case atStart => exact ⟨0, 0, Nat.zero_le _, rfl, by simp, rfl⟩
    case round =>
      obtain ⟨k, m, hk, rfl, rfl, rfl⟩ := hrel
      by_cases hlt : k < n
      · have c1 : w.cell? ⟨b, off + k, none⟩ = some (.int .u8 ((k0 + (k : Int)) % 256)) := by
          have := hc k hlt
          rw [List.getD_eq_getElem?_getD, marks_get k0 n k hlt] at this; exact this
        clear hc hl
        go_wp2
        go_roundw
        case rel => exact ⟨k + 1, _, by omega, by go_num, by go_num, rfl⟩
        case measure => simp [intOf]; omega
      · obtain rfl : k = n := by omega
        go_wp2
        go_ret
        exact ⟨rfl, m, rfl⟩
end Go.Proofs.YtpdkgmagjhibkaaGreatDoor.By

namespace Go.Proofs.YtpdkgmagjhibkaaGreatDoor.By
open Go.RowKit
set_option linter.unusedVariables false
set_option linter.unusedSimpArgs false

theorem cell_any {w u : World} {p : Addr} (e : u.heap[p.block]? = w.heap[p.block]?) : u.cell? p = w.cell? p := by
  unfold World.cell?; rw [e]
theorem CLe.hide {u u' : World} {lo lo' : Nat} (hl : lo' ≤ lo) (h : ∀ i, lo ≤ i → i < u.heap.size → u'.heap[i]? = u.heap[i]?) : CLe (hideW u lo) (hideW u' lo') := by
  intro p v hv
  by_cases hp : p.block < lo
  · obtain ⟨b, off, s⟩ := p
    have e : (hideW u lo).heap[b]? = none ∨ (hideW u lo).heap[b]? = some (.map #[] 0) := by
      unfold hideW
      rw [Array.getElem?_mapIdx]
      simp only [if_pos hp]
      cases u.heap[b]? with
      | none => exact .inl rfl
      | some o => exact .inr rfl
    rcases e with e | e <;> simp [World.cell?, e] at hv
  · have e1 := hideW_heap (w := u) (lo := lo) (i := p.block) (by omega)
    have e2 := hideW_heap (w := u') (lo := lo') (i := p.block) (by omega)
    have hs : p.block < u.heap.size := by
      by_cases hs : p.block < u.heap.size
      · exact hs
      · have : u.heap[p.block]? = none := Array.getElem?_eq_none (by omega)
        rw [this] at e1
        simp [World.cell?, e1] at hv
    rw [cell_any (e2.trans ((h p.block (by omega) hs).trans e1.symm))]
    exact hv
theorem CLe.unhide {u : World} {lo : Nat} : CLe (hideW u lo) u := by
  intro p v hv
  have := CLe.hide (u := u) (u' := u) (lo := lo) (lo' := 0) (Nat.zero_le _) (fun _ _ _ => rfl) p v hv
  rw [cell_any (w := u) (hideW_heap (Nat.zero_le _))] at this
  exact this
theorem Row.hid {w : World} {g n lo : Nat} {zs : List Int} (h : Row w g n zs) (hz : Byt zs) (hl : zs.length = n) (hn : n ≤ 1048576) (hg : lo ≤ g) : RdB (hideW w lo) (some ⟨g, 0, none⟩) n zs :=
  ⟨(h.of_block (hideW_heap hg)).reads' hl, hz, by omega⟩
theorem New.hid {w u : World} {t : TypeId} {a : Option Addr} {l c lo : Nat} {f : F} {bs : List Nat} (h : New w u t a l c f bs) (hl : lo ≤ w.heap.size) : SlF (hideW u lo) a l f :=
  (h.1.of (w' := hideW u lo) (fun x hx => hideW_heap (Nat.le_trans hl (h.2.2 x hx)))).reads
/-- A block of k cells. -/
def BlkN (w : World) (t : TypeId) (g k : Nat) : Prop := ∃ cur : Array Value, w.heap[g]? = some (.cells cur t (0, 0)) ∧ cur.size = k
theorem BlkN.lt {w : World} {t : TypeId} {g k : Nat} (h : BlkN w t g k) : g < w.heap.size := by obtain ⟨_, h, _⟩ := h; exact lt_of_block h
theorem BlkN.of {w u : World} {t : TypeId} {g k : Nat} (h : BlkN w t g k) (e : u.heap[g]? = w.heap[g]?) : BlkN u t g k := by obtain ⟨c, h, h2⟩ := h; exact ⟨c, e.trans h, h2⟩
theorem BlkN.has {w : World} {t : TypeId} {g k : Nat} (h : BlkN w t g k) (j : Nat) (hj : j < k) : ∃ v, w.cell? ⟨g, j, none⟩ = some v := by
  obtain ⟨c, h, h2⟩ := h
  rw [cell_of_row w g j c t (0, 0) h]
  exact ⟨c[j]'(by omega), by simp [h2, hj]⟩
theorem BlkN.free {w : World} {t : TypeId} {g k : Nat} (h : BlkN w t g k) (j : Nat) : w.frozen? ⟨g, j, none⟩ = false := by
  obtain ⟨c, h, h2⟩ := h
  exact frozen_of_row w g _ _ t h
theorem BlkN.set {w : World} {t : TypeId} {g k : Nat} (h : BlkN w t g k) (j : Nat) (hj : j < k) (v : Value) : BlkN (w.setCell ⟨g, j, none⟩ v) t g k ∧ w.grownBy (w.setCell ⟨g, j, none⟩ v) (some g) ∧ (w.setCell ⟨g, j, none⟩ v).cell? ⟨g, j, none⟩ = some v ∧ ∀ i, i ≠ j → (w.setCell ⟨g, j, none⟩ v).cell? ⟨g, i, none⟩ = w.cell? ⟨g, i, none⟩ := by
  obtain ⟨c, h, h2⟩ := h
  have hs := heap_setCell_same w g j c t v h
  refine ⟨⟨_, hs, by simpa using h2⟩, grown_setCell _ _ _ _, ?_, fun i hi => ?_⟩
  · rw [cell_of_row _ g j _ t (0, 0) hs]; simp [h2, hj]
  · rw [cell_of_row _ g i _ t (0, 0) hs, cell_of_row w g i _ t (0, 0) h]
    simp [Array.getElem?_setIfInBounds, Ne.symm hi]
theorem hid_grown {w u : World} {lo : Nat} (h : w.grownBy u none) : CLe (hideW w lo) (hideW u lo) := CLe.hide (Nat.le_refl _) (fun i _ h2 => h.block i h2 (by simp))
theorem hid_into {w u : World} {lo p : Nat} (h : w.grownBy u (some p)) (hp : p < lo) : CLe (hideW w lo) (hideW u lo) := CLe.hide (Nat.le_refl _) (fun i h1 h2 => h.block i h2 (by simp; omega))
theorem hid_low {w : World} {lo lo' : Nat} (h : lo' ≤ lo) : CLe (hideW w lo) (hideW w lo') := CLe.hide h (fun _ _ _ => rfl)
end Go.Proofs.YtpdkgmagjhibkaaGreatDoor.By
