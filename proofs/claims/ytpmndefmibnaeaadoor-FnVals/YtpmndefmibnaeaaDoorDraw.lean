/-
  Contracts of the drawing functions (a cursor over the bytes of a draw): what they answer is in its range, and they write into nothing that was there before. No statement is proved here.
-/
import Derived.Test.YtpmndefmibnaeaaDoorRows
import Derived.Test.YtpmndefmibnaeaaDoorBase
import Derived.Deep.QuietTactic
import Derived.BigQuiet
namespace Go.Proofs.YtpmndefmibnaeaaDoor.By
open Go.RowKit
set_option linter.unusedVariables false

theorem and255 (y : Int) : 0 ≤ bits BinOp.and IntKind.i64 y 255 ∧ bits BinOp.and IntKind.i64 y 255 ≤ 255 := by
  have h1 : (BitVec.ofInt 64 (255 : Int)).toNat = 255 := by decide
  have e : bits BinOp.and IntKind.i64 y 255 = IntKind.i64.wrap (((BitVec.ofInt 64 y).toNat &&& 255 : Nat) : Int) := by
    show IntKind.i64.wrap ((BitVec.ofInt 64 y &&& BitVec.ofInt 64 (255 : Int)).toNat : Int) = _
    rw [BitVec.toNat_and, h1]
  have h2 : (BitVec.ofInt 64 y).toNat &&& 255 ≤ 255 := Nat.and_le_right
  rw [e, IntKind.wrap_i64]
  omega

/-- Block g is a cursor over the slice (a, n, cap). -/
def Cur (w0 w : World) (g : Nat) (a : Option Addr) (n cap : Nat) : Prop :=
  w0.heap.size ≤ g ∧ Below w0.heap.size w0 w ∧ ∃ (i : Nat) (h : Int), w.heap[g]? = some (.cells #[.slice a n cap, .int .i64 i, .int .i64 h] 62 (0, 0)) ∧ i ≤ n

theorem Cur.kept {w0 w w' : World} {g n cap : Nat} {a : Option Addr} {row : Option Nat} (h : Cur w0 w g a n cap) (hg : w.grownBy w' row) (hne : some g ≠ row) (hr : ∀ k, row = some k → w0.heap.size ≤ k) : Cur w0 w' g a n cap := by
  obtain ⟨h1, h2, i, x, hb, hi⟩ := h
  exact ⟨h1, h2.grown hg h2.size hr, i, x, by rw [hg.block g (lt_of_block hb) hne]; exact hb, hi⟩
theorem Cur.none {w0 w w' : World} {g n cap : Nat} {a : Option Addr} (h : Cur w0 w g a n cap) (hg : w.grownBy w' Option.none) : Cur w0 w' g a n cap := h.kept hg (by simp) (by simp)

set_option maxRecDepth 20000 in
set_option maxHeartbeats 1000000 in
theorem newT (a : Option Addr) (n cap : Nat) (zs : List Int) (w : World) (h : Reads w a n zs) (hz : Byt zs) (hn : n ≤ 9223372036854775807) :
    Calls Tryd.prog 26 #[.slice a n cap] w fun e w' => ∃ g, e = .returned (.pointer (some ⟨g, 0, none⟩)) ∧ Cur w w' g a n cap ∧ w.grownBy w' none := by
  obtain ⟨hl, h⟩ := h
  rcases h with h0 | ⟨b, off, rfl, hc⟩
  · subst h0
    go_enter Tryd.func26, Tryd.ntmps26
    go_wp2
    refine wp_loop_rounds 1 ?_
    rw [rounds_succ]
    go_wp2
    go_ret
    exact ⟨_, rfl, ⟨Nat.le_refl _, (Below.refl _ _).alloc (Nat.le_refl _) _, 0, _, heap_alloc_new w _, by omega⟩, World.grownBy_alloc _ _ _⟩
  · go_enter Tryd.func26, Tryd.ntmps26
    go_wp2
    go_loop [3, 4] (fun h i => ∃ (k : Nat) (H : Int), k ≤ n ∧ i = .int .i64 k ∧ h = .int .i64 H) (fun _ i => n - (intOf i).toNat)
    case atStart => exact ⟨0, _, Nat.zero_le _, rfl, rfl⟩
    case round =>
      obtain ⟨k, H, hk, rfl, rfl⟩ := hrel
      by_cases hlt : k < n ∧ k < 4000
      · obtain ⟨hk1, hk2⟩ := hlt
        have hb := byt_get hz k
        rw [← List.getD_eq_getElem?_getD] at hb
        have hcx := hc k hk1
        generalize zs.getD k 0 = x at *
        clear hc
        go_wp2
        go_round
        case rel => exact ⟨k + 1, _, by omega, by go_num, rfl⟩
        case measure => simp [intOf]; omega
      · rcases (show n ≤ k ∨ (k < n ∧ 4000 ≤ k) by omega) with h1 | ⟨h1, h2⟩
        all_goals
          clear hlt
          go_wp2
          go_ret
          exact ⟨_, rfl, ⟨Nat.le_refl _, (Below.refl _ _).alloc (Nat.le_refl _) _, 0, _, heap_alloc_new w _, by omega⟩, World.grownBy_alloc _ _ _⟩
end Go.Proofs.YtpmndefmibnaeaaDoor.By
