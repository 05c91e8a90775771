/-
  Contracts of the drawing functions for numbers. No statement is proved here.
-/
import Derived.Test.YtmlganaiajhjeaaDrawB
namespace Go.Proofs.Ytmlganaiajhjeaa.By
open Go.RowKit
set_option linter.unusedVariables false

/-- A number of 64 bits. -/
def I64 (x : Int) : Prop := -9223372036854775808 ≤ x ∧ x ≤ 9223372036854775807

set_option maxHeartbeats 1000000 in
theorem onceT (w0 w : World) (g : Nat) (a : Option Addr) (n cap : Nat) (zs : List Int) (hr : Reads w0 a n zs) (hz : Byt zs) (hn : n ≤ 9223372036854775807) (hc : Cur w0 w g a n cap) (m : Int) (hm : 0 < m) (hm1 : m ≤ 9223372036854775807) :
    Calls Try.prog 52 #[.pointer (some ⟨g, 0, none⟩), .int .i64 m] w fun e w' => ∃ x : Bool, e = .returned (.bool x) ∧ Kept w0 w w' g a n cap := by
  have hB := belowT w0 w g a n cap zs hr hz hn hc m hm hm1
  clear hr hz
  go_enter Try.func52, Try.ntmps52
  go_wp2_with fail
  refine hB.mono ?_
  rintro e w1 ⟨x, rfl, hx0, hx1, hk⟩
  clear hB
  go_wp2
  go_ret
  exact ⟨_, rfl, hk⟩

set_option maxHeartbeats 1000000 in
theorem pickT (w0 w : World) (g : Nat) (a : Option Addr) (n cap : Nat) (zs : List Int) (hr : Reads w0 a n zs) (hz : Byt zs) (hn : n ≤ 9223372036854775807) (hc : Cur w0 w g a n cap) (gl m : Nat) (l : List Int) (hm : 0 < m) (hm1 : m ≤ 1000) (hne : gl ≠ g)
    (hl : ∀ j, j < m → w.cell? ⟨gl, j, none⟩ = some (.int .i64 (l.getD j 0))) :
    Calls Try.prog 67 #[.pointer (some ⟨g, 0, none⟩), .slice (some ⟨gl, 0, none⟩) m m] w fun e w' => ∃ j, j < m ∧ e = .returned (.int .i64 (l.getD j 0)) ∧ Kept w0 w w' g a n cap := by
  have hB := belowT w0 w g a n cap zs hr hz hn hc (m : Int) (by omega) (by omega)
  have HL : Hid (∀ j, j < m → w.cell? ⟨gl, j, none⟩ = some (.int .i64 (l.getD j 0))) := hl
  clear hr hz hl
  go_enter Try.func67, Try.ntmps67
  go_wp2_with fail
  refine hB.mono ?_
  rintro e w1 ⟨x, rfl, hx0, hx1, hk⟩
  clear hB
  obtain ⟨j, rfl⟩ : ∃ j : Nat, x = j := ⟨x.toNat, by omega⟩
  have hj : j < m := by omega
  have hcx := hk.2.cell (HL.out j hj) (by simpa using hne)
  generalize hy : l.getD j 0 = y at *
  have HY : Hid (l.getD j 0 = y) := hy
  clear hy
  go_wp2
  go_ret
  exact ⟨j, hj, by rw [HY.out]; rfl, hk⟩

theorem list_cells {w : World} {gl : Nat} {l : List Int} {t : TypeId} (h : w.heap[gl]? = some (.cells (l.map (Value.int .i64)).toArray t (0, 0))) : ∀ j, j < l.length → w.cell? ⟨gl, j, none⟩ = some (.int .i64 (l.getD j 0)) := by
  intro j hj
  rw [cell_of_row w gl j _ t (0, 0) h]
  simp [hj]

theorem pickNew (w0 w1 : World) (g : Nat) (a : Option Addr) (n cap : Nat) (zs : List Int) (hr : Reads w0 a n zs) (hz : Byt zs) (hn : n ≤ 9223372036854775807) (hc : Cur w0 w1 g a n cap) (l : List Int) (h0 : 0 < l.length) (h1 : l.length ≤ 1000) (hI : ∀ x ∈ l, I64 x) :
    Calls Try.prog 67 #[.pointer (some ⟨g, 0, none⟩), .slice (some ⟨w1.heap.size, 0, none⟩) l.length l.length] (w1.alloc (.cells (l.map (Value.int .i64)).toArray 3)) fun e w' => ∃ x, e = .returned (.int .i64 x) ∧ I64 x ∧ Kept w0 w1 w' g a n cap := by
  have hga := World.grownBy_alloc w1 (.cells (l.map (Value.int .i64)).toArray 3) none
  have hlt : g < w1.heap.size := by obtain ⟨_, _, i, h, hb, _⟩ := hc; exact lt_of_block hb
  refine (pickT w0 _ g a n cap zs hr hz hn (hc.none hga) w1.heap.size l.length l h0 h1 (by omega) (list_cells (heap_alloc_new w1 _))).mono ?_
  rintro e w2 ⟨j, hj, he, hk⟩
  refine ⟨_, he, ?_, hk.1, grown_trans (grown_none hga _) hk.2⟩
  rw [List.getD_eq_getElem?_getD, List.getElem?_eq_getElem hj]
  exact hI _ (List.getElem_mem hj)

end Go.Proofs.Ytmlganaiajhjeaa.By
