/-
  Contracts of the drawing functions for numbers. No statement is proved here.
-/
import Derived.Test.YtpmndefmibnaeaaDoorDrawB
namespace Go.Proofs.YtpmndefmibnaeaaDoor.By
open Go.RowKit
set_option linter.unusedVariables false

/-- A number of 64 bits. -/
def I64 (x : Int) : Prop := -9223372036854775808 ≤ x ∧ x ≤ 9223372036854775807

set_option maxHeartbeats 1000000 in
theorem onceT (w0 w : World) (g : Nat) (a : Option Addr) (n cap : Nat) (zs : List Int) (hr : Reads w0 a n zs) (hz : Byt zs) (hn : n ≤ 9223372036854775807) (hc : Cur w0 w g a n cap) (m : Int) (hm : 0 < m) (hm1 : m ≤ 9223372036854775807) :
    Calls Tryd.prog 29 #[.pointer (some ⟨g, 0, none⟩), .int .i64 m] w fun e w' => ∃ x : Bool, e = .returned (.bool x) ∧ Kept w0 w w' g a n cap := by
  have hB := belowT w0 w g a n cap zs hr hz hn hc m hm hm1
  clear hr hz
  go_enter Tryd.func29, Tryd.ntmps29
  go_wp2_with fail
  refine hB.mono ?_
  rintro e w1 ⟨x, rfl, hx0, hx1, hk⟩
  clear hB
  go_wp2
  go_ret
  exact ⟨_, rfl, hk⟩

set_option maxHeartbeats 1000000 in
theorem pickT (w0 w : World) (g : Nat) (a : Option Addr) (n cap : Nat) (zs : List Int) (hr : Reads w0 a n zs) (hz : Byt zs) (hn : n ≤ 9223372036854775807) (hc : Cur w0 w g a n cap) (gl m : Nat) (l : List Int) (hm : 0 < m) (hm1 : m ≤ 1000) (hne : gl ≠ g)
    (hl : ∀ j, j < m → w.cell? ⟨gl, j, none⟩ = some (.int .i64 (l.getD j 0))) :
    Calls Tryd.prog 36 #[.pointer (some ⟨g, 0, none⟩), .slice (some ⟨gl, 0, none⟩) m m] w fun e w' => ∃ j, j < m ∧ e = .returned (.int .i64 (l.getD j 0)) ∧ Kept w0 w w' g a n cap := by
  have hB := belowT w0 w g a n cap zs hr hz hn hc (m : Int) (by omega) (by omega)
  have HL : Hid (∀ j, j < m → w.cell? ⟨gl, j, none⟩ = some (.int .i64 (l.getD j 0))) := hl
  clear hr hz hl
  go_enter Tryd.func36, Tryd.ntmps36
  go_wp2_with fail
  refine hB.mono ?_
  rintro e w1 ⟨x, rfl, hx0, hx1, hk⟩
  clear hB
  obtain ⟨j, rfl⟩ : ∃ j : Nat, x = j := ⟨x.toNat, by omega⟩
  have hj : j < m := by omega
  have hcx := hk.2.cell (HL.out j hj) (by simpa using hne)
  generalize hy : l.getD j 0 = y at *
  have HY : Hid (l.getD j 0 = y) := hy
  clear hy
  go_wp2
  go_ret
  exact ⟨j, hj, by rw [HY.out]; rfl, hk⟩

theorem list_cells {w : World} {gl : Nat} {l : List Int} {t : TypeId} (h : w.heap[gl]? = some (.cells (l.map (Value.int .i64)).toArray t (0, 0))) : ∀ j, j < l.length → w.cell? ⟨gl, j, none⟩ = some (.int .i64 (l.getD j 0)) := by
  intro j hj
  rw [cell_of_row w gl j _ t (0, 0) h]
  simp [hj]

theorem pickNew (w0 w1 : World) (g : Nat) (a : Option Addr) (n cap : Nat) (zs : List Int) (hr : Reads w0 a n zs) (hz : Byt zs) (hn : n ≤ 9223372036854775807) (hc : Cur w0 w1 g a n cap) (l : List Int) (h0 : 0 < l.length) (h1 : l.length ≤ 1000) (hI : ∀ x ∈ l, I64 x) :
    Calls Tryd.prog 36 #[.pointer (some ⟨g, 0, none⟩), .slice (some ⟨w1.heap.size, 0, none⟩) l.length l.length] (w1.alloc (.cells (l.map (Value.int .i64)).toArray 3)) fun e w' => ∃ x, e = .returned (.int .i64 x) ∧ I64 x ∧ Kept w0 w1 w' g a n cap := by
  have hga := World.grownBy_alloc w1 (.cells (l.map (Value.int .i64)).toArray 3) none
  have hlt : g < w1.heap.size := by obtain ⟨_, _, i, h, hb, _⟩ := hc; exact lt_of_block hb
  refine (pickT w0 _ g a n cap zs hr hz hn (hc.none hga) w1.heap.size l.length l h0 h1 (by omega) (list_cells (heap_alloc_new w1 _))).mono ?_
  rintro e w2 ⟨j, hj, he, hk⟩
  refine ⟨_, he, ?_, hk.1, grown_trans (grown_none hga _) hk.2⟩
  rw [List.getD_eq_getElem?_getD, List.getElem?_eq_getElem hj]
  exact hI _ (List.getElem_mem hj)

set_option maxRecDepth 20000 in
set_option maxHeartbeats 2000000 in
theorem numT (w0 w : World) (g : Nat) (a : Option Addr) (n cap : Nat) (zs : List Int) (hr : Reads w0 a n zs) (hz : Byt zs) (hn : n ≤ 9223372036854775807) (hc : Cur w0 w g a n cap) :
    Calls Tryd.prog 43 #[.pointer (some ⟨g, 0, none⟩)] w fun e w' => ∃ x, e = .returned (.int .i64 x) ∧ I64 x ∧ Kept w0 w w' g a n cap := by
  have hB := fun w hc m hm hm1 => belowT w0 w g a n cap zs hr hz hn hc m hm hm1
  have hP := fun w hc l h0 h1 hI => pickNew w0 w g a n cap zs hr hz hn hc l h0 h1 hI
  have HB : Hid (∀ w, Cur w0 w g a n cap → ∀ m : Int, 0 < m → m ≤ 9223372036854775807 → Calls Tryd.prog 27 #[.pointer (some ⟨g, 0, none⟩), .int .i64 m] w fun e w' => ∃ x, e = .returned (.int .i64 x) ∧ 0 ≤ x ∧ x < m ∧ Kept w0 w w' g a n cap) := hB
  have HP : Hid (∀ w1, Cur w0 w1 g a n cap → ∀ (l : List Int), 0 < l.length → l.length ≤ 1000 → (∀ x ∈ l, I64 x) → Calls Tryd.prog 36 #[.pointer (some ⟨g, 0, none⟩), .slice (some ⟨w1.heap.size, 0, none⟩) l.length l.length] (w1.alloc (.cells (l.map (Value.int .i64)).toArray 3)) fun e w' => ∃ x, e = .returned (.int .i64 x) ∧ I64 x ∧ Kept w0 w1 w' g a n cap) := hP
  clear hB hP hr hz
  go_enter Tryd.func43, Tryd.ntmps43
  go_wp2_with fail
  refine (HB.out w hc 5 (by omega) (by omega)).mono ?_
  rintro e w1 ⟨x, rfl, hx0, hx1, hk⟩
  rcases (show x = 0 ∨ x = 1 ∨ x = 2 ∨ x = 3 ∨ x = 4 by omega) with rfl | rfl | rfl | rfl | rfl
  · go_wp2_with fail
    refine (HB.out w1 hk.1 4 (by omega) (by omega)).mono ?_
    rintro e w2 ⟨y, rfl, hy0, hy1, hk2⟩
    go_wp2
    go_ret
    exact ⟨_, rfl, ⟨by omega, by omega⟩, hk.trans hk2⟩
  · go_wp2_with fail
    refine (HP.out w1 hk.1 [126, 127, 128, 129, 16383, 16384, 2097151, 2097152, 2147483646, 2147483647] (by decide) (by decide) (by unfold I64; decide)).mono ?_
    rintro e w2 ⟨y, rfl, hy, hk2⟩
    go_wp2
    go_ret
    exact ⟨y, rfl, hy, hk.trans hk2⟩
  · go_wp2_with fail
    refine (HB.out w1 hk.1 40000 (by omega) (by omega)).mono ?_
    rintro e w2 ⟨y, rfl, hy0, hy1, hk2⟩
    go_wp2
    go_ret
    exact ⟨_, rfl, ⟨by omega, by omega⟩, hk.trans hk2⟩
  · go_wp2_with fail
    refine (HP.out w1 hk.1 [-1, -2, 2147483648, 4611686018427387904, -9223372036854775808, 9223372036854775807] (by decide) (by decide) (by unfold I64; decide)).mono ?_
    rintro e w2 ⟨y, rfl, hy, hk2⟩
    go_wp2
    go_ret
    exact ⟨y, rfl, hy, hk.trans hk2⟩
  · go_wp2_with fail
    refine (HB.out w1 hk.1 2147483647 (by omega) (by omega)).mono ?_
    rintro e w2 ⟨y, rfl, hy0, hy1, hk2⟩
    go_wp2
    go_ret
    exact ⟨_, rfl, ⟨by omega, by omega⟩, hk.trans hk2⟩

set_option maxRecDepth 20000 in
set_option maxHeartbeats 2000000 in
theorem signedT (w0 w : World) (g : Nat) (a : Option Addr) (n cap : Nat) (zs : List Int) (hr : Reads w0 a n zs) (hz : Byt zs) (hn : n ≤ 9223372036854775807) (hc : Cur w0 w g a n cap) :
    Calls Tryd.prog 37 #[.pointer (some ⟨g, 0, none⟩)] w fun e w' => ∃ x, e = .returned (.int .i64 x) ∧ I64 x ∧ Kept w0 w w' g a n cap := by
  have hB := fun w hc m hm hm1 => belowT w0 w g a n cap zs hr hz hn hc m hm hm1
  have hP := fun w hc l h0 h1 hI => pickNew w0 w g a n cap zs hr hz hn hc l h0 h1 hI
  have HB : Hid (∀ w, Cur w0 w g a n cap → ∀ m : Int, 0 < m → m ≤ 9223372036854775807 → Calls Tryd.prog 27 #[.pointer (some ⟨g, 0, none⟩), .int .i64 m] w fun e w' => ∃ x, e = .returned (.int .i64 x) ∧ 0 ≤ x ∧ x < m ∧ Kept w0 w w' g a n cap) := hB
  have HP : Hid (∀ w1, Cur w0 w1 g a n cap → ∀ (l : List Int), 0 < l.length → l.length ≤ 1000 → (∀ x ∈ l, I64 x) → Calls Tryd.prog 36 #[.pointer (some ⟨g, 0, none⟩), .slice (some ⟨w1.heap.size, 0, none⟩) l.length l.length] (w1.alloc (.cells (l.map (Value.int .i64)).toArray 3)) fun e w' => ∃ x, e = .returned (.int .i64 x) ∧ I64 x ∧ Kept w0 w1 w' g a n cap) := hP
  have hN := fun w hc => numT w0 w g a n cap zs hr hz hn hc
  have HN : Hid (∀ w, Cur w0 w g a n cap → Calls Tryd.prog 43 #[.pointer (some ⟨g, 0, none⟩)] w fun e w' => ∃ x, e = .returned (.int .i64 x) ∧ I64 x ∧ Kept w0 w w' g a n cap) := hN
  clear hB hP hN hr hz
  go_enter Tryd.func37, Tryd.ntmps37
  go_wp2_with fail
  refine (HB.out w hc 4 (by omega) (by omega)).mono ?_
  rintro e w1 ⟨x, rfl, hx0, hx1, hk⟩
  rcases (show x = 0 ∨ x = 1 ∨ x = 2 ∨ x = 3 by omega) with rfl | rfl | rfl | rfl
  · go_wp2_with fail
    refine (HB.out w1 hk.1 9 (by omega) (by omega)).mono ?_
    rintro e w2 ⟨y, rfl, hy0, hy1, hk2⟩
    go_wp2
    go_ret
    exact ⟨_, rfl, ⟨by omega, by omega⟩, hk.trans hk2⟩
  · go_wp2_with fail
    refine (HP.out w1 hk.1 [1073741823, 1073741824, -1073741824, -1073741825, -9223372036854775808, 9223372036854775807, 4611686018427387904, -4611686018427387904, 4611686018427387903, -4611686018427387905] (by decide) (by decide) (by unfold I64; decide)).mono ?_
    rintro e w2 ⟨y, rfl, hy, hk2⟩
    go_wp2
    go_ret
    exact ⟨y, rfl, hy, hk.trans hk2⟩
  · go_wp2_with fail
    refine (HN.out w1 hk.1).mono ?_
    rintro e w2 ⟨y, rfl, hy, hk2⟩
    go_wp2
    go_ret
    exact ⟨y, rfl, hy, hk.trans hk2⟩
  · go_wp2_with fail
    refine (HB.out w1 hk.1 1073741824 (by omega) (by omega)).mono ?_
    rintro e w2 ⟨y, rfl, hy0, hy1, hk2⟩
    go_wp2
    go_ret
    exact ⟨_, rfl, ⟨by omega, by omega⟩, hk.trans hk2⟩
end Go.Proofs.YtpmndefmibnaeaaDoor.By
