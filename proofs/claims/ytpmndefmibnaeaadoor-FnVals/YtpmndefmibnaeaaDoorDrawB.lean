/-
  Contracts of the drawing functions, more. No statement is proved here.
-/
import Derived.Test.YtpmndefmibnaeaaDoorDraw
namespace Go.Proofs.YtpmndefmibnaeaaDoor.By
open Go.RowKit
set_option linter.unusedVariables false

theorem cur_set2 {w : World} {g : Nat} {v0 v1 v2 x : Value} {t : TypeId} (h : w.heap[g]? = some (.cells #[v0, v1, v2] t (0, 0))) : (w.setCell ⟨g, 2, none⟩ x).heap[g]? = some (.cells #[v0, v1, x] t (0, 0)) := by
  rw [heap_setCell_same w g 2 _ t x h]; rfl
theorem cur_set1 {w : World} {g : Nat} {v0 v1 v2 x : Value} {t : TypeId} (h : w.heap[g]? = some (.cells #[v0, v1, v2] t (0, 0))) : (w.setCell ⟨g, 1, none⟩ x).heap[g]? = some (.cells #[v0, x, v2] t (0, 0)) := by
  rw [heap_setCell_same w g 1 _ t x h]; rfl

/-- Behind the store of a cursor's place. -/
theorem cur_step {w0 w w1 W : World} {g n cap i : Nat} {a : Option Addr} {v : Int} (hg : w0.heap.size ≤ g) (hb : Below w0.heap.size w0 w) (h1 : w1.heap[g]? = some (.cells #[.slice a n cap, .int .i64 i, .int .i64 v] 62 (0, 0))) (hg1 : w.grownBy w1 (some g))
    (hh : W.heap = (w1.setCell ⟨g, 1, none⟩ (.int .i64 ((i : Int) + 1))).heap) (ho : W.os = w1.os) (ht : W.tape = w1.tape) (hu : W.output = w1.output) (hi : i < n) : Cur w0 W g a n cap ∧ w.grownBy W (some g) := by
  have hgW : w1.grownBy W (some g) := ⟨ho, ht, hu, by rw [hh]; simp [World.setCell], fun k _ hk => by rw [hh]; exact heap_setCell_other w1 _ k _ (by simpa using hk)⟩
  have hA := grown_trans hg1 hgW
  refine ⟨⟨hg, hb.grown hA hb.size (by intro k hk; cases hk; exact hg), i + 1, v, ?_, by omega⟩, hA⟩
  rw [hh, cur_set1 h1]; rfl
theorem cur_same {w0 w w1 W : World} {g n cap i : Nat} {a : Option Addr} {v : Int} (hg : w0.heap.size ≤ g) (hb : Below w0.heap.size w0 w) (h1 : w1.heap[g]? = some (.cells #[.slice a n cap, .int .i64 i, .int .i64 v] 62 (0, 0))) (hg1 : w.grownBy w1 (some g))
    (hh : W.heap = w1.heap) (ho : W.os = w1.os) (ht : W.tape = w1.tape) (hu : W.output = w1.output) (hi : i ≤ n) : Cur w0 W g a n cap ∧ w.grownBy W (some g) := by
  have hgW : w1.grownBy W (some g) := ⟨ho, ht, hu, by rw [hh]; exact Nat.le_refl _, fun k _ _ => by rw [hh]⟩
  have hA := grown_trans hg1 hgW
  exact ⟨⟨hg, hb.grown hA hb.size (by intro k hk; cases hk; exact hg), i, v, by rw [hh]; exact h1, hi⟩, hA⟩

set_option maxRecDepth 20000 in
set_option maxHeartbeats 2000000 in
theorem byteT (w0 w : World) (g : Nat) (a : Option Addr) (n cap : Nat) (zs : List Int) (hr : Reads w0 a n zs) (hz : Byt zs) (hn : n ≤ 9223372036854775807) (hc : Cur w0 w g a n cap) :
    Calls Tryd.prog 35 #[.pointer (some ⟨g, 0, none⟩)] w fun e w' => ∃ x, e = .returned (.int .i64 x) ∧ 0 ≤ x ∧ x ≤ 255 ∧ Cur w0 w' g a n cap ∧ w.grownBy w' (some g) := by
  obtain ⟨hg, hb, i, h, hblk, hi⟩ := hc
  have hrw := hr.below hb
  have c0 : w.cell? ⟨g, 0, none⟩ = some (.slice a n cap) := by rw [cell_of_row w g 0 _ 62 (0, 0) hblk]; rfl
  have c1 : w.cell? ⟨g, 1, none⟩ = some (.int .i64 i) := by rw [cell_of_row w g 1 _ 62 (0, 0) hblk]; rfl
  have c2 : w.cell? ⟨g, 2, none⟩ = some (.int .i64 h) := by rw [cell_of_row w g 2 _ 62 (0, 0) hblk]; rfl
  have f1 : w.frozen? ⟨g, 1, none⟩ = false := frozen_of_row w g 1 _ 62 hblk
  have f2 : w.frozen? ⟨g, 2, none⟩ = false := frozen_of_row w g 2 _ 62 hblk
  have HB : Hid (w.heap[g]? = some (.cells #[.slice a n cap, .int .i64 i, .int .i64 h] 62 (0, 0))) := hblk
  have HBel : Hid (Below w0.heap.size w0 w) := hb
  clear hblk hb
  have key : ∀ v : Int, ∃ w1, w1 = w.setCell ⟨g, 2, none⟩ (.int .i64 v) ∧ w1.cell? ⟨g, 0, none⟩ = some (.slice a n cap) ∧ w1.cell? ⟨g, 1, none⟩ = some (.int .i64 i) ∧ w1.cell? ⟨g, 2, none⟩ = some (.int .i64 v) ∧ w1.frozen? ⟨g, 1, none⟩ = false ∧ w1.heap[g]? = some (.cells #[.slice a n cap, .int .i64 i, .int .i64 v] 62 (0, 0)) ∧ w.grownBy w1 (some g) ∧ Reads w1 a n zs := by
    intro v
    have hb1 := cur_set2 (x := .int .i64 v) HB.out
    refine ⟨_, rfl, ?_, ?_, ?_, frozen_of_row _ g 1 _ 62 hb1, hb1, grown_setCell _ _ _ _, ?_⟩
    · rw [cell_of_row _ g 0 _ 62 (0, 0) hb1]; rfl
    · rw [cell_of_row _ g 1 _ 62 (0, 0) hb1]; rfl
    · rw [cell_of_row _ g 2 _ 62 (0, 0) hb1]; rfl
    · exact hr.below (HBel.out.grown (grown_setCell w g 2 _) HBel.out.size (by intro k hk; cases hk; exact hg))
  clear hrw hr
  go_enter Tryd.func35, Tryd.ntmps35
  go_wp2
  generalize wrap64 (wrap64 (h * 6364136223846793005) + 1442695040888963407) = v
  obtain ⟨w1, hw1, d0, d1, d2, e1, hb1, hg1, hr1⟩ := key v
  rw [← hw1]
  have HB1 : Hid (w1.heap[g]? = some (.cells #[.slice a n cap, .int .i64 i, .int .i64 v] 62 (0, 0))) := hb1
  have HG1 : Hid (w.grownBy w1 (some g)) := hg1
  clear key hw1 hb1 hg1 c0 c1 c2 f1 f2 HB
  go_quiet (fail)
  have hx := and255 (bits BinOp.xor IntKind.i64 (v / 8589934592) (v / 35184372088832))
  generalize hX : bits BinOp.and IntKind.i64 (bits BinOp.xor IntKind.i64 (v / 8589934592) (v / 35184372088832)) 255 = X at *
  clear hX
  go_wp2
  by_cases hin : i < n
  · obtain ⟨hl, hr1⟩ := hr1
    rcases hr1 with h0 | ⟨b, off, rfl, hcc⟩
    · omega
    have hcx := hcc i hin
    have hbx := byt_get hz i
    rw [← List.getD_eq_getElem?_getD] at hbx
    generalize zs.getD i 0 = y at *
    clear hcc hz hl
    go_quiet (fail)
    go_wp2
    go_quiet (fail)
    have hx2 := and255 (X + y)
    generalize hX2 : bits BinOp.and IntKind.i64 (X + y) 255 = X2 at *
    clear hX2
    go_wp2
    go_ret
    refine ⟨X2, rfl, hx2.1, hx2.2, ?_⟩
    exact cur_step hg HBel.out HB1.out HG1.out rfl rfl rfl rfl hin
  · go_quiet (fail)
    go_wp2
    go_ret
    refine ⟨X, rfl, hx.1, hx.2, ?_⟩
    exact cur_same hg HBel.out HB1.out HG1.out rfl rfl rfl rfl hi

/-- What every drawing contract leaves of the world. -/
def Kept (w0 w w' : World) (g : Nat) (a : Option Addr) (n cap : Nat) : Prop := Cur w0 w' g a n cap ∧ w.grownBy w' (some g)
theorem Kept.trans {w0 w w1 w2 : World} {g n cap : Nat} {a : Option Addr} (h : Kept w0 w w1 g a n cap) (k : Kept w0 w1 w2 g a n cap) : Kept w0 w w2 g a n cap := ⟨k.1, grown_trans h.2 k.2⟩

set_option maxHeartbeats 1000000 in
theorem belowT (w0 w : World) (g : Nat) (a : Option Addr) (n cap : Nat) (zs : List Int) (hr : Reads w0 a n zs) (hz : Byt zs) (hn : n ≤ 9223372036854775807) (hc : Cur w0 w g a n cap) (m : Int) (hm : 0 < m) (hm1 : m ≤ 9223372036854775807) :
    Calls Tryd.prog 27 #[.pointer (some ⟨g, 0, none⟩), .int .i64 m] w fun e w' => ∃ x, e = .returned (.int .i64 x) ∧ 0 ≤ x ∧ x < m ∧ Kept w0 w w' g a n cap := by
  have hB := fun w hc => byteT w0 w g a n cap zs hr hz hn hc
  have HB : Hid (∀ w, Cur w0 w g a n cap → Calls Tryd.prog 35 #[.pointer (some ⟨g, 0, none⟩)] w fun e w' => ∃ x, e = .returned (.int .i64 x) ∧ 0 ≤ x ∧ x ≤ 255 ∧ Cur w0 w' g a n cap ∧ w.grownBy w' (some g)) := hB
  clear hB hr hz
  by_cases h256 : m ≤ 256
  · go_enter Tryd.func27, Tryd.ntmps27
    go_wp2_with fail
    refine (HB.out w hc).mono ?_
    rintro e w1 ⟨x, rfl, hx0, hx1, hc1, hg1⟩
    go_wp2
    go_ret
    exact ⟨_, rfl, Int.emod_nonneg _ (by omega), Int.emod_lt_of_pos _ hm, hc1, hg1⟩
  · go_enter Tryd.func27, Tryd.ntmps27
    go_wp2_with fail
    refine (HB.out w hc).mono ?_
    rintro e w1 ⟨x1, rfl, hx10, hx11, hc1, hg1⟩
    go_wp2_with fail
    refine (HB.out w1 hc1).mono ?_
    rintro e w2 ⟨x2, rfl, hx20, hx21, hc2, hg2⟩
    have hgA := grown_trans hg1 hg2
    clear hg1 hg2 hc hc1
    go_wp2_with fail
    refine (HB.out w2 hc2).mono ?_
    rintro e w3 ⟨x3, rfl, hx30, hx31, hc3, hg3⟩
    have hgB := grown_trans hgA hg3
    clear hgA hg3 hc2
    go_wp2_with fail
    refine (HB.out w3 hc3).mono ?_
    rintro e w4 ⟨x4, rfl, hx40, hx41, hc4, hg4⟩
    have hgC := grown_trans hgB hg4
    clear hgB hg4 hc3 HB
    go_wp2
    go_ret
    exact ⟨_, rfl, Int.emod_nonneg _ (by omega), Int.emod_lt_of_pos _ hm, hc4, hgC⟩
end Go.Proofs.YtpmndefmibnaeaaDoor.By
