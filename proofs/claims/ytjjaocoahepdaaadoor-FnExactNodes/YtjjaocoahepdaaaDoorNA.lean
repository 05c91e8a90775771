/-
  Letters in short texts: the library's search by its contracts. No statement is proved here.
-/
import Derived.Test.YtjjaocoahepdaaaDoorEK
import Derived.Lib.Bytealg
namespace Go.Proofs.YtjjaocoahepdaaaDoor.By
open Go.RowKit
set_option linter.unusedVariables false
set_option linter.unusedSimpArgs false

theorem ibs (s : ByteArray) (c : Int) (w : World) : (callFunc 77 #[.string s, .int .u8 c]).run Tryd.prog w = .ok (.value (.int .i64 (Lib.indexByte s.data.toList c.toNat.toUInt8))) w := by
  rw [run_callFunc_extern (P := Tryd.prog) (e := Extern.BytealgIndexByte.indexByte) Tryd.func77 (by kernel_rfl) (by kernel_rfl) (by kernel_rfl) (by kernel_rfl), Lib.run_indexByteString]
  rfl
theorem cts (s : ByteArray) (c : Int) (w : World) : (callFunc 64 #[.string s, .int .u8 c]).run Tryd.prog w = .ok (.value (.int .i64 (Lib.countByte s.data.toList c.toNat.toUInt8))) w := by
  rw [run_callFunc_extern (P := Tryd.prog) (e := Extern.BytealgCount.count) Tryd.func64 (by kernel_rfl) (by kernel_rfl) (by kernel_rfl) (by kernel_rfl), Lib.run_countString]
  rfl

theorem indexByteT (s : ByteArray) (c : Int) (w : World) :
    Calls Tryd.prog 73 #[.string s, .int .u8 c] w fun e u => e = .returned (.int .i64 (Lib.indexByte s.data.toList c.toNat.toUInt8)) ∧ u = w := by
  have hx := ibs s c
  go_enter Tryd.func73, Tryd.ntmps73
  go_wp2
  go_ret
  exact ⟨rfl, rfl⟩

/-- Whether a text has that letter. -/
def hasB (s : ByteArray) (c : Int) : Bool := decide (0 ≤ Lib.indexByte s.data.toList c.toNat.toUInt8)
set_option maxRecDepth 8000 in
theorem indexT (s : ByteArray) (x : UInt8) (w : World) :
    Calls Tryd.prog 69 #[.string s, .string ⟨#[x]⟩] w fun e u => ∃ r, e = .returned (.int .i64 r) ∧ decide (0 ≤ r) = hasB s (x.toNat : Int) ∧ u = w := by
  have CC : Hid _ := indexByteT s (x.toNat : Int) w
  have h1 : (⟨#[x]⟩ : ByteArray).size = 1 := rfl
  have hc : (((⟨#[x]⟩ : ByteArray)[0]'(by rw [h1]; omega)).toNat : Int) = (x.toNat : Int) := rfl
  have hE : Hid ((⟨#[x]⟩ : ByteArray) = s → hasB s (x.toNat : Int) = true) := by
    intro e
    subst e
    have hx : (x.toNat : Int).toNat.toUInt8 = x := by simp
    simp [hasB, Lib.indexByte]
  generalize (⟨#[x]⟩ : ByteArray) = sub at *
  generalize (x.toNat : Int) = c at *
  by_cases hss : sub = s
  · have hE2 := hE.out hss
    clear hE
    subst hss
    clear CC
    go_enter Tryd.func69, Tryd.ntmps69
    go_wp2
    go_ret
    exact ⟨0, rfl, by rw [hE2]; rfl, rfl⟩
  · have hss' : (sub.toList == s.toList) = false := by rw [toL_beq]; simpa using hss
    have hss2 : decide (sub = s) = false := by simpa using hss
    clear hE
    go_enter Tryd.func69, Tryd.ntmps69
    go_wp2_with fail
    refine Calls.mono CC.out ?_
    rintro e u ⟨he, hu⟩
    subst he hu
    clear CC
    simp only []
    go_wp2
    go_ret
    exact ⟨_, rfl, rfl, rfl⟩

theorem sIndexT (s : ByteArray) (x : UInt8) (w : World) :
    Calls Tryd.prog 57 #[.string s, .string ⟨#[x]⟩] w fun e u => ∃ r, e = .returned (.int .i64 r) ∧ decide (0 ≤ r) = hasB s (x.toNat : Int) ∧ u = w := by
  have CC : Hid _ := indexT s x w
  go_enter Tryd.func57, Tryd.ntmps57
  go_wp2_with fail
  refine Calls.mono CC.out ?_
  rintro e u ⟨r, he, hr, hu⟩
  subst he hu
  clear CC
  simp only []
  go_wp2
  go_ret
  exact ⟨r, rfl, hr, rfl⟩

theorem sContainsT (s : ByteArray) (x : UInt8) (w : World) :
    Calls Tryd.prog 49 #[.string s, .string ⟨#[x]⟩] w fun e u => e = .returned (.bool (hasB s (x.toNat : Int))) ∧ u = w := by
  have CC : Hid _ := sIndexT s x w
  go_enter Tryd.func49, Tryd.ntmps49
  go_wp2_with fail
  refine Calls.mono CC.out ?_
  rintro e u ⟨r, he, hr, hu⟩
  subst he hu
  clear CC
  have hr' : decide (r ≥ 0) = hasB s (x.toNat : Int) := hr
  simp only []
  go_wp2
  go_ret
  exact ⟨by rw [← hr]; rfl, rfl⟩

set_option maxHeartbeats 400000 in
theorem hasT (wd : ByteArray) (k n : Int) (s : ByteArray) (x : UInt8) (w : World) :
    Calls Tryd.prog 38 #[.agg #[.string wd, .int .i64 k, .int .i64 n, .string s], .string ⟨#[x]⟩] w fun e u => e = .returned (.bool (hasB s (x.toNat : Int))) ∧ w.grownBy u none := by
  have g0 := World.grownBy_alloc w (.cells #[.string wd, .int .i64 k, .int .i64 n, .string s] 61) none
  have b0 := heap_alloc_new w (.cells #[.string wd, .int .i64 k, .int .i64 n, .string s] 61)
  have CC : Hid _ := sContainsT s x (w.alloc (.cells #[.string wd, .int .i64 k, .int .i64 n, .string s] 61))
  have y3 : (w.alloc (.cells #[.string wd, .int .i64 k, .int .i64 n, .string s] 61)).cell? ⟨w.heap.size, 3, none⟩ = some (.string s) := by rw [cell_of_row _ _ _ _ _ (0, 0) b0]; rfl
  have G0 : Hid _ := g0
  clear g0 b0
  go_enter Tryd.func38, Tryd.ntmps38
  go_wp2_with fail
  refine Calls.mono CC.out ?_
  rintro e u ⟨he, hu⟩
  subst he hu
  clear CC y3
  simp only []
  go_wp2
  go_ret
  exact ⟨rfl, G0.out⟩

theorem sCountT (s : ByteArray) (x : UInt8) (w : World) :
    Calls Tryd.prog 54 #[.string s, .string ⟨#[x]⟩] w fun e u => e = .returned (.int .i64 (Lib.countByte s.data.toList x)) ∧ u = w := by
  have hx := cts s (x.toNat : Int)
  have h1 : (⟨#[x]⟩ : ByteArray).size = 1 := rfl
  have hc : (((⟨#[x]⟩ : ByteArray)[0]'(by rw [h1]; omega)).toNat : Int) = (x.toNat : Int) := rfl
  have hE : (x.toNat : Int).toNat.toUInt8 = x := by simp
  rw [hE] at hx
  generalize (⟨#[x]⟩ : ByteArray) = sub at *
  generalize (x.toNat : Int) = c at *
  go_enter Tryd.func54, Tryd.ntmps54
  go_wp2
  go_ret
  exact ⟨rfl, rfl⟩
end Go.Proofs.YtjjaocoahepdaaaDoor.By
