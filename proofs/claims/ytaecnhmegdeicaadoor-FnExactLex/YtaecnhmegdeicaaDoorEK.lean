/-
  Key words and names, bytes compared: by their contracts. No statement is proved here.
-/
import Derived.Test.YtaecnhmegdeicaaDoorEK0
import Derived.Laws.DeepStrings4
import Derived.BigQuiet
import Derived.Deep.RegionHeld
namespace Go.Proofs.YtaecnhmegdeicaaDoor.By
open Go.RowKit
set_option linter.unusedVariables false
set_option linter.unusedSimpArgs false

theorem toL_beq (s t : ByteArray) : (s.toList == t.toList) = decide (s = t) := by
  by_cases h : s = t
  · simp [h]
  · have : ¬ s.toList = t.toList := fun e => h (by
      rw [ByteArray.toList_eq, ByteArray.toList_eq] at e
      exact ByteArray.ext (Array.toList_inj.mp e))
    simp [h, this]

set_option maxHeartbeats 1000000 in
theorem l5isT (a : Option Addr) (n c : Nat) (xs : List Int) (t : ByteArray) (w : World) (h : RdB w a n xs) :
    Calls Tryd.prog 15 #[.slice a n c, .string t] w fun e u => e = .returned (.bool (decide (strOfNums xs = t))) ∧ w.grownBy u none := by
  have h1 : (convert 22 9 (.slice a n c)).run Tryd.prog w = .ok (.string (strOfNums xs)) w := conv_run h.1
  clear h
  generalize strOfNums xs = s at *
  go_enter Tryd.func15, Tryd.ntmps15
  go_wp2
  go_ret
  refine ⟨?_, World.grownBy.refl _ _⟩
  rw [← toL_beq]
  rfl

/-- The program's own row of key words. -/
def kwS : ByteArray := { data := (([102, 110, 32, 108, 101, 116, 32, 114, 101, 99, 32, 105, 102, 32, 112, 97, 105, 114, 32, 102, 115, 116, 32, 115, 110, 100, 32, 114, 101, 102, 32, 114, 101].append [97, 100, 32, 119, 114, 105, 116, 101, 32, 109, 97, 116, 99, 104, 32, 114, 97, 105, 115, 101, 32, 116, 114, 121, 32, 97, 100, 100, 32, 115, 117, 98, 32, 109]).append ([117, 108, 32, 108, 101, 115, 115, 32, 115, 97, 109, 101, 32, 99, 97, 116, 32, 108, 101, 110, 32, 112, 114, 105, 110, 116, 32, 116, 105, 99, 107, 32, 100, 114].append [97, 119, 32, 103, 101, 116, 32, 112, 117, 116, 32, 100, 97, 116, 97, 32, 117, 110, 105, 116, 32, 105, 110, 116, 32, 116, 101, 120, 116, 32, 102, 117, 110, 32])).toArray }
theorem kwS_eq : strOfNums kwL = kwS := by kernel_rfl
theorem kwL_len : kwL.length = 135 := by kernel_rfl

/-- A name. -/
def nameV (zs : List Int) : Bool := wordV 97 122 zs && !keyV zs

end Go.Proofs.YtaecnhmegdeicaaDoor.By
