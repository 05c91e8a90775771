/-
  Two slices that read alike are the same bytes. No statement is proved here.
-/
import Derived.Test.YtjchjdcaampghaaDoorMk
import Derived.Laws.BytesArg
namespace Go.Proofs.YtjchjdcaampghaaDoor.By
open Go.RowKit
set_option linter.unusedVariables false

/-- An address without a spot, or none. -/
def Plain (a : Option Addr) : Prop := a = none ∨ ∃ b off, a = some ⟨b, off, none⟩
theorem conv_run (w : World) (a : Option Addr) (n cap : Nat) (zs : List Int) (h : Reads w a n zs) (ha : Plain a) : (convert 22 9 (.slice a n cap)).run Tryd.prog w = .ok (.string (strOfNums zs)) w := by
  obtain ⟨hl, h⟩ := h
  rcases ha with rfl | ⟨b, off, rfl⟩
  · rcases h with h | ⟨_, _, h, _⟩
    · subst h
      obtain rfl : zs = [] := List.eq_nil_of_length_eq_zero hl
      exact run_convert_bytes_nil w 22 5 Tryd.underlying22 Tryd.underlying5 0 cap 9 Tryd.underlying9
    · cases h
  · refine run_convert_bytes_arg w 22 5 Tryd.underlying22 Tryd.underlying5 b off n cap zs hl ?_ 9 Tryd.underlying9
    intro i hi
    rcases h with h | ⟨b', off', h, hc⟩
    · omega
    · cases h; exact hc i hi

set_option maxHeartbeats 400000 in
theorem sameT (a a' : Option Addr) (n cap cap' : Nat) (zs : List Int) (w : World) (h : Reads w a n zs) (h' : Reads w a' n zs) (ha : Plain a) (ha' : Plain a') :
    Calls Tryd.prog 12 #[.slice a n cap, .slice a' n cap'] w fun e w' => e = .returned (.bool true) ∧ w' = w := by
  have c1 := conv_run w a n cap zs h ha
  have c2 := conv_run w a' n cap' zs h' ha'
  clear h h' ha ha'
  generalize strOfNums zs = s at *
  go_enter Tryd.func12, Tryd.ntmps12
  go_wp2
  go_ret
  exact ⟨rfl, rfl⟩
end Go.Proofs.YtjchjdcaampghaaDoor.By
