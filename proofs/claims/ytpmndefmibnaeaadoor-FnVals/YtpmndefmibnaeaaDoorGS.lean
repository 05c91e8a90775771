/-
  How great rows and trees are, as the law counts: by their contracts. No statement is proved here.
-/
import Derived.Test.YtpmndefmibnaeaaDoorGI
import Derived.Test.YtpmndefmibnaeaaDoorTLaw
namespace Go.Proofs.YtpmndefmibnaeaaDoor.By
open Go.RowKit
set_option linter.unusedVariables false
set_option linter.unusedSimpArgs false

def SzW (L : Int) (t : Nat) (e : Ending) : Prop := ∃ r, e = .returned (.int .i64 r) ∧ (r = -1 ∨ (0 ≤ r ∧ r + t ≤ L))

set_option maxHeartbeats 400000 in
theorem szByW (a : Option Addr) (n c : Nat) (zs : List Int) (L : Int) (w : World) (h : RdB w a n zs) (h0 : 0 ≤ L) (h1 : L ≤ 1048576) :
    Calls Tryd.prog 20 #[.slice a n c, .int .i64 L] w fun e u => SzW L zs.length e ∧ w.grownBy u none := by
  have hn := h.2.2
  have hl := h.1.1
  clear h
  by_cases hneg : L - (n : Int) < 0
  · go_enter Tryd.func20, Tryd.ntmps20
    go_wp2
    go_ret
    exact ⟨⟨-1, rfl, .inl rfl⟩, World.grownBy.refl _ _⟩
  · go_enter Tryd.func20, Tryd.ntmps20
    go_wp2
    go_ret
    exact ⟨⟨_, rfl, .inr ⟨by omega, by omega⟩⟩, World.grownBy.refl _ _⟩

end Go.Proofs.YtpmndefmibnaeaaDoor.By
