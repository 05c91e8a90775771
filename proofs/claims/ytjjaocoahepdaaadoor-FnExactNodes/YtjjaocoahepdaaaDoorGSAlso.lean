/-
  Several texts in one (TEq, TLaw, GS). No statement is proved here.
-/
import Derived.Test.YtjjaocoahepdaaaDoorTHelpAlso
import Derived.Deep.RegionHeld
import Derived.Test.YtjjaocoahepdaaaDoorTCopy
import Derived.Test.YtjjaocoahepdaaaDoorGI
namespace Go.Proofs.YtjjaocoahepdaaaDoor.By
open Go.RowKit
set_option linter.unusedVariables false
set_option linter.unusedSimpArgs false

/-- Three cells from off on. -/
def Tri (b off : Nat) (v0 v1 v2 : Value) (w : World) : Prop := w.cell? ⟨b, off, none⟩ = some v0 ∧ w.cell? ⟨b, off + 1, none⟩ = some v1 ∧ w.cell? ⟨b, off + 2, none⟩ = some v2
theorem Tri.none {b off : Nat} {v0 v1 v2 : Value} {w w' : World} (h : Tri b off v0 v1 v2 w) (hg : w.grownBy w' Option.none) : Tri b off v0 v1 v2 w' :=
  ⟨hg.cell h.1 (by simp), hg.cell h.2.1 (by simp), hg.cell h.2.2 (by simp)⟩

end Go.Proofs.YtjjaocoahepdaaaDoor.By

namespace Go.Proofs.YtjjaocoahepdaaaDoor.By
open Go.RowKit
set_option linter.unusedVariables false

end Go.Proofs.YtjjaocoahepdaaaDoor.By

namespace Go.Proofs.YtjjaocoahepdaaaDoor.By
open Go.RowKit
set_option linter.unusedVariables false
set_option linter.unusedSimpArgs false

def SzW (L : Int) (t : Nat) (e : Ending) : Prop := ∃ r, e = .returned (.int .i64 r) ∧ (r = -1 ∨ (0 ≤ r ∧ r + t ≤ L))

set_option maxHeartbeats 400000 in
theorem szByW (a : Option Addr) (n c : Nat) (zs : List Int) (L : Int) (w : World) (h : RdB w a n zs) (h0 : 0 ≤ L) (h1 : L ≤ 1048576) :
    Calls Tryd.prog 9 #[.slice a n c, .int .i64 L] w fun e u => SzW L zs.length e ∧ w.grownBy u none := by
  have hn := h.2.2
  have hl := h.1.1
  clear h
  by_cases hneg : L - (n : Int) < 0
  · go_enter Tryd.func9, Tryd.ntmps9
    go_wp2
    go_ret
    exact ⟨⟨-1, rfl, .inl rfl⟩, World.grownBy.refl _ _⟩
  · go_enter Tryd.func9, Tryd.ntmps9
    go_wp2
    go_ret
    exact ⟨⟨_, rfl, .inr ⟨by omega, by omega⟩⟩, World.grownBy.refl _ _⟩

end Go.Proofs.YtjjaocoahepdaaaDoor.By
