/-
  Several texts in one (TLaw, GS). No statement is proved here.
-/
import Derived.Test.YtaecnhmegdeicaaDoorTCopy
import Derived.Test.YtaecnhmegdeicaaDoorTEq
import Derived.Test.YtaecnhmegdeicaaDoorGI
namespace Go.Proofs.YtaecnhmegdeicaaDoor.By
open Go.RowKit
set_option linter.unusedVariables false

end Go.Proofs.YtaecnhmegdeicaaDoor.By

namespace Go.Proofs.YtaecnhmegdeicaaDoor.By
open Go.RowKit
set_option linter.unusedVariables false
set_option linter.unusedSimpArgs false

def SzW (L : Int) (t : Nat) (e : Ending) : Prop := ∃ r, e = .returned (.int .i64 r) ∧ (r = -1 ∨ (0 ≤ r ∧ r + t ≤ L))

end Go.Proofs.YtaecnhmegdeicaaDoor.By
