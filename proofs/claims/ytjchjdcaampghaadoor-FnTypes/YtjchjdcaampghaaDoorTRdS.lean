/-
  The specification's reading of a tree, by its contract. No statement is proved here.
-/
import Derived.Test.YtjchjdcaampghaaDoorTRd
import Derived.Test.YtjchjdcaampghaaDoorGet
import Derived.Test.YtjchjdcaampghaaDoorTSubF
import Derived.Deep.DeepCutAuto
import Derived.Deep.CutBlock
namespace Go.Proofs.YtjchjdcaampghaaDoor.By
open Go.RowKit
set_option linter.unusedVariables false
set_option linter.unusedSimpArgs false

/-- A tree and a place are handed back, in memory of their own. -/
def RdP (w : World) (R : Int × Int × F × Int) (e : Ending) (u : World) : Prop := ∃ a' l' c' bs, e = .returned (.tuple #[.agg #[.int .i64 R.1, .int .i64 R.2.1, .slice a' l' c'], .int .i64 R.2.2.2]) ∧ w.grownBy u none ∧ New w u 25 a' l' c' R.2.2.1 bs

end Go.Proofs.YtjchjdcaampghaaDoor.By
