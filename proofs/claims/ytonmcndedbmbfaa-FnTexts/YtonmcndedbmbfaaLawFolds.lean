/-
  The walk of the law FnFolds. The statement is proved in the text that imports this one.
-/
import Derived.Test.YtonmcndedbmbfaaDrawN
namespace Go.Proofs.Ytonmcndedbmbfaa.By
open Go.RowKit
set_option linter.unusedVariables false

theorem grown_below {w w' : World} (h : Below w.heap.size w w') : w.grownBy w' none := ⟨h.os, h.tape, h.output, h.size, fun k hk _ => h.block k hk⟩

end Go.Proofs.Ytonmcndedbmbfaa.By
