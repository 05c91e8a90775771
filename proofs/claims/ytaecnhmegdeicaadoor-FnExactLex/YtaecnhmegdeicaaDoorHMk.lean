/-
  What 'make' does for whole numbers and for accesses, for this seat's proofs. No statement is proved here.
-/
import Derived.Test.YtaecnhmegdeicaaDoorRows
import Derived.Test.YtaecnhmegdeicaaDoorHBase
import Derived.WalkKit
import Derived.ProofKit
import Derived.WalkSpells
import Derived.RegionTactic
import Derived.Deep.QuietTactic
import Derived.BigQuiet
namespace Go.Proofs.YtaecnhmegdeicaaDoor.By
open Go.RowKit
set_option linter.unusedVariables false

theorem infoI : (Tryd.prog.info? 3).map (fun i => (i.zero, i.size, i.bytes)) = some (some (.int .i64 0), 1, 8) := by kernel_rfl

theorem madeI_row (w : World) (n : Nat) : RowI (w.alloc (.cells (madeCells #[.int .i64 0] n) 3)) 3 w.heap.size n (List.replicate n 0) := by
  refine ⟨_, heap_alloc_new w _, ?_, ?_, by simp⟩
  · have := congrArg List.length (toList_madeCells_one (.int .i64 0) n); simpa using this
  · rw [toList_madeCells_one]; simp [valsI]

end Go.Proofs.YtaecnhmegdeicaaDoor.By
