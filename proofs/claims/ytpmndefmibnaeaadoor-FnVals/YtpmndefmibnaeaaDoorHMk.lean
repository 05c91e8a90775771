/-
  What 'make' does for whole numbers and for accesses, for this seat's proofs. No statement is proved here.
-/
import Derived.Test.YtpmndefmibnaeaaDoorRows
import Derived.Test.YtpmndefmibnaeaaDoorHBase
import Derived.WalkKit
import Derived.ProofKit
import Derived.WalkSpells
import Derived.RegionTactic
import Derived.Deep.QuietTactic
import Derived.BigQuiet
namespace Go.Proofs.YtpmndefmibnaeaaDoor.By
open Go.RowKit
set_option linter.unusedVariables false

theorem infoI : (Tryd.prog.info? 3).map (fun i => (i.zero, i.size, i.bytes)) = some (some (.int .i64 0), 1, 8) := by kernel_rfl

/-- 'make([]int, n)'. -/
theorem makeI (n : Nat) (hn : n ≤ 4194304) (w : World) : (Instr.makeSlice 65 (.int .i64 (n : Int)) (.int .i64 (n : Int))).run Tryd.prog w = .ok (.slice (some ⟨w.heap.size, 0, none⟩) n n) (w.alloc (.cells (madeCells #[.int .i64 0] n) 3)) := by
  obtain ⟨i0, hi, hz0, hz1, hz2⟩ := info_parts infoI
  have h := run_make (P := Tryd.prog) (w := w) 65 3 i0 (.int .i64 0) Tryd.underlying65 hi hz0 .i64 .i64 (n : Int) (n : Int) (by omega) (by omega) (by rw [hz2]; omega) (by omega)
  rw [hz1] at h
  simpa [Value.cells] using h
theorem makeI0 (w : World) : (Instr.makeSlice 65 (.int .i64 0) (.int .i64 0)).run Tryd.prog w = .ok (.slice (some ⟨w.heap.size, 0, none⟩) 0 0) (w.alloc (.cells (madeCells #[.int .i64 0] 0) 3)) := makeI 0 (by omega) w

theorem madeI_row (w : World) (n : Nat) : RowI (w.alloc (.cells (madeCells #[.int .i64 0] n) 3)) 3 w.heap.size n (List.replicate n 0) := by
  refine ⟨_, heap_alloc_new w _, ?_, ?_, by simp⟩
  · have := congrArg List.length (toList_madeCells_one (.int .i64 0) n); simpa using this
  · rw [toList_madeCells_one]; simp [valsI]

end Go.Proofs.YtpmndefmibnaeaaDoor.By
