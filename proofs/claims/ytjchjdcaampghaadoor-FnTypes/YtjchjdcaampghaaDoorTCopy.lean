/-
  The law's own copy of a tree by its contract, for this seat's proofs. No statement is proved here.
-/
import Derived.Test.YtjchjdcaampghaaDoorTHelp
import Derived.Test.YtjchjdcaampghaaDoorTOwn
namespace Go.Proofs.YtjchjdcaampghaaDoor.By
open Go.RowKit
set_option linter.unusedVariables false

theorem infoT : (Tryd.prog.info? 25).map (fun i => (i.zero, i.size, i.bytes)) = some (some (.agg #[.int .i64 0, .int .i64 0, .slice none 0 0]), 3, 40) := by kernel_rfl
/-- 'make([]impl.Ty, n)'. -/
theorem makeT (n : Nat) (hn : n ≤ 4194304) (w : World) : (Instr.makeSlice 23 (.int .i64 (n : Int)) (.int .i64 (n : Int))).run Tryd.prog w = .ok (.slice (some ⟨w.heap.size, 0, none⟩) n n) (w.alloc (.cells (madeCells #[.int .i64 0, .int .i64 0, .slice none 0 0] (n * 3)) 25)) := by
  obtain ⟨i0, hi, hz0, hz1, hz2⟩ := info_parts infoT
  have h := run_make (P := Tryd.prog) (w := w) 23 25 i0 _ Tryd.underlying23 hi hz0 .i64 .i64 (n : Int) (n : Int) (by omega) (by omega) (by rw [hz2]; omega) (by omega)
  rw [hz1] at h
  simpa [Value.cells] using h
theorem makeT0 (w : World) : (Instr.makeSlice 23 (.int .i64 0) (.int .i64 0)).run Tryd.prog w = .ok (.slice (some ⟨w.heap.size, 0, none⟩) 0 0) (w.alloc (.cells (madeCells #[.int .i64 0, .int .i64 0, .slice none 0 0] 0) 25)) := makeT 0 (by omega) w
theorem madeT_blk (w : World) (n : Nat) : Blk (w.alloc (.cells (madeCells #[.int .i64 0, .int .i64 0, .slice none 0 0] (n * 3)) 25)) 25 w.heap.size n := by
  refine ⟨_, heap_alloc_new w _, ?_⟩
  simp [madeCells]

end Go.Proofs.YtjchjdcaampghaaDoor.By
