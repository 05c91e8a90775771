/-
  Several texts in one (Mk, THelp). No statement is proved here.
-/
import Derived.Test.YtjjaocoahepdaaaDoorRows
import Derived.Test.YtjjaocoahepdaaaDoorBase
import Derived.WalkKit
import Derived.ProofKit
import Derived.WalkSpells
import Derived.RegionTactic
import Derived.Deep.QuietTactic
import Derived.BigQuiet
import Derived.Test.YtjjaocoahepdaaaDoorTBase
import Derived.Deep.RegionWith
import Derived.Handy
namespace Go.Proofs.YtjjaocoahepdaaaDoor.By
open Go.RowKit
set_option linter.unusedVariables false

theorem info5 : (Tryd.prog.info? 5).map (fun i => (i.zero, i.size, i.bytes)) = some (some (.int .u8 0), 1, 1) := by kernel_rfl

/-- 'make([]byte, n)'. -/
theorem make_run (n : Nat) (hn : n ≤ 4194304) (w : World) : (Instr.makeSlice 22 (.int .i64 (n : Int)) (.int .i64 (n : Int))).run Tryd.prog w = .ok (.slice (some ⟨w.heap.size, 0, none⟩) n n) (w.alloc (.cells (madeCells #[.int .u8 0] n) 5)) := by
  obtain ⟨i0, hi, hz0, hz1, hz2⟩ := info_parts info5
  have h := run_make (P := Tryd.prog) (w := w) 22 5 i0 (.int .u8 0) Tryd.underlying22 hi hz0 .i64 .i64 (n : Int) (n : Int) (by omega) (by omega) (by rw [hz2]; omega) (by omega)
  rw [hz1] at h
  simpa [Value.cells] using h

theorem make_run0 (w : World) : (Instr.makeSlice 22 (.int .i64 0) (.int .i64 0)).run Tryd.prog w = .ok (.slice (some ⟨w.heap.size, 0, none⟩) 0 0) (w.alloc (.cells (madeCells #[.int .u8 0] 0) 5)) := make_run 0 (by omega) w
end Go.Proofs.YtjjaocoahepdaaaDoor.By

namespace Go.Proofs.YtjjaocoahepdaaaDoor.By
open Go.RowKit
set_option linter.unusedVariables false

/-- What is left of L behind all of f. -/
def szV (f : F) (L : Int) : Int := if (f.size : Int) ≤ L then L - f.size else -1

/-- The same, where the trees of R themselves are counted already. -/
def szR (R : F) (L : Int) : Int := if (R.size : Int) - R.len ≤ L then L - (R.size - R.len) else -1
theorem szR_nil {L : Int} (h : 0 ≤ L) : szR .nil L = L := by
  have : szR .nil L = if (0 : Int) ≤ L then L - 0 else -1 := rfl
  rw [this, if_pos h, Int.sub_zero]
theorem szR_all {f : F} {L : Int} {l : Nat} (h : f.len = l) : szV f L = szR f (L - l) := by
  unfold szV szR
  by_cases hs : (f.size : Int) ≤ L
  · rw [if_pos hs, if_pos (by omega)]; omega
  · rw [if_neg hs, if_neg (by omega)]
theorem szR_cons {k n : Int} {d r : F} {L : Int} (h : (d.size : Int) ≤ L) : szR (.cons k n d r) L = szR r (L - d.size) := by
  unfold szR
  have e1 : ((F.cons k n d r).size : Int) = 1 + d.size + r.size := by simp [F.size]
  have e2 : ((F.cons k n d r).len : Int) = r.len + 1 := by simp [F.len]
  rw [e1, e2]
  by_cases hq : (r.size : Int) - r.len ≤ L - d.size
  · rw [if_pos (by omega), if_pos hq]; omega
  · rw [if_neg (by omega), if_neg hq]
theorem szR_less {k n : Int} {d r : F} {L : Int} (h : ¬ (d.size : Int) ≤ L) : szR (.cons k n d r) L = -1 := by
  have := r.len_le
  unfold szR
  have e1 : ((F.cons k n d r).size : Int) = 1 + d.size + r.size := by simp [F.size]
  have e2 : ((F.cons k n d r).len : Int) = r.len + 1 := by simp [F.len]
  rw [e1, e2, if_neg (by omega)]

end Go.Proofs.YtjjaocoahepdaaaDoor.By
