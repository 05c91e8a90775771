/-
  Several texts in one (THelp, TCopy, TEq, TLaw, GS, HMk). No statement is proved here.
-/
import Derived.Test.YtccnninmkfhejaaRows
import Derived.Test.YtccnninmkfhejaaTOpenAlso
import Derived.WalkKit
import Derived.ProofKit
import Derived.WalkSpells
import Derived.RegionTactic
import Derived.Deep.QuietTactic
import Derived.BigQuiet
import Derived.Deep.RegionWith
import Derived.Handy
import Derived.Test.YtccnninmkfhejaaTOwn
import Derived.Deep.RegionHeld
import Derived.Test.YtccnninmkfhejaaEObAlso
import Derived.Test.YtccnninmkfhejaaHBase
namespace Go.Proofs.Ytccnninmkfhejaa.By
open Go.RowKit
set_option linter.unusedVariables false

/-- What is left of L behind all of f. -/
def szV (f : F) (L : Int) : Int := if (f.size : Int) ≤ L then L - f.size else -1

/-- The same, where the trees of R themselves are counted already. -/
def szR (R : F) (L : Int) : Int := if (R.size : Int) - R.len ≤ L then L - (R.size - R.len) else -1
theorem szR_nil {L : Int} (h : 0 ≤ L) : szR .nil L = L := by
  have : szR .nil L = if (0 : Int) ≤ L then L - 0 else -1 := rfl
  rw [this, if_pos h, Int.sub_zero]
theorem szR_all {f : F} {L : Int} {l : Nat} (h : f.len = l) : szV f L = szR f (L - l) := by
  unfold szV szR
  by_cases hs : (f.size : Int) ≤ L
  · rw [if_pos hs, if_pos (by omega)]; omega
  · rw [if_neg hs, if_neg (by omega)]
theorem szR_cons {k n : Int} {d r : F} {L : Int} (h : (d.size : Int) ≤ L) : szR (.cons k n d r) L = szR r (L - d.size) := by
  unfold szR
  have e1 : ((F.cons k n d r).size : Int) = 1 + d.size + r.size := by simp [F.size]
  have e2 : ((F.cons k n d r).len : Int) = r.len + 1 := by simp [F.len]
  rw [e1, e2]
  by_cases hq : (r.size : Int) - r.len ≤ L - d.size
  · rw [if_pos (by omega), if_pos hq]; omega
  · rw [if_neg (by omega), if_neg hq]
theorem szR_less {k n : Int} {d r : F} {L : Int} (h : ¬ (d.size : Int) ≤ L) : szR (.cons k n d r) L = -1 := by
  have := r.len_le
  unfold szR
  have e1 : ((F.cons k n d r).size : Int) = 1 + d.size + r.size := by simp [F.size]
  have e2 : ((F.cons k n d r).len : Int) = r.len + 1 := by simp [F.len]
  rw [e1, e2, if_neg (by omega)]

end Go.Proofs.Ytccnninmkfhejaa.By

namespace Go.Proofs.Ytccnninmkfhejaa.By
open Go.RowKit
set_option linter.unusedVariables false

end Go.Proofs.Ytccnninmkfhejaa.By

namespace Go.Proofs.Ytccnninmkfhejaa.By
open Go.RowKit
set_option linter.unusedVariables false
set_option linter.unusedSimpArgs false

/-- Three cells from off on. -/
def Tri (b off : Nat) (v0 v1 v2 : Value) (w : World) : Prop := w.cell? ⟨b, off, none⟩ = some v0 ∧ w.cell? ⟨b, off + 1, none⟩ = some v1 ∧ w.cell? ⟨b, off + 2, none⟩ = some v2
theorem Tri.none {b off : Nat} {v0 v1 v2 : Value} {w w' : World} (h : Tri b off v0 v1 v2 w) (hg : w.grownBy w' Option.none) : Tri b off v0 v1 v2 w' :=
  ⟨hg.cell h.1 (by simp), hg.cell h.2.1 (by simp), hg.cell h.2.2 (by simp)⟩

end Go.Proofs.Ytccnninmkfhejaa.By

namespace Go.Proofs.Ytccnninmkfhejaa.By
open Go.RowKit
set_option linter.unusedVariables false

end Go.Proofs.Ytccnninmkfhejaa.By

namespace Go.Proofs.Ytccnninmkfhejaa.By
open Go.RowKit
set_option linter.unusedVariables false
set_option linter.unusedSimpArgs false

def SzW (L : Int) (t : Nat) (e : Ending) : Prop := ∃ r, e = .returned (.int .i64 r) ∧ (r = -1 ∨ (0 ≤ r ∧ r + t ≤ L))

set_option maxHeartbeats 400000 in
theorem szByW (a : Option Addr) (n c : Nat) (zs : List Int) (L : Int) (w : World) (h : RdB w a n zs) (h0 : 0 ≤ L) (h1 : L ≤ 1048576) :
    Calls Try.prog 78 #[.slice a n c, .int .i64 L] w fun e u => SzW L zs.length e ∧ w.grownBy u none := by
  have hn := h.2.2
  have hl := h.1.1
  clear h
  by_cases hneg : L - (n : Int) < 0
  · go_enter Try.func78, Try.ntmps78
    go_wp2
    go_ret
    exact ⟨⟨-1, rfl, .inl rfl⟩, World.grownBy.refl _ _⟩
  · go_enter Try.func78, Try.ntmps78
    go_wp2
    go_ret
    exact ⟨⟨_, rfl, .inr ⟨by omega, by omega⟩⟩, World.grownBy.refl _ _⟩

set_option maxHeartbeats 400000 in
theorem szInW (a : Option Addr) (n c : Nat) (zs : List Int) (L : Int) (w : World) (h : RdI w a n zs) (h0 : 0 ≤ L) (h1 : L ≤ 1048576) :
    Calls Try.prog 34 #[.slice a n c, .int .i64 L] w fun e u => SzW L zs.length e ∧ w.grownBy u none := by
  have hn := h.2
  have hl := h.1.1
  clear h
  by_cases hneg : L - (n : Int) < 0
  · go_enter Try.func34, Try.ntmps34
    go_wp2
    go_ret
    exact ⟨⟨-1, rfl, .inl rfl⟩, World.grownBy.refl _ _⟩
  · go_enter Try.func34, Try.ntmps34
    go_wp2
    go_ret
    exact ⟨⟨_, rfl, .inr ⟨by omega, by omega⟩⟩, World.grownBy.refl _ _⟩

end Go.Proofs.Ytccnninmkfhejaa.By

namespace Go.Proofs.Ytccnninmkfhejaa.By
open Go.RowKit
set_option linter.unusedVariables false

theorem infoI : (Try.prog.info? 3).map (fun i => (i.zero, i.size, i.bytes)) = some (some (.int .i64 0), 1, 8) := by kernel_rfl

/-- 'make([]int, n)'. -/
theorem makeI (n : Nat) (hn : n ≤ 4194304) (w : World) : (Instr.makeSlice 23 (.int .i64 (n : Int)) (.int .i64 (n : Int))).run Try.prog w = .ok (.slice (some ⟨w.heap.size, 0, none⟩) n n) (w.alloc (.cells (madeCells #[.int .i64 0] n) 3)) := by
  obtain ⟨i0, hi, hz0, hz1, hz2⟩ := info_parts infoI
  have h := run_make (P := Try.prog) (w := w) 23 3 i0 (.int .i64 0) Try.underlying23 hi hz0 .i64 .i64 (n : Int) (n : Int) (by omega) (by omega) (by rw [hz2]; omega) (by omega)
  rw [hz1] at h
  simpa [Value.cells] using h
theorem makeI0 (w : World) : (Instr.makeSlice 23 (.int .i64 0) (.int .i64 0)).run Try.prog w = .ok (.slice (some ⟨w.heap.size, 0, none⟩) 0 0) (w.alloc (.cells (madeCells #[.int .i64 0] 0) 3)) := makeI 0 (by omega) w

theorem madeI_row (w : World) (n : Nat) : RowI (w.alloc (.cells (madeCells #[.int .i64 0] n) 3)) 3 w.heap.size n (List.replicate n 0) := by
  refine ⟨_, heap_alloc_new w _, ?_, ?_, by simp⟩
  · have := congrArg List.length (toList_madeCells_one (.int .i64 0) n); simpa using this
  · rw [toList_madeCells_one]; simp [valsI]

end Go.Proofs.Ytccnninmkfhejaa.By
