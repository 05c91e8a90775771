/-
  Contracts of the law's own helpers for trees (how large, a copy, the same), for this seat's proofs. No statement is proved here.
-/
import Derived.Test.YtpmndefmibnaeaaDoorRows
import Derived.Test.YtpmndefmibnaeaaDoorTBase
import Derived.WalkKit
import Derived.ProofKit
import Derived.WalkSpells
import Derived.RegionTactic
import Derived.Deep.QuietTactic
import Derived.BigQuiet
import Derived.Deep.RegionWith
import Derived.Handy
namespace Go.Proofs.YtpmndefmibnaeaaDoor.By
open Go.RowKit
set_option linter.unusedVariables false

/-- What is left of L behind all of f. -/
def szV (f : F) (L : Int) : Int := if (f.size : Int) ≤ L then L - f.size else -1

/-- The same, where the trees of R themselves are counted already. -/
def szR (R : F) (L : Int) : Int := if (R.size : Int) - R.len ≤ L then L - (R.size - R.len) else -1
theorem szR_nil {L : Int} (h : 0 ≤ L) : szR .nil L = L := by
  have : szR .nil L = if (0 : Int) ≤ L then L - 0 else -1 := rfl
  rw [this, if_pos h, Int.sub_zero]
theorem szR_all {f : F} {L : Int} {l : Nat} (h : f.len = l) : szV f L = szR f (L - l) := by
  unfold szV szR
  by_cases hs : (f.size : Int) ≤ L
  · rw [if_pos hs, if_pos (by omega)]; omega
  · rw [if_neg hs, if_neg (by omega)]
theorem szR_cons {k n : Int} {d r : F} {L : Int} (h : (d.size : Int) ≤ L) : szR (.cons k n d r) L = szR r (L - d.size) := by
  unfold szR
  have e1 : ((F.cons k n d r).size : Int) = 1 + d.size + r.size := by simp [F.size]
  have e2 : ((F.cons k n d r).len : Int) = r.len + 1 := by simp [F.len]
  rw [e1, e2]
  by_cases hq : (r.size : Int) - r.len ≤ L - d.size
  · rw [if_pos (by omega), if_pos hq]; omega
  · rw [if_neg (by omega), if_neg hq]
theorem szR_less {k n : Int} {d r : F} {L : Int} (h : ¬ (d.size : Int) ≤ L) : szR (.cons k n d r) L = -1 := by
  have := r.len_le
  unfold szR
  have e1 : ((F.cons k n d r).size : Int) = 1 + d.size + r.size := by simp [F.size]
  have e2 : ((F.cons k n d r).len : Int) = r.len + 1 := by simp [F.len]
  rw [e1, e2, if_neg (by omega)]

end Go.Proofs.YtpmndefmibnaeaaDoor.By
