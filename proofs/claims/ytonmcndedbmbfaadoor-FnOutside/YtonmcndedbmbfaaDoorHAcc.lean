/-
  Contracts of the law's own helpers for accesses, for this seat's proofs. No statement is proved here.
-/
import Derived.Test.YtonmcndedbmbfaaDoorHHelp
import Derived.Deep.RegionWith
import Derived.Handy
namespace Go.Proofs.YtonmcndedbmbfaaDoor.By
open Go.RowKit
set_option linter.unusedVariables false

/-- Three cells that are read at once. -/
theorem threeC {w : World} {b off n : Nat} {zs : List Int} (hc : ∀ i, i < n * 3 → w.cell? ⟨b, off + i, none⟩ = some (.int .i64 (zs.getD i 0))) (k : Nat) (hk : k < n) :
    w.cell? ⟨b, off + k * 3, none⟩ = some (.int .i64 (zs.getD (k * 3) 0)) ∧ w.cell? ⟨b, off + k * 3 + 1, none⟩ = some (.int .i64 (zs.getD (k * 3 + 1) 0)) ∧ w.cell? ⟨b, off + k * 3 + 2, none⟩ = some (.int .i64 (zs.getD (k * 3 + 2) 0)) :=
  ⟨hc _ (by omega), by rw [Nat.add_assoc]; exact hc _ (by omega), by rw [Nat.add_assoc]; exact hc _ (by omega)⟩

theorem set3_step (zs : List Int) (n k : Nat) (hl : zs.length = n * 3) (hk : k < n) : (((zs.take (k * 3) ++ List.replicate (n * 3 - k * 3) 0).set (k * 3) (zs.getD (k * 3) 0)).set (k * 3 + 1) (zs.getD (k * 3 + 1) 0)).set (k * 3 + 2) (zs.getD (k * 3 + 2) 0) = zs.take ((k + 1) * 3) ++ List.replicate (n * 3 - (k + 1) * 3) 0 := by
  rw [set_step zs (n * 3) (k * 3) hl (by omega), set_step zs (n * 3) (k * 3 + 1) hl (by omega), set_step zs (n * 3) (k * 3 + 1 + 1) hl (by omega)]
  have e : k * 3 + 1 + 1 + 1 = (k + 1) * 3 := by omega
  rw [e]

end Go.Proofs.YtonmcndedbmbfaaDoor.By
