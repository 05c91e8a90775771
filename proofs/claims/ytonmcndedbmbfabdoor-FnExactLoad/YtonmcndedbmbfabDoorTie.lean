/-
  DERIVED. GIVEN WITH THE SEED: THE PROGRAM's TIES (one call each: nine closed facts by the kernel) AND EACH ROW's TIE, after the 31st guide's Derived/Test/Toyas{Tie, Card}.lean. No idea stands in it: it is a product of the set-up. Laid BY PROGRAM, IN A SANDBOX (cutbox-door.mjs). By AI agents, Wed Nov 11 2026. No macro, syntax, notation, axiom, sorry.
-/
import Derived.Test.YtonmcndedbmbfabDoorRows
import Derived.LaidByTextLater
import Derived.SevenTiedAt
import Derived.LaidSub
import Derived.LaidOnce
namespace Go.Proofs.YtonmcndedbmbfabDoor
open Go
set_option maxRecDepth 100000
theorem seatTie1 : Tryd.prog.laidByTextLater [("loop.example/g00293/impl.errNoRoom", Rows.laid_loop_example_g00293_impl_errNoRoom), ("loop.example/g00293/impl.errOutside", Rows.laid_loop_example_g00293_impl_errOutside)] [.sentinel, .sentinel] true :=
  Program.laidByTextLater_by_one 47 8 2 (by kernel_rfl) (by kernel_rfl) (by kernel_rfl) (by kernel_rfl) (by kernel_rfl) (by kernel_rfl) (fun _ _ => by kernel_rfl)
theorem noOwnUnsafe : Tryd.pinned.checked.prog.headLifts.contains "ownunsafe" = false := by kernel_rfl
theorem tie : Tryd.prog.laidByTextLater [("loop.example/g00293/impl.errNoRoom", Rows.laid_loop_example_g00293_impl_errNoRoom)] [.sentinel] true :=
  Program.laidByTextLater.sub seatTie1 ["loop.example/g00293/impl.errNoRoom"] (by kernel_rfl) (by kernel_rfl)
theorem fnExactAlloc_row_tie : Rows.fnExactAllocRow.laidByTextAt .later Tryd.pinned [.sentinel] true :=
  OpenClaim.laidByTextAt_later rfl rfl tie noOwnUnsafe
theorem tie2 : Tryd.prog.laidByTextLater [("loop.example/g00293/impl.errOutside", Rows.laid_loop_example_g00293_impl_errOutside)] [.sentinel] true :=
  Program.laidByTextLater.sub seatTie1 ["loop.example/g00293/impl.errOutside"] (by kernel_rfl) (by kernel_rfl)
theorem fnExactLoad_row_tie : Rows.fnExactLoadRow.laidByTextAt .later Tryd.pinned [.sentinel] true :=
  OpenClaim.laidByTextAt_later rfl rfl tie2 noOwnUnsafe
theorem fnExactStore_row_tie : Rows.fnExactStoreRow.laidByTextAt .later Tryd.pinned [.sentinel] true :=
  OpenClaim.laidByTextAt_later rfl rfl tie2 noOwnUnsafe
theorem fnExactAllocUpto_row_tie : Rows.fnExactAllocUptoRow.laidByTextAt .later Tryd.pinned [.sentinel] true :=
  OpenClaim.laidByTextAt_later rfl rfl tie noOwnUnsafe
theorem fnExactLoadUpto_row_tie : Rows.fnExactLoadUptoRow.laidByTextAt .later Tryd.pinned [.sentinel] true :=
  OpenClaim.laidByTextAt_later rfl rfl tie2 noOwnUnsafe
theorem fnExactStoreUpto_row_tie : Rows.fnExactStoreUptoRow.laidByTextAt .later Tryd.pinned [.sentinel] true :=
  OpenClaim.laidByTextAt_later rfl rfl tie2 noOwnUnsafe
end Go.Proofs.YtonmcndedbmbfabDoor
