/-
  NARROWER THAN 'FOR EVERY INPUT', by the rows' own cells (each row's printed sentence says how): FnPlaces: ifaces, laid · FnOutside: ifaces, laid.
  DERIVED. THE GIVEN ROWS OF THIS SEAT. 2 by the template 'for every input the law returns true; each argument reads behind the call as it read before'; 0 by the template 'total and deterministic' (their statements: YtonmcndedbmbfaaDoorTotals.lean).
  GIVEN WITH THE SEED: the statements are not yours to turn. If you find one false, say at which input.
  Laid BY PROGRAM, IN A SANDBOX (cutbox-rows.mjs): the forced cells as the released guide's own fill.sh prints them over the translation 870b99803cb402eb… (all of the seat's roots in one cut). By AI agents, Wed Nov 11 2026. No macro, syntax, notation, axiom, sorry.
-/
import Derived.Test.YtonmcndedbmbfaaDoorChecked
import GoSem.Claim
import GoSem.ClaimJoined
import GoSem.ClaimMapViews
import Derived.JoinedTies
import Derived.KernelRfl
namespace Go.Proofs.YtonmcndedbmbfaaDoor
/- THE CELL 'sum', in the pinned program and in every row, IS THE sha256 OF THE DUMP (.gsa) THAT YtonmcndedbmbfaaDoorProg.lean LOADS. Nothing in Lean hashes anything: it is a label: what it is worth is what the hold of that sum in a sandbox is worth. -/
noncomputable def Tryd.pinned : Pinned := { name := "ytonmcndedbmbfaadoor", sum := "870b99803cb402eb7ad984fc53b9b248a61f12990e15d6d4d50d2a6a6008bce6", checked := Tryd.checked }
namespace Rows
def none {H : Type} : Left H := { results := [], args := [] }

/- WHAT THE LISTED PACKAGE-LEVEL VARIABLES READ AS WHEN THE CALL BEGINS. Each datum BY PROGRAM (the guide's laid-datum.mjs) off the statement by which the dump's own 'gosem.cut.vars' lays the variable. In a bare row this is a premise. The card (YtonmcndedbmbfaaDoorCards.lean) ties it to the program's text. -/
def laid_loop_example_g00293_impl_errNoRoom {H : Type} : DataW H := .iface "*errors.errorString" (.ptr (.agg [.lit (.string [110, 111, 32, 114, 111, 111, 109, 32, 102, 111, 114, 32, 115, 117, 99, 104, 32, 97, 32, 98, 108, 111, 99, 107])]))
def laid_loop_example_g00293_impl_errOutside {H : Type} : DataW H := .iface "*errors.errorString" (.ptr (.agg [.lit (.string [111, 117, 116, 115, 105, 100, 101, 32, 111, 102, 32, 119, 104, 97, 116, 32, 119, 97, 115, 32, 116, 97, 107, 101, 110])]))

/-- 'laws.FnPlaces': WHATEVER THE INPUT: true; the input reads as it did. -/
def fnPlacesSpec : ChangeSpec := { name := "fnPlaces", vars := ["loop.example/g00293/impl.errNoRoom", "loop.example/g00293/impl.errOutside"], fn := fun _ => fun
  | [d, g1, g2] => { results := [.lit (.bool true)], args := [d], vars := [g1, g2] }
  | _ => none }
def fnPlacesRow : OpenClaim := { program := "ytonmcndedbmbfaadoor", sum := "870b99803cb402eb7ad984fc53b9b248a61f12990e15d6d4d50d2a6a6008bce6", func := "loop.example/g00293/laws.FnPlaces", spec := "fnPlaces", inPlace := ["internal/reflectlite.TypeOf"], unfollowed := true, recurses := true, named := ["loop.example/g00293/impl.errNoRoom", "loop.example/g00293/impl.errOutside"], ifaces := true, apart := false, laid := [("loop.example/g00293/impl.errNoRoom", laid_loop_example_g00293_impl_errNoRoom), ("loop.example/g00293/impl.errOutside", laid_loop_example_g00293_impl_errOutside)] }
def FnPlacesSaid : Prop := fnPlacesRow.holds Tryd.pinned (OpenSpec.ofChange fnPlacesSpec)

/-- ITS FALSE NEIGHBOUR: 'it returns false'. Refute it at one input. -/
def fnPlacesWrong : ChangeSpec := { name := "fnPlaces", vars := ["loop.example/g00293/impl.errNoRoom", "loop.example/g00293/impl.errOutside"], fn := fun _ => fun
  | [d, g1, g2] => { results := [.lit (.bool false)], args := [d], vars := [g1, g2] }
  | _ => none }
def FnPlacesWrongFalsely : Prop := fnPlacesRow.holds Tryd.pinned (OpenSpec.ofChange fnPlacesWrong)

/-- 'laws.FnOutside': WHATEVER THE INPUT: true; the input reads as it did. -/
def fnOutsideSpec : ChangeSpec := { name := "fnOutside", vars := ["loop.example/g00293/impl.errOutside"], fn := fun _ => fun
  | [d, g1] => { results := [.lit (.bool true)], args := [d], vars := [g1] }
  | _ => none }
def fnOutsideRow : OpenClaim := { program := "ytonmcndedbmbfaadoor", sum := "870b99803cb402eb7ad984fc53b9b248a61f12990e15d6d4d50d2a6a6008bce6", func := "loop.example/g00293/laws.FnOutside", spec := "fnOutside", inPlace := ["internal/reflectlite.TypeOf"], unfollowed := true, recurses := true, named := ["loop.example/g00293/impl.errOutside"], ifaces := true, apart := false, laid := [("loop.example/g00293/impl.errOutside", laid_loop_example_g00293_impl_errOutside)] }
def FnOutsideSaid : Prop := fnOutsideRow.holds Tryd.pinned (OpenSpec.ofChange fnOutsideSpec)

/-- ITS FALSE NEIGHBOUR: 'it returns false'. Refute it at one input. -/
def fnOutsideWrong : ChangeSpec := { name := "fnOutside", vars := ["loop.example/g00293/impl.errOutside"], fn := fun _ => fun
  | [d, g1] => { results := [.lit (.bool false)], args := [d], vars := [g1] }
  | _ => none }
def FnOutsideWrongFalsely : Prop := fnOutsideRow.holds Tryd.pinned (OpenSpec.ofChange fnOutsideWrong)

/- THE SECOND FORM. 'bulk': how many values and letters a reading holds, each counted each time it is reached (what is shared counts as often as it is met; a slice's spare places count too). A statement '..UptoSaid' is the law's where the arguments, and the package variables that the reading takes, are together of bulk at most 1048576: NARROWER than '..Said'. Prove '..Said' where nothing that the law and all that it calls make is longer than what came in: it says more and counts as full. Else prove '..UptoSaid'. A law counts once. -/
mutual
def uptoBulk {H : Type} : DataW H → Nat
  | .lit (.string bytes) => bytes.length + 1
  | .lit _ => 1
  | .nil => 1
  | .ptr d => uptoBulk d + 1
  | .slice elems spare => uptoBulkAll elems + uptoBulkAll spare + 1
  | .agg parts => uptoBulkAll parts + 1
  | .iface _ d => uptoBulk d + 1
  | .map entries => uptoBulkEntries entries + 1
  | .held _ => 1
def uptoBulkAll {H : Type} : List (DataW H) → Nat
  | [] => 0
  | d :: r => uptoBulk d + uptoBulkAll r
def uptoBulkEntries {H : Type} : List (Lit × DataW H) → Nat
  | [] => 0
  | x :: r => uptoBulkEntry x + uptoBulkEntries r
def uptoBulkEntry {H : Type} : Lit × DataW H → Nat
  | (.string bytes, d) => bytes.length + uptoBulk d + 1
  | (_, d) => uptoBulk d + 1
 end
def uptoSmall : (H : Type) → List (DataW H) → Bool := fun _ ds => decide (uptoBulkAll ds ≤ 1048576)
def OpenSpec.upto (s : _root_.Go.ChangeSpec) : _root_.Go.OpenSpec := { _root_.Go.OpenSpec.ofChange s with cond := some uptoSmall }

/-- 'laws.FnPlaces', WHERE WHAT IT READS IS OF BULK AT MOST 1048576: true; the input reads as it did. -/
def fnPlacesUptoRow : OpenClaim := { program := "ytonmcndedbmbfaadoor", sum := "870b99803cb402eb7ad984fc53b9b248a61f12990e15d6d4d50d2a6a6008bce6", func := "loop.example/g00293/laws.FnPlaces", spec := "fnPlaces", inPlace := ["internal/reflectlite.TypeOf"], unfollowed := true, recurses := true, named := ["loop.example/g00293/impl.errNoRoom", "loop.example/g00293/impl.errOutside"], ifaces := true, apart := false, laid := [("loop.example/g00293/impl.errNoRoom", laid_loop_example_g00293_impl_errNoRoom), ("loop.example/g00293/impl.errOutside", laid_loop_example_g00293_impl_errOutside)], narrowed := true }
def FnPlacesUptoSaid : Prop := fnPlacesUptoRow.holds Tryd.pinned (OpenSpec.upto fnPlacesSpec)

/-- 'laws.FnOutside', WHERE WHAT IT READS IS OF BULK AT MOST 1048576: true; the input reads as it did. -/
def fnOutsideUptoRow : OpenClaim := { program := "ytonmcndedbmbfaadoor", sum := "870b99803cb402eb7ad984fc53b9b248a61f12990e15d6d4d50d2a6a6008bce6", func := "loop.example/g00293/laws.FnOutside", spec := "fnOutside", inPlace := ["internal/reflectlite.TypeOf"], unfollowed := true, recurses := true, named := ["loop.example/g00293/impl.errOutside"], ifaces := true, apart := false, laid := [("loop.example/g00293/impl.errOutside", laid_loop_example_g00293_impl_errOutside)], narrowed := true }
def FnOutsideUptoSaid : Prop := fnOutsideUptoRow.holds Tryd.pinned (OpenSpec.upto fnOutsideSpec)

end Rows
end Go.Proofs.YtonmcndedbmbfaaDoor
