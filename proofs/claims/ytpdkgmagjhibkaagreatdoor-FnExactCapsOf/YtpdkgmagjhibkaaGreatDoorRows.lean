/-
  NARROWER THAN 'FOR EVERY INPUT', by the rows' own cells (each row's printed sentence says how): FnExactProgramOk: loops, laid · FnExactCodeBytes: loops, laid · FnExactCapsOf: loops, laid.
  DERIVED. THE GIVEN ROWS OF THIS SEAT. 3 by the template 'for every input the law returns true; each argument reads behind the call as it read before'; 0 by the template 'total and deterministic' (their statements: YtpdkgmagjhibkaaGreatDoorTotals.lean).
  GIVEN WITH THE SEED: the statements are not yours to turn. If you find one false, say at which input.
  Laid BY PROGRAM, IN A SANDBOX (cutbox-rows.mjs): the forced cells as the released guide's own fill.sh prints them over the translation dd51957bfd086b8e… (all of the seat's roots in one cut). By AI agents, Wed Nov 11 2026. No macro, syntax, notation, axiom, sorry.
-/
import Derived.Test.YtpdkgmagjhibkaaGreatDoorChecked
import GoSem.Claim
import GoSem.ClaimJoined
import GoSem.ClaimMapViews
import Derived.JoinedTies
import Derived.KernelRfl
namespace Go.Proofs.YtpdkgmagjhibkaaGreatDoor
/- THE CELL 'sum', in the pinned program and in every row, IS THE sha256 OF THE DUMP (.gsa) THAT YtpdkgmagjhibkaaGreatDoorProg.lean LOADS. Nothing in Lean hashes anything: it is a label: what it is worth is what the hold of that sum in a sandbox is worth. -/
noncomputable def Tryz.pinned : Pinned := { name := "ytpdkgmagjhibkaagreatdoor", sum := "dd51957bfd086b8ec2a48209a6161e6e5c92557fdf36ec2a852196708251522b", checked := Tryz.checked }
namespace Rows
def none {H : Type} : Left H := { results := [], args := [] }

/- WHAT THE LISTED PACKAGE-LEVEL VARIABLES READ AS WHEN THE CALL BEGINS. Each datum BY PROGRAM (the guide's laid-datum.mjs) off the statement by which the dump's own 'gosem.cut.vars' lays the variable. In a bare row this is a premise. The card (YtpdkgmagjhibkaaGreatDoorCards.lean) ties it to the program's text. -/
def laid_loop_example_g00293_impl_opForms {H : Type} : DataW H := .agg [.agg [.lit (.bool false), .lit (.bool false), .lit (.bool false), .lit (.bool false), .lit (.bool false)], .agg [.lit (.bool true), .lit (.bool true), .lit (.bool false), .lit (.bool false), .lit (.bool false)], .agg [.lit (.bool false), .lit (.bool false), .lit (.bool false), .lit (.bool true), .lit (.bool false)], .agg [.lit (.bool false), .lit (.bool false), .lit (.bool false), .lit (.bool false), .lit (.bool false)], .agg [.lit (.bool true), .lit (.bool false), .lit (.bool false), .lit (.bool false), .lit (.bool false)], .agg [.lit (.bool false), .lit (.bool false), .lit (.bool false), .lit (.bool false), .lit (.bool false)], .agg [.lit (.bool true), .lit (.bool false), .lit (.bool false), .lit (.bool false), .lit (.bool false)], .agg [.lit (.bool true), .lit (.bool false), .lit (.bool false), .lit (.bool false), .lit (.bool false)], .agg [.lit (.bool false), .lit (.bool false), .lit (.bool false), .lit (.bool false), .lit (.bool false)], .agg [.lit (.bool false), .lit (.bool false), .lit (.bool false), .lit (.bool false), .lit (.bool false)], .agg [.lit (.bool false), .lit (.bool false), .lit (.bool false), .lit (.bool false), .lit (.bool false)], .agg [.lit (.bool false), .lit (.bool false), .lit (.bool false), .lit (.bool false), .lit (.bool false)], .agg [.lit (.bool false), .lit (.bool false), .lit (.bool false), .lit (.bool false), .lit (.bool false)], .agg [.lit (.bool false), .lit (.bool false), .lit (.bool false), .lit (.bool false), .lit (.bool false)], .agg [.lit (.bool false), .lit (.bool false), .lit (.bool false), .lit (.bool false), .lit (.bool false)], .agg [.lit (.bool false), .lit (.bool false), .lit (.bool false), .lit (.bool false), .lit (.bool false)], .agg [.lit (.bool false), .lit (.bool false), .lit (.bool false), .lit (.bool false), .lit (.bool false)], .agg [.lit (.bool false), .lit (.bool false), .lit (.bool false), .lit (.bool false), .lit (.bool false)], .agg [.lit (.bool false), .lit (.bool false), .lit (.bool false), .lit (.bool false), .lit (.bool false)], .agg [.lit (.bool false), .lit (.bool false), .lit (.bool false), .lit (.bool false), .lit (.bool false)], .agg [.lit (.bool false), .lit (.bool false), .lit (.bool false), .lit (.bool false), .lit (.bool false)], .agg [.lit (.bool true), .lit (.bool false), .lit (.bool true), .lit (.bool false), .lit (.bool false)], .agg [.lit (.bool true), .lit (.bool false), .lit (.bool false), .lit (.bool false), .lit (.bool true)], .agg [.lit (.bool true), .lit (.bool false), .lit (.bool false), .lit (.bool false), .lit (.bool false)], .agg [.lit (.bool false), .lit (.bool false), .lit (.bool false), .lit (.bool false), .lit (.bool false)], .agg [.lit (.bool false), .lit (.bool false), .lit (.bool false), .lit (.bool false), .lit (.bool false)], .agg [.lit (.bool true), .lit (.bool false), .lit (.bool false), .lit (.bool false), .lit (.bool false)], .agg [.lit (.bool true), .lit (.bool false), .lit (.bool false), .lit (.bool false), .lit (.bool false)], .agg [.lit (.bool false), .lit (.bool false), .lit (.bool false), .lit (.bool false), .lit (.bool false)], .agg [.lit (.bool true), .lit (.bool false), .lit (.bool false), .lit (.bool false), .lit (.bool false)], .agg [.lit (.bool false), .lit (.bool false), .lit (.bool false), .lit (.bool false), .lit (.bool false)], .agg [.lit (.bool true), .lit (.bool false), .lit (.bool false), .lit (.bool false), .lit (.bool false)]]

/-- 'laws.FnExactProgramOk': WHATEVER THE INPUT: true; the input reads as it did. -/
def fnExactProgramOkSpec : ChangeSpec := { name := "fnExactProgramOk", vars := ["loop.example/g00293/impl.opForms"], fn := fun _ => fun
  | [d, g1] => { results := [.lit (.bool true)], args := [d], vars := [g1] }
  | _ => none }
def fnExactProgramOkRow : OpenClaim := { program := "ytpdkgmagjhibkaagreatdoor", sum := "dd51957bfd086b8ec2a48209a6161e6e5c92557fdf36ec2a852196708251522b", func := "loop.example/g00293/laws.FnExactProgramOk", spec := "fnExactProgramOk", unfollowed := true, recurses := true, named := ["loop.example/g00293/impl.opForms"], loops := true, apart := false, laid := [("loop.example/g00293/impl.opForms", laid_loop_example_g00293_impl_opForms)] }
def FnExactProgramOkSaid : Prop := fnExactProgramOkRow.holds Tryz.pinned (OpenSpec.ofChange fnExactProgramOkSpec)

/-- ITS FALSE NEIGHBOUR: 'it returns false'. Refute it at one input. -/
def fnExactProgramOkWrong : ChangeSpec := { name := "fnExactProgramOk", vars := ["loop.example/g00293/impl.opForms"], fn := fun _ => fun
  | [d, g1] => { results := [.lit (.bool false)], args := [d], vars := [g1] }
  | _ => none }
def FnExactProgramOkWrongFalsely : Prop := fnExactProgramOkRow.holds Tryz.pinned (OpenSpec.ofChange fnExactProgramOkWrong)

/-- 'laws.FnExactCodeBytes': WHATEVER THE INPUT: true; the input reads as it did. -/
def fnExactCodeBytesSpec : ChangeSpec := { name := "fnExactCodeBytes", vars := ["loop.example/g00293/impl.opForms"], fn := fun _ => fun
  | [d, g1] => { results := [.lit (.bool true)], args := [d], vars := [g1] }
  | _ => none }
def fnExactCodeBytesRow : OpenClaim := { program := "ytpdkgmagjhibkaagreatdoor", sum := "dd51957bfd086b8ec2a48209a6161e6e5c92557fdf36ec2a852196708251522b", func := "loop.example/g00293/laws.FnExactCodeBytes", spec := "fnExactCodeBytes", unfollowed := true, recurses := true, named := ["loop.example/g00293/impl.opForms"], loops := true, apart := false, laid := [("loop.example/g00293/impl.opForms", laid_loop_example_g00293_impl_opForms)] }
def FnExactCodeBytesSaid : Prop := fnExactCodeBytesRow.holds Tryz.pinned (OpenSpec.ofChange fnExactCodeBytesSpec)

/-- ITS FALSE NEIGHBOUR: 'it returns false'. Refute it at one input. -/
def fnExactCodeBytesWrong : ChangeSpec := { name := "fnExactCodeBytes", vars := ["loop.example/g00293/impl.opForms"], fn := fun _ => fun
  | [d, g1] => { results := [.lit (.bool false)], args := [d], vars := [g1] }
  | _ => none }
def FnExactCodeBytesWrongFalsely : Prop := fnExactCodeBytesRow.holds Tryz.pinned (OpenSpec.ofChange fnExactCodeBytesWrong)

/-- 'laws.FnExactCapsOf': WHATEVER THE INPUT: true; the input reads as it did. -/
def fnExactCapsOfSpec : ChangeSpec := { name := "fnExactCapsOf", vars := ["loop.example/g00293/impl.opForms"], fn := fun _ => fun
  | [d, g1] => { results := [.lit (.bool true)], args := [d], vars := [g1] }
  | _ => none }
def fnExactCapsOfRow : OpenClaim := { program := "ytpdkgmagjhibkaagreatdoor", sum := "dd51957bfd086b8ec2a48209a6161e6e5c92557fdf36ec2a852196708251522b", func := "loop.example/g00293/laws.FnExactCapsOf", spec := "fnExactCapsOf", unfollowed := true, recurses := true, named := ["loop.example/g00293/impl.opForms"], loops := true, apart := false, laid := [("loop.example/g00293/impl.opForms", laid_loop_example_g00293_impl_opForms)] }
def FnExactCapsOfSaid : Prop := fnExactCapsOfRow.holds Tryz.pinned (OpenSpec.ofChange fnExactCapsOfSpec)

/-- ITS FALSE NEIGHBOUR: 'it returns false'. Refute it at one input. -/
def fnExactCapsOfWrong : ChangeSpec := { name := "fnExactCapsOf", vars := ["loop.example/g00293/impl.opForms"], fn := fun _ => fun
  | [d, g1] => { results := [.lit (.bool false)], args := [d], vars := [g1] }
  | _ => none }
def FnExactCapsOfWrongFalsely : Prop := fnExactCapsOfRow.holds Tryz.pinned (OpenSpec.ofChange fnExactCapsOfWrong)

/- THE SECOND FORM. 'bulk': how many values and letters a reading holds, each counted each time it is reached (what is shared counts as often as it is met; a slice's spare places count too). A statement '..UptoSaid' is the law's where the arguments, and the package variables that the reading takes, are together of bulk at most 1048576: NARROWER than '..Said'. Prove '..Said' where nothing that the law and all that it calls make is longer than what came in: it says more and counts as full. Else prove '..UptoSaid'. A law counts once. -/
mutual
def uptoBulk {H : Type} : DataW H → Nat
  | .lit (.string bytes) => bytes.length + 1
  | .lit _ => 1
  | .nil => 1
  | .ptr d => uptoBulk d + 1
  | .slice elems spare => uptoBulkAll elems + uptoBulkAll spare + 1
  | .agg parts => uptoBulkAll parts + 1
  | .iface _ d => uptoBulk d + 1
  | .map entries => uptoBulkEntries entries + 1
  | .held _ => 1
def uptoBulkAll {H : Type} : List (DataW H) → Nat
  | [] => 0
  | d :: r => uptoBulk d + uptoBulkAll r
def uptoBulkEntries {H : Type} : List (Lit × DataW H) → Nat
  | [] => 0
  | x :: r => uptoBulkEntry x + uptoBulkEntries r
def uptoBulkEntry {H : Type} : Lit × DataW H → Nat
  | (.string bytes, d) => bytes.length + uptoBulk d + 1
  | (_, d) => uptoBulk d + 1
 end
def uptoSmall : (H : Type) → List (DataW H) → Bool := fun _ ds => decide (uptoBulkAll ds ≤ 1048576)
def OpenSpec.upto (s : _root_.Go.ChangeSpec) : _root_.Go.OpenSpec := { _root_.Go.OpenSpec.ofChange s with cond := some uptoSmall }

/-- 'laws.FnExactProgramOk', WHERE WHAT IT READS IS OF BULK AT MOST 1048576: true; the input reads as it did. -/
def fnExactProgramOkUptoRow : OpenClaim := { program := "ytpdkgmagjhibkaagreatdoor", sum := "dd51957bfd086b8ec2a48209a6161e6e5c92557fdf36ec2a852196708251522b", func := "loop.example/g00293/laws.FnExactProgramOk", spec := "fnExactProgramOk", unfollowed := true, recurses := true, named := ["loop.example/g00293/impl.opForms"], loops := true, apart := false, laid := [("loop.example/g00293/impl.opForms", laid_loop_example_g00293_impl_opForms)], narrowed := true }
def FnExactProgramOkUptoSaid : Prop := fnExactProgramOkUptoRow.holds Tryz.pinned (OpenSpec.upto fnExactProgramOkSpec)

/-- 'laws.FnExactCodeBytes', WHERE WHAT IT READS IS OF BULK AT MOST 1048576: true; the input reads as it did. -/
def fnExactCodeBytesUptoRow : OpenClaim := { program := "ytpdkgmagjhibkaagreatdoor", sum := "dd51957bfd086b8ec2a48209a6161e6e5c92557fdf36ec2a852196708251522b", func := "loop.example/g00293/laws.FnExactCodeBytes", spec := "fnExactCodeBytes", unfollowed := true, recurses := true, named := ["loop.example/g00293/impl.opForms"], loops := true, apart := false, laid := [("loop.example/g00293/impl.opForms", laid_loop_example_g00293_impl_opForms)], narrowed := true }
def FnExactCodeBytesUptoSaid : Prop := fnExactCodeBytesUptoRow.holds Tryz.pinned (OpenSpec.upto fnExactCodeBytesSpec)

/-- 'laws.FnExactCapsOf', WHERE WHAT IT READS IS OF BULK AT MOST 1048576: true; the input reads as it did. -/
def fnExactCapsOfUptoRow : OpenClaim := { program := "ytpdkgmagjhibkaagreatdoor", sum := "dd51957bfd086b8ec2a48209a6161e6e5c92557fdf36ec2a852196708251522b", func := "loop.example/g00293/laws.FnExactCapsOf", spec := "fnExactCapsOf", unfollowed := true, recurses := true, named := ["loop.example/g00293/impl.opForms"], loops := true, apart := false, laid := [("loop.example/g00293/impl.opForms", laid_loop_example_g00293_impl_opForms)], narrowed := true }
def FnExactCapsOfUptoSaid : Prop := fnExactCapsOfUptoRow.holds Tryz.pinned (OpenSpec.upto fnExactCapsOfSpec)

end Rows
end Go.Proofs.YtpdkgmagjhibkaaGreatDoor
