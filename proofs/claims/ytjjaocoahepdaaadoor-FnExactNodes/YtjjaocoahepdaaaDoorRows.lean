/-
  NARROWER THAN 'FOR EVERY INPUT', by the rows' own cells (each row's printed sentence says how): FnExactNodes: loops, laid.
  DERIVED. THE GIVEN ROWS OF THIS SEAT. 1 by the template 'for every input the law returns true; each argument reads behind the call as it read before'; 0 by the template 'total and deterministic' (their statements: YtjjaocoahepdaaaDoorTotals.lean).
  GIVEN WITH THE SEED: the statements are not yours to turn. If you find one false, say at which input.
  Laid BY PROGRAM, IN A SANDBOX (cutbox-rows.mjs): the forced cells as the released guide's own fill.sh prints them over the translation b4d999cf01de3ceb… (all of the seat's roots in one cut). By AI agents, Wed Nov 11 2026. No macro, syntax, notation, axiom, sorry.
-/
import Derived.Test.YtjjaocoahepdaaaDoorChecked
import GoSem.Claim
import GoSem.ClaimJoined
import GoSem.ClaimMapViews
import Derived.JoinedTies
import Derived.KernelRfl
namespace Go.Proofs.YtjjaocoahepdaaaDoor
/- THE CELL 'sum', in the pinned program and in every row, IS THE sha256 OF THE DUMP (.gsa) THAT YtjjaocoahepdaaaDoorProg.lean LOADS. Nothing in Lean hashes anything: it is a label: what it is worth is what the hold of that sum in a sandbox is worth. -/
noncomputable def Tryd.pinned : Pinned := { name := "ytjjaocoahepdaaadoor", sum := "b4d999cf01de3ceb61dc9b8da1d4f8e9001bc2768a225ca51d250cfa7b27dde0", checked := Tryd.checked }
namespace Rows
def none {H : Type} : Left H := { results := [], args := [] }

/- WHAT THE LISTED PACKAGE-LEVEL VARIABLES READ AS WHEN THE CALL BEGINS. Each datum BY PROGRAM (the guide's laid-datum.mjs) off the statement by which the dump's own 'gosem.cut.vars' lays the variable. In a bare row this is a premise. The card (YtjjaocoahepdaaaDoorCards.lean) ties it to the program's text. -/
def laid_loop_example_g00293_impl_forms {H : Type} : DataW H := .agg [.agg [.lit (.string [117, 110, 105, 116]), .lit (.int .i64 0), .lit (.int .i64 0), .lit (.string [])], .agg [.lit (.string []), .lit (.int .i64 1), .lit (.int .i64 0), .lit (.string [105])], .agg [.lit (.string []), .lit (.int .i64 2), .lit (.int .i64 0), .lit (.string [116])], .agg [.lit (.string []), .lit (.int .i64 3), .lit (.int .i64 0), .lit (.string [110])], .agg [.lit (.string [102, 110]), .lit (.int .i64 4), .lit (.int .i64 0), .lit (.string [110, 107])], .agg [.lit (.string []), .lit (.int .i64 5), .lit (.int .i64 0), .lit (.string [107, 107])], .agg [.lit (.string [108, 101, 116]), .lit (.int .i64 6), .lit (.int .i64 0), .lit (.string [110, 107, 107])], .agg [.lit (.string [114, 101, 99]), .lit (.int .i64 7), .lit (.int .i64 0), .lit (.string [110, 97, 107, 107])], .agg [.lit (.string [105, 102]), .lit (.int .i64 8), .lit (.int .i64 0), .lit (.string [107, 107, 107])], .agg [.lit (.string [112, 97, 105, 114]), .lit (.int .i64 9), .lit (.int .i64 0), .lit (.string [107, 107])], .agg [.lit (.string [102, 115, 116]), .lit (.int .i64 10), .lit (.int .i64 0), .lit (.string [107])], .agg [.lit (.string [115, 110, 100]), .lit (.int .i64 11), .lit (.int .i64 0), .lit (.string [107])], .agg [.lit (.string [114, 101, 102]), .lit (.int .i64 12), .lit (.int .i64 0), .lit (.string [107])], .agg [.lit (.string [114, 101, 97, 100]), .lit (.int .i64 13), .lit (.int .i64 0), .lit (.string [107])], .agg [.lit (.string [119, 114, 105, 116, 101]), .lit (.int .i64 14), .lit (.int .i64 0), .lit (.string [107, 107])], .agg [.lit (.string []), .lit (.int .i64 15), .lit (.int .i64 0), .lit (.string [103, 102])], .agg [.lit (.string [109, 97, 116, 99, 104]), .lit (.int .i64 16), .lit (.int .i64 0), .lit (.string [107, 109])], .agg [.lit (.string [114, 97, 105, 115, 101]), .lit (.int .i64 17), .lit (.int .i64 0), .lit (.string [107])], .agg [.lit (.string [116, 114, 121]), .lit (.int .i64 18), .lit (.int .i64 0), .lit (.string [107, 110, 107])], .agg [.lit (.string [97, 100, 100]), .lit (.int .i64 19), .lit (.int .i64 0), .lit (.string [107, 107])], .agg [.lit (.string [115, 117, 98]), .lit (.int .i64 19), .lit (.int .i64 1), .lit (.string [107, 107])], .agg [.lit (.string [109, 117, 108]), .lit (.int .i64 19), .lit (.int .i64 2), .lit (.string [107, 107])], .agg [.lit (.string [108, 101, 115, 115]), .lit (.int .i64 19), .lit (.int .i64 3), .lit (.string [107, 107])], .agg [.lit (.string [115, 97, 109, 101]), .lit (.int .i64 19), .lit (.int .i64 4), .lit (.string [107, 107])], .agg [.lit (.string [99, 97, 116]), .lit (.int .i64 19), .lit (.int .i64 5), .lit (.string [107, 107])], .agg [.lit (.string [108, 101, 110]), .lit (.int .i64 19), .lit (.int .i64 6), .lit (.string [107])], .agg [.lit (.string [112, 114, 105, 110, 116]), .lit (.int .i64 20), .lit (.int .i64 0), .lit (.string [107])], .agg [.lit (.string [116, 105, 99, 107]), .lit (.int .i64 20), .lit (.int .i64 1), .lit (.string [])], .agg [.lit (.string [100, 114, 97, 119]), .lit (.int .i64 20), .lit (.int .i64 2), .lit (.string [107])], .agg [.lit (.string [103, 101, 116]), .lit (.int .i64 20), .lit (.int .i64 3), .lit (.string [107])], .agg [.lit (.string [112, 117, 116]), .lit (.int .i64 20), .lit (.int .i64 4), .lit (.string [107, 107])]]

/-- 'laws.FnExactNodes': WHATEVER THE INPUT: true; the input reads as it did. -/
def fnExactNodesSpec : ChangeSpec := { name := "fnExactNodes", vars := ["loop.example/g00293/impl.forms"], fn := fun _ => fun
  | [d, g1] => { results := [.lit (.bool true)], args := [d], vars := [g1] }
  | _ => none }
def fnExactNodesRow : OpenClaim := { program := "ytjjaocoahepdaaadoor", sum := "b4d999cf01de3ceb61dc9b8da1d4f8e9001bc2768a225ca51d250cfa7b27dde0", func := "loop.example/g00293/laws.FnExactNodes", spec := "fnExactNodes", inPlace := ["internal/bytealg.IndexByteString", "internal/bytealg.IndexString", "internal/bytealg.CountString"], unfollowed := true, recurses := true, named := ["loop.example/g00293/impl.forms", "internal/bytealg.MaxLen"], loops := true, apart := false, laid := [("loop.example/g00293/impl.forms", laid_loop_example_g00293_impl_forms)] }
def FnExactNodesSaid : Prop := fnExactNodesRow.holds Tryd.pinned (OpenSpec.ofChange fnExactNodesSpec)

/-- ITS FALSE NEIGHBOUR: 'it returns false'. Refute it at one input. -/
def fnExactNodesWrong : ChangeSpec := { name := "fnExactNodes", vars := ["loop.example/g00293/impl.forms"], fn := fun _ => fun
  | [d, g1] => { results := [.lit (.bool false)], args := [d], vars := [g1] }
  | _ => none }
def FnExactNodesWrongFalsely : Prop := fnExactNodesRow.holds Tryd.pinned (OpenSpec.ofChange fnExactNodesWrong)

/- THE SECOND FORM. 'bulk': how many values and letters a reading holds, each counted each time it is reached (what is shared counts as often as it is met; a slice's spare places count too). A statement '..UptoSaid' is the law's where the arguments, and the package variables that the reading takes, are together of bulk at most 1048576: NARROWER than '..Said'. Prove '..Said' where nothing that the law and all that it calls make is longer than what came in: it says more and counts as full. Else prove '..UptoSaid'. A law counts once. -/
mutual
def uptoBulk {H : Type} : DataW H → Nat
  | .lit (.string bytes) => bytes.length + 1
  | .lit _ => 1
  | .nil => 1
  | .ptr d => uptoBulk d + 1
  | .slice elems spare => uptoBulkAll elems + uptoBulkAll spare + 1
  | .agg parts => uptoBulkAll parts + 1
  | .iface _ d => uptoBulk d + 1
  | .map entries => uptoBulkEntries entries + 1
  | .held _ => 1
def uptoBulkAll {H : Type} : List (DataW H) → Nat
  | [] => 0
  | d :: r => uptoBulk d + uptoBulkAll r
def uptoBulkEntries {H : Type} : List (Lit × DataW H) → Nat
  | [] => 0
  | x :: r => uptoBulkEntry x + uptoBulkEntries r
def uptoBulkEntry {H : Type} : Lit × DataW H → Nat
  | (.string bytes, d) => bytes.length + uptoBulk d + 1
  | (_, d) => uptoBulk d + 1
 end
def uptoSmall : (H : Type) → List (DataW H) → Bool := fun _ ds => decide (uptoBulkAll ds ≤ 1048576)
def OpenSpec.upto (s : _root_.Go.ChangeSpec) : _root_.Go.OpenSpec := { _root_.Go.OpenSpec.ofChange s with cond := some uptoSmall }

/-- 'laws.FnExactNodes', WHERE WHAT IT READS IS OF BULK AT MOST 1048576: true; the input reads as it did. -/
def fnExactNodesUptoRow : OpenClaim := { program := "ytjjaocoahepdaaadoor", sum := "b4d999cf01de3ceb61dc9b8da1d4f8e9001bc2768a225ca51d250cfa7b27dde0", func := "loop.example/g00293/laws.FnExactNodes", spec := "fnExactNodes", inPlace := ["internal/bytealg.IndexByteString", "internal/bytealg.IndexString", "internal/bytealg.CountString"], unfollowed := true, recurses := true, named := ["loop.example/g00293/impl.forms", "internal/bytealg.MaxLen"], loops := true, apart := false, laid := [("loop.example/g00293/impl.forms", laid_loop_example_g00293_impl_forms)], narrowed := true }
def FnExactNodesUptoSaid : Prop := fnExactNodesUptoRow.holds Tryd.pinned (OpenSpec.upto fnExactNodesSpec)

end Rows
end Go.Proofs.YtjjaocoahepdaaaDoor
