/-
  NARROWER THAN 'FOR EVERY INPUT', by the rows' own cells (each row's printed sentence says how): FnExactSourceOk: loops, laid · FnExactPrint: loops, laid · FnExactNamesOk: loops, laid · FnExactArmsOk: loops, laid.
  DERIVED. THE GIVEN ROWS OF THIS SEAT. 4 by the template 'for every input the law returns true; each argument reads behind the call as it read before'; 0 by the template 'total and deterministic' (their statements: YtblbnillilbacaaGreatDoorTotals.lean).
  GIVEN WITH THE SEED: the statements are not yours to turn. If you find one false, say at which input.
  Laid BY PROGRAM, IN A SANDBOX (cutbox-rows.mjs): the forced cells as the released guide's own fill.sh prints them over the translation 832f469f9c2d69c8… (all of the seat's roots in one cut). By AI agents, Wed Nov 11 2026. No macro, syntax, notation, axiom, sorry.
-/
import Derived.Test.YtblbnillilbacaaGreatDoorChecked
import GoSem.Claim
import GoSem.ClaimJoined
import GoSem.ClaimMapViews
import Derived.JoinedTies
import Derived.KernelRfl
namespace Go.Proofs.YtblbnillilbacaaGreatDoor
/- THE CELL 'sum', in the pinned program and in every row, IS THE sha256 OF THE DUMP (.gsa) THAT YtblbnillilbacaaGreatDoorProg.lean LOADS. Nothing in Lean hashes anything: it is a label: what it is worth is what the hold of that sum in a sandbox is worth. -/
noncomputable def Tryz.pinned : Pinned := { name := "ytblbnillilbacaagreatdoor", sum := "832f469f9c2d69c8093b69c077afcc3ef49e2ee5b5579234e760708b9bda7dbd", checked := Tryz.checked }
namespace Rows
def none {H : Type} : Left H := { results := [], args := [] }

/- WHAT THE LISTED PACKAGE-LEVEL VARIABLES READ AS WHEN THE CALL BEGINS. Each datum BY PROGRAM (the guide's laid-datum.mjs) off the statement by which the dump's own 'gosem.cut.vars' lays the variable. In a bare row this is a premise. The card (YtblbnillilbacaaGreatDoorCards.lean) ties it to the program's text. -/
def laid_math_bits_deBruijn32tab {H : Type} : DataW H := .agg [.lit (.int .u8 0), .lit (.int .u8 1), .lit (.int .u8 28), .lit (.int .u8 2), .lit (.int .u8 29), .lit (.int .u8 14), .lit (.int .u8 24), .lit (.int .u8 3), .lit (.int .u8 30), .lit (.int .u8 22), .lit (.int .u8 20), .lit (.int .u8 15), .lit (.int .u8 25), .lit (.int .u8 17), .lit (.int .u8 4), .lit (.int .u8 8), .lit (.int .u8 31), .lit (.int .u8 27), .lit (.int .u8 13), .lit (.int .u8 23), .lit (.int .u8 21), .lit (.int .u8 19), .lit (.int .u8 16), .lit (.int .u8 7), .lit (.int .u8 26), .lit (.int .u8 12), .lit (.int .u8 18), .lit (.int .u8 6), .lit (.int .u8 11), .lit (.int .u8 5), .lit (.int .u8 10), .lit (.int .u8 9)]
def laid_math_bits_deBruijn64tab {H : Type} : DataW H := .agg [.lit (.int .u8 0), .lit (.int .u8 1), .lit (.int .u8 56), .lit (.int .u8 2), .lit (.int .u8 57), .lit (.int .u8 49), .lit (.int .u8 28), .lit (.int .u8 3), .lit (.int .u8 61), .lit (.int .u8 58), .lit (.int .u8 42), .lit (.int .u8 50), .lit (.int .u8 38), .lit (.int .u8 29), .lit (.int .u8 17), .lit (.int .u8 4), .lit (.int .u8 62), .lit (.int .u8 47), .lit (.int .u8 59), .lit (.int .u8 36), .lit (.int .u8 45), .lit (.int .u8 43), .lit (.int .u8 51), .lit (.int .u8 22), .lit (.int .u8 53), .lit (.int .u8 39), .lit (.int .u8 33), .lit (.int .u8 30), .lit (.int .u8 24), .lit (.int .u8 18), .lit (.int .u8 12), .lit (.int .u8 5), .lit (.int .u8 63), .lit (.int .u8 55), .lit (.int .u8 48), .lit (.int .u8 27), .lit (.int .u8 60), .lit (.int .u8 41), .lit (.int .u8 37), .lit (.int .u8 16), .lit (.int .u8 46), .lit (.int .u8 35), .lit (.int .u8 44), .lit (.int .u8 21), .lit (.int .u8 52), .lit (.int .u8 32), .lit (.int .u8 23), .lit (.int .u8 11), .lit (.int .u8 54), .lit (.int .u8 26), .lit (.int .u8 40), .lit (.int .u8 15), .lit (.int .u8 34), .lit (.int .u8 20), .lit (.int .u8 31), .lit (.int .u8 10), .lit (.int .u8 25), .lit (.int .u8 14), .lit (.int .u8 19), .lit (.int .u8 9), .lit (.int .u8 13), .lit (.int .u8 8), .lit (.int .u8 7), .lit (.int .u8 6)]
def laid_internal_strconv_uint64pow10 {H : Type} : DataW H := .agg [.lit (.int .u64 1), .lit (.int .u64 10), .lit (.int .u64 100), .lit (.int .u64 1000), .lit (.int .u64 10000), .lit (.int .u64 100000), .lit (.int .u64 1000000), .lit (.int .u64 10000000), .lit (.int .u64 100000000), .lit (.int .u64 1000000000), .lit (.int .u64 10000000000), .lit (.int .u64 100000000000), .lit (.int .u64 1000000000000), .lit (.int .u64 10000000000000), .lit (.int .u64 100000000000000), .lit (.int .u64 1000000000000000), .lit (.int .u64 10000000000000000), .lit (.int .u64 100000000000000000), .lit (.int .u64 1000000000000000000), .lit (.int .u64 10000000000000000000)]
def laid_loop_example_g00293_impl_forms {H : Type} : DataW H := .agg [.agg [.lit (.string [117, 110, 105, 116]), .lit (.int .i64 0), .lit (.int .i64 0), .lit (.string [])], .agg [.lit (.string []), .lit (.int .i64 1), .lit (.int .i64 0), .lit (.string [105])], .agg [.lit (.string []), .lit (.int .i64 2), .lit (.int .i64 0), .lit (.string [116])], .agg [.lit (.string []), .lit (.int .i64 3), .lit (.int .i64 0), .lit (.string [110])], .agg [.lit (.string [102, 110]), .lit (.int .i64 4), .lit (.int .i64 0), .lit (.string [110, 107])], .agg [.lit (.string []), .lit (.int .i64 5), .lit (.int .i64 0), .lit (.string [107, 107])], .agg [.lit (.string [108, 101, 116]), .lit (.int .i64 6), .lit (.int .i64 0), .lit (.string [110, 107, 107])], .agg [.lit (.string [114, 101, 99]), .lit (.int .i64 7), .lit (.int .i64 0), .lit (.string [110, 97, 107, 107])], .agg [.lit (.string [105, 102]), .lit (.int .i64 8), .lit (.int .i64 0), .lit (.string [107, 107, 107])], .agg [.lit (.string [112, 97, 105, 114]), .lit (.int .i64 9), .lit (.int .i64 0), .lit (.string [107, 107])], .agg [.lit (.string [102, 115, 116]), .lit (.int .i64 10), .lit (.int .i64 0), .lit (.string [107])], .agg [.lit (.string [115, 110, 100]), .lit (.int .i64 11), .lit (.int .i64 0), .lit (.string [107])], .agg [.lit (.string [114, 101, 102]), .lit (.int .i64 12), .lit (.int .i64 0), .lit (.string [107])], .agg [.lit (.string [114, 101, 97, 100]), .lit (.int .i64 13), .lit (.int .i64 0), .lit (.string [107])], .agg [.lit (.string [119, 114, 105, 116, 101]), .lit (.int .i64 14), .lit (.int .i64 0), .lit (.string [107, 107])], .agg [.lit (.string []), .lit (.int .i64 15), .lit (.int .i64 0), .lit (.string [103, 102])], .agg [.lit (.string [109, 97, 116, 99, 104]), .lit (.int .i64 16), .lit (.int .i64 0), .lit (.string [107, 109])], .agg [.lit (.string [114, 97, 105, 115, 101]), .lit (.int .i64 17), .lit (.int .i64 0), .lit (.string [107])], .agg [.lit (.string [116, 114, 121]), .lit (.int .i64 18), .lit (.int .i64 0), .lit (.string [107, 110, 107])], .agg [.lit (.string [97, 100, 100]), .lit (.int .i64 19), .lit (.int .i64 0), .lit (.string [107, 107])], .agg [.lit (.string [115, 117, 98]), .lit (.int .i64 19), .lit (.int .i64 1), .lit (.string [107, 107])], .agg [.lit (.string [109, 117, 108]), .lit (.int .i64 19), .lit (.int .i64 2), .lit (.string [107, 107])], .agg [.lit (.string [108, 101, 115, 115]), .lit (.int .i64 19), .lit (.int .i64 3), .lit (.string [107, 107])], .agg [.lit (.string [115, 97, 109, 101]), .lit (.int .i64 19), .lit (.int .i64 4), .lit (.string [107, 107])], .agg [.lit (.string [99, 97, 116]), .lit (.int .i64 19), .lit (.int .i64 5), .lit (.string [107, 107])], .agg [.lit (.string [108, 101, 110]), .lit (.int .i64 19), .lit (.int .i64 6), .lit (.string [107])], .agg [.lit (.string [112, 114, 105, 110, 116]), .lit (.int .i64 20), .lit (.int .i64 0), .lit (.string [107])], .agg [.lit (.string [116, 105, 99, 107]), .lit (.int .i64 20), .lit (.int .i64 1), .lit (.string [])], .agg [.lit (.string [100, 114, 97, 119]), .lit (.int .i64 20), .lit (.int .i64 2), .lit (.string [107])], .agg [.lit (.string [103, 101, 116]), .lit (.int .i64 20), .lit (.int .i64 3), .lit (.string [107])], .agg [.lit (.string [112, 117, 116]), .lit (.int .i64 20), .lit (.int .i64 4), .lit (.string [107, 107])]]

/-- 'laws.FnExactSourceOk': WHATEVER THE INPUT: true; the input reads as it did. -/
def fnExactSourceOkSpec : ChangeSpec := { name := "fnExactSourceOk", vars := ["loop.example/g00293/impl.forms"], fn := fun _ => fun
  | [d, g1] => { results := [.lit (.bool true)], args := [d], vars := [g1] }
  | _ => none }
def fnExactSourceOkRow : OpenClaim := { program := "ytblbnillilbacaagreatdoor", sum := "832f469f9c2d69c8093b69c077afcc3ef49e2ee5b5579234e760708b9bda7dbd", func := "loop.example/g00293/laws.FnExactSourceOk", spec := "fnExactSourceOk", inPlace := ["internal/bytealg.IndexByteString", "internal/bytealg.IndexString", "internal/bytealg.CountString"], unfollowed := true, recurses := true, named := ["loop.example/g00293/impl.forms", "internal/bytealg.MaxLen", "internal/strconv.uint64pow10", "math/bits.deBruijn32tab", "math/bits.deBruijn64tab"], loops := true, apart := false, laid := [("math/bits.deBruijn32tab", laid_math_bits_deBruijn32tab), ("math/bits.deBruijn64tab", laid_math_bits_deBruijn64tab), ("internal/strconv.uint64pow10", laid_internal_strconv_uint64pow10), ("loop.example/g00293/impl.forms", laid_loop_example_g00293_impl_forms)] }
def FnExactSourceOkSaid : Prop := fnExactSourceOkRow.holds Tryz.pinned (OpenSpec.ofChange fnExactSourceOkSpec)

/-- ITS FALSE NEIGHBOUR: 'it returns false'. Refute it at one input. -/
def fnExactSourceOkWrong : ChangeSpec := { name := "fnExactSourceOk", vars := ["loop.example/g00293/impl.forms"], fn := fun _ => fun
  | [d, g1] => { results := [.lit (.bool false)], args := [d], vars := [g1] }
  | _ => none }
def FnExactSourceOkWrongFalsely : Prop := fnExactSourceOkRow.holds Tryz.pinned (OpenSpec.ofChange fnExactSourceOkWrong)

/-- 'laws.FnExactPrint': WHATEVER THE INPUT: true; the input reads as it did. -/
def fnExactPrintSpec : ChangeSpec := { name := "fnExactPrint", vars := ["loop.example/g00293/impl.forms"], fn := fun _ => fun
  | [d, g1] => { results := [.lit (.bool true)], args := [d], vars := [g1] }
  | _ => none }
def fnExactPrintRow : OpenClaim := { program := "ytblbnillilbacaagreatdoor", sum := "832f469f9c2d69c8093b69c077afcc3ef49e2ee5b5579234e760708b9bda7dbd", func := "loop.example/g00293/laws.FnExactPrint", spec := "fnExactPrint", inPlace := ["internal/bytealg.IndexByteString", "internal/bytealg.IndexString", "internal/bytealg.CountString"], unfollowed := true, recurses := true, named := ["loop.example/g00293/impl.forms", "internal/bytealg.MaxLen", "internal/strconv.uint64pow10", "math/bits.deBruijn32tab", "math/bits.deBruijn64tab"], loops := true, apart := false, laid := [("math/bits.deBruijn32tab", laid_math_bits_deBruijn32tab), ("math/bits.deBruijn64tab", laid_math_bits_deBruijn64tab), ("internal/strconv.uint64pow10", laid_internal_strconv_uint64pow10), ("loop.example/g00293/impl.forms", laid_loop_example_g00293_impl_forms)] }
def FnExactPrintSaid : Prop := fnExactPrintRow.holds Tryz.pinned (OpenSpec.ofChange fnExactPrintSpec)

/-- ITS FALSE NEIGHBOUR: 'it returns false'. Refute it at one input. -/
def fnExactPrintWrong : ChangeSpec := { name := "fnExactPrint", vars := ["loop.example/g00293/impl.forms"], fn := fun _ => fun
  | [d, g1] => { results := [.lit (.bool false)], args := [d], vars := [g1] }
  | _ => none }
def FnExactPrintWrongFalsely : Prop := fnExactPrintRow.holds Tryz.pinned (OpenSpec.ofChange fnExactPrintWrong)

/-- 'laws.FnExactNamesOk': WHATEVER THE INPUT: true; the input reads as it did. -/
def fnExactNamesOkSpec : ChangeSpec := { name := "fnExactNamesOk", vars := ["loop.example/g00293/impl.forms"], fn := fun _ => fun
  | [d, g1] => { results := [.lit (.bool true)], args := [d], vars := [g1] }
  | _ => none }
def fnExactNamesOkRow : OpenClaim := { program := "ytblbnillilbacaagreatdoor", sum := "832f469f9c2d69c8093b69c077afcc3ef49e2ee5b5579234e760708b9bda7dbd", func := "loop.example/g00293/laws.FnExactNamesOk", spec := "fnExactNamesOk", inPlace := ["internal/bytealg.IndexByteString", "internal/bytealg.IndexString", "internal/bytealg.CountString"], unfollowed := true, recurses := true, named := ["loop.example/g00293/impl.forms", "internal/bytealg.MaxLen", "internal/strconv.uint64pow10", "math/bits.deBruijn32tab", "math/bits.deBruijn64tab"], loops := true, apart := false, laid := [("math/bits.deBruijn32tab", laid_math_bits_deBruijn32tab), ("math/bits.deBruijn64tab", laid_math_bits_deBruijn64tab), ("internal/strconv.uint64pow10", laid_internal_strconv_uint64pow10), ("loop.example/g00293/impl.forms", laid_loop_example_g00293_impl_forms)] }
def FnExactNamesOkSaid : Prop := fnExactNamesOkRow.holds Tryz.pinned (OpenSpec.ofChange fnExactNamesOkSpec)

/-- ITS FALSE NEIGHBOUR: 'it returns false'. Refute it at one input. -/
def fnExactNamesOkWrong : ChangeSpec := { name := "fnExactNamesOk", vars := ["loop.example/g00293/impl.forms"], fn := fun _ => fun
  | [d, g1] => { results := [.lit (.bool false)], args := [d], vars := [g1] }
  | _ => none }
def FnExactNamesOkWrongFalsely : Prop := fnExactNamesOkRow.holds Tryz.pinned (OpenSpec.ofChange fnExactNamesOkWrong)

/-- 'laws.FnExactArmsOk': WHATEVER THE INPUT: true; the input reads as it did. -/
def fnExactArmsOkSpec : ChangeSpec := { name := "fnExactArmsOk", vars := ["loop.example/g00293/impl.forms"], fn := fun _ => fun
  | [d, g1] => { results := [.lit (.bool true)], args := [d], vars := [g1] }
  | _ => none }
def fnExactArmsOkRow : OpenClaim := { program := "ytblbnillilbacaagreatdoor", sum := "832f469f9c2d69c8093b69c077afcc3ef49e2ee5b5579234e760708b9bda7dbd", func := "loop.example/g00293/laws.FnExactArmsOk", spec := "fnExactArmsOk", inPlace := ["internal/bytealg.IndexByteString", "internal/bytealg.IndexString", "internal/bytealg.CountString"], unfollowed := true, recurses := true, named := ["loop.example/g00293/impl.forms", "internal/bytealg.MaxLen", "internal/strconv.uint64pow10", "math/bits.deBruijn32tab", "math/bits.deBruijn64tab"], loops := true, apart := false, laid := [("math/bits.deBruijn32tab", laid_math_bits_deBruijn32tab), ("math/bits.deBruijn64tab", laid_math_bits_deBruijn64tab), ("internal/strconv.uint64pow10", laid_internal_strconv_uint64pow10), ("loop.example/g00293/impl.forms", laid_loop_example_g00293_impl_forms)] }
def FnExactArmsOkSaid : Prop := fnExactArmsOkRow.holds Tryz.pinned (OpenSpec.ofChange fnExactArmsOkSpec)

/-- ITS FALSE NEIGHBOUR: 'it returns false'. Refute it at one input. -/
def fnExactArmsOkWrong : ChangeSpec := { name := "fnExactArmsOk", vars := ["loop.example/g00293/impl.forms"], fn := fun _ => fun
  | [d, g1] => { results := [.lit (.bool false)], args := [d], vars := [g1] }
  | _ => none }
def FnExactArmsOkWrongFalsely : Prop := fnExactArmsOkRow.holds Tryz.pinned (OpenSpec.ofChange fnExactArmsOkWrong)

/- THE SECOND FORM. 'bulk': how many values and letters a reading holds, each counted each time it is reached (what is shared counts as often as it is met; a slice's spare places count too). A statement '..UptoSaid' is the law's where the arguments, and the package variables that the reading takes, are together of bulk at most 1048576: NARROWER than '..Said'. Prove '..Said' where nothing that the law and all that it calls make is longer than what came in: it says more and counts as full. Else prove '..UptoSaid'. A law counts once. -/
mutual
def uptoBulk {H : Type} : DataW H → Nat
  | .lit (.string bytes) => bytes.length + 1
  | .lit _ => 1
  | .nil => 1
  | .ptr d => uptoBulk d + 1
  | .slice elems spare => uptoBulkAll elems + uptoBulkAll spare + 1
  | .agg parts => uptoBulkAll parts + 1
  | .iface _ d => uptoBulk d + 1
  | .map entries => uptoBulkEntries entries + 1
  | .held _ => 1
def uptoBulkAll {H : Type} : List (DataW H) → Nat
  | [] => 0
  | d :: r => uptoBulk d + uptoBulkAll r
def uptoBulkEntries {H : Type} : List (Lit × DataW H) → Nat
  | [] => 0
  | x :: r => uptoBulkEntry x + uptoBulkEntries r
def uptoBulkEntry {H : Type} : Lit × DataW H → Nat
  | (.string bytes, d) => bytes.length + uptoBulk d + 1
  | (_, d) => uptoBulk d + 1
 end
def uptoSmall : (H : Type) → List (DataW H) → Bool := fun _ ds => decide (uptoBulkAll ds ≤ 1048576)
def OpenSpec.upto (s : _root_.Go.ChangeSpec) : _root_.Go.OpenSpec := { _root_.Go.OpenSpec.ofChange s with cond := some uptoSmall }

/-- 'laws.FnExactSourceOk', WHERE WHAT IT READS IS OF BULK AT MOST 1048576: true; the input reads as it did. -/
def fnExactSourceOkUptoRow : OpenClaim := { program := "ytblbnillilbacaagreatdoor", sum := "832f469f9c2d69c8093b69c077afcc3ef49e2ee5b5579234e760708b9bda7dbd", func := "loop.example/g00293/laws.FnExactSourceOk", spec := "fnExactSourceOk", inPlace := ["internal/bytealg.IndexByteString", "internal/bytealg.IndexString", "internal/bytealg.CountString"], unfollowed := true, recurses := true, named := ["loop.example/g00293/impl.forms", "internal/bytealg.MaxLen", "internal/strconv.uint64pow10", "math/bits.deBruijn32tab", "math/bits.deBruijn64tab"], loops := true, apart := false, laid := [("math/bits.deBruijn32tab", laid_math_bits_deBruijn32tab), ("math/bits.deBruijn64tab", laid_math_bits_deBruijn64tab), ("internal/strconv.uint64pow10", laid_internal_strconv_uint64pow10), ("loop.example/g00293/impl.forms", laid_loop_example_g00293_impl_forms)], narrowed := true }
def FnExactSourceOkUptoSaid : Prop := fnExactSourceOkUptoRow.holds Tryz.pinned (OpenSpec.upto fnExactSourceOkSpec)

/-- 'laws.FnExactPrint', WHERE WHAT IT READS IS OF BULK AT MOST 1048576: true; the input reads as it did. -/
def fnExactPrintUptoRow : OpenClaim := { program := "ytblbnillilbacaagreatdoor", sum := "832f469f9c2d69c8093b69c077afcc3ef49e2ee5b5579234e760708b9bda7dbd", func := "loop.example/g00293/laws.FnExactPrint", spec := "fnExactPrint", inPlace := ["internal/bytealg.IndexByteString", "internal/bytealg.IndexString", "internal/bytealg.CountString"], unfollowed := true, recurses := true, named := ["loop.example/g00293/impl.forms", "internal/bytealg.MaxLen", "internal/strconv.uint64pow10", "math/bits.deBruijn32tab", "math/bits.deBruijn64tab"], loops := true, apart := false, laid := [("math/bits.deBruijn32tab", laid_math_bits_deBruijn32tab), ("math/bits.deBruijn64tab", laid_math_bits_deBruijn64tab), ("internal/strconv.uint64pow10", laid_internal_strconv_uint64pow10), ("loop.example/g00293/impl.forms", laid_loop_example_g00293_impl_forms)], narrowed := true }
def FnExactPrintUptoSaid : Prop := fnExactPrintUptoRow.holds Tryz.pinned (OpenSpec.upto fnExactPrintSpec)

/-- 'laws.FnExactNamesOk', WHERE WHAT IT READS IS OF BULK AT MOST 1048576: true; the input reads as it did. -/
def fnExactNamesOkUptoRow : OpenClaim := { program := "ytblbnillilbacaagreatdoor", sum := "832f469f9c2d69c8093b69c077afcc3ef49e2ee5b5579234e760708b9bda7dbd", func := "loop.example/g00293/laws.FnExactNamesOk", spec := "fnExactNamesOk", inPlace := ["internal/bytealg.IndexByteString", "internal/bytealg.IndexString", "internal/bytealg.CountString"], unfollowed := true, recurses := true, named := ["loop.example/g00293/impl.forms", "internal/bytealg.MaxLen", "internal/strconv.uint64pow10", "math/bits.deBruijn32tab", "math/bits.deBruijn64tab"], loops := true, apart := false, laid := [("math/bits.deBruijn32tab", laid_math_bits_deBruijn32tab), ("math/bits.deBruijn64tab", laid_math_bits_deBruijn64tab), ("internal/strconv.uint64pow10", laid_internal_strconv_uint64pow10), ("loop.example/g00293/impl.forms", laid_loop_example_g00293_impl_forms)], narrowed := true }
def FnExactNamesOkUptoSaid : Prop := fnExactNamesOkUptoRow.holds Tryz.pinned (OpenSpec.upto fnExactNamesOkSpec)

/-- 'laws.FnExactArmsOk', WHERE WHAT IT READS IS OF BULK AT MOST 1048576: true; the input reads as it did. -/
def fnExactArmsOkUptoRow : OpenClaim := { program := "ytblbnillilbacaagreatdoor", sum := "832f469f9c2d69c8093b69c077afcc3ef49e2ee5b5579234e760708b9bda7dbd", func := "loop.example/g00293/laws.FnExactArmsOk", spec := "fnExactArmsOk", inPlace := ["internal/bytealg.IndexByteString", "internal/bytealg.IndexString", "internal/bytealg.CountString"], unfollowed := true, recurses := true, named := ["loop.example/g00293/impl.forms", "internal/bytealg.MaxLen", "internal/strconv.uint64pow10", "math/bits.deBruijn32tab", "math/bits.deBruijn64tab"], loops := true, apart := false, laid := [("math/bits.deBruijn32tab", laid_math_bits_deBruijn32tab), ("math/bits.deBruijn64tab", laid_math_bits_deBruijn64tab), ("internal/strconv.uint64pow10", laid_internal_strconv_uint64pow10), ("loop.example/g00293/impl.forms", laid_loop_example_g00293_impl_forms)], narrowed := true }
def FnExactArmsOkUptoSaid : Prop := fnExactArmsOkUptoRow.holds Tryz.pinned (OpenSpec.upto fnExactArmsOkSpec)

end Rows
end Go.Proofs.YtblbnillilbacaaGreatDoor
