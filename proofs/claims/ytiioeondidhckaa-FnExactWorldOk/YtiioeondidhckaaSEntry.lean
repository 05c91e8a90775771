/-
  Entry: two numbers: how they lie, compared and copied. No statement is proved here.
-/
import Derived.Test.YtiioeondidhckaaSBa
import Derived.Test.YtiioeondidhckaaGQ
import Derived.Test.YtiioeondidhckaaEC1
import Derived.Test.YtiioeondidhckaaHHelp
import Derived.Deep.DeepCutAuto
namespace Go.Proofs.Ytiioeondidhckaa.By
open Go.RowKit
set_option linter.unusedVariables false
set_option linter.unusedSimpArgs false

structure REntry where
  key : Int
  val : Int
/-- It has no parts; the place and the length are any. -/
def RdEntry (w : World) (x : REntry) (a1 : Option Addr) (l1 : Nat) : Prop := True
theorem RdEntry.le {w u : World} {x : REntry} {a1 : Option Addr} {l1 : Nat} (h : RdEntry w x a1 l1) (k : CLe w u) : RdEntry u x a1 l1 := trivial
theorem RdEntry.none {w u : World} {x : REntry} {a1 : Option Addr} {l1 : Nat} (h : RdEntry w x a1 l1) (k : w.grownBy u Option.none) : RdEntry u x a1 l1 := trivial
def szEntry (x : REntry) : Nat := 0

set_option maxHeartbeats 2000000 in
theorem eqEntryT (x : REntry) (a1 f1 : Option Addr) (l1 c1 g1 : Nat) (w : World) (h : RdEntry w x a1 l1) (h' : RdEntry w x f1 l1) (hs : szEntry x ≤ 1048576) :
    Calls Try.prog 72 #[.agg #[.int .i64 x.key, .int .i64 x.val], .agg #[.int .i64 x.key, .int .i64 x.val]] w fun e u => e = .returned (.bool true) ∧ w.grownBy u none := by
  have G0 : Hid _ := grown_alloc (grown_alloc (World.grownBy.refl w none) (.cells #[.int .i64 x.key, .int .i64 x.val] 70)) (.cells #[.int .i64 x.key, .int .i64 x.val] 70)
  clear h h' hs
  go_enter Try.func72, Try.ntmps72
  go_wp2
  go_ret
  exact ⟨rfl, G0.out⟩

set_option maxHeartbeats 2000000 in
theorem toEntryT (x : REntry) (a1 : Option Addr) (l1 c1 : Nat) (w : World) (h : RdEntry w x a1 l1) (hs : szEntry x ≤ 1048576) :
    Calls Try.prog 70 #[.agg #[.int .i64 x.key, .int .i64 x.val]] w fun e u => ∃ (t1 : Option Addr) (w1 : Nat), e = .returned (.agg #[.int .i64 x.key, .int .i64 x.val]) ∧ w.grownBy u none ∧ RdEntry (hideZ u w.heap.size) x t1 l1 := by
  clear h hs
  have G0 : Hid _ := grown_alloc (grown_alloc (grown_alloc (World.grownBy.refl w none) (.cells #[.int .i64 x.key, .int .i64 x.val] 96)) (.cells #[.int .i64 x.key, .int .i64 x.val] 70)) (.cells #[.int .i64 x.key, .int .i64 x.val] 70)
  have B0 : Hid _ := (alloc3_blocks w (.cells #[.int .i64 x.key, .int .i64 x.val] 96) (.cells #[.int .i64 x.key, .int .i64 x.val] 70) (.cells #[.int .i64 x.key, .int .i64 x.val] 70)).2.1
  go_enter Try.func70, Try.ntmps70
  go_wp2
  (try simp only [Exit.inBlock, Exit.then])
  refine bodyPost_ret (results_cell_row (P := Try.prog) Try.results70 _ _ _ _ _ _ _ rfl B0.out Try.underlying70 rfl (by kernel_rfl)) rfl ?_
  exact ⟨none, 0, rfl, G0.out, trivial⟩
end Go.Proofs.Ytiioeondidhckaa.By
