/-
  What the law's own helpers for trees do, in one line each. No statement is proved here.
-/
import Derived.Test.YtbeejgacdcncgaaTCopy
import Derived.Test.YtbeejgacdcncgaaTEq
namespace Go.Proofs.Ytbeejgacdcncgaa.By
open Go.RowKit
set_option linter.unusedVariables false

/-- The law's size, as long as there is room. -/
theorem szTr (d : F) (k n : Int) (a : Option Addr) (l c : Nat) (L : Int) (w : World) (h : SlF w a l d) (h0 : 0 ≤ L) (h1 : L ≤ 1048576) :
    Calls Try.prog 10 #[.agg #[.int .i64 k, .int .i64 n, .slice a l c], .int .i64 L] w fun e u => e = .returned (.int .i64 (szV d L)) ∧ w.grownBy u none :=
  szT_of k n w h (fun w' hw => szS d.size d a l c L w' (Nat.le_refl _) (h.none hw) h0 h1)
theorem toTr (d : F) (k n : Int) (a : Option Addr) (l c : Nat) (w : World) (h : SlF w a l d) (hs : d.size ≤ 1048576) :
    Calls Try.prog 15 #[.agg #[.int .i64 k, .int .i64 n, .slice a l c]] w fun e u => ∃ a' c' bs, e = .returned (.agg #[.int .i64 k, .int .i64 n, .slice a' l c']) ∧ w.grownBy u none ∧ New w u 34 a' l c' d bs :=
  toT_of k n w h (fun w' hw => toS d.size d a l c w' (Nat.le_refl _) hs (h.none hw))
theorem eqTr (d : F) (k n : Int) (a a' : Option Addr) (l c c' : Nat) (w : World) (h : SlF w a l d) (h' : SlF w a' l d) :
    Calls Try.prog 20 #[.agg #[.int .i64 k, .int .i64 n, .slice a l c], .agg #[.int .i64 k, .int .i64 n, .slice a' l c']] w fun e u => e = .returned (.bool true) ∧ w.grownBy u none :=
  eqT_of k n w (fun w' hw => eqS d.size d a a' l c c' w' (Nat.le_refl _) (h.none hw) (h'.none hw))
end Go.Proofs.Ytbeejgacdcncgaa.By
