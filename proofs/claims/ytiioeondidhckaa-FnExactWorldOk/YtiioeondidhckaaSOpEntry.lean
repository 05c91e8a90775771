/-
  Entry that came in, opened. No statement is proved here.
-/
import Derived.Test.YtiioeondidhckaaEOb
import Derived.Test.YtiioeondidhckaaSEntry
namespace Go.Proofs.Ytiioeondidhckaa.By
open Go.ChangeShapes Go.WideShapes Go.ChangeAt Go.RowKit Go.Deep
set_option linter.unusedVariables false
set_option maxRecDepth 100000

theorem arrSEntry {cs : Array Value} (h : cs.size = 2) : ∃ v0 v1, cs = #[v0, v1] := by
  obtain ⟨l⟩ := cs
  match l, h with
  | [v0, v1], _ => exact ⟨v0, v1, rfl⟩

section
variable {H : Type} {enc : TypeId × Value → H} {W : World} {base : Nat} {spare : Nat → Bool} {held : Bool}

theorem openEntryV (fuel : Nat) (v0 v1 : Value) (y : DataW H × List MemPlace) (h : DataW.trod enc Try.prog W base spare held fuel 96 [v0, v1] = some y) :
    ∃ (x : REntry) (a1 : Option Addr) (l1 c1 : Nat), (v0 = .int .i64 x.key ∧ v1 = .int .i64 x.val) ∧ RdEntry W x a1 l1 := by
  obtain ⟨xs, n, hn, hx, hl, hxl, hf⟩ := DataW.trod_struct Try.underlying96 h
  have f0 : DataW.trod enc Try.prog W base spare held n 3 ((([v0, v1] : List Value).drop 0).take (Try.prog.cellsOf 3)) = xs[0]? := hf 0 _ rfl
  rw [show Try.prog.cellsOf 3 = 1 by kernel_rfl] at f0
  have f1 : DataW.trod enc Try.prog W base spare held n 3 ((([v0, v1] : List Value).drop 1).take (Try.prog.cellsOf 3)) = xs[1]? := hf 1 _ rfl
  rw [show Try.prog.cellsOf 3 = 1 by kernel_rfl] at f1
  match xs, (show xs.length = 2 from hxl) with
  | [x0, x1], _ =>
  obtain ⟨n0, e0, _⟩ := openInt (enc := enc) (W := W) (base := base) (spare := spare) (held := held) (show DataW.trod enc Try.prog W base spare held n 3 [v0] = some x0 from f0)
  obtain ⟨n1, e1, _⟩ := openInt (enc := enc) (W := W) (base := base) (spare := spare) (held := held) (show DataW.trod enc Try.prog W base spare held n 3 [v1] = some x1 from f1)
  exact ⟨⟨n0, n1⟩, none, 0, 0, ⟨e0, e1⟩, trivial⟩

theorem openEntryT {b0 : Nat} {v : Value} {dd : DataW H} {p : List MemPlace} (hv : Value.okWide Try.prog W .any b0 96 v) (h : DataW.Trod enc Try.prog W base spare held 96 v dd p) :
    ∃ (x : REntry) (a1 : Option Addr) (l1 c1 : Nat), v = .agg #[.int .i64 x.key, .int .i64 x.val] ∧ RdEntry W x a1 l1 := by
  have hC : Try.prog.cellsOf 96 = 2 := by kernel_rfl
  obtain ⟨cs, rfl, hsz⟩ := okWide_struct Try.underlying96 hv
  obtain ⟨v0, v1, rfl⟩ := arrSEntry (hsz.trans hC)
  obtain ⟨fuel, hf⟩ := h
  obtain ⟨x, a1, l1, c1, ⟨rfl, rfl⟩, hnd⟩ := openEntryV (enc := enc) (W := W) (base := base) (spare := spare) (held := held) fuel v0 v1 _ (by simpa [Value.cells] using hf)
  exact ⟨x, a1, l1, c1, rfl, hnd⟩
end
end Go.Proofs.Ytiioeondidhckaa.By
