/-
  Event that came in, opened. No statement is proved here.
-/
import Derived.Test.YtiioeondidhckaaEOb
import Derived.Test.YtiioeondidhckaaSEvent
namespace Go.Proofs.Ytiioeondidhckaa.By
open Go.ChangeShapes Go.WideShapes Go.ChangeAt Go.RowKit Go.Deep
set_option linter.unusedVariables false
set_option maxRecDepth 100000

theorem arrSEvent {cs : Array Value} (h : cs.size = 5) : ∃ v0 v1 v2 v3 v4, cs = #[v0, v1, v2, v3, v4] := by
  obtain ⟨l⟩ := cs
  match l, h with
  | [v0, v1, v2, v3, v4], _ => exact ⟨v0, v1, v2, v3, v4, rfl⟩

section
variable {H : Type} {enc : TypeId × Value → H} {W : World} {base : Nat} {spare : Nat → Bool} {held : Bool}

theorem openEventV (fuel : Nat) (v0 v1 v2 v3 v4 : Value) (y : DataW H × List MemPlace) (h : DataW.trod enc Try.prog W base spare held fuel 94 [v0, v1, v2, v3, v4] = some y) :
    ∃ (x : REvent) (a1 : Option Addr) (l1 c1 : Nat), (v0 = .int .i64 x.cap ∧ v1 = .int .i64 x.a ∧ v2 = .int .i64 x.b ∧ v3 = .slice a1 l1 c1 ∧ v4 = .int .i64 x.res) ∧ RdEvent W x a1 l1 := by
  obtain ⟨xs, n, hn, hx, hl, hxl, hf⟩ := DataW.trod_struct Try.underlying94 h
  have f0 : DataW.trod enc Try.prog W base spare held n 3 ((([v0, v1, v2, v3, v4] : List Value).drop 0).take (Try.prog.cellsOf 3)) = xs[0]? := hf 0 _ rfl
  rw [show Try.prog.cellsOf 3 = 1 by kernel_rfl] at f0
  have f1 : DataW.trod enc Try.prog W base spare held n 3 ((([v0, v1, v2, v3, v4] : List Value).drop 1).take (Try.prog.cellsOf 3)) = xs[1]? := hf 1 _ rfl
  rw [show Try.prog.cellsOf 3 = 1 by kernel_rfl] at f1
  have f2 : DataW.trod enc Try.prog W base spare held n 3 ((([v0, v1, v2, v3, v4] : List Value).drop 2).take (Try.prog.cellsOf 3)) = xs[2]? := hf 2 _ rfl
  rw [show Try.prog.cellsOf 3 = 1 by kernel_rfl] at f2
  have f3 : DataW.trod enc Try.prog W base spare held n 22 ((([v0, v1, v2, v3, v4] : List Value).drop 3).take (Try.prog.cellsOf 22)) = xs[3]? := hf 3 _ rfl
  rw [show Try.prog.cellsOf 22 = 1 by kernel_rfl] at f3
  have f4 : DataW.trod enc Try.prog W base spare held n 3 ((([v0, v1, v2, v3, v4] : List Value).drop 4).take (Try.prog.cellsOf 3)) = xs[4]? := hf 4 _ rfl
  rw [show Try.prog.cellsOf 3 = 1 by kernel_rfl] at f4
  match xs, (show xs.length = 5 from hxl) with
  | [x0, x1, x2, x3, x4], _ =>
  obtain ⟨n0, e0, _⟩ := openInt (enc := enc) (W := W) (base := base) (spare := spare) (held := held) (show DataW.trod enc Try.prog W base spare held n 3 [v0] = some x0 from f0)
  obtain ⟨n1, e1, _⟩ := openInt (enc := enc) (W := W) (base := base) (spare := spare) (held := held) (show DataW.trod enc Try.prog W base spare held n 3 [v1] = some x1 from f1)
  obtain ⟨n2, e2, _⟩ := openInt (enc := enc) (W := W) (base := base) (spare := spare) (held := held) (show DataW.trod enc Try.prog W base spare held n 3 [v2] = some x2 from f2)
  obtain ⟨a1, l1, c1, d1, e3, hd1⟩ := openByS (enc := enc) (W := W) (base := base) (spare := spare) (held := held) n v3 x3 f3
  obtain ⟨n4, e4, _⟩ := openInt (enc := enc) (W := W) (base := base) (spare := spare) (held := held) (show DataW.trod enc Try.prog W base spare held n 3 [v4] = some x4 from f4)
  exact ⟨⟨n0, n1, n2, d1, n4⟩, a1, l1, c1, ⟨e0, e1, e2, e3, e4⟩, hd1⟩

theorem openEventT {b0 : Nat} {v : Value} {dd : DataW H} {p : List MemPlace} (hv : Value.okWide Try.prog W .any b0 94 v) (h : DataW.Trod enc Try.prog W base spare held 94 v dd p) :
    ∃ (x : REvent) (a1 : Option Addr) (l1 c1 : Nat), v = .agg #[.int .i64 x.cap, .int .i64 x.a, .int .i64 x.b, .slice a1 l1 c1, .int .i64 x.res] ∧ RdEvent W x a1 l1 := by
  have hC : Try.prog.cellsOf 94 = 5 := by kernel_rfl
  obtain ⟨cs, rfl, hsz⟩ := okWide_struct Try.underlying94 hv
  obtain ⟨v0, v1, v2, v3, v4, rfl⟩ := arrSEvent (hsz.trans hC)
  obtain ⟨fuel, hf⟩ := h
  obtain ⟨x, a1, l1, c1, ⟨rfl, rfl, rfl, rfl, rfl⟩, hnd⟩ := openEventV (enc := enc) (W := W) (base := base) (spare := spare) (held := held) fuel v0 v1 v2 v3 v4 _ (by simpa [Value.cells] using hf)
  exact ⟨x, a1, l1, c1, rfl, hnd⟩
end
end Go.Proofs.Ytiioeondidhckaa.By
