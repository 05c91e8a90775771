/-
  World that came in, opened. No statement is proved here.
-/
import Derived.Test.YtiioeondidhckaaEOb
import Derived.Test.YtiioeondidhckaaSWorld
import Derived.Test.YtiioeondidhckaaSOpEntrys
import Derived.Test.YtiioeondidhckaaSOpEvents
namespace Go.Proofs.Ytiioeondidhckaa.By
open Go.ChangeShapes Go.WideShapes Go.ChangeAt Go.RowKit Go.Deep
set_option linter.unusedVariables false
set_option maxRecDepth 100000

theorem arrSWorld {cs : Array Value} (h : cs.size = 4) : ∃ v0 v1 v2 v3, cs = #[v0, v1, v2, v3] := by
  obtain ⟨l⟩ := cs
  match l, h with
  | [v0, v1, v2, v3], _ => exact ⟨v0, v1, v2, v3, rfl⟩

section
variable {H : Type} {enc : TypeId × Value → H} {W : World} {base : Nat} {spare : Nat → Bool} {held : Bool}

theorem openWorldV (fuel : Nat) (v0 v1 v2 v3 : Value) (y : DataW H × List MemPlace) (h : DataW.trod enc Try.prog W base spare held fuel 41 [v0, v1, v2, v3] = some y) :
    ∃ (x : RWorld) (a1 : Option Addr) (l1 c1 : Nat) (a2 : Option Addr) (l2 c2 : Nat) (a3 : Option Addr) (l3 c3 : Nat), (v0 = .int .i64 x.ticks ∧ v1 = .slice a1 l1 c1 ∧ v2 = .slice a2 l2 c2 ∧ v3 = .slice a3 l3 c3) ∧ RdWorld W x a1 l1 a2 l2 a3 l3 := by
  obtain ⟨xs, n, hn, hx, hl, hxl, hf⟩ := DataW.trod_struct Try.underlying41 h
  have f0 : DataW.trod enc Try.prog W base spare held n 3 ((([v0, v1, v2, v3] : List Value).drop 0).take (Try.prog.cellsOf 3)) = xs[0]? := hf 0 _ rfl
  rw [show Try.prog.cellsOf 3 = 1 by kernel_rfl] at f0
  have f1 : DataW.trod enc Try.prog W base spare held n 23 ((([v0, v1, v2, v3] : List Value).drop 1).take (Try.prog.cellsOf 23)) = xs[1]? := hf 1 _ rfl
  rw [show Try.prog.cellsOf 23 = 1 by kernel_rfl] at f1
  have f2 : DataW.trod enc Try.prog W base spare held n 38 ((([v0, v1, v2, v3] : List Value).drop 2).take (Try.prog.cellsOf 38)) = xs[2]? := hf 2 _ rfl
  rw [show Try.prog.cellsOf 38 = 1 by kernel_rfl] at f2
  have f3 : DataW.trod enc Try.prog W base spare held n 39 ((([v0, v1, v2, v3] : List Value).drop 3).take (Try.prog.cellsOf 39)) = xs[3]? := hf 3 _ rfl
  rw [show Try.prog.cellsOf 39 = 1 by kernel_rfl] at f3
  match xs, (show xs.length = 4 from hxl) with
  | [x0, x1, x2, x3], _ =>
  obtain ⟨n0, e0, _⟩ := openInt (enc := enc) (W := W) (base := base) (spare := spare) (held := held) (show DataW.trod enc Try.prog W base spare held n 3 [v0] = some x0 from f0)
  obtain ⟨a1, l1, c1, d1, e1, hd1⟩ := openInS (enc := enc) (W := W) (base := base) (spare := spare) (held := held) n v1 x1 f1
  obtain ⟨a2, l2, c2, d2, e2, hd2⟩ := openEntryS (enc := enc) (W := W) (base := base) (spare := spare) (held := held) n v2 x2 f2
  obtain ⟨a3, l3, c3, d3, e3, hd3⟩ := openEventS (enc := enc) (W := W) (base := base) (spare := spare) (held := held) n v3 x3 f3
  exact ⟨⟨n0, d1, d2, d3⟩, a1, l1, c1, a2, l2, c2, a3, l3, c3, ⟨e0, e1, e2, e3⟩, ⟨hd1, hd2, hd3⟩⟩

theorem openWorldT {b0 : Nat} {v : Value} {dd : DataW H} {p : List MemPlace} (hv : Value.okWide Try.prog W .any b0 41 v) (h : DataW.Trod enc Try.prog W base spare held 41 v dd p) :
    ∃ (x : RWorld) (a1 : Option Addr) (l1 c1 : Nat) (a2 : Option Addr) (l2 c2 : Nat) (a3 : Option Addr) (l3 c3 : Nat), v = .agg #[.int .i64 x.ticks, .slice a1 l1 c1, .slice a2 l2 c2, .slice a3 l3 c3] ∧ RdWorld W x a1 l1 a2 l2 a3 l3 := by
  have hC : Try.prog.cellsOf 41 = 4 := by kernel_rfl
  obtain ⟨cs, rfl, hsz⟩ := okWide_struct Try.underlying41 hv
  obtain ⟨v0, v1, v2, v3, rfl⟩ := arrSWorld (hsz.trans hC)
  obtain ⟨fuel, hf⟩ := h
  obtain ⟨x, a1, l1, c1, a2, l2, c2, a3, l3, c3, ⟨rfl, rfl, rfl, rfl⟩, hnd⟩ := openWorldV (enc := enc) (W := W) (base := base) (spare := spare) (held := held) fuel v0 v1 v2 v3 _ (by simpa [Value.cells] using hf)
  exact ⟨x, a1, l1, c1, a2, l2, c2, a3, l3, c3, rfl, hnd⟩
end
end Go.Proofs.Ytiioeondidhckaa.By
