/-
  Ins that came in, opened. No statement is proved here.
-/
import Derived.Test.YtmjbnalhimhgnaaDoorEOb
import Derived.Test.YtmjbnalhimhgnaaDoorSIns
namespace Go.Proofs.YtmjbnalhimhgnaaDoor.By
open Go.ChangeShapes Go.WideShapes Go.ChangeAt Go.RowKit Go.Deep
set_option linter.unusedVariables false
set_option maxRecDepth 100000

theorem arrSIns {cs : Array Value} (h : cs.size = 5) : ∃ v0 v1 v2 v3 v4, cs = #[v0, v1, v2, v3, v4] := by
  obtain ⟨l⟩ := cs
  match l, h with
  | [v0, v1, v2, v3, v4], _ => exact ⟨v0, v1, v2, v3, v4, rfl⟩

section
variable {H : Type} {enc : TypeId × Value → H} {W : World} {base : Nat} {spare : Nat → Bool} {held : Bool}

theorem openInsV (fuel : Nat) (v0 v1 v2 v3 v4 : Value) (y : DataW H × List MemPlace) (h : DataW.trod enc Tryd.prog W base spare held fuel 25 [v0, v1, v2, v3, v4] = some y) :
    ∃ (x : RIns) (a1 : Option Addr) (l1 c1 : Nat) (a2 : Option Addr) (l2 c2 : Nat), (v0 = .int .i64 x.op ∧ v1 = .int .i64 x.a ∧ v2 = .int .i64 x.b ∧ v3 = .slice a1 l1 c1 ∧ v4 = .slice a2 l2 c2) ∧ RdIns W x a1 l1 a2 l2 := by
  obtain ⟨xs, n, hn, hx, hl, hxl, hf⟩ := DataW.trod_struct Tryd.underlying25 h
  have f0 : DataW.trod enc Tryd.prog W base spare held n 3 ((([v0, v1, v2, v3, v4] : List Value).drop 0).take (Tryd.prog.cellsOf 3)) = xs[0]? := hf 0 _ rfl
  rw [show Tryd.prog.cellsOf 3 = 1 by kernel_rfl] at f0
  have f1 : DataW.trod enc Tryd.prog W base spare held n 3 ((([v0, v1, v2, v3, v4] : List Value).drop 1).take (Tryd.prog.cellsOf 3)) = xs[1]? := hf 1 _ rfl
  rw [show Tryd.prog.cellsOf 3 = 1 by kernel_rfl] at f1
  have f2 : DataW.trod enc Tryd.prog W base spare held n 3 ((([v0, v1, v2, v3, v4] : List Value).drop 2).take (Tryd.prog.cellsOf 3)) = xs[2]? := hf 2 _ rfl
  rw [show Tryd.prog.cellsOf 3 = 1 by kernel_rfl] at f2
  have f3 : DataW.trod enc Tryd.prog W base spare held n 22 ((([v0, v1, v2, v3, v4] : List Value).drop 3).take (Tryd.prog.cellsOf 22)) = xs[3]? := hf 3 _ rfl
  rw [show Tryd.prog.cellsOf 22 = 1 by kernel_rfl] at f3
  have f4 : DataW.trod enc Tryd.prog W base spare held n 23 ((([v0, v1, v2, v3, v4] : List Value).drop 4).take (Tryd.prog.cellsOf 23)) = xs[4]? := hf 4 _ rfl
  rw [show Tryd.prog.cellsOf 23 = 1 by kernel_rfl] at f4
  match xs, (show xs.length = 5 from hxl) with
  | [x0, x1, x2, x3, x4], _ =>
  obtain ⟨n0, e0, _⟩ := openInt (enc := enc) (W := W) (base := base) (spare := spare) (held := held) (show DataW.trod enc Tryd.prog W base spare held n 3 [v0] = some x0 from f0)
  obtain ⟨n1, e1, _⟩ := openInt (enc := enc) (W := W) (base := base) (spare := spare) (held := held) (show DataW.trod enc Tryd.prog W base spare held n 3 [v1] = some x1 from f1)
  obtain ⟨n2, e2, _⟩ := openInt (enc := enc) (W := W) (base := base) (spare := spare) (held := held) (show DataW.trod enc Tryd.prog W base spare held n 3 [v2] = some x2 from f2)
  obtain ⟨a1, l1, c1, d1, e3, hd1⟩ := openByS (enc := enc) (W := W) (base := base) (spare := spare) (held := held) n v3 x3 f3
  obtain ⟨a2, l2, c2, d2, e4, hd2⟩ := openInS (enc := enc) (W := W) (base := base) (spare := spare) (held := held) n v4 x4 f4
  exact ⟨⟨n0, n1, n2, d1, d2⟩, a1, l1, c1, a2, l2, c2, ⟨e0, e1, e2, e3, e4⟩, ⟨hd1, hd2⟩⟩

theorem openInsT {b0 : Nat} {v : Value} {dd : DataW H} {p : List MemPlace} (hv : Value.okWide Tryd.prog W .any b0 25 v) (h : DataW.Trod enc Tryd.prog W base spare held 25 v dd p) :
    ∃ (x : RIns) (a1 : Option Addr) (l1 c1 : Nat) (a2 : Option Addr) (l2 c2 : Nat), v = .agg #[.int .i64 x.op, .int .i64 x.a, .int .i64 x.b, .slice a1 l1 c1, .slice a2 l2 c2] ∧ RdIns W x a1 l1 a2 l2 := by
  have hC : Tryd.prog.cellsOf 25 = 5 := by kernel_rfl
  obtain ⟨cs, rfl, hsz⟩ := okWide_struct Tryd.underlying25 hv
  obtain ⟨v0, v1, v2, v3, v4, rfl⟩ := arrSIns (hsz.trans hC)
  obtain ⟨fuel, hf⟩ := h
  obtain ⟨x, a1, l1, c1, a2, l2, c2, ⟨rfl, rfl, rfl, rfl, rfl⟩, hnd⟩ := openInsV (enc := enc) (W := W) (base := base) (spare := spare) (held := held) fuel v0 v1 v2 v3 v4 _ (by simpa [Value.cells] using hf)
  exact ⟨x, a1, l1, c1, a2, l2, c2, rfl, hnd⟩
end
end Go.Proofs.YtmjbnalhimhgnaaDoor.By
