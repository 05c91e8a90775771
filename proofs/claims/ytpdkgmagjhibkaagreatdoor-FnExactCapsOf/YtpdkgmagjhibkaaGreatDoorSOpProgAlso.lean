/-
  Several texts in one (SOpIns, SOpInss, SOpBlock, SOpBlocks, SOpProg). No statement is proved here.
-/
import Derived.Test.YtpdkgmagjhibkaaGreatDoorTEqAlso
import Derived.Test.YtpdkgmagjhibkaaGreatDoorSIns
import Derived.Test.YtpdkgmagjhibkaaGreatDoorSOpLayoutsAlso
import Derived.Test.YtpdkgmagjhibkaaGreatDoorSInss
import Derived.Test.YtpdkgmagjhibkaaGreatDoorSBlock
import Derived.Test.YtpdkgmagjhibkaaGreatDoorSBlocks
namespace Go.Proofs.YtpdkgmagjhibkaaGreatDoor.By
open Go.ChangeShapes Go.WideShapes Go.ChangeAt Go.RowKit Go.Deep
set_option linter.unusedVariables false
set_option maxRecDepth 100000

theorem arrSIns {cs : Array Value} (h : cs.size = 5) : ∃ v0 v1 v2 v3 v4, cs = #[v0, v1, v2, v3, v4] := by
  obtain ⟨l⟩ := cs
  match l, h with
  | [v0, v1, v2, v3, v4], _ => exact ⟨v0, v1, v2, v3, v4, rfl⟩

section
variable {H : Type} {enc : TypeId × Value → H} {W : World} {base : Nat} {spare : Nat → Bool} {held : Bool}

theorem openInsV (fuel : Nat) (v0 v1 v2 v3 v4 : Value) (y : DataW H × List MemPlace) (h : DataW.trod enc Tryz.prog W base spare held fuel 146 [v0, v1, v2, v3, v4] = some y) :
    ∃ (x : RIns) (a1 : Option Addr) (l1 c1 : Nat) (a2 : Option Addr) (l2 c2 : Nat), (v0 = .int .i64 x.op ∧ v1 = .int .i64 x.a ∧ v2 = .int .i64 x.b ∧ v3 = .slice a1 l1 c1 ∧ v4 = .slice a2 l2 c2) ∧ RdIns W x a1 l1 a2 l2 := by
  obtain ⟨xs, n, hn, hx, hl, hxl, hf⟩ := DataW.trod_struct Tryz.underlying146 h
  have f0 : DataW.trod enc Tryz.prog W base spare held n 3 ((([v0, v1, v2, v3, v4] : List Value).drop 0).take (Tryz.prog.cellsOf 3)) = xs[0]? := hf 0 _ rfl
  rw [show Tryz.prog.cellsOf 3 = 1 by kernel_rfl] at f0
  have f1 : DataW.trod enc Tryz.prog W base spare held n 3 ((([v0, v1, v2, v3, v4] : List Value).drop 1).take (Tryz.prog.cellsOf 3)) = xs[1]? := hf 1 _ rfl
  rw [show Tryz.prog.cellsOf 3 = 1 by kernel_rfl] at f1
  have f2 : DataW.trod enc Tryz.prog W base spare held n 3 ((([v0, v1, v2, v3, v4] : List Value).drop 2).take (Tryz.prog.cellsOf 3)) = xs[2]? := hf 2 _ rfl
  rw [show Tryz.prog.cellsOf 3 = 1 by kernel_rfl] at f2
  have f3 : DataW.trod enc Tryz.prog W base spare held n 36 ((([v0, v1, v2, v3, v4] : List Value).drop 3).take (Tryz.prog.cellsOf 36)) = xs[3]? := hf 3 _ rfl
  rw [show Tryz.prog.cellsOf 36 = 1 by kernel_rfl] at f3
  have f4 : DataW.trod enc Tryz.prog W base spare held n 24 ((([v0, v1, v2, v3, v4] : List Value).drop 4).take (Tryz.prog.cellsOf 24)) = xs[4]? := hf 4 _ rfl
  rw [show Tryz.prog.cellsOf 24 = 1 by kernel_rfl] at f4
  match xs, (show xs.length = 5 from hxl) with
  | [x0, x1, x2, x3, x4], _ =>
  obtain ⟨n0, e0, _⟩ := openInt (enc := enc) (W := W) (base := base) (spare := spare) (held := held) (show DataW.trod enc Tryz.prog W base spare held n 3 [v0] = some x0 from f0)
  obtain ⟨n1, e1, _⟩ := openInt (enc := enc) (W := W) (base := base) (spare := spare) (held := held) (show DataW.trod enc Tryz.prog W base spare held n 3 [v1] = some x1 from f1)
  obtain ⟨n2, e2, _⟩ := openInt (enc := enc) (W := W) (base := base) (spare := spare) (held := held) (show DataW.trod enc Tryz.prog W base spare held n 3 [v2] = some x2 from f2)
  obtain ⟨a1, l1, c1, d1, e3, hd1⟩ := openByS (enc := enc) (W := W) (base := base) (spare := spare) (held := held) n v3 x3 f3
  obtain ⟨a2, l2, c2, d2, e4, hd2⟩ := openInS (enc := enc) (W := W) (base := base) (spare := spare) (held := held) n v4 x4 f4
  exact ⟨⟨n0, n1, n2, d1, d2⟩, a1, l1, c1, a2, l2, c2, ⟨e0, e1, e2, e3, e4⟩, ⟨hd1, hd2⟩⟩

theorem openInsT {b0 : Nat} {v : Value} {dd : DataW H} {p : List MemPlace} (hv : Value.okWide Tryz.prog W .any b0 146 v) (h : DataW.Trod enc Tryz.prog W base spare held 146 v dd p) :
    ∃ (x : RIns) (a1 : Option Addr) (l1 c1 : Nat) (a2 : Option Addr) (l2 c2 : Nat), v = .agg #[.int .i64 x.op, .int .i64 x.a, .int .i64 x.b, .slice a1 l1 c1, .slice a2 l2 c2] ∧ RdIns W x a1 l1 a2 l2 := by
  have hC : Tryz.prog.cellsOf 146 = 5 := by kernel_rfl
  obtain ⟨cs, rfl, hsz⟩ := okWide_struct Tryz.underlying146 hv
  obtain ⟨v0, v1, v2, v3, v4, rfl⟩ := arrSIns (hsz.trans hC)
  obtain ⟨fuel, hf⟩ := h
  obtain ⟨x, a1, l1, c1, a2, l2, c2, ⟨rfl, rfl, rfl, rfl, rfl⟩, hnd⟩ := openInsV (enc := enc) (W := W) (base := base) (spare := spare) (held := held) fuel v0 v1 v2 v3 v4 _ (by simpa [Value.cells] using hf)
  exact ⟨x, a1, l1, c1, a2, l2, c2, rfl, hnd⟩
end
end Go.Proofs.YtpdkgmagjhibkaaGreatDoor.By

namespace Go.Proofs.YtpdkgmagjhibkaaGreatDoor.By
open Go.ChangeShapes Go.WideShapes Go.ChangeAt Go.RowKit Go.Deep
set_option linter.unusedVariables false
set_option maxRecDepth 100000

theorem inIns_of_each {W : World} {b : Nat} (l : Nat) : ∀ (o : Nat), (∀ i, i < l → ∃ (x : RIns) (a1 : Option Addr) (l1 c1 : Nat) (a2 : Option Addr) (l2 c2 : Nat), (W.cell? ⟨b, o + i * 5, none⟩ = some (.int .i64 x.op) ∧ W.cell? ⟨b, o + i * 5 + 1, none⟩ = some (.int .i64 x.a) ∧ W.cell? ⟨b, o + i * 5 + 2, none⟩ = some (.int .i64 x.b) ∧ W.cell? ⟨b, o + i * 5 + 3, none⟩ = some (.slice a1 l1 c1) ∧ W.cell? ⟨b, o + i * 5 + 4, none⟩ = some (.slice a2 l2 c2)) ∧ RdIns W x a1 l1 a2 l2) → ∃ xs : List RIns, xs.length = l ∧ InIns W W xs b o := by
  induction l with
  | zero => intro o _; exact ⟨[], rfl, trivial⟩
  | succ l ih =>
    intro o h
    obtain ⟨x, a1, l1, c1, a2, l2, c2, ⟨h0, h1, h2, h3, h4⟩, hp⟩ := h 0 (by omega)
    obtain ⟨xs, hl, hin⟩ := ih (o + 5) (fun i hi => by
      have := h (i + 1) (by omega)
      have e : o + (i + 1) * 5 = o + 5 + i * 5 := by omega
      rw [e] at this; exact this)
    exact ⟨x :: xs, by simp [hl], ⟨a1, l1, c1, a2, l2, c2, ⟨by simpa using h0, by simpa using h1, by simpa using h2, by simpa using h3, by simpa using h4⟩, hp⟩, hin⟩

section
variable {H : Type} {enc : TypeId × Value → H} {W : World} {base : Nat} {spare : Nat → Bool} {held : Bool}

theorem openInsS (fuel : Nat) (v : Value) (x : DataW H × List MemPlace) (h : DataW.trod enc Tryz.prog W base spare held fuel 76 [v] = some x) : ∃ a l c xs, v = .slice a l c ∧ SlIns W a l xs := by
  rcases DataW.trod_slice Tryz.underlying76 h with ⟨hcs, _⟩ | ⟨y, l, c, elems, rest, n', hn', hcs, _, hb, hl, hm, hlen, hel, _, _⟩
  · simp at hcs
    exact ⟨none, 0, 0, [], hcs, rfl, by omega, .inl rfl⟩
  · simp at hcs
    have hm' : c ≤ 9223372036854775807 := by simpa [maxLen] using hm
    have hC : Tryz.prog.cellsOf 146 = 5 := by kernel_rfl
    rw [hC] at hel
    have hel2 : ∀ i, i < l → ∃ (x : RIns) (a1 : Option Addr) (l1 c1 : Nat) (a2 : Option Addr) (l2 c2 : Nat), (W.cell? (y.add (i * 5)) = some (.int .i64 x.op) ∧ W.cell? ((y.add (i * 5)).add 1) = some (.int .i64 x.a) ∧ W.cell? ((y.add (i * 5)).add 2) = some (.int .i64 x.b) ∧ W.cell? ((y.add (i * 5)).add 3) = some (.slice a1 l1 c1) ∧ W.cell? ((y.add (i * 5)).add 4) = some (.slice a2 l2 c2)) ∧ RdIns W x a1 l1 a2 l2 := by
      intro i hi
      have h1 := hel i hi
      rw [List.getElem?_eq_getElem (by omega), Option.bind_eq_some_iff] at h1
      obtain ⟨cs', h1, h2⟩ := h1
      obtain ⟨_, hlen', hcell⟩ := World.cells?_some h1
      match cs', hlen' with
      | [v0, v1, v2, v3, v4], _ =>
        obtain ⟨x, a1, l1, c1, a2, l2, c2, ⟨rfl, rfl, rfl, rfl, rfl⟩, hd⟩ := openInsV _ v0 v1 v2 v3 v4 _ h2
        have k0 := hcell 0 (by omega)
        have k1 := hcell 1 (by omega)
        have k2 := hcell 2 (by omega)
        have k3 := hcell 3 (by omega)
        have k4 := hcell 4 (by omega)
        exact ⟨x, a1, l1, c1, a2, l2, c2, ⟨by simpa [Addr.add] using k0, by simpa using k1, by simpa using k2, by simpa using k3, by simpa using k4⟩, hd⟩
    by_cases h0 : l = 0
    · subst h0
      exact ⟨some y, 0, c, [], hcs, rfl, by omega, .inl rfl⟩
    have hz : ∃ v, W.cell? y = some v := by
      obtain ⟨x, a1, l1, c1, a2, l2, c2, ⟨q0, q1, q2, q3, q4⟩, _⟩ := hel2 0 (by omega)
      exact ⟨_, by simpa [Addr.add] using q0⟩
    obtain ⟨_, hz0⟩ := hz
    have e := plain_at hz0
    obtain ⟨f, hf, hin⟩ := inIns_of_each (W := W) (b := y.block) l y.off (fun i hi => by
      obtain ⟨x, a1, l1, c1, a2, l2, c2, ⟨q0, q1, q2, q3, q4⟩, hd⟩ := hel2 i hi
      rw [e, add_plain] at q0 q1 q2 q3 q4
      rw [add_plain] at q1 q2 q3 q4
      exact ⟨x, a1, l1, c1, a2, l2, c2, ⟨q0, q1, q2, q3, q4⟩, hd⟩)
    exact ⟨some y, l, c, f, hcs, hf, by omega, .inr ⟨y.block, y.off, by rw [← e], hin⟩⟩
end
end Go.Proofs.YtpdkgmagjhibkaaGreatDoor.By

namespace Go.Proofs.YtpdkgmagjhibkaaGreatDoor.By
open Go.ChangeShapes Go.WideShapes Go.ChangeAt Go.RowKit Go.Deep
set_option linter.unusedVariables false
set_option maxRecDepth 100000

theorem arrSBlock {cs : Array Value} (h : cs.size = 9) : ∃ v0 v1 v2 v3 v4 v5 v6 v7 v8, cs = #[v0, v1, v2, v3, v4, v5, v6, v7, v8] := by
  obtain ⟨l⟩ := cs
  match l, h with
  | [v0, v1, v2, v3, v4, v5, v6, v7, v8], _ => exact ⟨v0, v1, v2, v3, v4, v5, v6, v7, v8, rfl⟩

section
variable {H : Type} {enc : TypeId × Value → H} {W : World} {base : Nat} {spare : Nat → Bool} {held : Bool}

theorem openBlockV (fuel : Nat) (v0 v1 v2 v3 v4 v5 v6 v7 v8 : Value) (y : DataW H × List MemPlace) (h : DataW.trod enc Tryz.prog W base spare held fuel 78 [v0, v1, v2, v3, v4, v5, v6, v7, v8] = some y) :
    ∃ (x : RBlock) (a1 : Option Addr) (l1 c1 : Nat) (a2 : Option Addr) (l2 c2 : Nat) (a3 : Option Addr) (l3 c3 : Nat) (a4 : Option Addr) (l4 c4 : Nat) (a5 : Option Addr) (l5 c5 : Nat), (v0 = .slice a1 l1 c1 ∧ v1 = .int .i64 x.argk ∧ v2 = .int .i64 x.argn ∧ v3 = .slice a2 l2 c2 ∧ v4 = .int .i64 x.resk ∧ v5 = .int .i64 x.resn ∧ v6 = .slice a3 l3 c3 ∧ v7 = .slice a4 l4 c4 ∧ v8 = .slice a5 l5 c5) ∧ RdBlock W x a1 l1 a2 l2 a3 l3 a4 l4 a5 l5 := by
  obtain ⟨xs, n, hn, hx, hl, hxl, hf⟩ := DataW.trod_struct Tryz.underlying78 h
  have f0 : DataW.trod enc Tryz.prog W base spare held n 73 ((([v0, v1, v2, v3, v4, v5, v6, v7, v8] : List Value).drop 0).take (Tryz.prog.cellsOf 73)) = xs[0]? := hf 0 _ rfl
  rw [show Tryz.prog.cellsOf 73 = 1 by kernel_rfl] at f0
  have f1 : DataW.trod enc Tryz.prog W base spare held n 75 ((([v0, v1, v2, v3, v4, v5, v6, v7, v8] : List Value).drop 1).take (Tryz.prog.cellsOf 75)) = xs[1]? := hf 1 _ rfl
  rw [show Tryz.prog.cellsOf 75 = 3 by kernel_rfl] at f1
  have f2 : DataW.trod enc Tryz.prog W base spare held n 75 ((([v0, v1, v2, v3, v4, v5, v6, v7, v8] : List Value).drop 4).take (Tryz.prog.cellsOf 75)) = xs[2]? := hf 2 _ rfl
  rw [show Tryz.prog.cellsOf 75 = 3 by kernel_rfl] at f2
  have f3 : DataW.trod enc Tryz.prog W base spare held n 73 ((([v0, v1, v2, v3, v4, v5, v6, v7, v8] : List Value).drop 7).take (Tryz.prog.cellsOf 73)) = xs[3]? := hf 3 _ rfl
  rw [show Tryz.prog.cellsOf 73 = 1 by kernel_rfl] at f3
  have f4 : DataW.trod enc Tryz.prog W base spare held n 76 ((([v0, v1, v2, v3, v4, v5, v6, v7, v8] : List Value).drop 8).take (Tryz.prog.cellsOf 76)) = xs[4]? := hf 4 _ rfl
  rw [show Tryz.prog.cellsOf 76 = 1 by kernel_rfl] at f4
  match xs, (show xs.length = 5 from hxl) with
  | [x0, x1, x2, x3, x4], _ =>
  obtain ⟨a1, l1, c1, d1, e0, hd1⟩ := openTyL (enc := enc) (W := W) (base := base) (spare := spare) (held := held) n v0 x0 f0
  obtain ⟨kk2, nn2, a2, l2, c2, d2, e1, e2, e3, hd2⟩ := openTyV (enc := enc) (W := W) (base := base) (spare := spare) (held := held) n v1 v2 v3 x1 f1
  obtain ⟨kk3, nn3, a3, l3, c3, d3, e4, e5, e6, hd3⟩ := openTyV (enc := enc) (W := W) (base := base) (spare := spare) (held := held) n v4 v5 v6 x2 f2
  obtain ⟨a4, l4, c4, d4, e7, hd4⟩ := openTyL (enc := enc) (W := W) (base := base) (spare := spare) (held := held) n v7 x3 f3
  obtain ⟨a5, l5, c5, d5, e8, hd5⟩ := openInsS (enc := enc) (W := W) (base := base) (spare := spare) (held := held) n v8 x4 f4
  exact ⟨⟨d1, kk2, nn2, d2, kk3, nn3, d3, d4, d5⟩, a1, l1, c1, a2, l2, c2, a3, l3, c3, a4, l4, c4, a5, l5, c5, ⟨e0, e1, e2, e3, e4, e5, e6, e7, e8⟩, ⟨hd1, hd2, hd3, hd4, hd5⟩⟩

theorem openBlockT {b0 : Nat} {v : Value} {dd : DataW H} {p : List MemPlace} (hv : Value.okWide Tryz.prog W .any b0 78 v) (h : DataW.Trod enc Tryz.prog W base spare held 78 v dd p) :
    ∃ (x : RBlock) (a1 : Option Addr) (l1 c1 : Nat) (a2 : Option Addr) (l2 c2 : Nat) (a3 : Option Addr) (l3 c3 : Nat) (a4 : Option Addr) (l4 c4 : Nat) (a5 : Option Addr) (l5 c5 : Nat), v = .agg #[.slice a1 l1 c1, .int .i64 x.argk, .int .i64 x.argn, .slice a2 l2 c2, .int .i64 x.resk, .int .i64 x.resn, .slice a3 l3 c3, .slice a4 l4 c4, .slice a5 l5 c5] ∧ RdBlock W x a1 l1 a2 l2 a3 l3 a4 l4 a5 l5 := by
  have hC : Tryz.prog.cellsOf 78 = 9 := by kernel_rfl
  obtain ⟨cs, rfl, hsz⟩ := okWide_struct Tryz.underlying78 hv
  obtain ⟨v0, v1, v2, v3, v4, v5, v6, v7, v8, rfl⟩ := arrSBlock (hsz.trans hC)
  obtain ⟨fuel, hf⟩ := h
  obtain ⟨x, a1, l1, c1, a2, l2, c2, a3, l3, c3, a4, l4, c4, a5, l5, c5, ⟨rfl, rfl, rfl, rfl, rfl, rfl, rfl, rfl, rfl⟩, hnd⟩ := openBlockV (enc := enc) (W := W) (base := base) (spare := spare) (held := held) fuel v0 v1 v2 v3 v4 v5 v6 v7 v8 _ (by simpa [Value.cells] using hf)
  exact ⟨x, a1, l1, c1, a2, l2, c2, a3, l3, c3, a4, l4, c4, a5, l5, c5, rfl, hnd⟩
end
end Go.Proofs.YtpdkgmagjhibkaaGreatDoor.By

namespace Go.Proofs.YtpdkgmagjhibkaaGreatDoor.By
open Go.ChangeShapes Go.WideShapes Go.ChangeAt Go.RowKit Go.Deep
set_option linter.unusedVariables false
set_option maxRecDepth 100000

theorem inBlock_of_each {W : World} {b : Nat} (l : Nat) : ∀ (o : Nat), (∀ i, i < l → ∃ (x : RBlock) (a1 : Option Addr) (l1 c1 : Nat) (a2 : Option Addr) (l2 c2 : Nat) (a3 : Option Addr) (l3 c3 : Nat) (a4 : Option Addr) (l4 c4 : Nat) (a5 : Option Addr) (l5 c5 : Nat), (W.cell? ⟨b, o + i * 9, none⟩ = some (.slice a1 l1 c1) ∧ W.cell? ⟨b, o + i * 9 + 1, none⟩ = some (.int .i64 x.argk) ∧ W.cell? ⟨b, o + i * 9 + 2, none⟩ = some (.int .i64 x.argn) ∧ W.cell? ⟨b, o + i * 9 + 3, none⟩ = some (.slice a2 l2 c2) ∧ W.cell? ⟨b, o + i * 9 + 4, none⟩ = some (.int .i64 x.resk) ∧ W.cell? ⟨b, o + i * 9 + 5, none⟩ = some (.int .i64 x.resn) ∧ W.cell? ⟨b, o + i * 9 + 6, none⟩ = some (.slice a3 l3 c3) ∧ W.cell? ⟨b, o + i * 9 + 7, none⟩ = some (.slice a4 l4 c4) ∧ W.cell? ⟨b, o + i * 9 + 8, none⟩ = some (.slice a5 l5 c5)) ∧ RdBlock W x a1 l1 a2 l2 a3 l3 a4 l4 a5 l5) → ∃ xs : List RBlock, xs.length = l ∧ InBlock W W xs b o := by
  induction l with
  | zero => intro o _; exact ⟨[], rfl, trivial⟩
  | succ l ih =>
    intro o h
    obtain ⟨x, a1, l1, c1, a2, l2, c2, a3, l3, c3, a4, l4, c4, a5, l5, c5, ⟨h0, h1, h2, h3, h4, h5, h6, h7, h8⟩, hp⟩ := h 0 (by omega)
    obtain ⟨xs, hl, hin⟩ := ih (o + 9) (fun i hi => by
      have := h (i + 1) (by omega)
      have e : o + (i + 1) * 9 = o + 9 + i * 9 := by omega
      rw [e] at this; exact this)
    exact ⟨x :: xs, by simp [hl], ⟨a1, l1, c1, a2, l2, c2, a3, l3, c3, a4, l4, c4, a5, l5, c5, ⟨by simpa using h0, by simpa using h1, by simpa using h2, by simpa using h3, by simpa using h4, by simpa using h5, by simpa using h6, by simpa using h7, by simpa using h8⟩, hp⟩, hin⟩

section
variable {H : Type} {enc : TypeId × Value → H} {W : World} {base : Nat} {spare : Nat → Bool} {held : Bool}

theorem openBlockS (fuel : Nat) (v : Value) (x : DataW H × List MemPlace) (h : DataW.trod enc Tryz.prog W base spare held fuel 23 [v] = some x) : ∃ a l c xs, v = .slice a l c ∧ SlBlock W a l xs := by
  rcases DataW.trod_slice Tryz.underlying23 h with ⟨hcs, _⟩ | ⟨y, l, c, elems, rest, n', hn', hcs, _, hb, hl, hm, hlen, hel, _, _⟩
  · simp at hcs
    exact ⟨none, 0, 0, [], hcs, rfl, by omega, .inl rfl⟩
  · simp at hcs
    have hm' : c ≤ 9223372036854775807 := by simpa [maxLen] using hm
    have hC : Tryz.prog.cellsOf 78 = 9 := by kernel_rfl
    rw [hC] at hel
    have hel2 : ∀ i, i < l → ∃ (x : RBlock) (a1 : Option Addr) (l1 c1 : Nat) (a2 : Option Addr) (l2 c2 : Nat) (a3 : Option Addr) (l3 c3 : Nat) (a4 : Option Addr) (l4 c4 : Nat) (a5 : Option Addr) (l5 c5 : Nat), (W.cell? (y.add (i * 9)) = some (.slice a1 l1 c1) ∧ W.cell? ((y.add (i * 9)).add 1) = some (.int .i64 x.argk) ∧ W.cell? ((y.add (i * 9)).add 2) = some (.int .i64 x.argn) ∧ W.cell? ((y.add (i * 9)).add 3) = some (.slice a2 l2 c2) ∧ W.cell? ((y.add (i * 9)).add 4) = some (.int .i64 x.resk) ∧ W.cell? ((y.add (i * 9)).add 5) = some (.int .i64 x.resn) ∧ W.cell? ((y.add (i * 9)).add 6) = some (.slice a3 l3 c3) ∧ W.cell? ((y.add (i * 9)).add 7) = some (.slice a4 l4 c4) ∧ W.cell? ((y.add (i * 9)).add 8) = some (.slice a5 l5 c5)) ∧ RdBlock W x a1 l1 a2 l2 a3 l3 a4 l4 a5 l5 := by
      intro i hi
      have h1 := hel i hi
      rw [List.getElem?_eq_getElem (by omega), Option.bind_eq_some_iff] at h1
      obtain ⟨cs', h1, h2⟩ := h1
      obtain ⟨_, hlen', hcell⟩ := World.cells?_some h1
      match cs', hlen' with
      | [v0, v1, v2, v3, v4, v5, v6, v7, v8], _ =>
        obtain ⟨x, a1, l1, c1, a2, l2, c2, a3, l3, c3, a4, l4, c4, a5, l5, c5, ⟨rfl, rfl, rfl, rfl, rfl, rfl, rfl, rfl, rfl⟩, hd⟩ := openBlockV _ v0 v1 v2 v3 v4 v5 v6 v7 v8 _ h2
        have k0 := hcell 0 (by omega)
        have k1 := hcell 1 (by omega)
        have k2 := hcell 2 (by omega)
        have k3 := hcell 3 (by omega)
        have k4 := hcell 4 (by omega)
        have k5 := hcell 5 (by omega)
        have k6 := hcell 6 (by omega)
        have k7 := hcell 7 (by omega)
        have k8 := hcell 8 (by omega)
        exact ⟨x, a1, l1, c1, a2, l2, c2, a3, l3, c3, a4, l4, c4, a5, l5, c5, ⟨by simpa [Addr.add] using k0, by simpa using k1, by simpa using k2, by simpa using k3, by simpa using k4, by simpa using k5, by simpa using k6, by simpa using k7, by simpa using k8⟩, hd⟩
    by_cases h0 : l = 0
    · subst h0
      exact ⟨some y, 0, c, [], hcs, rfl, by omega, .inl rfl⟩
    have hz : ∃ v, W.cell? y = some v := by
      obtain ⟨x, a1, l1, c1, a2, l2, c2, a3, l3, c3, a4, l4, c4, a5, l5, c5, ⟨q0, q1, q2, q3, q4, q5, q6, q7, q8⟩, _⟩ := hel2 0 (by omega)
      exact ⟨_, by simpa [Addr.add] using q0⟩
    obtain ⟨_, hz0⟩ := hz
    have e := plain_at hz0
    obtain ⟨f, hf, hin⟩ := inBlock_of_each (W := W) (b := y.block) l y.off (fun i hi => by
      obtain ⟨x, a1, l1, c1, a2, l2, c2, a3, l3, c3, a4, l4, c4, a5, l5, c5, ⟨q0, q1, q2, q3, q4, q5, q6, q7, q8⟩, hd⟩ := hel2 i hi
      rw [e, add_plain] at q0 q1 q2 q3 q4 q5 q6 q7 q8
      rw [add_plain] at q1 q2 q3 q4 q5 q6 q7 q8
      exact ⟨x, a1, l1, c1, a2, l2, c2, a3, l3, c3, a4, l4, c4, a5, l5, c5, ⟨q0, q1, q2, q3, q4, q5, q6, q7, q8⟩, hd⟩)
    exact ⟨some y, l, c, f, hcs, hf, by omega, .inr ⟨y.block, y.off, by rw [← e], hin⟩⟩
end
end Go.Proofs.YtpdkgmagjhibkaaGreatDoor.By

namespace Go.Proofs.YtpdkgmagjhibkaaGreatDoor.By
open Go.ChangeShapes Go.WideShapes Go.ChangeAt Go.RowKit Go.Deep
set_option linter.unusedVariables false
set_option maxRecDepth 100000

theorem arrSProg {cs : Array Value} (h : cs.size = 3) : ∃ v0 v1 v2, cs = #[v0, v1, v2] := by
  obtain ⟨l⟩ := cs
  match l, h with
  | [v0, v1, v2], _ => exact ⟨v0, v1, v2, rfl⟩

section
variable {H : Type} {enc : TypeId × Value → H} {W : World} {base : Nat} {spare : Nat → Bool} {held : Bool}

theorem openProgV (fuel : Nat) (v0 v1 v2 : Value) (y : DataW H × List MemPlace) (h : DataW.trod enc Tryz.prog W base spare held fuel 26 [v0, v1, v2] = some y) :
    ∃ (x : RProg) (a1 : Option Addr) (l1 c1 : Nat) (a2 : Option Addr) (l2 c2 : Nat) (a3 : Option Addr) (l3 c3 : Nat), (v0 = .slice a1 l1 c1 ∧ v1 = .slice a2 l2 c2 ∧ v2 = .slice a3 l3 c3) ∧ RdProg W x a1 l1 a2 l2 a3 l3 := by
  obtain ⟨xs, n, hn, hx, hl, hxl, hf⟩ := DataW.trod_struct Tryz.underlying26 h
  have f0 : DataW.trod enc Tryz.prog W base spare held n 22 ((([v0, v1, v2] : List Value).drop 0).take (Tryz.prog.cellsOf 22)) = xs[0]? := hf 0 _ rfl
  rw [show Tryz.prog.cellsOf 22 = 1 by kernel_rfl] at f0
  have f1 : DataW.trod enc Tryz.prog W base spare held n 23 ((([v0, v1, v2] : List Value).drop 1).take (Tryz.prog.cellsOf 23)) = xs[1]? := hf 1 _ rfl
  rw [show Tryz.prog.cellsOf 23 = 1 by kernel_rfl] at f1
  have f2 : DataW.trod enc Tryz.prog W base spare held n 24 ((([v0, v1, v2] : List Value).drop 2).take (Tryz.prog.cellsOf 24)) = xs[2]? := hf 2 _ rfl
  rw [show Tryz.prog.cellsOf 24 = 1 by kernel_rfl] at f2
  match xs, (show xs.length = 3 from hxl) with
  | [x0, x1, x2], _ =>
  obtain ⟨a1, l1, c1, d1, e0, hd1⟩ := openLayoutS (enc := enc) (W := W) (base := base) (spare := spare) (held := held) n v0 x0 f0
  obtain ⟨a2, l2, c2, d2, e1, hd2⟩ := openBlockS (enc := enc) (W := W) (base := base) (spare := spare) (held := held) n v1 x1 f1
  obtain ⟨a3, l3, c3, d3, e2, hd3⟩ := openInS (enc := enc) (W := W) (base := base) (spare := spare) (held := held) n v2 x2 f2
  exact ⟨⟨d1, d2, d3⟩, a1, l1, c1, a2, l2, c2, a3, l3, c3, ⟨e0, e1, e2⟩, ⟨hd1, hd2, hd3⟩⟩

theorem openProgT {b0 : Nat} {v : Value} {dd : DataW H} {p : List MemPlace} (hv : Value.okWide Tryz.prog W .any b0 26 v) (h : DataW.Trod enc Tryz.prog W base spare held 26 v dd p) :
    ∃ (x : RProg) (a1 : Option Addr) (l1 c1 : Nat) (a2 : Option Addr) (l2 c2 : Nat) (a3 : Option Addr) (l3 c3 : Nat), v = .agg #[.slice a1 l1 c1, .slice a2 l2 c2, .slice a3 l3 c3] ∧ RdProg W x a1 l1 a2 l2 a3 l3 := by
  have hC : Tryz.prog.cellsOf 26 = 3 := by kernel_rfl
  obtain ⟨cs, rfl, hsz⟩ := okWide_struct Tryz.underlying26 hv
  obtain ⟨v0, v1, v2, rfl⟩ := arrSProg (hsz.trans hC)
  obtain ⟨fuel, hf⟩ := h
  obtain ⟨x, a1, l1, c1, a2, l2, c2, a3, l3, c3, ⟨rfl, rfl, rfl⟩, hnd⟩ := openProgV (enc := enc) (W := W) (base := base) (spare := spare) (held := held) fuel v0 v1 v2 _ (by simpa [Value.cells] using hf)
  exact ⟨x, a1, l1, c1, a2, l2, c2, a3, l3, c3, rfl, hnd⟩
end
end Go.Proofs.YtpdkgmagjhibkaaGreatDoor.By
