/-
  Several texts in one (SOpEntry, SOpEntrys, SOpEvent). No statement is proved here.
-/
import Derived.Test.YtccnninmkfhejaaEObAlso
import Derived.Test.YtccnninmkfhejaaSEntryAlso
import Derived.Test.YtccnninmkfhejaaSEntrys
import Derived.Test.YtccnninmkfhejaaSEvent
namespace Go.Proofs.Ytccnninmkfhejaa.By
open Go.ChangeShapes Go.WideShapes Go.ChangeAt Go.RowKit Go.Deep
set_option linter.unusedVariables false
set_option maxRecDepth 100000

theorem arrSEntry {cs : Array Value} (h : cs.size = 2) : ∃ v0 v1, cs = #[v0, v1] := by
  obtain ⟨l⟩ := cs
  match l, h with
  | [v0, v1], _ => exact ⟨v0, v1, rfl⟩

section
variable {H : Type} {enc : TypeId × Value → H} {W : World} {base : Nat} {spare : Nat → Bool} {held : Bool}

theorem openEntryV (fuel : Nat) (v0 v1 : Value) (y : DataW H × List MemPlace) (h : DataW.trod enc Try.prog W base spare held fuel 96 [v0, v1] = some y) :
    ∃ (x : REntry) (a1 : Option Addr) (l1 c1 : Nat), (v0 = .int .i64 x.key ∧ v1 = .int .i64 x.val) ∧ RdEntry W x a1 l1 := by
  obtain ⟨xs, n, hn, hx, hl, hxl, hf⟩ := DataW.trod_struct Try.underlying96 h
  have f0 : DataW.trod enc Try.prog W base spare held n 3 ((([v0, v1] : List Value).drop 0).take (Try.prog.cellsOf 3)) = xs[0]? := hf 0 _ rfl
  rw [show Try.prog.cellsOf 3 = 1 by kernel_rfl] at f0
  have f1 : DataW.trod enc Try.prog W base spare held n 3 ((([v0, v1] : List Value).drop 1).take (Try.prog.cellsOf 3)) = xs[1]? := hf 1 _ rfl
  rw [show Try.prog.cellsOf 3 = 1 by kernel_rfl] at f1
  match xs, (show xs.length = 2 from hxl) with
  | [x0, x1], _ =>
  obtain ⟨n0, e0, _⟩ := openInt (enc := enc) (W := W) (base := base) (spare := spare) (held := held) (show DataW.trod enc Try.prog W base spare held n 3 [v0] = some x0 from f0)
  obtain ⟨n1, e1, _⟩ := openInt (enc := enc) (W := W) (base := base) (spare := spare) (held := held) (show DataW.trod enc Try.prog W base spare held n 3 [v1] = some x1 from f1)
  exact ⟨⟨n0, n1⟩, none, 0, 0, ⟨e0, e1⟩, trivial⟩

theorem openEntryT {b0 : Nat} {v : Value} {dd : DataW H} {p : List MemPlace} (hv : Value.okWide Try.prog W .any b0 96 v) (h : DataW.Trod enc Try.prog W base spare held 96 v dd p) :
    ∃ (x : REntry) (a1 : Option Addr) (l1 c1 : Nat), v = .agg #[.int .i64 x.key, .int .i64 x.val] ∧ RdEntry W x a1 l1 := by
  have hC : Try.prog.cellsOf 96 = 2 := by kernel_rfl
  obtain ⟨cs, rfl, hsz⟩ := okWide_struct Try.underlying96 hv
  obtain ⟨v0, v1, rfl⟩ := arrSEntry (hsz.trans hC)
  obtain ⟨fuel, hf⟩ := h
  obtain ⟨x, a1, l1, c1, ⟨rfl, rfl⟩, hnd⟩ := openEntryV (enc := enc) (W := W) (base := base) (spare := spare) (held := held) fuel v0 v1 _ (by simpa [Value.cells] using hf)
  exact ⟨x, a1, l1, c1, rfl, hnd⟩
end
end Go.Proofs.Ytccnninmkfhejaa.By

namespace Go.Proofs.Ytccnninmkfhejaa.By
open Go.ChangeShapes Go.WideShapes Go.ChangeAt Go.RowKit Go.Deep
set_option linter.unusedVariables false
set_option maxRecDepth 100000

theorem inEntry_of_each {W : World} {b : Nat} (l : Nat) : ∀ (o : Nat), (∀ i, i < l → ∃ (x : REntry) (a1 : Option Addr) (l1 c1 : Nat), (W.cell? ⟨b, o + i * 2, none⟩ = some (.int .i64 x.key) ∧ W.cell? ⟨b, o + i * 2 + 1, none⟩ = some (.int .i64 x.val)) ∧ RdEntry W x a1 l1) → ∃ xs : List REntry, xs.length = l ∧ InEntry W W xs b o := by
  induction l with
  | zero => intro o _; exact ⟨[], rfl, trivial⟩
  | succ l ih =>
    intro o h
    obtain ⟨x, a1, l1, c1, ⟨h0, h1⟩, hp⟩ := h 0 (by omega)
    obtain ⟨xs, hl, hin⟩ := ih (o + 2) (fun i hi => by
      have := h (i + 1) (by omega)
      have e : o + (i + 1) * 2 = o + 2 + i * 2 := by omega
      rw [e] at this; exact this)
    exact ⟨x :: xs, by simp [hl], ⟨a1, l1, c1, ⟨by simpa using h0, by simpa using h1⟩, hp⟩, hin⟩

section
variable {H : Type} {enc : TypeId × Value → H} {W : World} {base : Nat} {spare : Nat → Bool} {held : Bool}

theorem openEntryS (fuel : Nat) (v : Value) (x : DataW H × List MemPlace) (h : DataW.trod enc Try.prog W base spare held fuel 38 [v] = some x) : ∃ a l c xs, v = .slice a l c ∧ SlEntry W a l xs := by
  rcases DataW.trod_slice Try.underlying38 h with ⟨hcs, _⟩ | ⟨y, l, c, elems, rest, n', hn', hcs, _, hb, hl, hm, hlen, hel, _, _⟩
  · simp at hcs
    exact ⟨none, 0, 0, [], hcs, rfl, by omega, .inl rfl⟩
  · simp at hcs
    have hm' : c ≤ 9223372036854775807 := by simpa [maxLen] using hm
    have hC : Try.prog.cellsOf 96 = 2 := by kernel_rfl
    rw [hC] at hel
    have hel2 : ∀ i, i < l → ∃ (x : REntry) (a1 : Option Addr) (l1 c1 : Nat), (W.cell? (y.add (i * 2)) = some (.int .i64 x.key) ∧ W.cell? ((y.add (i * 2)).add 1) = some (.int .i64 x.val)) ∧ RdEntry W x a1 l1 := by
      intro i hi
      have h1 := hel i hi
      rw [List.getElem?_eq_getElem (by omega), Option.bind_eq_some_iff] at h1
      obtain ⟨cs', h1, h2⟩ := h1
      obtain ⟨_, hlen', hcell⟩ := World.cells?_some h1
      match cs', hlen' with
      | [v0, v1], _ =>
        obtain ⟨x, a1, l1, c1, ⟨rfl, rfl⟩, hd⟩ := openEntryV _ v0 v1 _ h2
        have k0 := hcell 0 (by omega)
        have k1 := hcell 1 (by omega)
        exact ⟨x, a1, l1, c1, ⟨by simpa [Addr.add] using k0, by simpa using k1⟩, hd⟩
    by_cases h0 : l = 0
    · subst h0
      exact ⟨some y, 0, c, [], hcs, rfl, by omega, .inl rfl⟩
    have hz : ∃ v, W.cell? y = some v := by
      obtain ⟨x, a1, l1, c1, ⟨q0, q1⟩, _⟩ := hel2 0 (by omega)
      exact ⟨_, by simpa [Addr.add] using q0⟩
    obtain ⟨_, hz0⟩ := hz
    have e := plain_at hz0
    obtain ⟨f, hf, hin⟩ := inEntry_of_each (W := W) (b := y.block) l y.off (fun i hi => by
      obtain ⟨x, a1, l1, c1, ⟨q0, q1⟩, hd⟩ := hel2 i hi
      rw [e, add_plain] at q0 q1
      rw [add_plain] at q1
      exact ⟨x, a1, l1, c1, ⟨q0, q1⟩, hd⟩)
    exact ⟨some y, l, c, f, hcs, hf, by omega, .inr ⟨y.block, y.off, by rw [← e], hin⟩⟩
end
end Go.Proofs.Ytccnninmkfhejaa.By

namespace Go.Proofs.Ytccnninmkfhejaa.By
open Go.ChangeShapes Go.WideShapes Go.ChangeAt Go.RowKit Go.Deep
set_option linter.unusedVariables false
set_option maxRecDepth 100000

theorem arrSEvent {cs : Array Value} (h : cs.size = 5) : ∃ v0 v1 v2 v3 v4, cs = #[v0, v1, v2, v3, v4] := by
  obtain ⟨l⟩ := cs
  match l, h with
  | [v0, v1, v2, v3, v4], _ => exact ⟨v0, v1, v2, v3, v4, rfl⟩

section
variable {H : Type} {enc : TypeId × Value → H} {W : World} {base : Nat} {spare : Nat → Bool} {held : Bool}

theorem openEventV (fuel : Nat) (v0 v1 v2 v3 v4 : Value) (y : DataW H × List MemPlace) (h : DataW.trod enc Try.prog W base spare held fuel 94 [v0, v1, v2, v3, v4] = some y) :
    ∃ (x : REvent) (a1 : Option Addr) (l1 c1 : Nat), (v0 = .int .i64 x.cap ∧ v1 = .int .i64 x.a ∧ v2 = .int .i64 x.b ∧ v3 = .slice a1 l1 c1 ∧ v4 = .int .i64 x.res) ∧ RdEvent W x a1 l1 := by
  obtain ⟨xs, n, hn, hx, hl, hxl, hf⟩ := DataW.trod_struct Try.underlying94 h
  have f0 : DataW.trod enc Try.prog W base spare held n 3 ((([v0, v1, v2, v3, v4] : List Value).drop 0).take (Try.prog.cellsOf 3)) = xs[0]? := hf 0 _ rfl
  rw [show Try.prog.cellsOf 3 = 1 by kernel_rfl] at f0
  have f1 : DataW.trod enc Try.prog W base spare held n 3 ((([v0, v1, v2, v3, v4] : List Value).drop 1).take (Try.prog.cellsOf 3)) = xs[1]? := hf 1 _ rfl
  rw [show Try.prog.cellsOf 3 = 1 by kernel_rfl] at f1
  have f2 : DataW.trod enc Try.prog W base spare held n 3 ((([v0, v1, v2, v3, v4] : List Value).drop 2).take (Try.prog.cellsOf 3)) = xs[2]? := hf 2 _ rfl
  rw [show Try.prog.cellsOf 3 = 1 by kernel_rfl] at f2
  have f3 : DataW.trod enc Try.prog W base spare held n 22 ((([v0, v1, v2, v3, v4] : List Value).drop 3).take (Try.prog.cellsOf 22)) = xs[3]? := hf 3 _ rfl
  rw [show Try.prog.cellsOf 22 = 1 by kernel_rfl] at f3
  have f4 : DataW.trod enc Try.prog W base spare held n 3 ((([v0, v1, v2, v3, v4] : List Value).drop 4).take (Try.prog.cellsOf 3)) = xs[4]? := hf 4 _ rfl
  rw [show Try.prog.cellsOf 3 = 1 by kernel_rfl] at f4
  match xs, (show xs.length = 5 from hxl) with
  | [x0, x1, x2, x3, x4], _ =>
  obtain ⟨n0, e0, _⟩ := openInt (enc := enc) (W := W) (base := base) (spare := spare) (held := held) (show DataW.trod enc Try.prog W base spare held n 3 [v0] = some x0 from f0)
  obtain ⟨n1, e1, _⟩ := openInt (enc := enc) (W := W) (base := base) (spare := spare) (held := held) (show DataW.trod enc Try.prog W base spare held n 3 [v1] = some x1 from f1)
  obtain ⟨n2, e2, _⟩ := openInt (enc := enc) (W := W) (base := base) (spare := spare) (held := held) (show DataW.trod enc Try.prog W base spare held n 3 [v2] = some x2 from f2)
  obtain ⟨a1, l1, c1, d1, e3, hd1⟩ := openByS (enc := enc) (W := W) (base := base) (spare := spare) (held := held) n v3 x3 f3
  obtain ⟨n4, e4, _⟩ := openInt (enc := enc) (W := W) (base := base) (spare := spare) (held := held) (show DataW.trod enc Try.prog W base spare held n 3 [v4] = some x4 from f4)
  exact ⟨⟨n0, n1, n2, d1, n4⟩, a1, l1, c1, ⟨e0, e1, e2, e3, e4⟩, hd1⟩

theorem openEventT {b0 : Nat} {v : Value} {dd : DataW H} {p : List MemPlace} (hv : Value.okWide Try.prog W .any b0 94 v) (h : DataW.Trod enc Try.prog W base spare held 94 v dd p) :
    ∃ (x : REvent) (a1 : Option Addr) (l1 c1 : Nat), v = .agg #[.int .i64 x.cap, .int .i64 x.a, .int .i64 x.b, .slice a1 l1 c1, .int .i64 x.res] ∧ RdEvent W x a1 l1 := by
  have hC : Try.prog.cellsOf 94 = 5 := by kernel_rfl
  obtain ⟨cs, rfl, hsz⟩ := okWide_struct Try.underlying94 hv
  obtain ⟨v0, v1, v2, v3, v4, rfl⟩ := arrSEvent (hsz.trans hC)
  obtain ⟨fuel, hf⟩ := h
  obtain ⟨x, a1, l1, c1, ⟨rfl, rfl, rfl, rfl, rfl⟩, hnd⟩ := openEventV (enc := enc) (W := W) (base := base) (spare := spare) (held := held) fuel v0 v1 v2 v3 v4 _ (by simpa [Value.cells] using hf)
  exact ⟨x, a1, l1, c1, rfl, hnd⟩
end
end Go.Proofs.Ytccnninmkfhejaa.By
