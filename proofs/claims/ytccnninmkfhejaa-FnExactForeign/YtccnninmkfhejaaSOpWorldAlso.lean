/-
  Several texts in one (SOpEvents, SOpWorld). No statement is proved here.
-/
import Derived.Test.YtccnninmkfhejaaSEvents
import Derived.Test.YtccnninmkfhejaaSOpEventAlso
import Derived.Test.YtccnninmkfhejaaEObAlso
import Derived.Test.YtccnninmkfhejaaSWorld
namespace Go.Proofs.Ytccnninmkfhejaa.By
open Go.ChangeShapes Go.WideShapes Go.ChangeAt Go.RowKit Go.Deep
set_option linter.unusedVariables false
set_option maxRecDepth 100000

theorem inEvent_of_each {W : World} {b : Nat} (l : Nat) : ∀ (o : Nat), (∀ i, i < l → ∃ (x : REvent) (a1 : Option Addr) (l1 c1 : Nat), (W.cell? ⟨b, o + i * 5, none⟩ = some (.int .i64 x.cap) ∧ W.cell? ⟨b, o + i * 5 + 1, none⟩ = some (.int .i64 x.a) ∧ W.cell? ⟨b, o + i * 5 + 2, none⟩ = some (.int .i64 x.b) ∧ W.cell? ⟨b, o + i * 5 + 3, none⟩ = some (.slice a1 l1 c1) ∧ W.cell? ⟨b, o + i * 5 + 4, none⟩ = some (.int .i64 x.res)) ∧ RdEvent W x a1 l1) → ∃ xs : List REvent, xs.length = l ∧ InEvent W W xs b o := by
  induction l with
  | zero => intro o _; exact ⟨[], rfl, trivial⟩
  | succ l ih =>
    intro o h
    obtain ⟨x, a1, l1, c1, ⟨h0, h1, h2, h3, h4⟩, hp⟩ := h 0 (by omega)
    obtain ⟨xs, hl, hin⟩ := ih (o + 5) (fun i hi => by
      have := h (i + 1) (by omega)
      have e : o + (i + 1) * 5 = o + 5 + i * 5 := by omega
      rw [e] at this; exact this)
    exact ⟨x :: xs, by simp [hl], ⟨a1, l1, c1, ⟨by simpa using h0, by simpa using h1, by simpa using h2, by simpa using h3, by simpa using h4⟩, hp⟩, hin⟩

section
variable {H : Type} {enc : TypeId × Value → H} {W : World} {base : Nat} {spare : Nat → Bool} {held : Bool}

theorem openEventS (fuel : Nat) (v : Value) (x : DataW H × List MemPlace) (h : DataW.trod enc Try.prog W base spare held fuel 39 [v] = some x) : ∃ a l c xs, v = .slice a l c ∧ SlEvent W a l xs := by
  rcases DataW.trod_slice Try.underlying39 h with ⟨hcs, _⟩ | ⟨y, l, c, elems, rest, n', hn', hcs, _, hb, hl, hm, hlen, hel, _, _⟩
  · simp at hcs
    exact ⟨none, 0, 0, [], hcs, rfl, by omega, .inl rfl⟩
  · simp at hcs
    have hm' : c ≤ 9223372036854775807 := by simpa [maxLen] using hm
    have hC : Try.prog.cellsOf 94 = 5 := by kernel_rfl
    rw [hC] at hel
    have hel2 : ∀ i, i < l → ∃ (x : REvent) (a1 : Option Addr) (l1 c1 : Nat), (W.cell? (y.add (i * 5)) = some (.int .i64 x.cap) ∧ W.cell? ((y.add (i * 5)).add 1) = some (.int .i64 x.a) ∧ W.cell? ((y.add (i * 5)).add 2) = some (.int .i64 x.b) ∧ W.cell? ((y.add (i * 5)).add 3) = some (.slice a1 l1 c1) ∧ W.cell? ((y.add (i * 5)).add 4) = some (.int .i64 x.res)) ∧ RdEvent W x a1 l1 := by
      intro i hi
      have h1 := hel i hi
      rw [List.getElem?_eq_getElem (by omega), Option.bind_eq_some_iff] at h1
      obtain ⟨cs', h1, h2⟩ := h1
      obtain ⟨_, hlen', hcell⟩ := World.cells?_some h1
      match cs', hlen' with
      | [v0, v1, v2, v3, v4], _ =>
        obtain ⟨x, a1, l1, c1, ⟨rfl, rfl, rfl, rfl, rfl⟩, hd⟩ := openEventV _ v0 v1 v2 v3 v4 _ h2
        have k0 := hcell 0 (by omega)
        have k1 := hcell 1 (by omega)
        have k2 := hcell 2 (by omega)
        have k3 := hcell 3 (by omega)
        have k4 := hcell 4 (by omega)
        exact ⟨x, a1, l1, c1, ⟨by simpa [Addr.add] using k0, by simpa using k1, by simpa using k2, by simpa using k3, by simpa using k4⟩, hd⟩
    by_cases h0 : l = 0
    · subst h0
      exact ⟨some y, 0, c, [], hcs, rfl, by omega, .inl rfl⟩
    have hz : ∃ v, W.cell? y = some v := by
      obtain ⟨x, a1, l1, c1, ⟨q0, q1, q2, q3, q4⟩, _⟩ := hel2 0 (by omega)
      exact ⟨_, by simpa [Addr.add] using q0⟩
    obtain ⟨_, hz0⟩ := hz
    have e := plain_at hz0
    obtain ⟨f, hf, hin⟩ := inEvent_of_each (W := W) (b := y.block) l y.off (fun i hi => by
      obtain ⟨x, a1, l1, c1, ⟨q0, q1, q2, q3, q4⟩, hd⟩ := hel2 i hi
      rw [e, add_plain] at q0 q1 q2 q3 q4
      rw [add_plain] at q1 q2 q3 q4
      exact ⟨x, a1, l1, c1, ⟨q0, q1, q2, q3, q4⟩, hd⟩)
    exact ⟨some y, l, c, f, hcs, hf, by omega, .inr ⟨y.block, y.off, by rw [← e], hin⟩⟩
end
end Go.Proofs.Ytccnninmkfhejaa.By

namespace Go.Proofs.Ytccnninmkfhejaa.By
open Go.ChangeShapes Go.WideShapes Go.ChangeAt Go.RowKit Go.Deep
set_option linter.unusedVariables false
set_option maxRecDepth 100000

theorem arrSWorld {cs : Array Value} (h : cs.size = 4) : ∃ v0 v1 v2 v3, cs = #[v0, v1, v2, v3] := by
  obtain ⟨l⟩ := cs
  match l, h with
  | [v0, v1, v2, v3], _ => exact ⟨v0, v1, v2, v3, rfl⟩

section
variable {H : Type} {enc : TypeId × Value → H} {W : World} {base : Nat} {spare : Nat → Bool} {held : Bool}

theorem openWorldV (fuel : Nat) (v0 v1 v2 v3 : Value) (y : DataW H × List MemPlace) (h : DataW.trod enc Try.prog W base spare held fuel 41 [v0, v1, v2, v3] = some y) :
    ∃ (x : RWorld) (a1 : Option Addr) (l1 c1 : Nat) (a2 : Option Addr) (l2 c2 : Nat) (a3 : Option Addr) (l3 c3 : Nat), (v0 = .int .i64 x.ticks ∧ v1 = .slice a1 l1 c1 ∧ v2 = .slice a2 l2 c2 ∧ v3 = .slice a3 l3 c3) ∧ RdWorld W x a1 l1 a2 l2 a3 l3 := by
  obtain ⟨xs, n, hn, hx, hl, hxl, hf⟩ := DataW.trod_struct Try.underlying41 h
  have f0 : DataW.trod enc Try.prog W base spare held n 3 ((([v0, v1, v2, v3] : List Value).drop 0).take (Try.prog.cellsOf 3)) = xs[0]? := hf 0 _ rfl
  rw [show Try.prog.cellsOf 3 = 1 by kernel_rfl] at f0
  have f1 : DataW.trod enc Try.prog W base spare held n 23 ((([v0, v1, v2, v3] : List Value).drop 1).take (Try.prog.cellsOf 23)) = xs[1]? := hf 1 _ rfl
  rw [show Try.prog.cellsOf 23 = 1 by kernel_rfl] at f1
  have f2 : DataW.trod enc Try.prog W base spare held n 38 ((([v0, v1, v2, v3] : List Value).drop 2).take (Try.prog.cellsOf 38)) = xs[2]? := hf 2 _ rfl
  rw [show Try.prog.cellsOf 38 = 1 by kernel_rfl] at f2
  have f3 : DataW.trod enc Try.prog W base spare held n 39 ((([v0, v1, v2, v3] : List Value).drop 3).take (Try.prog.cellsOf 39)) = xs[3]? := hf 3 _ rfl
  rw [show Try.prog.cellsOf 39 = 1 by kernel_rfl] at f3
  match xs, (show xs.length = 4 from hxl) with
  | [x0, x1, x2, x3], _ =>
  obtain ⟨n0, e0, _⟩ := openInt (enc := enc) (W := W) (base := base) (spare := spare) (held := held) (show DataW.trod enc Try.prog W base spare held n 3 [v0] = some x0 from f0)
  obtain ⟨a1, l1, c1, d1, e1, hd1⟩ := openInS (enc := enc) (W := W) (base := base) (spare := spare) (held := held) n v1 x1 f1
  obtain ⟨a2, l2, c2, d2, e2, hd2⟩ := openEntryS (enc := enc) (W := W) (base := base) (spare := spare) (held := held) n v2 x2 f2
  obtain ⟨a3, l3, c3, d3, e3, hd3⟩ := openEventS (enc := enc) (W := W) (base := base) (spare := spare) (held := held) n v3 x3 f3
  exact ⟨⟨n0, d1, d2, d3⟩, a1, l1, c1, a2, l2, c2, a3, l3, c3, ⟨e0, e1, e2, e3⟩, ⟨hd1, hd2, hd3⟩⟩

theorem openWorldT {b0 : Nat} {v : Value} {dd : DataW H} {p : List MemPlace} (hv : Value.okWide Try.prog W .any b0 41 v) (h : DataW.Trod enc Try.prog W base spare held 41 v dd p) :
    ∃ (x : RWorld) (a1 : Option Addr) (l1 c1 : Nat) (a2 : Option Addr) (l2 c2 : Nat) (a3 : Option Addr) (l3 c3 : Nat), v = .agg #[.int .i64 x.ticks, .slice a1 l1 c1, .slice a2 l2 c2, .slice a3 l3 c3] ∧ RdWorld W x a1 l1 a2 l2 a3 l3 := by
  have hC : Try.prog.cellsOf 41 = 4 := by kernel_rfl
  obtain ⟨cs, rfl, hsz⟩ := okWide_struct Try.underlying41 hv
  obtain ⟨v0, v1, v2, v3, rfl⟩ := arrSWorld (hsz.trans hC)
  obtain ⟨fuel, hf⟩ := h
  obtain ⟨x, a1, l1, c1, a2, l2, c2, a3, l3, c3, ⟨rfl, rfl, rfl, rfl⟩, hnd⟩ := openWorldV (enc := enc) (W := W) (base := base) (spare := spare) (held := held) fuel v0 v1 v2 v3 _ (by simpa [Value.cells] using hf)
  exact ⟨x, a1, l1, c1, a2, l2, c2, a3, l3, c3, rfl, hnd⟩
end
end Go.Proofs.Ytccnninmkfhejaa.By
