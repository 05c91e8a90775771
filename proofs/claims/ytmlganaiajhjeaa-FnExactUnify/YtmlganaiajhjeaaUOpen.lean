/-
  A list of binds that came in, opened. No statement is proved here.
-/
import Derived.Test.YtmlganaiajhjeaaTOpen
import Derived.Test.YtmlganaiajhjeaaUB
namespace Go.Proofs.Ytmlganaiajhjeaa.By
open Go.ChangeShapes Go.WideShapes Go.ChangeAt Go.RowKit Go.Deep
set_option linter.unusedVariables false
set_option maxRecDepth 100000

theorem inB_of_each {W : World} {b : Nat} (l : Nat) : ∀ (o : Nat), (∀ i, i < l → ∃ (v k n : Int) (a : Option Addr) (l' c : Nat) (d : F), Qua b (o + i * 4) (.int .i64 v) (.int .i64 k) (.int .i64 n) (.slice a l' c) W ∧ SlF W a l' d) → ∃ f : B, f.len = l ∧ InB W f b o := by
  induction l with
  | zero => intro o _; exact ⟨.nil, rfl, trivial⟩
  | succ l ih =>
    intro o h
    obtain ⟨v, k, n, a, l', c, d, h0, h1⟩ := h 0 (by omega)
    obtain ⟨f, hf, hin⟩ := ih (o + 4) (fun i hi => by
      have := h (i + 1) (by omega)
      have e : o + (i + 1) * 4 = o + 4 + i * 4 := by omega
      rw [e] at this; exact this)
    exact ⟨.cons v k n d f, by simp [B.len, hf], ⟨a, l', c, by simpa using h0, h1⟩, hin⟩

section
variable {H : Type} {enc : TypeId × Value → H} {W : World} {base : Nat} {spare : Nat → Bool} {held : Bool}

theorem openBd (fuel : Nat) (v0 v1 v2 v3 : Value) (x : DataW H × List MemPlace) (h : DataW.trod enc Try.prog W base spare held fuel 86 [v0, v1, v2, v3] = some x) : ∃ v k n a l c d, v0 = .int .i64 v ∧ v1 = .int .i64 k ∧ v2 = .int .i64 n ∧ v3 = .slice a l c ∧ SlF W a l d := by
  cases fuel with
  | zero => simp [DataW.trod] at h
  | succ fuel =>
    obtain ⟨xs, n', hn', _, _, hxl, hf⟩ := DataW.trod_struct Try.underlying86 h
    obtain rfl : fuel = n' := by omega
    have c3 : Try.prog.cellsOf 3 = 1 := by kernel_rfl
    have c37 : Try.prog.cellsOf 48 = 3 := by kernel_rfl
    have f0 : DataW.trod enc Try.prog W base spare held fuel 3 (([v0, v1, v2, v3].drop 0).take (Try.prog.cellsOf 3)) = xs[0]? := hf 0 _ rfl
    have f1 : DataW.trod enc Try.prog W base spare held fuel 48 (([v0, v1, v2, v3].drop 1).take (Try.prog.cellsOf 48)) = xs[1]? := hf 1 _ rfl
    rw [c3] at f0
    rw [c37] at f1
    have hx2 : xs.length = 2 := hxl
    rw [List.getElem?_eq_getElem (by omega)] at f0 f1
    obtain ⟨v, rfl, _⟩ := openInt (v := v0) (by simpa using f0)
    obtain ⟨k, n, a, l, c, d, rfl, rfl, rfl, hd⟩ := (openTree (enc := enc) (W := W) (base := base) (spare := spare) (held := held) fuel).1 v1 v2 v3 _ (by simpa using f1)
    exact ⟨v, k, n, a, l, c, d, rfl, rfl, rfl, rfl, hd⟩

theorem openBdS {b0 : Nat} {v : Value} {dd : DataW H} {p : List MemPlace} (hv : Value.okWide Try.prog W .any b0 57 v) (h : DataW.Trod enc Try.prog W base spare held 57 v dd p) :
    ∃ a l c d, v = .slice a l c ∧ SlB W a l d := by
  obtain ⟨a, l, c, rfl⟩ := okWide_slice Try.underlying57 hv
  obtain ⟨fuel, hf⟩ := h
  have hf' : DataW.trod enc Try.prog W base spare held fuel 57 [.slice a l c] = some (dd, p) := by simpa [Value.cells] using hf
  rcases DataW.trod_slice Try.underlying57 hf' with ⟨hcs, _⟩ | ⟨y, l2, c2, elems, rest, n', hn', hcs, _, hb, hl, hm, hlen, hel, _, _⟩
  · simp at hcs
    obtain ⟨rfl, rfl, rfl⟩ := hcs
    exact ⟨none, 0, 0, .nil, rfl, rfl, by omega, .inl rfl⟩
  · simp at hcs
    obtain ⟨rfl, rfl, rfl⟩ := hcs
    have hm' : c ≤ 9223372036854775807 := by simpa [maxLen] using hm
    have hC : Try.prog.cellsOf 86 = 4 := by kernel_rfl
    rw [hC] at hel
    have hel2 : ∀ i, i < l → ∃ (v k n : Int) (a : Option Addr) (l' c : Nat) (d : F), W.cell? (y.add (i * 4)) = some (.int .i64 v) ∧ W.cell? ((y.add (i * 4)).add 1) = some (.int .i64 k) ∧ W.cell? ((y.add (i * 4)).add 2) = some (.int .i64 n) ∧ W.cell? ((y.add (i * 4)).add 3) = some (.slice a l' c) ∧ SlF W a l' d := by
      intro i hi
      have h1 := hel i hi
      rw [List.getElem?_eq_getElem (by omega), Option.bind_eq_some_iff] at h1
      obtain ⟨cs', h1, h2⟩ := h1
      obtain ⟨_, hlen', hcell⟩ := World.cells?_some h1
      match cs', hlen' with
      | [v0, v1, v2, v3], _ =>
        obtain ⟨v, k, n, a, l', c', d, rfl, rfl, rfl, rfl, hd⟩ := openBd _ v0 v1 v2 v3 _ h2
        have k0 := hcell 0 (by omega)
        have k1 := hcell 1 (by omega)
        have k2 := hcell 2 (by omega)
        have k3 := hcell 3 (by omega)
        exact ⟨v, k, n, a, l', c', d, by simpa [Addr.add] using k0, by simpa using k1, by simpa using k2, by simpa using k3, hd⟩
    by_cases h0 : l = 0
    · subst h0
      exact ⟨some y, 0, c, .nil, rfl, rfl, by omega, .inl rfl⟩
    obtain ⟨_, _, _, _, _, _, _, hz0, _⟩ := hel2 0 (by omega)
    have e := plain_at (by simpa [Addr.add] using hz0)
    obtain ⟨f, hf, hin⟩ := inB_of_each (W := W) (b := y.block) l y.off (fun i hi => by
      obtain ⟨v, k, n, a, l', c', d, q0, q1, q2, q3, hd⟩ := hel2 i hi
      rw [e, add_plain] at q0 q1 q2 q3
      rw [add_plain] at q1 q2 q3
      exact ⟨v, k, n, a, l', c', d, ⟨q0, q1, q2, q3⟩, hd⟩)
    exact ⟨some y, l, c, f, rfl, hf, by omega, .inr ⟨y.block, y.off, by rw [← e], hin⟩⟩
end
end Go.Proofs.Ytmlganaiajhjeaa.By
