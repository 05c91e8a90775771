/-
  A tree that came in, opened. No statement is proved here.
-/
import Derived.Test.YtbeejgacdcncgaaRows
import Derived.Test.YtbeejgacdcncgaaTBase
import Derived.WalkKit
import Derived.ProofKit
import Derived.OpenShut
import Derived.Deep.Slices
import Derived.ChangeArms
namespace Go.Proofs.Ytbeejgacdcncgaa.By
open Go.ChangeShapes Go.WideShapes Go.ChangeAt Go.RowKit Go.Deep
set_option linter.unusedVariables false
set_option maxRecDepth 100000

theorem arr3 {cs : Array Value} (h : cs.size = 3) : ∃ c0 c1 c2, cs = #[c0, c1, c2] := by
  obtain ⟨l⟩ := cs
  match l, h with
  | [c0, c1, c2], _ => exact ⟨c0, c1, c2, rfl⟩

theorem plain_at {x : Addr} {w : World} {v : Value} (h : w.cell? x = some v) : x = ⟨x.block, x.off, none⟩ := by
  obtain ⟨b, o, s⟩ := x
  have : s = none := World.cell?_spot h
  subst this; rfl

/-- Trees that lie one behind another are a list. -/
theorem inF_of_each {W : World} {b : Nat} (l : Nat) : ∀ (o : Nat), (∀ i, i < l → ∃ (k n : Int) (a : Option Addr) (l' c : Nat) (d : F), W.cell? ⟨b, o + i * 3, none⟩ = some (.int .i64 k) ∧ W.cell? ⟨b, o + i * 3 + 1, none⟩ = some (.int .i64 n) ∧ W.cell? ⟨b, o + i * 3 + 2, none⟩ = some (.slice a l' c) ∧ SlF W a l' d) → ∃ f : F, f.len = l ∧ InF W f b o := by
  induction l with
  | zero => intro o _; exact ⟨.nil, rfl, trivial⟩
  | succ l ih =>
    intro o h
    obtain ⟨k, n, a, l', c, d, h0, h1, h2, h3⟩ := h 0 (by omega)
    obtain ⟨f, hf, hin⟩ := ih (o + 3) (fun i hi => by
      have := h (i + 1) (by omega)
      have e : o + (i + 1) * 3 = o + 3 + i * 3 := by omega
      rw [e] at this; exact this)
    exact ⟨.cons k n d f, by simp [F.len, hf], InF.mk (by simpa using h0) (by simpa using h1) (by simpa using h2) h3 hin⟩

section
variable {H : Type} {enc : TypeId × Value → H} {W : World} {base : Nat} {spare : Nat → Bool} {held : Bool}

theorem openInt {fuel : Nat} {v : Value} {x : DataW H × List MemPlace} (h : DataW.trod enc Try.prog W base spare held fuel 3 [v] = some x) : ∃ z, v = .int .i64 z ∧ (Lit.int .i64 z).wf = true := by
  obtain ⟨z, e, _, hw⟩ := DataW.trod_int Try.underlying3 h
  simp at e
  exact ⟨z, e, hw⟩

theorem openTree (fuel : Nat) : (∀ (v0 v1 v2 : Value) (x : DataW H × List MemPlace), DataW.trod enc Try.prog W base spare held fuel 25 [v0, v1, v2] = some x → ∃ k n a l c d, v0 = .int .i64 k ∧ v1 = .int .i64 n ∧ v2 = .slice a l c ∧ SlF W a l d) ∧
    (∀ (v : Value) (x : DataW H × List MemPlace), DataW.trod enc Try.prog W base spare held fuel 23 [v] = some x → ∃ a l c d, v = .slice a l c ∧ SlF W a l d) := by
  induction fuel with
  | zero => exact ⟨fun v0 v1 v2 x h => by simp [DataW.trod] at h, fun v x h => by simp [DataW.trod] at h⟩
  | succ fuel ih =>
    constructor
    · intro v0 v1 v2 x h
      obtain ⟨xs, n', hn', _, _, hxl, hf⟩ := DataW.trod_struct Try.underlying25 h
      obtain rfl : fuel = n' := by omega
      have c3 : Try.prog.cellsOf 3 = 1 := by kernel_rfl
      have c37 : Try.prog.cellsOf 23 = 1 := by kernel_rfl
      have f0 : DataW.trod enc Try.prog W base spare held fuel 3 (([v0, v1, v2].drop 0).take (Try.prog.cellsOf 3)) = xs[0]? := hf 0 _ rfl
      have f1 : DataW.trod enc Try.prog W base spare held fuel 3 (([v0, v1, v2].drop 1).take (Try.prog.cellsOf 3)) = xs[1]? := hf 1 _ rfl
      have f2 : DataW.trod enc Try.prog W base spare held fuel 23 (([v0, v1, v2].drop 2).take (Try.prog.cellsOf 23)) = xs[2]? := hf 2 _ rfl
      rw [c3] at f0 f1
      rw [c37] at f2
      have hx3 : xs.length = 3 := hxl
      rw [List.getElem?_eq_getElem (by omega)] at f0 f1 f2
      obtain ⟨k, rfl, _⟩ := openInt (v := v0) (by simpa using f0)
      obtain ⟨n, rfl, _⟩ := openInt (v := v1) (by simpa using f1)
      obtain ⟨a, l, c, d, rfl, hd⟩ := ih.2 v2 _ (by simpa using f2)
      exact ⟨k, n, a, l, c, d, rfl, rfl, rfl, hd⟩
    · intro v x h
      rcases DataW.trod_slice Try.underlying23 h with ⟨hcs, _⟩ | ⟨y, l, c, elems, rest, n', hn', hcs, _, hb, hl, hm, hlen, hel, _, _⟩
      · simp at hcs
        exact ⟨none, 0, 0, .nil, hcs, rfl, by omega, .inl rfl⟩
      · simp at hcs
        obtain rfl : fuel = n' := by omega
        have hm' : c ≤ 9223372036854775807 := by simpa [maxLen] using hm
        have hC : Try.prog.cellsOf 25 = 3 := by kernel_rfl
        rw [hC] at hel
        have hel2 : ∀ i, i < l → ∃ (k n : Int) (a : Option Addr) (l' c : Nat) (d : F), W.cell? (y.add (i * 3)) = some (.int .i64 k) ∧ W.cell? ((y.add (i * 3)).add 1) = some (.int .i64 n) ∧ W.cell? ((y.add (i * 3)).add 2) = some (.slice a l' c) ∧ SlF W a l' d := by
          intro i hi
          have h1 := hel i hi
          rw [List.getElem?_eq_getElem (by omega), Option.bind_eq_some_iff] at h1
          obtain ⟨cs', h1, h2⟩ := h1
          obtain ⟨_, hlen', hcell⟩ := World.cells?_some h1
          match cs', hlen' with
          | [v0, v1, v2], _ =>
            obtain ⟨k, n, a, l', c', d, rfl, rfl, rfl, hd⟩ := ih.1 v0 v1 v2 _ h2
            have k0 := hcell 0 (by omega)
            have k1 := hcell 1 (by omega)
            have k2 := hcell 2 (by omega)
            exact ⟨k, n, a, l', c', d, by simpa [Addr.add] using k0, by simpa using k1, by simpa using k2, hd⟩
        by_cases h0 : l = 0
        · subst h0
          exact ⟨some y, 0, c, .nil, hcs, rfl, by omega, .inl rfl⟩
        obtain ⟨_, _, _, _, _, _, hz0, _⟩ := hel2 0 (by omega)
        have e := plain_at (by simpa [Addr.add] using hz0)
        obtain ⟨f, hf, hin⟩ := inF_of_each (W := W) (b := y.block) l y.off (fun i hi => by
          obtain ⟨k, n, a, l', c', d, q0, q1, q2, hd⟩ := hel2 i hi
          rw [e, add_plain] at q0 q1 q2
          rw [add_plain] at q1 q2
          exact ⟨k, n, a, l', c', d, q0, q1, q2, hd⟩)
        exact ⟨some y, l, c, f, hcs, hf, by omega, .inr ⟨y.block, y.off, by rw [← e], hin⟩⟩

theorem openTy {b0 : Nat} {v : Value} {dd : DataW H} {p : List MemPlace} (hv : Value.okWide Try.prog W .any b0 25 v) (h : DataW.Trod enc Try.prog W base spare held 25 v dd p) :
    ∃ k n a l c d, v = .agg #[.int .i64 k, .int .i64 n, .slice a l c] ∧ SlF W a l d := by
  have hC : Try.prog.cellsOf 25 = 3 := by kernel_rfl
  obtain ⟨cs, rfl, hsz⟩ := okWide_struct Try.underlying25 hv
  obtain ⟨v0, v1, v2, rfl⟩ := arr3 (hsz.trans hC)
  obtain ⟨fuel, hf⟩ := h
  obtain ⟨k, n, a, l, c, d, rfl, rfl, rfl, hd⟩ := (openTree (enc := enc) (W := W) (base := base) (spare := spare) (held := held) fuel).1 v0 v1 v2 _ (by simpa [Value.cells] using hf)
  exact ⟨k, n, a, l, c, d, rfl, hd⟩

theorem openTyS {b0 : Nat} {v : Value} {dd : DataW H} {p : List MemPlace} (hv : Value.okWide Try.prog W .any b0 23 v) (h : DataW.Trod enc Try.prog W base spare held 23 v dd p) :
    ∃ a l c d, v = .slice a l c ∧ SlF W a l d := by
  obtain ⟨a, l, c, rfl⟩ := okWide_slice Try.underlying23 hv
  obtain ⟨fuel, hf⟩ := h
  obtain ⟨a', l', c', d, e, hd⟩ := (openTree (enc := enc) (W := W) (base := base) (spare := spare) (held := held) fuel).2 (.slice a l c) _ (by simpa [Value.cells] using hf)
  exact ⟨a', l', c', d, e, hd⟩
end
end Go.Proofs.Ytbeejgacdcncgaa.By
