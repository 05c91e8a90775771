/-
  A tree that came in, opened. No statement is proved here.
-/
import Derived.Test.YtpmndefmibnaeaaDoorRows
import Derived.Test.YtpmndefmibnaeaaDoorTBase
import Derived.WalkKit
import Derived.ProofKit
import Derived.OpenShut
import Derived.Deep.Slices
import Derived.ChangeArms
namespace Go.Proofs.YtpmndefmibnaeaaDoor.By
open Go.ChangeShapes Go.WideShapes Go.ChangeAt Go.RowKit Go.Deep
set_option linter.unusedVariables false
set_option maxRecDepth 100000

theorem arr3 {cs : Array Value} (h : cs.size = 3) : ∃ c0 c1 c2, cs = #[c0, c1, c2] := by
  obtain ⟨l⟩ := cs
  match l, h with
  | [c0, c1, c2], _ => exact ⟨c0, c1, c2, rfl⟩

theorem plain_at {x : Addr} {w : World} {v : Value} (h : w.cell? x = some v) : x = ⟨x.block, x.off, none⟩ := by
  obtain ⟨b, o, s⟩ := x
  have : s = none := World.cell?_spot h
  subst this; rfl

/-- Trees that lie one behind another are a list. -/
theorem inF_of_each {W : World} {b : Nat} (l : Nat) : ∀ (o : Nat), (∀ i, i < l → ∃ (k n : Int) (a : Option Addr) (l' c : Nat) (d : F), W.cell? ⟨b, o + i * 3, none⟩ = some (.int .i64 k) ∧ W.cell? ⟨b, o + i * 3 + 1, none⟩ = some (.int .i64 n) ∧ W.cell? ⟨b, o + i * 3 + 2, none⟩ = some (.slice a l' c) ∧ SlF W a l' d) → ∃ f : F, f.len = l ∧ InF W f b o := by
  induction l with
  | zero => intro o _; exact ⟨.nil, rfl, trivial⟩
  | succ l ih =>
    intro o h
    obtain ⟨k, n, a, l', c, d, h0, h1, h2, h3⟩ := h 0 (by omega)
    obtain ⟨f, hf, hin⟩ := ih (o + 3) (fun i hi => by
      have := h (i + 1) (by omega)
      have e : o + (i + 1) * 3 = o + 3 + i * 3 := by omega
      rw [e] at this; exact this)
    exact ⟨.cons k n d f, by simp [F.len, hf], InF.mk (by simpa using h0) (by simpa using h1) (by simpa using h2) h3 hin⟩

section
variable {H : Type} {enc : TypeId × Value → H} {W : World} {base : Nat} {spare : Nat → Bool} {held : Bool}

theorem openInt {fuel : Nat} {v : Value} {x : DataW H × List MemPlace} (h : DataW.trod enc Tryd.prog W base spare held fuel 3 [v] = some x) : ∃ z, v = .int .i64 z ∧ (Lit.int .i64 z).wf = true := by
  obtain ⟨z, e, _, hw⟩ := DataW.trod_int Tryd.underlying3 h
  simp at e
  exact ⟨z, e, hw⟩

end
end Go.Proofs.YtpmndefmibnaeaaDoor.By
