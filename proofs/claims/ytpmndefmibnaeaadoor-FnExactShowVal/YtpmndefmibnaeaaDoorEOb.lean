/-
  Rows of bytes and of whole numbers that came in, opened. No statement is proved here.
-/
import Derived.Test.YtpmndefmibnaeaaDoorTOpen
import Derived.Test.YtpmndefmibnaeaaDoorGI
namespace Go.Proofs.YtpmndefmibnaeaaDoor.By
open Go.ChangeShapes Go.WideShapes Go.ChangeAt Go.RowKit Go.Deep
set_option linter.unusedVariables false
set_option maxRecDepth 100000

theorem bytes_of_each {W : World} {b : Nat} (l : Nat) : ∀ (o : Nat), (∀ i, i < l → ∃ z : Int, W.cell? ⟨b, o + i, none⟩ = some (.int .u8 z) ∧ 0 ≤ z ∧ z ≤ 255) → ∃ zs : List Int, zs.length = l ∧ Byt zs ∧ ∀ i, i < l → W.cell? ⟨b, o + i, none⟩ = some (.int .u8 (zs.getD i 0)) := by
  induction l with
  | zero => intro o _; exact ⟨[], rfl, fun z hz => by simp at hz, fun i hi => by omega⟩
  | succ l ih =>
    intro o h
    obtain ⟨z, h0, hz⟩ := h 0 (by omega)
    obtain ⟨zs, hl, hb, hc⟩ := ih (o + 1) (fun i hi => by
      have := h (i + 1) (by omega)
      have e : o + (i + 1) = o + 1 + i := by omega
      rw [e] at this; exact this)
    refine ⟨z :: zs, by simp [hl], ?_, ?_⟩
    · intro y hy
      rcases List.mem_cons.1 hy with rfl | hy
      · exact hz
      · exact hb y hy
    · intro i hi
      cases i with
      | zero => simpa using h0
      | succ i =>
        have := hc i (by omega)
        rw [show o + (i + 1) = o + 1 + i by omega]; simpa using this

theorem ints_of_each {W : World} {b : Nat} (l : Nat) : ∀ (o : Nat), (∀ i, i < l → ∃ z : Int, W.cell? ⟨b, o + i, none⟩ = some (.int .i64 z)) → ∃ zs : List Int, zs.length = l ∧ ∀ i, i < l → W.cell? ⟨b, o + i, none⟩ = some (.int .i64 (zs.getD i 0)) := by
  induction l with
  | zero => intro o _; exact ⟨[], rfl, fun i hi => by omega⟩
  | succ l ih =>
    intro o h
    obtain ⟨z, h0⟩ := h 0 (by omega)
    obtain ⟨zs, hl, hc⟩ := ih (o + 1) (fun i hi => by
      have := h (i + 1) (by omega)
      have e : o + (i + 1) = o + 1 + i := by omega
      rw [e] at this; exact this)
    refine ⟨z :: zs, by simp [hl], ?_⟩
    · intro i hi
      cases i with
      | zero => simpa using h0
      | succ i =>
        have := hc i (by omega)
        rw [show o + (i + 1) = o + 1 + i by omega]; simpa using this

section
variable {H : Type} {enc : TypeId × Value → H} {W : World} {base : Nat} {spare : Nat → Bool} {held : Bool}

theorem openU8 {fuel : Nat} {v : Value} {x : DataW H × List MemPlace} (h : DataW.trod enc Tryd.prog W base spare held fuel 5 [v] = some x) : ∃ z, v = .int .u8 z ∧ 0 ≤ z ∧ z ≤ 255 := by
  obtain ⟨z, e, _, hw⟩ := DataW.trod_int Tryd.underlying5 h
  simp at e
  refine ⟨z, e, ?_⟩
  have := hw
  have e1 : IntKind.u8.min = 0 := by decide
  have e2 : IntKind.u8.max = 255 := by decide
  simp [Lit.wf] at this
  omega

theorem openByS (fuel : Nat) (v : Value) (x : DataW H × List MemPlace) (h : DataW.trod enc Tryd.prog W base spare held fuel 22 [v] = some x) : ∃ a l c zs, v = .slice a l c ∧ RdB W a l zs := by
  rcases DataW.trod_slice Tryd.underlying22 h with ⟨hcs, _⟩ | ⟨y, l, c, elems, rest, n', hn', hcs, _, hb, hl, hm, hlen, hel, _, _⟩
  · simp at hcs
    exact ⟨none, 0, 0, [], hcs, ⟨rfl, .inl rfl⟩, fun z hz => by simp at hz, by omega⟩
  · simp at hcs
    have hm' : c ≤ 9223372036854775807 := by simpa [maxLen] using hm
    have hC : Tryd.prog.cellsOf 5 = 1 := by kernel_rfl
    rw [hC] at hel
    have hel2 : ∀ i, i < l → ∃ z : Int, W.cell? (y.add (i * 1)) = some (.int .u8 z) ∧ 0 ≤ z ∧ z ≤ 255 := by
      intro i hi
      have h1 := hel i hi
      rw [List.getElem?_eq_getElem (by omega), Option.bind_eq_some_iff] at h1
      obtain ⟨cs', h1, h2⟩ := h1
      obtain ⟨_, hlen', hcell⟩ := World.cells?_some h1
      match cs', hlen' with
      | [v0], _ =>
        obtain ⟨z, rfl, hz⟩ := openU8 h2
        have k0 := hcell 0 (by omega)
        exact ⟨z, by simpa [Addr.add] using k0, hz⟩
    by_cases h0 : l = 0
    · subst h0
      exact ⟨some y, 0, c, [], hcs, ⟨rfl, .inl rfl⟩, fun z hz => by simp at hz, by omega⟩
    obtain ⟨_, hz0, _⟩ := hel2 0 (by omega)
    have e := plain_at (by simpa [Addr.add] using hz0)
    obtain ⟨zs, hzl, hzb, hin⟩ := bytes_of_each (W := W) (b := y.block) l y.off (fun i hi => by
      obtain ⟨z, q0, hz⟩ := hel2 i hi
      rw [e, add_plain] at q0
      exact ⟨z, by simpa using q0, hz⟩)
    exact ⟨some y, l, c, zs, hcs, ⟨hzl, .inr ⟨y.block, y.off, by rw [← e], hin⟩⟩, hzb, by omega⟩

theorem openInS (fuel : Nat) (v : Value) (x : DataW H × List MemPlace) (h : DataW.trod enc Tryd.prog W base spare held fuel 65 [v] = some x) : ∃ a l c zs, v = .slice a l c ∧ RdI W a l zs := by
  rcases DataW.trod_slice Tryd.underlying65 h with ⟨hcs, _⟩ | ⟨y, l, c, elems, rest, n', hn', hcs, _, hb, hl, hm, hlen, hel, _, _⟩
  · simp at hcs
    exact ⟨none, 0, 0, [], hcs, ⟨rfl, .inl rfl⟩, by omega⟩
  · simp at hcs
    have hm' : c ≤ 9223372036854775807 := by simpa [maxLen] using hm
    have hC : Tryd.prog.cellsOf 3 = 1 := by kernel_rfl
    rw [hC] at hel
    have hel2 : ∀ i, i < l → ∃ z : Int, W.cell? (y.add (i * 1)) = some (.int .i64 z) := by
      intro i hi
      have h1 := hel i hi
      rw [List.getElem?_eq_getElem (by omega), Option.bind_eq_some_iff] at h1
      obtain ⟨cs', h1, h2⟩ := h1
      obtain ⟨_, hlen', hcell⟩ := World.cells?_some h1
      match cs', hlen' with
      | [v0], _ =>
        obtain ⟨z, rfl, _⟩ := openInt h2
        have k0 := hcell 0 (by omega)
        exact ⟨z, by simpa [Addr.add] using k0⟩
    by_cases h0 : l = 0
    · subst h0
      exact ⟨some y, 0, c, [], hcs, ⟨rfl, .inl rfl⟩, by omega⟩
    obtain ⟨_, hz0⟩ := hel2 0 (by omega)
    have e := plain_at (by simpa [Addr.add] using hz0)
    obtain ⟨zs, hzl, hin⟩ := ints_of_each (W := W) (b := y.block) l y.off (fun i hi => by
      obtain ⟨z, q0⟩ := hel2 i hi
      rw [e, add_plain] at q0
      exact ⟨z, by simpa using q0⟩)
    exact ⟨some y, l, c, zs, hcs, ⟨hzl, .inr ⟨y.block, y.off, by rw [← e], hin⟩⟩, by omega⟩

end
end Go.Proofs.YtpmndefmibnaeaaDoor.By
