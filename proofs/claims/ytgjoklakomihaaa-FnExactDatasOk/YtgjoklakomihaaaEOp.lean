/-
  A list of data that came in, opened. No statement is proved here.
-/
import Derived.Test.YtgjoklakomihaaaTOpen
import Derived.Test.YtgjoklakomihaaaEB
namespace Go.Proofs.Ytgjoklakomihaaa.By
open Go.ChangeShapes Go.WideShapes Go.ChangeAt Go.RowKit Go.Deep
set_option linter.unusedVariables false
set_option maxRecDepth 100000

theorem bytes_of_each {W : World} {b : Nat} (l : Nat) : ∀ (o : Nat), (∀ i, i < l → ∃ z : Int, W.cell? ⟨b, o + i, none⟩ = some (.int .u8 z) ∧ 0 ≤ z ∧ z ≤ 255) → ∃ zs : List Int, zs.length = l ∧ Byt zs ∧ ∀ i, i < l → W.cell? ⟨b, o + i, none⟩ = some (.int .u8 (zs.getD i 0)) := by
  induction l with
  | zero => intro o _; exact ⟨[], rfl, fun z hz => by simp at hz, fun i hi => by omega⟩
  | succ l ih =>
    intro o h
    obtain ⟨z, h0, hz⟩ := h 0 (by omega)
    obtain ⟨zs, hl, hb, hc⟩ := ih (o + 1) (fun i hi => by
      have := h (i + 1) (by omega)
      have e : o + (i + 1) = o + 1 + i := by omega
      rw [e] at this; exact this)
    refine ⟨z :: zs, by simp [hl], ?_, ?_⟩
    · intro y hy
      rcases List.mem_cons.1 hy with rfl | hy
      · exact hz
      · exact hb y hy
    · intro i hi
      cases i with
      | zero => simpa using h0
      | succ i =>
        have := hc i (by omega)
        rw [show o + (i + 1) = o + 1 + i by omega]; simpa using this

theorem inCo_of_each {W : World} {b : Nat} (l : Nat) : ∀ (o : Nat), (∀ i, i < l → ∃ (x : Co) (a : Option Addr) (n c : Nat) (a' : Option Addr) (l' c' : Nat), W.cell? ⟨b, o + i * 2, none⟩ = some (.slice a n c) ∧ W.cell? ⟨b, o + i * 2 + 1, none⟩ = some (.slice a' l' c') ∧ RdB W a n x.name ∧ SlF W a' l' x.flds) → ∃ cs : List Co, cs.length = l ∧ InCo W W cs b o := by
  induction l with
  | zero => intro o _; exact ⟨[], rfl, trivial⟩
  | succ l ih =>
    intro o h
    obtain ⟨x, a, n, c, a', l', c', h0, h1, h2, h3⟩ := h 0 (by omega)
    obtain ⟨cs, hl, hin⟩ := ih (o + 2) (fun i hi => by
      have := h (i + 1) (by omega)
      have e : o + (i + 1) * 2 = o + 2 + i * 2 := by omega
      rw [e] at this; exact this)
    exact ⟨x :: cs, by simp [hl], ⟨a, n, c, a', l', c', by simpa using h0, by simpa using h1, h2, h3⟩, hin⟩

theorem inDa_of_each {W : World} {b : Nat} (l : Nat) : ∀ (o : Nat), (∀ i, i < l → ∃ (x : Da) (a : Option Addr) (n c : Nat) (a' : Option Addr) (l' c' : Nat), W.cell? ⟨b, o + i * 3, none⟩ = some (.slice a n c) ∧ W.cell? ⟨b, o + i * 3 + 1, none⟩ = some (.int .i64 x.vars) ∧ W.cell? ⟨b, o + i * 3 + 2, none⟩ = some (.slice a' l' c') ∧ RdB W a n x.name ∧ SlCo W a' l' x.cons) → ∃ ds : List Da, ds.length = l ∧ InDa W W ds b o := by
  induction l with
  | zero => intro o _; exact ⟨[], rfl, trivial⟩
  | succ l ih =>
    intro o h
    obtain ⟨x, a, n, c, a', l', c', h0, h1, h2, h3, h4⟩ := h 0 (by omega)
    obtain ⟨ds, hl, hin⟩ := ih (o + 3) (fun i hi => by
      have := h (i + 1) (by omega)
      have e : o + (i + 1) * 3 = o + 3 + i * 3 := by omega
      rw [e] at this; exact this)
    exact ⟨x :: ds, by simp [hl], ⟨a, n, c, a', l', c', by simpa using h0, by simpa using h1, by simpa using h2, h3, h4⟩, hin⟩

section
variable {H : Type} {enc : TypeId × Value → H} {W : World} {base : Nat} {spare : Nat → Bool} {held : Bool}

theorem openU8 {fuel : Nat} {v : Value} {x : DataW H × List MemPlace} (h : DataW.trod enc Try.prog W base spare held fuel 5 [v] = some x) : ∃ z, v = .int .u8 z ∧ 0 ≤ z ∧ z ≤ 255 := by
  obtain ⟨z, e, _, hw⟩ := DataW.trod_int Try.underlying5 h
  simp at e
  refine ⟨z, e, ?_⟩
  have := hw
  have e1 : IntKind.u8.min = 0 := by decide
  have e2 : IntKind.u8.max = 255 := by decide
  simp [Lit.wf] at this
  omega

theorem openByS (fuel : Nat) (v : Value) (x : DataW H × List MemPlace) (h : DataW.trod enc Try.prog W base spare held fuel 30 [v] = some x) : ∃ a l c zs, v = .slice a l c ∧ RdB W a l zs := by
  rcases DataW.trod_slice Try.underlying30 h with ⟨hcs, _⟩ | ⟨y, l, c, elems, rest, n', hn', hcs, _, hb, hl, hm, hlen, hel, _, _⟩
  · simp at hcs
    exact ⟨none, 0, 0, [], hcs, ⟨rfl, .inl rfl⟩, fun z hz => by simp at hz, by omega⟩
  · simp at hcs
    have hm' : c ≤ 9223372036854775807 := by simpa [maxLen] using hm
    have hC : Try.prog.cellsOf 5 = 1 := by kernel_rfl
    rw [hC] at hel
    have hel2 : ∀ i, i < l → ∃ z : Int, W.cell? (y.add (i * 1)) = some (.int .u8 z) ∧ 0 ≤ z ∧ z ≤ 255 := by
      intro i hi
      have h1 := hel i hi
      rw [List.getElem?_eq_getElem (by omega), Option.bind_eq_some_iff] at h1
      obtain ⟨cs', h1, h2⟩ := h1
      obtain ⟨_, hlen', hcell⟩ := World.cells?_some h1
      match cs', hlen' with
      | [v0], _ =>
        obtain ⟨z, rfl, hz⟩ := openU8 h2
        have k0 := hcell 0 (by omega)
        exact ⟨z, by simpa [Addr.add] using k0, hz⟩
    by_cases h0 : l = 0
    · subst h0
      exact ⟨some y, 0, c, [], hcs, ⟨rfl, .inl rfl⟩, fun z hz => by simp at hz, by omega⟩
    obtain ⟨_, hz0, _⟩ := hel2 0 (by omega)
    have e := plain_at (by simpa [Addr.add] using hz0)
    obtain ⟨zs, hzl, hzb, hin⟩ := bytes_of_each (W := W) (b := y.block) l y.off (fun i hi => by
      obtain ⟨z, q0, hz⟩ := hel2 i hi
      rw [e, add_plain] at q0
      exact ⟨z, by simpa using q0, hz⟩)
    exact ⟨some y, l, c, zs, hcs, ⟨hzl, .inr ⟨y.block, y.off, by rw [← e], hin⟩⟩, hzb, by omega⟩

theorem openCo (fuel : Nat) (v0 v1 : Value) (x : DataW H × List MemPlace) (h : DataW.trod enc Try.prog W base spare held fuel 68 [v0, v1] = some x) : ∃ (co : Co) (a : Option Addr) (n c : Nat) (a' : Option Addr) (l' c' : Nat), v0 = .slice a n c ∧ v1 = .slice a' l' c' ∧ RdB W a n co.name ∧ SlF W a' l' co.flds := by
  cases fuel with
  | zero => simp [DataW.trod] at h
  | succ fuel =>
    obtain ⟨xs, n', hn', _, _, hxl, hf⟩ := DataW.trod_struct Try.underlying68 h
    obtain rfl : fuel = n' := by omega
    have c3 : Try.prog.cellsOf 30 = 1 := by kernel_rfl
    have c37 : Try.prog.cellsOf 66 = 1 := by kernel_rfl
    have f0 : DataW.trod enc Try.prog W base spare held fuel 30 (([v0, v1].drop 0).take (Try.prog.cellsOf 30)) = xs[0]? := hf 0 _ rfl
    have f1 : DataW.trod enc Try.prog W base spare held fuel 66 (([v0, v1].drop 1).take (Try.prog.cellsOf 66)) = xs[1]? := hf 1 _ rfl
    rw [c3] at f0
    rw [c37] at f1
    have hx2 : xs.length = 2 := hxl
    rw [List.getElem?_eq_getElem (by omega)] at f0 f1
    obtain ⟨a, n, c, zs, rfl, hz⟩ := openByS fuel v0 _ (by simpa using f0)
    obtain ⟨a', l', c', d, rfl, hd⟩ := (openTree (enc := enc) (W := W) (base := base) (spare := spare) (held := held) fuel).2 v1 _ (by simpa using f1)
    exact ⟨⟨zs, d⟩, a, n, c, a', l', c', rfl, rfl, hz, hd⟩

theorem openCoS (fuel : Nat) (v : Value) (x : DataW H × List MemPlace) (h : DataW.trod enc Try.prog W base spare held fuel 31 [v] = some x) : ∃ a l c cs, v = .slice a l c ∧ SlCo W a l cs := by
  rcases DataW.trod_slice Try.underlying31 h with ⟨hcs, _⟩ | ⟨y, l, c, elems, rest, n', hn', hcs, _, hb, hl, hm, hlen, hel, _, _⟩
  · simp at hcs
    exact ⟨none, 0, 0, [], hcs, rfl, by omega, .inl rfl⟩
  · simp at hcs
    have hm' : c ≤ 9223372036854775807 := by simpa [maxLen] using hm
    have hC : Try.prog.cellsOf 68 = 2 := by kernel_rfl
    rw [hC] at hel
    have hel2 : ∀ i, i < l → ∃ (co : Co) (a : Option Addr) (n c : Nat) (a' : Option Addr) (l' c' : Nat), W.cell? (y.add (i * 2)) = some (.slice a n c) ∧ W.cell? ((y.add (i * 2)).add 1) = some (.slice a' l' c') ∧ RdB W a n co.name ∧ SlF W a' l' co.flds := by
      intro i hi
      have h1 := hel i hi
      rw [List.getElem?_eq_getElem (by omega), Option.bind_eq_some_iff] at h1
      obtain ⟨cs', h1, h2⟩ := h1
      obtain ⟨_, hlen', hcell⟩ := World.cells?_some h1
      match cs', hlen' with
      | [v0, v1], _ =>
        obtain ⟨co, a, n, c, a', l', c', rfl, rfl, hz, hd⟩ := openCo _ v0 v1 _ h2
        have k0 := hcell 0 (by omega)
        have k1 := hcell 1 (by omega)
        exact ⟨co, a, n, c, a', l', c', by simpa [Addr.add] using k0, by simpa using k1, hz, hd⟩
    by_cases h0 : l = 0
    · subst h0
      exact ⟨some y, 0, c, [], hcs, rfl, by omega, .inl rfl⟩
    obtain ⟨_, _, _, _, _, _, _, hz0, _⟩ := hel2 0 (by omega)
    have e := plain_at (by simpa [Addr.add] using hz0)
    obtain ⟨f, hf, hin⟩ := inCo_of_each (W := W) (b := y.block) l y.off (fun i hi => by
      obtain ⟨co, a, n, c, a', l', c', q0, q1, hz, hd⟩ := hel2 i hi
      rw [e, add_plain] at q0 q1
      rw [add_plain] at q1
      exact ⟨co, a, n, c, a', l', c', q0, q1, hz, hd⟩)
    exact ⟨some y, l, c, f, hcs, hf, by omega, .inr ⟨y.block, y.off, by rw [← e], hin⟩⟩

theorem openDa (fuel : Nat) (v0 v1 v2 : Value) (x : DataW H × List MemPlace) (h : DataW.trod enc Try.prog W base spare held fuel 33 [v0, v1, v2] = some x) : ∃ (da : Da) (a : Option Addr) (n c : Nat) (a' : Option Addr) (l' c' : Nat), v0 = .slice a n c ∧ v1 = .int .i64 da.vars ∧ v2 = .slice a' l' c' ∧ RdB W a n da.name ∧ SlCo W a' l' da.cons := by
  cases fuel with
  | zero => simp [DataW.trod] at h
  | succ fuel =>
    obtain ⟨xs, n', hn', _, _, hxl, hf⟩ := DataW.trod_struct Try.underlying33 h
    obtain rfl : fuel = n' := by omega
    have c3 : Try.prog.cellsOf 30 = 1 := by kernel_rfl
    have c4 : Try.prog.cellsOf 3 = 1 := by kernel_rfl
    have c37 : Try.prog.cellsOf 31 = 1 := by kernel_rfl
    have f0 : DataW.trod enc Try.prog W base spare held fuel 30 (([v0, v1, v2].drop 0).take (Try.prog.cellsOf 30)) = xs[0]? := hf 0 _ rfl
    have f1 : DataW.trod enc Try.prog W base spare held fuel 3 (([v0, v1, v2].drop 1).take (Try.prog.cellsOf 3)) = xs[1]? := hf 1 _ rfl
    have f2 : DataW.trod enc Try.prog W base spare held fuel 31 (([v0, v1, v2].drop 2).take (Try.prog.cellsOf 31)) = xs[2]? := hf 2 _ rfl
    rw [c3] at f0
    rw [c4] at f1
    rw [c37] at f2
    have hx3 : xs.length = 3 := hxl
    rw [List.getElem?_eq_getElem (by omega)] at f0 f1 f2
    obtain ⟨a, n, c, zs, rfl, hz⟩ := openByS fuel v0 _ (by simpa using f0)
    obtain ⟨k, rfl, _⟩ := openInt (v := v1) (by simpa using f1)
    obtain ⟨a', l', c', cs, rfl, hd⟩ := openCoS fuel v2 _ (by simpa using f2)
    exact ⟨⟨zs, k, cs⟩, a, n, c, a', l', c', rfl, rfl, rfl, hz, hd⟩

theorem openDaS {b0 : Nat} {v : Value} {dd : DataW H} {p : List MemPlace} (hv : Value.okWide Try.prog W .any b0 22 v) (h : DataW.Trod enc Try.prog W base spare held 22 v dd p) :
    ∃ a l c ds, v = .slice a l c ∧ SlDa W a l ds ∧ l ≤ c := by
  obtain ⟨a, l, c, rfl⟩ := okWide_slice Try.underlying22 hv
  obtain ⟨fuel, hf⟩ := h
  have hf' : DataW.trod enc Try.prog W base spare held fuel 22 [.slice a l c] = some (dd, p) := by simpa [Value.cells] using hf
  rcases DataW.trod_slice Try.underlying22 hf' with ⟨hcs, _⟩ | ⟨y, l2, c2, elems, rest, n', hn', hcs, _, hb, hl, hm, hlen, hel, _, _⟩
  · simp at hcs
    obtain ⟨rfl, rfl, rfl⟩ := hcs
    exact ⟨none, 0, 0, [], rfl, ⟨rfl, by omega, .inl rfl⟩, by omega⟩
  · simp at hcs
    obtain ⟨rfl, rfl, rfl⟩ := hcs
    have hm' : c ≤ 9223372036854775807 := by simpa [maxLen] using hm
    have hC : Try.prog.cellsOf 33 = 3 := by kernel_rfl
    rw [hC] at hel
    have hel2 : ∀ i, i < l → ∃ (da : Da) (a : Option Addr) (n c : Nat) (a' : Option Addr) (l' c' : Nat), W.cell? (y.add (i * 3)) = some (.slice a n c) ∧ W.cell? ((y.add (i * 3)).add 1) = some (.int .i64 da.vars) ∧ W.cell? ((y.add (i * 3)).add 2) = some (.slice a' l' c') ∧ RdB W a n da.name ∧ SlCo W a' l' da.cons := by
      intro i hi
      have h1 := hel i hi
      rw [List.getElem?_eq_getElem (by omega), Option.bind_eq_some_iff] at h1
      obtain ⟨cs', h1, h2⟩ := h1
      obtain ⟨_, hlen', hcell⟩ := World.cells?_some h1
      match cs', hlen' with
      | [v0, v1, v2], _ =>
        obtain ⟨da, a, n, c, a', l', c', rfl, rfl, rfl, hz, hd⟩ := openDa _ v0 v1 v2 _ h2
        have k0 := hcell 0 (by omega)
        have k1 := hcell 1 (by omega)
        have k2 := hcell 2 (by omega)
        exact ⟨da, a, n, c, a', l', c', by simpa [Addr.add] using k0, by simpa using k1, by simpa using k2, hz, hd⟩
    by_cases h0 : l = 0
    · subst h0
      exact ⟨some y, 0, c, [], rfl, ⟨rfl, by omega, .inl rfl⟩, by omega⟩
    obtain ⟨_, _, _, _, _, _, _, hz0, _⟩ := hel2 0 (by omega)
    have e := plain_at (by simpa [Addr.add] using hz0)
    obtain ⟨f, hf, hin⟩ := inDa_of_each (W := W) (b := y.block) l y.off (fun i hi => by
      obtain ⟨da, a, n, c, a', l', c', q0, q1, q2, hz, hd⟩ := hel2 i hi
      rw [e, add_plain] at q0 q1 q2
      rw [add_plain] at q1 q2
      exact ⟨da, a, n, c, a', l', c', q0, q1, q2, hz, hd⟩)
    exact ⟨some y, l, c, f, rfl, ⟨hf, by omega, .inr ⟨y.block, y.off, by rw [← e], hin⟩⟩, by omega⟩
end
end Go.Proofs.Ytgjoklakomihaaa.By
