/-
  Values that came in, opened. No statement is proved here.
-/
import Derived.Test.YtpmndefmibnaeaaDoorEOb
import Derived.Test.YtpmndefmibnaeaaDoorVL
namespace Go.Proofs.YtpmndefmibnaeaaDoor.By
open Go.ChangeShapes Go.WideShapes Go.ChangeAt Go.RowKit Go.Deep
set_option linter.unusedVariables false
set_option maxRecDepth 100000

theorem arr4 {cs : Array Value} (h : cs.size = 4) : ∃ c0 c1 c2 c3, cs = #[c0, c1, c2, c3] := by
  obtain ⟨l⟩ := cs
  match l, h with
  | [c0, c1, c2, c3], _ => exact ⟨c0, c1, c2, c3, rfl⟩
theorem inV_of_each {W : World} {b : Nat} (l : Nat) : ∀ (o : Nat), (∀ i, i < l → ∃ (x : RVal) (a1 : Option Addr) (l1 c1 : Nat) (a2 : Option Addr) (l2 c2 : Nat), (W.cell? ⟨b, o + i * 4, none⟩ = some (.int .i64 x.k) ∧ W.cell? ⟨b, o + i * 4 + 1, none⟩ = some (.int .i64 x.n) ∧ W.cell? ⟨b, o + i * 4 + 2, none⟩ = some (.slice a1 l1 c1) ∧ W.cell? ⟨b, o + i * 4 + 3, none⟩ = some (.slice a2 l2 c2)) ∧ l1 ≤ c1 ∧ RdVal W x a1 l1 a2 l2 ∧ okX x) → ∃ f : V, f.len = l ∧ InVal W W f b o ∧ okN f := by
  induction l with
  | zero => intro o _; exact ⟨.nil, rfl, trivial, trivial⟩
  | succ l ih =>
    intro o h
    obtain ⟨x, a1, l1, c1, a2, l2, c2, hc, hl, hr, hx⟩ := h 0 (by omega)
    obtain ⟨f, hf, hin, hok⟩ := ih (o + 4) (fun i hi => by
      have := h (i + 1) (by omega)
      have e : o + (i + 1) * 4 = o + 4 + i * 4 := by omega
      rw [e] at this; exact this)
    rw [Nat.zero_mul, Nat.add_zero] at hc
    exact ⟨V.cn x f, by rw [V.len_cn, hf], InVal.mk hc hl hr hin, ⟨hx.1, hx.2, hok⟩⟩

section
variable {H : Type} {enc : TypeId × Value → H} {W : World} {base : Nat} {spare : Nat → Bool} {held : Bool}

theorem openByC (fuel : Nat) (v : Value) (x : DataW H × List MemPlace) (h : DataW.trod enc Tryd.prog W base spare held fuel 22 [v] = some x) : ∃ a l c zs, v = .slice a l c ∧ l ≤ c ∧ RdB W a l zs := by
  obtain ⟨a, l, c, zs, hv, hr⟩ := openByS fuel v x h
  rcases DataW.trod_slice Tryd.underlying22 h with ⟨hcs, _⟩ | ⟨y, l', c', elems, rest, n', hn', hcs, _, hb, hl, hm, hlen, hel, _, _⟩
  · simp at hcs
    rw [hv] at hcs
    injection hcs with e1 e2 e3
    exact ⟨a, l, c, zs, hv, by omega, hr⟩
  · simp at hcs
    rw [hv] at hcs
    injection hcs with e1 e2 e3
    exact ⟨a, l, c, zs, hv, by omega, hr⟩

theorem openVT (fuel : Nat) : (∀ (v0 v1 v2 v3 : Value) (x : DataW H × List MemPlace), DataW.trod enc Tryd.prog W base spare held fuel 25 [v0, v1, v2, v3] = some x → ∃ (y : RVal) (a1 : Option Addr) (l1 c1 : Nat) (a2 : Option Addr) (l2 c2 : Nat), v0 = .int .i64 y.k ∧ v1 = .int .i64 y.n ∧ v2 = .slice a1 l1 c1 ∧ v3 = .slice a2 l2 c2 ∧ l1 ≤ c1 ∧ RdVal W y a1 l1 a2 l2 ∧ okX y) ∧
    (∀ (v : Value) (x : DataW H × List MemPlace), DataW.trod enc Tryd.prog W base spare held fuel 23 [v] = some x → ∃ (a : Option Addr) (l c : Nat) (f : V), v = .slice a l c ∧ SlVal W a l f ∧ okN f) := by
  induction fuel with
  | zero => exact ⟨fun v0 v1 v2 v3 x h => by simp [DataW.trod] at h, fun v x h => by simp [DataW.trod] at h⟩
  | succ fuel ih =>
    constructor
    · intro v0 v1 v2 v3 x h
      obtain ⟨xs, n', hn', _, _, hxl, hf⟩ := DataW.trod_struct Tryd.underlying25 h
      obtain rfl : fuel = n' := by omega
      have c3 : Tryd.prog.cellsOf 3 = 1 := by kernel_rfl
      have cb : Tryd.prog.cellsOf 22 = 1 := by kernel_rfl
      have cl : Tryd.prog.cellsOf 23 = 1 := by kernel_rfl
      have f0 : DataW.trod enc Tryd.prog W base spare held fuel 3 (([v0, v1, v2, v3].drop 0).take (Tryd.prog.cellsOf 3)) = xs[0]? := hf 0 _ rfl
      have f1 : DataW.trod enc Tryd.prog W base spare held fuel 3 (([v0, v1, v2, v3].drop 1).take (Tryd.prog.cellsOf 3)) = xs[1]? := hf 1 _ rfl
      have f2 : DataW.trod enc Tryd.prog W base spare held fuel 22 (([v0, v1, v2, v3].drop 2).take (Tryd.prog.cellsOf 22)) = xs[2]? := hf 2 _ rfl
      have f3 : DataW.trod enc Tryd.prog W base spare held fuel 23 (([v0, v1, v2, v3].drop 3).take (Tryd.prog.cellsOf 23)) = xs[3]? := hf 3 _ rfl
      rw [c3] at f0 f1
      rw [cb] at f2
      rw [cl] at f3
      have hx4 : xs.length = 4 := hxl
      rw [List.getElem?_eq_getElem (by omega)] at f0 f1 f2 f3
      obtain ⟨k, rfl, _⟩ := openInt (v := v0) (by simpa using f0)
      obtain ⟨n, rfl, hn⟩ := openInt (v := v1) (by simpa using f1)
      obtain ⟨a1, l1, c1, zs, rfl, hle, hb⟩ := openByC fuel v2 _ (by simpa using f2)
      obtain ⟨a2, l2, c2, d, rfl, hd, hok⟩ := ih.2 v3 _ (by simpa using f3)
      have hnr : -9223372036854775808 ≤ n ∧ n ≤ 9223372036854775807 := by
        have e1 : IntKind.i64.min = -9223372036854775808 := by decide
        have e2 : IntKind.i64.max = 9223372036854775807 := by decide
        simp [Lit.wf] at hn
        exact ⟨by omega, by omega⟩
      exact ⟨⟨k, n, zs, d⟩, a1, l1, c1, a2, l2, c2, rfl, rfl, rfl, rfl, hle, ⟨hb, hd⟩, ⟨hnr, hok⟩⟩
    · intro v x h
      rcases DataW.trod_slice Tryd.underlying23 h with ⟨hcs, _⟩ | ⟨y, l, c, elems, rest, n', hn', hcs, _, hb, hl, hm, hlen, hel, _, _⟩
      · simp at hcs
        exact ⟨none, 0, 0, .nil, hcs, ⟨rfl, by omega, .inl rfl⟩, trivial⟩
      · simp at hcs
        obtain rfl : fuel = n' := by omega
        have hm' : c ≤ 9223372036854775807 := by simpa [maxLen] using hm
        have hC : Tryd.prog.cellsOf 25 = 4 := by kernel_rfl
        rw [hC] at hel
        have hel2 : ∀ i, i < l → ∃ (x : RVal) (a1 : Option Addr) (l1 c1 : Nat) (a2 : Option Addr) (l2 c2 : Nat), (W.cell? (y.add (i * 4)) = some (.int .i64 x.k) ∧ W.cell? ((y.add (i * 4)).add 1) = some (.int .i64 x.n) ∧ W.cell? ((y.add (i * 4)).add 2) = some (.slice a1 l1 c1) ∧ W.cell? ((y.add (i * 4)).add 3) = some (.slice a2 l2 c2)) ∧ l1 ≤ c1 ∧ RdVal W x a1 l1 a2 l2 ∧ okX x := by
          intro i hi
          have h1 := hel i hi
          rw [List.getElem?_eq_getElem (by omega), Option.bind_eq_some_iff] at h1
          obtain ⟨cs', h1, h2⟩ := h1
          obtain ⟨_, hlen', hcell⟩ := World.cells?_some h1
          match cs', hlen' with
          | [v0, v1, v2, v3], _ =>
            obtain ⟨z, a1, l1, c1, a2, l2, c2, rfl, rfl, rfl, rfl, hle, hd, hx⟩ := ih.1 v0 v1 v2 v3 _ h2
            have k0 := hcell 0 (by omega)
            have k1 := hcell 1 (by omega)
            have k2 := hcell 2 (by omega)
            have k3 := hcell 3 (by omega)
            exact ⟨z, a1, l1, c1, a2, l2, c2, ⟨by simpa [Addr.add] using k0, by simpa using k1, by simpa using k2, by simpa using k3⟩, hle, hd, hx⟩
        by_cases h0 : l = 0
        · subst h0
          exact ⟨some y, 0, c, .nil, hcs, ⟨rfl, by omega, .inl rfl⟩, trivial⟩
        obtain ⟨_, _, _, _, _, _, _, ⟨hz0, _⟩, _⟩ := hel2 0 (by omega)
        have e := plain_at (by simpa [Addr.add] using hz0)
        obtain ⟨f, hf, hin, hok⟩ := inV_of_each (W := W) (b := y.block) l y.off (fun i hi => by
          obtain ⟨x, a1, l1, c1, a2, l2, c2, ⟨q0, q1, q2, q3⟩, hr⟩ := hel2 i hi
          rw [e, add_plain] at q0 q1 q2 q3
          rw [add_plain] at q1 q2 q3
          exact ⟨x, a1, l1, c1, a2, l2, c2, ⟨q0, q1, q2, q3⟩, hr⟩)
        exact ⟨some y, l, c, f, hcs, ⟨hf, by omega, .inr ⟨y.block, y.off, by rw [← e], hin⟩⟩, hok⟩

theorem openV {b0 : Nat} {v : Value} {dd : DataW H} {p : List MemPlace} (hv : Value.okWide Tryd.prog W .any b0 25 v) (h : DataW.Trod enc Tryd.prog W base spare held 25 v dd p) :
    ∃ (y : RVal) (a1 : Option Addr) (l1 c1 : Nat) (a2 : Option Addr) (l2 c2 : Nat), v = .agg #[.int .i64 y.k, .int .i64 y.n, .slice a1 l1 c1, .slice a2 l2 c2] ∧ RdVal W y a1 l1 a2 l2 ∧ okX y := by
  have hC : Tryd.prog.cellsOf 25 = 4 := by kernel_rfl
  obtain ⟨cs, rfl, hsz⟩ := okWide_struct Tryd.underlying25 hv
  obtain ⟨v0, v1, v2, v3, rfl⟩ := arr4 (hsz.trans hC)
  obtain ⟨fuel, hf⟩ := h
  obtain ⟨y, a1, l1, c1, a2, l2, c2, rfl, rfl, rfl, rfl, -, hd, hx⟩ := (openVT (enc := enc) (W := W) (base := base) (spare := spare) (held := held) fuel).1 v0 v1 v2 v3 _ (by simpa [Value.cells] using hf)
  exact ⟨y, a1, l1, c1, a2, l2, c2, rfl, hd, hx⟩
theorem openVS {b0 : Nat} {v : Value} {dd : DataW H} {p : List MemPlace} (hv : Value.okWide Tryd.prog W .any b0 23 v) (h : DataW.Trod enc Tryd.prog W base spare held 23 v dd p) :
    ∃ (a : Option Addr) (l c : Nat) (f : V), v = .slice a l c ∧ SlVal W a l f ∧ okN f := by
  obtain ⟨a, l, c, rfl⟩ := okWide_slice Tryd.underlying23 hv
  obtain ⟨fuel, hf⟩ := h
  obtain ⟨a', l', c', f, e, hd⟩ := (openVT (enc := enc) (W := W) (base := base) (spare := spare) (held := held) fuel).2 (.slice a l c) _ (by simpa [Value.cells] using hf)
  exact ⟨a', l', c', f, e, hd⟩

end
end Go.Proofs.YtpmndefmibnaeaaDoor.By
