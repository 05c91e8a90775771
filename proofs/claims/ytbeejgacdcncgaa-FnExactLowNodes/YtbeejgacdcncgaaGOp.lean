/-
  A low expression that came in, opened. No statement is proved here.
-/
import Derived.Test.YtbeejgacdcncgaaTOpen
import Derived.Test.YtbeejgacdcncgaaEOb
import Derived.Test.YtbeejgacdcncgaaGBL
namespace Go.Proofs.Ytbeejgacdcncgaa.By
open Go.ChangeShapes Go.WideShapes Go.ChangeAt Go.RowKit Go.Deep
set_option linter.unusedVariables false
set_option maxRecDepth 100000

theorem inGLk_of_each {W : World} {b : Nat} (l : Nat) : ∀ (o : Nat), (∀ i, i < l → ∃ (p : PL) (kids alts : GL) (a1 : Option Addr) (l1 c1 : Nat) (a2 : Option Addr) (l2 c2 : Nat) (a3 : Option Addr) (l3 c3 : Nat) (a4 : Option Addr) (l4 c4 : Nat) (a5 : Option Addr) (l5 c5 : Nat), CelL W b (o + i * 13) (.int .i64 p.k) (.int .i64 p.n) (.int .i64 p.m) (.int .i64 p.c) (.slice a1 l1 c1) (.int .i64 p.tk) (.int .i64 p.tn) (.slice a2 l2 c2) (.int .i64 p.uk) (.int .i64 p.un) (.slice a3 l3 c3) (.slice a4 l4 c4) (.slice a5 l5 c5) ∧ NdL W p kids alts a1 l1 a2 l2 a3 l3 a4 l4 a5 l5) → ∃ g : GL, g.len = l ∧ InGL W W false g b o := by
  induction l with
  | zero => intro o _; exact ⟨.nil, rfl, trivial⟩
  | succ l ih =>
    intro o h
    obtain ⟨p, kids, alts, a1, l1, c1, a2, l2, c2, a3, l3, c3, a4, l4, c4, a5, l5, c5, h0, h1⟩ := h 0 (by omega)
    obtain ⟨g, hl, hin⟩ := ih (o + 13) (fun i hi => by
      have := h (i + 1) (by omega)
      have e : o + (i + 1) * 13 = o + 13 + i * 13 := by omega
      rw [e] at this; exact this)
    have h0' : CelL W b o (.int .i64 p.k) (.int .i64 p.n) (.int .i64 p.m) (.int .i64 p.c) (.slice a1 l1 c1) (.int .i64 p.tk) (.int .i64 p.tn) (.slice a2 l2 c2) (.int .i64 p.uk) (.int .i64 p.un) (.slice a3 l3 c3) (.slice a4 l4 c4) (.slice a5 l5 c5) := by simpa using h0
    exact ⟨.cons 0 [] p kids alts g, by simp [GL.len, hl], .inl ⟨rfl, rfl⟩, ⟨a1, l1, c1, a2, l2, c2, a3, l3, c3, a4, l4, c4, a5, l5, c5, h0', h1⟩, hin⟩
theorem inGLa_of_each {W : World} {b : Nat} (l : Nat) : ∀ (o : Nat), (∀ i, i < l → ∃ (hc : Int) (hv : List Int) (e0 : Option Addr) (q0 d0 : Nat), HedL W b (o + i * 15) (.int .i64 hc) (.slice e0 q0 d0) ∧ RdI W e0 q0 hv ∧ ∃ (p : PL) (kids alts : GL) (a1 : Option Addr) (l1 c1 : Nat) (a2 : Option Addr) (l2 c2 : Nat) (a3 : Option Addr) (l3 c3 : Nat) (a4 : Option Addr) (l4 c4 : Nat) (a5 : Option Addr) (l5 c5 : Nat), CelL W b (o + i * 15 + 2) (.int .i64 p.k) (.int .i64 p.n) (.int .i64 p.m) (.int .i64 p.c) (.slice a1 l1 c1) (.int .i64 p.tk) (.int .i64 p.tn) (.slice a2 l2 c2) (.int .i64 p.uk) (.int .i64 p.un) (.slice a3 l3 c3) (.slice a4 l4 c4) (.slice a5 l5 c5) ∧ NdL W p kids alts a1 l1 a2 l2 a3 l3 a4 l4 a5 l5) → ∃ g : GL, g.len = l ∧ InGL W W true g b o := by
  induction l with
  | zero => intro o _; exact ⟨.nil, rfl, trivial⟩
  | succ l ih =>
    intro o h
    obtain ⟨hc, hv, e0, q0, d0, k0, k1, p, kids, alts, a1, l1, c1, a2, l2, c2, a3, l3, c3, a4, l4, c4, a5, l5, c5, h0, h1⟩ := h 0 (by omega)
    obtain ⟨g, hl, hin⟩ := ih (o + 15) (fun i hi => by
      have := h (i + 1) (by omega)
      have e : o + (i + 1) * 15 = o + 15 + i * 15 := by omega
      rw [e] at this; exact this)
    have h0' : CelL W b (o + 2) (.int .i64 p.k) (.int .i64 p.n) (.int .i64 p.m) (.int .i64 p.c) (.slice a1 l1 c1) (.int .i64 p.tk) (.int .i64 p.tn) (.slice a2 l2 c2) (.int .i64 p.uk) (.int .i64 p.un) (.slice a3 l3 c3) (.slice a4 l4 c4) (.slice a5 l5 c5) := by simpa using h0
    have k0' : HedL W b o (.int .i64 hc) (.slice e0 q0 d0) := by simpa using k0
    exact ⟨.cons hc hv p kids alts g, by simp [GL.len, hl], .inr ⟨rfl, e0, q0, d0, k0', k1⟩, ⟨a1, l1, c1, a2, l2, c2, a3, l3, c3, a4, l4, c4, a5, l5, c5, h0', h1⟩, hin⟩
theorem arr13 {cs : Array Value} (h : cs.size = 13) : ∃ v0 v1 v2 v3 v4 v5 v6 v7 v8 v9 v10 v11 v12, cs = #[v0, v1, v2, v3, v4, v5, v6, v7, v8, v9, v10, v11, v12] := by
  obtain ⟨l⟩ := cs
  match l, h with
  | [v0, v1, v2, v3, v4, v5, v6, v7, v8, v9, v10, v11, v12], _ => exact ⟨v0, v1, v2, v3, v4, v5, v6, v7, v8, v9, v10, v11, v12, rfl⟩

section
variable {H : Type} {enc : TypeId × Value → H} {W : World} {base : Nat} {spare : Nat → Bool} {held : Bool}

theorem openLow (fuel : Nat) : (∀ (v0 v1 v2 v3 v4 v5 v6 v7 v8 v9 v10 v11 v12 : Value) (x : DataW H × List MemPlace), DataW.trod enc Try.prog W base spare held fuel 29 [v0, v1, v2, v3, v4, v5, v6, v7, v8, v9, v10, v11, v12] = some x → ∃ (p : PL) (kids alts : GL) (a1 : Option Addr) (l1 c1 : Nat) (a2 : Option Addr) (l2 c2 : Nat) (a3 : Option Addr) (l3 c3 : Nat) (a4 : Option Addr) (l4 c4 : Nat) (a5 : Option Addr) (l5 c5 : Nat), (v0 = .int .i64 p.k ∧ v1 = .int .i64 p.n ∧ v2 = .int .i64 p.m ∧ v3 = .int .i64 p.c ∧ v4 = .slice a1 l1 c1 ∧ v5 = .int .i64 p.tk ∧ v6 = .int .i64 p.tn ∧ v7 = .slice a2 l2 c2 ∧ v8 = .int .i64 p.uk ∧ v9 = .int .i64 p.un ∧ v10 = .slice a3 l3 c3 ∧ v11 = .slice a4 l4 c4 ∧ v12 = .slice a5 l5 c5) ∧ NdL W p kids alts a1 l1 a2 l2 a3 l3 a4 l4 a5 l5) ∧
    (∀ (r0 r1 v0 v1 v2 v3 v4 v5 v6 v7 v8 v9 v10 v11 v12 : Value) (x : DataW H × List MemPlace), DataW.trod enc Try.prog W base spare held fuel 60 [r0, r1, v0, v1, v2, v3, v4, v5, v6, v7, v8, v9, v10, v11, v12] = some x → ∃ (hc : Int) (hv : List Int) (e0 : Option Addr) (q0 d0 : Nat), r0 = .int .i64 hc ∧ r1 = .slice e0 q0 d0 ∧ RdI W e0 q0 hv ∧ ∃ (p : PL) (kids alts : GL) (a1 : Option Addr) (l1 c1 : Nat) (a2 : Option Addr) (l2 c2 : Nat) (a3 : Option Addr) (l3 c3 : Nat) (a4 : Option Addr) (l4 c4 : Nat) (a5 : Option Addr) (l5 c5 : Nat), (v0 = .int .i64 p.k ∧ v1 = .int .i64 p.n ∧ v2 = .int .i64 p.m ∧ v3 = .int .i64 p.c ∧ v4 = .slice a1 l1 c1 ∧ v5 = .int .i64 p.tk ∧ v6 = .int .i64 p.tn ∧ v7 = .slice a2 l2 c2 ∧ v8 = .int .i64 p.uk ∧ v9 = .int .i64 p.un ∧ v10 = .slice a3 l3 c3 ∧ v11 = .slice a4 l4 c4 ∧ v12 = .slice a5 l5 c5) ∧ NdL W p kids alts a1 l1 a2 l2 a3 l3 a4 l4 a5 l5) ∧
    (∀ (v : Value) (x : DataW H × List MemPlace), DataW.trod enc Try.prog W base spare held fuel 26 [v] = some x → ∃ a l c g, v = .slice a l c ∧ SlGL W false a l g) ∧
    (∀ (v : Value) (x : DataW H × List MemPlace), DataW.trod enc Try.prog W base spare held fuel 27 [v] = some x → ∃ a l c g, v = .slice a l c ∧ SlGL W true a l g) := by
  induction fuel with
  | zero => exact ⟨fun v0 v1 v2 v3 v4 v5 v6 v7 v8 v9 v10 v11 v12 x h => by simp [DataW.trod] at h, fun r0 r1 v0 v1 v2 v3 v4 v5 v6 v7 v8 v9 v10 v11 v12 x h => by simp [DataW.trod] at h, fun v x h => by simp [DataW.trod] at h, fun v x h => by simp [DataW.trod] at h⟩
  | succ fuel ih =>
    have c3 : Try.prog.cellsOf 3 = 1 := by kernel_rfl
    have cB : Try.prog.cellsOf 22 = 1 := by kernel_rfl
    have cI : Try.prog.cellsOf 58 = 1 := by kernel_rfl
    have cT : Try.prog.cellsOf 25 = 3 := by kernel_rfl
    have cK : Try.prog.cellsOf 26 = 1 := by kernel_rfl
    have cA : Try.prog.cellsOf 27 = 1 := by kernel_rfl
    have cL : Try.prog.cellsOf 29 = 13 := by kernel_rfl
    refine ⟨?_, ?_, ?_, ?_⟩
    · intro v0 v1 v2 v3 v4 v5 v6 v7 v8 v9 v10 v11 v12 x h
      obtain ⟨xs, n', hn', _, _, hxl, hf⟩ := DataW.trod_struct Try.underlying29 h
      obtain rfl : fuel = n' := by omega
      have f0 : DataW.trod enc Try.prog W base spare held fuel 3 (([v0, v1, v2, v3, v4, v5, v6, v7, v8, v9, v10, v11, v12].drop 0).take (Try.prog.cellsOf 3)) = xs[0]? := hf 0 _ rfl
      rw [c3] at f0
      have f1 : DataW.trod enc Try.prog W base spare held fuel 3 (([v0, v1, v2, v3, v4, v5, v6, v7, v8, v9, v10, v11, v12].drop 1).take (Try.prog.cellsOf 3)) = xs[1]? := hf 1 _ rfl
      rw [c3] at f1
      have f2 : DataW.trod enc Try.prog W base spare held fuel 3 (([v0, v1, v2, v3, v4, v5, v6, v7, v8, v9, v10, v11, v12].drop 2).take (Try.prog.cellsOf 3)) = xs[2]? := hf 2 _ rfl
      rw [c3] at f2
      have f3 : DataW.trod enc Try.prog W base spare held fuel 3 (([v0, v1, v2, v3, v4, v5, v6, v7, v8, v9, v10, v11, v12].drop 3).take (Try.prog.cellsOf 3)) = xs[3]? := hf 3 _ rfl
      rw [c3] at f3
      have f4 : DataW.trod enc Try.prog W base spare held fuel 22 (([v0, v1, v2, v3, v4, v5, v6, v7, v8, v9, v10, v11, v12].drop 4).take (Try.prog.cellsOf 22)) = xs[4]? := hf 4 _ rfl
      rw [cB] at f4
      have f5 : DataW.trod enc Try.prog W base spare held fuel 25 (([v0, v1, v2, v3, v4, v5, v6, v7, v8, v9, v10, v11, v12].drop 5).take (Try.prog.cellsOf 25)) = xs[5]? := hf 5 _ rfl
      rw [cT] at f5
      have f6 : DataW.trod enc Try.prog W base spare held fuel 25 (([v0, v1, v2, v3, v4, v5, v6, v7, v8, v9, v10, v11, v12].drop 8).take (Try.prog.cellsOf 25)) = xs[6]? := hf 6 _ rfl
      rw [cT] at f6
      have f7 : DataW.trod enc Try.prog W base spare held fuel 26 (([v0, v1, v2, v3, v4, v5, v6, v7, v8, v9, v10, v11, v12].drop 11).take (Try.prog.cellsOf 26)) = xs[7]? := hf 7 _ rfl
      rw [cK] at f7
      have f8 : DataW.trod enc Try.prog W base spare held fuel 27 (([v0, v1, v2, v3, v4, v5, v6, v7, v8, v9, v10, v11, v12].drop 12).take (Try.prog.cellsOf 27)) = xs[8]? := hf 8 _ rfl
      rw [cA] at f8
      have hx9 : xs.length = 9 := hxl
      rw [List.getElem?_eq_getElem (by omega)] at f0 f1 f2 f3 f4 f5 f6 f7 f8
      obtain ⟨k, rfl, _⟩ := openInt (v := v0) (by simpa using f0)
      obtain ⟨n, rfl, _⟩ := openInt (v := v1) (by simpa using f1)
      obtain ⟨m, rfl, _⟩ := openInt (v := v2) (by simpa using f2)
      obtain ⟨c, rfl, _⟩ := openInt (v := v3) (by simpa using f3)
      obtain ⟨a1, l1, c1, zs, rfl, hz⟩ := openByS fuel v4 _ (by simpa using f4)
      obtain ⟨tk, tn, a2, l2, c2, tf, rfl, rfl, rfl, ht⟩ := (openTree (enc := enc) (W := W) (base := base) (spare := spare) (held := held) fuel).1 v5 v6 v7 _ (by simpa using f5)
      obtain ⟨uk, un, a3, l3, c3', uf, rfl, rfl, rfl, hu⟩ := (openTree (enc := enc) (W := W) (base := base) (spare := spare) (held := held) fuel).1 v8 v9 v10 _ (by simpa using f6)
      obtain ⟨a4, l4, c4, kids, rfl, hk⟩ := ih.2.2.1 v11 _ (by simpa using f7)
      obtain ⟨a5, l5, c5, alts, rfl, ha⟩ := ih.2.2.2 v12 _ (by simpa using f8)
      exact ⟨⟨k, n, m, c, zs, tk, tn, tf, uk, un, uf⟩, kids, alts, a1, l1, c1, a2, l2, c2, a3, l3, c3', a4, l4, c4, a5, l5, c5, ⟨rfl, rfl, rfl, rfl, rfl, rfl, rfl, rfl, rfl, rfl, rfl, rfl, rfl⟩, hz, ht, hu, hk, ha⟩
    · intro r0 r1 v0 v1 v2 v3 v4 v5 v6 v7 v8 v9 v10 v11 v12 x h
      obtain ⟨xs, n', hn', _, _, hxl, hf⟩ := DataW.trod_struct Try.underlying60 h
      obtain rfl : fuel = n' := by omega
      have f0 : DataW.trod enc Try.prog W base spare held fuel 3 (([r0, r1, v0, v1, v2, v3, v4, v5, v6, v7, v8, v9, v10, v11, v12].drop 0).take (Try.prog.cellsOf 3)) = xs[0]? := hf 0 _ rfl
      have f1 : DataW.trod enc Try.prog W base spare held fuel 58 (([r0, r1, v0, v1, v2, v3, v4, v5, v6, v7, v8, v9, v10, v11, v12].drop 1).take (Try.prog.cellsOf 58)) = xs[1]? := hf 1 _ rfl
      have f2 : DataW.trod enc Try.prog W base spare held fuel 29 (([r0, r1, v0, v1, v2, v3, v4, v5, v6, v7, v8, v9, v10, v11, v12].drop 2).take (Try.prog.cellsOf 29)) = xs[2]? := hf 2 _ rfl
      rw [c3] at f0
      rw [cI] at f1
      rw [cL] at f2
      have hx3 : xs.length = 3 := hxl
      rw [List.getElem?_eq_getElem (by omega)] at f0 f1 f2
      obtain ⟨hc, rfl, _⟩ := openInt (v := r0) (by simpa using f0)
      obtain ⟨e0, q0, d0, hv, rfl, hhv⟩ := openInS fuel r1 _ (by simpa using f1)
      obtain ⟨p, kids, alts, a1, l1, c1, a2, l2, c2, a3, l3, c3, a4, l4, c4, a5, l5, c5, he, hnd⟩ := ih.1 v0 v1 v2 v3 v4 v5 v6 v7 v8 v9 v10 v11 v12 _ (by simpa using f2)
      exact ⟨hc, hv, e0, q0, d0, rfl, rfl, hhv, p, kids, alts, a1, l1, c1, a2, l2, c2, a3, l3, c3, a4, l4, c4, a5, l5, c5, he, hnd⟩
    · intro v x h
      rcases DataW.trod_slice Try.underlying26 h with ⟨hcs, _⟩ | ⟨y, l, c, elems, rest, n', hn', hcs, _, hb, hl, hm, hlen, hel, _, _⟩
      · simp at hcs
        exact ⟨none, 0, 0, .nil, hcs, rfl, by omega, .inl rfl⟩
      · simp at hcs
        obtain rfl : fuel = n' := by omega
        have hm' : c ≤ 9223372036854775807 := by simpa [maxLen] using hm
        have hC : Try.prog.cellsOf 29 = 13 := by kernel_rfl
        rw [hC] at hel
        have hel2 : ∀ i, i < l → ∃ (p : PL) (kids alts : GL) (a1 : Option Addr) (l1 c1 : Nat) (a2 : Option Addr) (l2 c2 : Nat) (a3 : Option Addr) (l3 c3 : Nat) (a4 : Option Addr) (l4 c4 : Nat) (a5 : Option Addr) (l5 c5 : Nat), (W.cell? (y.add (i * 13)) = some (.int .i64 p.k) ∧ W.cell? ((y.add (i * 13)).add 1) = some (.int .i64 p.n) ∧ W.cell? ((y.add (i * 13)).add 2) = some (.int .i64 p.m) ∧ W.cell? ((y.add (i * 13)).add 3) = some (.int .i64 p.c) ∧ W.cell? ((y.add (i * 13)).add 4) = some (.slice a1 l1 c1) ∧ W.cell? ((y.add (i * 13)).add 5) = some (.int .i64 p.tk) ∧ W.cell? ((y.add (i * 13)).add 6) = some (.int .i64 p.tn) ∧ W.cell? ((y.add (i * 13)).add 7) = some (.slice a2 l2 c2) ∧ W.cell? ((y.add (i * 13)).add 8) = some (.int .i64 p.uk) ∧ W.cell? ((y.add (i * 13)).add 9) = some (.int .i64 p.un) ∧ W.cell? ((y.add (i * 13)).add 10) = some (.slice a3 l3 c3) ∧ W.cell? ((y.add (i * 13)).add 11) = some (.slice a4 l4 c4) ∧ W.cell? ((y.add (i * 13)).add 12) = some (.slice a5 l5 c5)) ∧ NdL W p kids alts a1 l1 a2 l2 a3 l3 a4 l4 a5 l5 := by
          intro i hi
          have h1 := hel i hi
          rw [List.getElem?_eq_getElem (by omega), Option.bind_eq_some_iff] at h1
          obtain ⟨cs', h1, h2⟩ := h1
          obtain ⟨_, hlen', hcell⟩ := World.cells?_some h1
          match cs', hlen' with
          | [v0, v1, v2, v3, v4, v5, v6, v7, v8, v9, v10, v11, v12], _ =>
            obtain ⟨p, kids, alts, a1, l1, c1, a2, l2, c2, a3, l3, c3, a4, l4, c4, a5, l5, c5, ⟨rfl, rfl, rfl, rfl, rfl, rfl, rfl, rfl, rfl, rfl, rfl, rfl, rfl⟩, hnd⟩ := ih.1 v0 v1 v2 v3 v4 v5 v6 v7 v8 v9 v10 v11 v12 _ h2
            have k0 := hcell 0 (by omega)
            have k1 := hcell 1 (by omega)
            have k2 := hcell 2 (by omega)
            have k3 := hcell 3 (by omega)
            have k4 := hcell 4 (by omega)
            have k5 := hcell 5 (by omega)
            have k6 := hcell 6 (by omega)
            have k7 := hcell 7 (by omega)
            have k8 := hcell 8 (by omega)
            have k9 := hcell 9 (by omega)
            have k10 := hcell 10 (by omega)
            have k11 := hcell 11 (by omega)
            have k12 := hcell 12 (by omega)
            exact ⟨p, kids, alts, a1, l1, c1, a2, l2, c2, a3, l3, c3, a4, l4, c4, a5, l5, c5, ⟨by simpa [Addr.add] using k0, by simpa using k1, by simpa using k2, by simpa using k3, by simpa using k4, by simpa using k5, by simpa using k6, by simpa using k7, by simpa using k8, by simpa using k9, by simpa using k10, by simpa using k11, by simpa using k12⟩, hnd⟩
        by_cases h0 : l = 0
        · subst h0
          exact ⟨some y, 0, c, .nil, hcs, rfl, by omega, .inl rfl⟩
        obtain ⟨_, _, _, _, _, _, _, _, _, _, _, _, _, _, _, _, _, _, ⟨hz0, _⟩, _⟩ := hel2 0 (by omega)
        have e := plain_at (by simpa [Addr.add] using hz0)
        obtain ⟨f, hf, hin⟩ := inGLk_of_each (W := W) (b := y.block) l y.off (fun i hi => by
          obtain ⟨p, kids, alts, a1, l1, c1, a2, l2, c2, a3, l3, c3, a4, l4, c4, a5, l5, c5, ⟨q0_, q1_, q2_, q3_, q4_, q5_, q6_, q7_, q8_, q9_, q10_, q11_, q12_⟩, hnd⟩ := hel2 i hi
          rw [e, add_plain] at q0_ q1_ q2_ q3_ q4_ q5_ q6_ q7_ q8_ q9_ q10_ q11_ q12_
          rw [add_plain] at q1_ q2_ q3_ q4_ q5_ q6_ q7_ q8_ q9_ q10_ q11_ q12_
          exact ⟨p, kids, alts, a1, l1, c1, a2, l2, c2, a3, l3, c3, a4, l4, c4, a5, l5, c5, ⟨q0_, q1_, q2_, q3_, q4_, q5_, q6_, q7_, q8_, q9_, q10_, q11_, q12_⟩, hnd⟩)
        exact ⟨some y, l, c, f, hcs, hf, by omega, .inr ⟨y.block, y.off, by rw [← e], hin⟩⟩
    · intro v x h
      rcases DataW.trod_slice Try.underlying27 h with ⟨hcs, _⟩ | ⟨y, l, c, elems, rest, n', hn', hcs, _, hb, hl, hm, hlen, hel, _, _⟩
      · simp at hcs
        exact ⟨none, 0, 0, .nil, hcs, rfl, by omega, .inl rfl⟩
      · simp at hcs
        obtain rfl : fuel = n' := by omega
        have hm' : c ≤ 9223372036854775807 := by simpa [maxLen] using hm
        have hC : Try.prog.cellsOf 60 = 15 := by kernel_rfl
        rw [hC] at hel
        have hel2 : ∀ i, i < l → ∃ (hc : Int) (hv : List Int) (e0 : Option Addr) (q0 d0 : Nat), W.cell? (y.add (i * 15)) = some (.int .i64 hc) ∧ W.cell? ((y.add (i * 15)).add 1) = some (.slice e0 q0 d0) ∧ RdI W e0 q0 hv ∧ ∃ (p : PL) (kids alts : GL) (a1 : Option Addr) (l1 c1 : Nat) (a2 : Option Addr) (l2 c2 : Nat) (a3 : Option Addr) (l3 c3 : Nat) (a4 : Option Addr) (l4 c4 : Nat) (a5 : Option Addr) (l5 c5 : Nat), (W.cell? ((y.add (i * 15)).add 2) = some (.int .i64 p.k) ∧ W.cell? ((y.add (i * 15)).add 3) = some (.int .i64 p.n) ∧ W.cell? ((y.add (i * 15)).add 4) = some (.int .i64 p.m) ∧ W.cell? ((y.add (i * 15)).add 5) = some (.int .i64 p.c) ∧ W.cell? ((y.add (i * 15)).add 6) = some (.slice a1 l1 c1) ∧ W.cell? ((y.add (i * 15)).add 7) = some (.int .i64 p.tk) ∧ W.cell? ((y.add (i * 15)).add 8) = some (.int .i64 p.tn) ∧ W.cell? ((y.add (i * 15)).add 9) = some (.slice a2 l2 c2) ∧ W.cell? ((y.add (i * 15)).add 10) = some (.int .i64 p.uk) ∧ W.cell? ((y.add (i * 15)).add 11) = some (.int .i64 p.un) ∧ W.cell? ((y.add (i * 15)).add 12) = some (.slice a3 l3 c3) ∧ W.cell? ((y.add (i * 15)).add 13) = some (.slice a4 l4 c4) ∧ W.cell? ((y.add (i * 15)).add 14) = some (.slice a5 l5 c5)) ∧ NdL W p kids alts a1 l1 a2 l2 a3 l3 a4 l4 a5 l5 := by
          intro i hi
          have h1 := hel i hi
          rw [List.getElem?_eq_getElem (by omega), Option.bind_eq_some_iff] at h1
          obtain ⟨cs', h1, h2⟩ := h1
          obtain ⟨_, hlen', hcell⟩ := World.cells?_some h1
          match cs', hlen' with
          | [r0, r1, v0, v1, v2, v3, v4, v5, v6, v7, v8, v9, v10, v11, v12], _ =>
            obtain ⟨hc, hv, e0, q0, d0, rfl, rfl, hhv, p, kids, alts, a1, l1, c1, a2, l2, c2, a3, l3, c3, a4, l4, c4, a5, l5, c5, ⟨rfl, rfl, rfl, rfl, rfl, rfl, rfl, rfl, rfl, rfl, rfl, rfl, rfl⟩, hnd⟩ := ih.2.1 r0 r1 v0 v1 v2 v3 v4 v5 v6 v7 v8 v9 v10 v11 v12 _ h2
            have k0 := hcell 0 (by omega)
            have k1 := hcell 1 (by omega)
            have k2 := hcell 2 (by omega)
            have k3 := hcell 3 (by omega)
            have k4 := hcell 4 (by omega)
            have k5 := hcell 5 (by omega)
            have k6 := hcell 6 (by omega)
            have k7 := hcell 7 (by omega)
            have k8 := hcell 8 (by omega)
            have k9 := hcell 9 (by omega)
            have k10 := hcell 10 (by omega)
            have k11 := hcell 11 (by omega)
            have k12 := hcell 12 (by omega)
            have k13 := hcell 13 (by omega)
            have k14 := hcell 14 (by omega)
            exact ⟨hc, hv, e0, q0, d0, by simpa [Addr.add] using k0, by simpa using k1, hhv, p, kids, alts, a1, l1, c1, a2, l2, c2, a3, l3, c3, a4, l4, c4, a5, l5, c5, ⟨by simpa using k2, by simpa using k3, by simpa using k4, by simpa using k5, by simpa using k6, by simpa using k7, by simpa using k8, by simpa using k9, by simpa using k10, by simpa using k11, by simpa using k12, by simpa using k13, by simpa using k14⟩, hnd⟩
        by_cases h0 : l = 0
        · subst h0
          exact ⟨some y, 0, c, .nil, hcs, rfl, by omega, .inl rfl⟩
        obtain ⟨_, _, _, _, _, hz0, _⟩ := hel2 0 (by omega)
        have e := plain_at (by simpa [Addr.add] using hz0)
        obtain ⟨f, hf, hin⟩ := inGLa_of_each (W := W) (b := y.block) l y.off (fun i hi => by
          obtain ⟨hc, hv, e0, q0, d0, s0, s1, hhv, p, kids, alts, a1, l1, c1, a2, l2, c2, a3, l3, c3, a4, l4, c4, a5, l5, c5, ⟨q0_, q1_, q2_, q3_, q4_, q5_, q6_, q7_, q8_, q9_, q10_, q11_, q12_⟩, hnd⟩ := hel2 i hi
          rw [e, add_plain] at s0 s1 q0_ q1_ q2_ q3_ q4_ q5_ q6_ q7_ q8_ q9_ q10_ q11_ q12_
          rw [add_plain] at s1 q0_ q1_ q2_ q3_ q4_ q5_ q6_ q7_ q8_ q9_ q10_ q11_ q12_
          exact ⟨hc, hv, e0, q0, d0, ⟨s0, s1⟩, hhv, p, kids, alts, a1, l1, c1, a2, l2, c2, a3, l3, c3, a4, l4, c4, a5, l5, c5, ⟨q0_, q1_, q2_, q3_, q4_, q5_, q6_, q7_, q8_, q9_, q10_, q11_, q12_⟩, hnd⟩)
        exact ⟨some y, l, c, f, hcs, hf, by omega, .inr ⟨y.block, y.off, by rw [← e], hin⟩⟩

theorem openLowT {b0 : Nat} {v : Value} {dd : DataW H} {p : List MemPlace} (hv : Value.okWide Try.prog W .any b0 29 v) (h : DataW.Trod enc Try.prog W base spare held 29 v dd p) :
    ∃ (p : PL) (kids alts : GL) (a1 : Option Addr) (l1 c1 : Nat) (a2 : Option Addr) (l2 c2 : Nat) (a3 : Option Addr) (l3 c3 : Nat) (a4 : Option Addr) (l4 c4 : Nat) (a5 : Option Addr) (l5 c5 : Nat), v = .agg #[.int .i64 p.k, .int .i64 p.n, .int .i64 p.m, .int .i64 p.c, .slice a1 l1 c1, .int .i64 p.tk, .int .i64 p.tn, .slice a2 l2 c2, .int .i64 p.uk, .int .i64 p.un, .slice a3 l3 c3, .slice a4 l4 c4, .slice a5 l5 c5] ∧ NdL W p kids alts a1 l1 a2 l2 a3 l3 a4 l4 a5 l5 := by
  have hC : Try.prog.cellsOf 29 = 13 := by kernel_rfl
  obtain ⟨cs, rfl, hsz⟩ := okWide_struct Try.underlying29 hv
  obtain ⟨v0, v1, v2, v3, v4, v5, v6, v7, v8, v9, v10, v11, v12, rfl⟩ := arr13 (hsz.trans hC)
  obtain ⟨fuel, hf⟩ := h
  obtain ⟨p, kids, alts, a1, l1, c1, a2, l2, c2, a3, l3, c3, a4, l4, c4, a5, l5, c5, ⟨rfl, rfl, rfl, rfl, rfl, rfl, rfl, rfl, rfl, rfl, rfl, rfl, rfl⟩, hnd⟩ := (openLow (enc := enc) (W := W) (base := base) (spare := spare) (held := held) fuel).1 v0 v1 v2 v3 v4 v5 v6 v7 v8 v9 v10 v11 v12 _ (by simpa [Value.cells] using hf)
  exact ⟨p, kids, alts, a1, l1, c1, a2, l2, c2, a3, l3, c3, a4, l4, c4, a5, l5, c5, rfl, hnd⟩
end
end Go.Proofs.Ytbeejgacdcncgaa.By
