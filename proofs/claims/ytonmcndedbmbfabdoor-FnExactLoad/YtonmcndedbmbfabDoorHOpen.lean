/-
  A heap that came in, opened: its words, its numbers, its log. No statement is proved here.
-/
import Derived.Test.YtonmcndedbmbfabDoorRows
import Derived.Test.YtonmcndedbmbfabDoorHBase
import Derived.WalkKit
import Derived.ProofKit
import Derived.OpenShut
import Derived.Deep.Slices
import Derived.ChangeArms
namespace Go.Proofs.YtonmcndedbmbfabDoor.By
open Go.ChangeShapes Go.WideShapes Go.ChangeAt Go.RowKit Go.Deep
set_option linter.unusedVariables false
set_option maxRecDepth 100000

theorem arr5 {cs : Array Value} (h : cs.size = 5) : ∃ c0 c1 c2 c3 c4, cs = #[c0, c1, c2, c3, c4] := by
  obtain ⟨l⟩ := cs
  match l, h with
  | [c0, c1, c2, c3, c4], _ => exact ⟨c0, c1, c2, c3, c4, rfl⟩

theorem plain_at {x : Addr} {w : World} {v : Value} (h : w.cell? x = some v) : x = ⟨x.block, x.off, none⟩ := by
  obtain ⟨b, o, s⟩ := x
  have : s = none := World.cell?_spot h
  subst this; rfl

section
variable {H : Type} {enc : TypeId × Value → H} {W : World} {base : Nat} {spare : Nat → Bool} {held : Bool}

theorem openWords {fuel : Nat} {v : Value} {x : DataW H × List MemPlace} (h : DataW.trod enc Tryd.prog W base spare held fuel 22 [v] = some x) :
    ∃ a n c ws, v = .slice a n c ∧ ReadsI W a n ws ∧ n ≤ 9223372036854775807 ∧ ∀ z ∈ ws, (Lit.int .i64 z).wf = true := by
  rcases open_ints Tryd.underlying22 Tryd.underlying3 (by kernel_rfl) h with ⟨hcs, _⟩ | ⟨y, l, c, zs, hcs, _, hl, hm, hz, _, hcell, hwz⟩
  · simp at hcs
    exact ⟨none, 0, 0, [], hcs, ⟨rfl, .inl rfl⟩, by omega, fun z hz => by simp at hz⟩
  · simp at hcs
    have hm' : c ≤ 9223372036854775807 := by simpa [maxLen] using hm
    have hle : l ≤ zs.length := by rw [hz]; split <;> omega
    refine ⟨some y, l, c, zs.take l, hcs, ⟨by simp; omega, ?_⟩, by omega, fun z hz => hwz z (List.mem_of_mem_take hz)⟩
    by_cases h0 : l = 0
    · exact .inl h0
    · have e := plain_at (by simpa [Addr.add] using hcell 0 (by omega))
      refine .inr ⟨y.block, y.off, by rw [← e], fun i hi => ?_⟩
      have := hcell i (by omega)
      rw [e, add_plain] at this
      rw [List.getD_eq_getElem?_getD, List.getElem?_take_of_lt hi, ← List.getD_eq_getElem?_getD]
      exact this

theorem openInt {fuel : Nat} {v : Value} {x : DataW H × List MemPlace} (h : DataW.trod enc Tryd.prog W base spare held fuel 3 [v] = some x) : ∃ z, v = .int .i64 z ∧ (Lit.int .i64 z).wf = true := by
  obtain ⟨z, e, _, hw⟩ := DataW.trod_int Tryd.underlying3 h
  simp at e
  exact ⟨z, e, hw⟩

theorem openLog {fuel : Nat} {v : Value} {x : DataW H × List MemPlace} (h : DataW.trod enc Tryd.prog W base spare held fuel 23 [v] = some x) :
    ∃ a n c ls, v = .slice a n c ∧ ReadsI W a (n * 3) ls ∧ n ≤ 9223372036854775807 := by
  rcases open_slice Tryd.underlying23 h with ⟨hcs, _⟩ | ⟨y, l, c, k, fu, D, Pl, hcs, hb, hl, hm, hk, _, hx⟩
  · simp at hcs
    exact ⟨none, 0, 0, [], hcs, ⟨rfl, .inl rfl⟩, by omega⟩
  · simp at hcs
    have hm' : c ≤ 9223372036854775807 := by simpa [maxLen] using hm
    have hle : l ≤ k := by rw [hk]; split <;> omega
    have hC : Tryd.prog.cellsOf 67 = 3 := by kernel_rfl
    rw [hC] at hx
    by_cases h0 : l = 0
    · subst h0
      exact ⟨some y, 0, c, [], hcs, ⟨rfl, .inl rfl⟩, by omega⟩
    have hel : ∀ i, i < l → ∃ z0 z1 z2, W.cell? (y.add (i * 3)) = some (.int .i64 z0) ∧ W.cell? ((y.add (i * 3)).add 1) = some (.int .i64 z1) ∧ W.cell? ((y.add (i * 3)).add 2) = some (.int .i64 z2) := by
      intro i hi
      obtain ⟨cs', h1, h2⟩ := hx i (by omega)
      obtain ⟨_, hlen, hcell⟩ := World.cells?_some h1
      obtain ⟨xs, n', _, _, _, hxl, hf⟩ := DataW.trod_struct Tryd.underlying67 h2
      match cs', hlen with
      | [v0, v1, v2], _ =>
        have c3 : Tryd.prog.cellsOf 3 = 1 := by kernel_rfl
        have f0 : DataW.trod enc Tryd.prog W base spare held n' 3 (([v0, v1, v2].drop 0).take (Tryd.prog.cellsOf 3)) = xs[0]? := hf 0 _ rfl
        have f1 : DataW.trod enc Tryd.prog W base spare held n' 3 (([v0, v1, v2].drop 1).take (Tryd.prog.cellsOf 3)) = xs[1]? := hf 1 _ rfl
        have f2 : DataW.trod enc Tryd.prog W base spare held n' 3 (([v0, v1, v2].drop 2).take (Tryd.prog.cellsOf 3)) = xs[2]? := hf 2 _ rfl
        rw [c3] at f0 f1 f2
        have hx3 : xs.length = 3 := hxl
        rw [List.getElem?_eq_getElem (by omega)] at f0 f1 f2
        obtain ⟨z0, e0, _⟩ := openInt (v := v0) (by simpa using f0)
        obtain ⟨z1, e1, _⟩ := openInt (v := v1) (by simpa using f1)
        obtain ⟨z2, e2, _⟩ := openInt (v := v2) (by simpa using f2)
        have k0 := hcell 0 (by omega)
        have k1 := hcell 1 (by omega)
        have k2 := hcell 2 (by omega)
        refine ⟨z0, z1, z2, ?_, ?_, ?_⟩
        · rw [← e0]; simpa [Addr.add] using k0
        · rw [← e1]; simpa using k1
        · rw [← e2]; simpa using k2
    obtain ⟨_, _, _, hz0, _⟩ := hel 0 (by omega)
    have e := plain_at (by simpa [Addr.add] using hz0)
    have hall : ∀ i, i < l * 3 → ∃ z, W.cell? ⟨y.block, y.off + i, none⟩ = some (.int .i64 z) := by
      intro i hi
      obtain ⟨z0, z1, z2, q0, q1, q2⟩ := hel (i / 3) (by omega)
      rw [e, add_plain] at q0 q1 q2
      rw [add_plain] at q1 q2
      have h3 : i % 3 = 0 ∨ i % 3 = 1 ∨ i % 3 = 2 := by omega
      rcases h3 with h3 | h3 | h3
      · exact ⟨z0, by rw [← q0]; congr 2; omega⟩
      · exact ⟨z1, by rw [← q1]; congr 2; omega⟩
      · exact ⟨z2, by rw [← q2]; congr 2; omega⟩
    obtain ⟨V, hV⟩ := choose_lt (α := Int) hall
    refine ⟨some y, l, c, (List.range (l * 3)).map V, hcs, ⟨by simp, .inr ⟨y.block, y.off, by rw [← e], fun i hi => ?_⟩⟩, by omega⟩
    rw [hV i hi]; simp [hi]

theorem openHeap {b0 : Nat} {v : Value} {d : DataW H} {p : List MemPlace} (hv : Value.okWide Tryd.prog W .any b0 25 v) (h : DataW.Trod enc Tryd.prog W base spare held 25 v d p) :
    ∃ a n c half low next b m e ws ls, v = .agg #[.slice a n c, .int .i64 half, .int .i64 low, .int .i64 next, .slice b m e] ∧ ReadsI W a n ws ∧ ReadsI W b (m * 3) ls ∧ n ≤ 9223372036854775807 ∧ m ≤ 9223372036854775807 ∧ (Lit.int .i64 half).wf = true ∧ (Lit.int .i64 low).wf = true ∧ (Lit.int .i64 next).wf = true ∧ ∀ z ∈ ws, (Lit.int .i64 z).wf = true := by
  have hC : Tryd.prog.cellsOf 25 = 5 := by kernel_rfl
  obtain ⟨cs, rfl, hsz⟩ := okWide_struct Tryd.underlying25 hv
  obtain ⟨v0, v1, v2, v3, v4, rfl⟩ := arr5 (hsz.trans hC)
  obtain ⟨fuel, hf⟩ := h
  obtain ⟨xs, n', _, _, _, hxl, hf⟩ := DataW.trod_struct Tryd.underlying25 hf
  have c3 : Tryd.prog.cellsOf 3 = 1 := by kernel_rfl
  have c31 : Tryd.prog.cellsOf 22 = 1 := by kernel_rfl
  have c40 : Tryd.prog.cellsOf 23 = 1 := by kernel_rfl
  have f0 : DataW.trod enc Tryd.prog W base spare held n' 22 (([v0, v1, v2, v3, v4].drop 0).take (Tryd.prog.cellsOf 22)) = xs[0]? := hf 0 _ rfl
  have f1 : DataW.trod enc Tryd.prog W base spare held n' 3 (([v0, v1, v2, v3, v4].drop 1).take (Tryd.prog.cellsOf 3)) = xs[1]? := hf 1 _ rfl
  have f2 : DataW.trod enc Tryd.prog W base spare held n' 3 (([v0, v1, v2, v3, v4].drop 2).take (Tryd.prog.cellsOf 3)) = xs[2]? := hf 2 _ rfl
  have f3 : DataW.trod enc Tryd.prog W base spare held n' 3 (([v0, v1, v2, v3, v4].drop 3).take (Tryd.prog.cellsOf 3)) = xs[3]? := hf 3 _ rfl
  have f4 : DataW.trod enc Tryd.prog W base spare held n' 23 (([v0, v1, v2, v3, v4].drop 4).take (Tryd.prog.cellsOf 23)) = xs[4]? := hf 4 _ rfl
  rw [c3] at f1 f2 f3
  rw [c31] at f0
  rw [c40] at f4
  have hx5 : xs.length = 5 := hxl
  rw [List.getElem?_eq_getElem (by omega)] at f0 f1 f2 f3 f4
  obtain ⟨a, n, c, ws, rfl, hr, hn, hz⟩ := openWords (v := v0) (by simpa [Value.cells] using f0)
  obtain ⟨half, rfl, q1⟩ := openInt (v := v1) (by simpa [Value.cells] using f1)
  obtain ⟨low, rfl, q2⟩ := openInt (v := v2) (by simpa [Value.cells] using f2)
  obtain ⟨next, rfl, q3⟩ := openInt (v := v3) (by simpa [Value.cells] using f3)
  obtain ⟨b, m, e, ls, rfl, hr', hm⟩ := openLog (v := v4) (by simpa [Value.cells] using f4)
  exact ⟨a, n, c, half, low, next, b, m, e, ws, ls, rfl, hr, hr', hn, hm, q1, q2, q3, hz⟩
end
end Go.Proofs.YtonmcndedbmbfabDoor.By
