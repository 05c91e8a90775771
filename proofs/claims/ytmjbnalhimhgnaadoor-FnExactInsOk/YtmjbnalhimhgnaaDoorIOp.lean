/-
  The table of ops stands where the row lays it. No statement is proved here.
-/
import Derived.Test.YtmjbnalhimhgnaaDoorRows
import Derived.Test.YtmjbnalhimhgnaaDoorIB
import Derived.OpenShut
import Derived.ChangeArms
import Derived.LaidLaws
namespace Go.Proofs.YtmjbnalhimhgnaaDoor.By
open Go.RowKit
set_option linter.unusedVariables false
set_option maxRecDepth 100000

abbrev Ofm := Bool × Bool × Bool × Bool × Bool
def opsL : List Ofm := [(false, false, false, false, false), (true, true, false, false, false), (false, false, false, true, false), (false, false, false, false, false), (true, false, false, false, false), (false, false, false, false, false), (true, false, false, false, false), (true, false, false, false, false), (false, false, false, false, false), (false, false, false, false, false), (false, false, false, false, false), (false, false, false, false, false), (false, false, false, false, false), (false, false, false, false, false), (false, false, false, false, false), (false, false, false, false, false), (false, false, false, false, false), (false, false, false, false, false), (false, false, false, false, false), (false, false, false, false, false), (false, false, false, false, false), (true, false, true, false, false), (true, false, false, false, true), (true, false, false, false, false), (false, false, false, false, false), (false, false, false, false, false), (true, false, false, false, false), (true, false, false, false, false), (false, false, false, false, false), (true, false, false, false, false), (false, false, false, false, false), (true, false, false, false, false)]
theorem opsL_len : opsL.length = 32 := rfl
def cellsOf5 (f : Ofm) : List Value := [.bool f.1, .bool f.2.1, .bool f.2.2.1, .bool f.2.2.2.1, .bool f.2.2.2.2]
def datO {H : Type} (f : Ofm) : DataW H := .agg [.lit (.bool f.1), .lit (.bool f.2.1), .lit (.bool f.2.2.1), .lit (.bool f.2.2.2.1), .lit (.bool f.2.2.2.2)]
theorem opsA_cells : opsA.toList = opsL.flatMap cellsOf5 := by kernel_rfl
theorem laidO_dat : (Rows.laid_loop_example_g00293_impl_opForms : DataW Unit) = .agg (opsL.map datO) := by kernel_rfl

theorem rowsO_join : ∀ (rows : List Ofm) (cs : List Value), cs.length = rows.length * 5 → (∀ i f, rows[i]? = some f → (cs.drop (i * 5)).take 5 = cellsOf5 f) → cs = rows.flatMap cellsOf5
  | [], cs, h, _ => by simpa using h
  | f :: rows, cs, h, H => by
    have h0 : cs.take 5 = cellsOf5 f := by simpa using H 0 f rfl
    have ht : cs.drop 5 = rows.flatMap cellsOf5 := rowsO_join rows (cs.drop 5) (by simp at h ⊢; omega) (fun i g hg => by
      have := H (i + 1) g (by simpa using hg)
      rw [List.drop_drop]
      have e : 5 + i * 5 = (i + 1) * 5 := by omega
      rw [e]; exact this)
    rw [List.flatMap_cons, ← h0, ← ht, List.take_append_drop]

section
variable {H : Type} {enc : TypeId × Value → H} {W : World} {base : Nat} {spare : Nat → Bool} {held : Bool}
theorem ofm_of {m : Nat} {cs : List Value} {f : Ofm} {p : List MemPlace} (h : DataW.trod enc Tryd.prog W base spare held m 40 cs = some (datO f, p)) : cs = cellsOf5 f := by
  have c4 : Tryd.prog.cellsOf 4 = 1 := by kernel_rfl
  have c5 : Tryd.prog.cellsOf 40 = 5 := by kernel_rfl
  obtain ⟨xs, n, hn, hx, hl, hxl, hf⟩ := DataW.trod_struct Tryd.underlying40 h
  have f0 : DataW.trod enc Tryd.prog W base spare held n 4 ((cs.drop 0).take (Tryd.prog.cellsOf 4)) = xs[0]? := hf 0 _ rfl
  have f1 : DataW.trod enc Tryd.prog W base spare held n 4 ((cs.drop 1).take (Tryd.prog.cellsOf 4)) = xs[1]? := hf 1 _ rfl
  have f2 : DataW.trod enc Tryd.prog W base spare held n 4 ((cs.drop 2).take (Tryd.prog.cellsOf 4)) = xs[2]? := hf 2 _ rfl
  have f3 : DataW.trod enc Tryd.prog W base spare held n 4 ((cs.drop 3).take (Tryd.prog.cellsOf 4)) = xs[3]? := hf 3 _ rfl
  have f4 : DataW.trod enc Tryd.prog W base spare held n 4 ((cs.drop 4).take (Tryd.prog.cellsOf 4)) = xs[4]? := hf 4 _ rfl
  rw [c4] at f0 f1 f2 f3 f4
  have hx5 : xs.length = 5 := hxl
  rw [c5] at hl
  match cs, hl with
  | [v0, v1, v2, v3, v4], _ =>
  match xs, hx5 with
  | [x0, x1, x2, x3, x4], _ =>
  obtain ⟨s0, e0, d0⟩ := DataW.trod_bool Tryd.underlying4 (show DataW.trod enc Tryd.prog W base spare held n 4 [v0] = some x0 from f0)
  obtain ⟨s1, e1, d1⟩ := DataW.trod_bool Tryd.underlying4 (show DataW.trod enc Tryd.prog W base spare held n 4 [v1] = some x1 from f1)
  obtain ⟨s2, e2, d2⟩ := DataW.trod_bool Tryd.underlying4 (show DataW.trod enc Tryd.prog W base spare held n 4 [v2] = some x2 from f2)
  obtain ⟨s3, e3, d3⟩ := DataW.trod_bool Tryd.underlying4 (show DataW.trod enc Tryd.prog W base spare held n 4 [v3] = some x3 from f3)
  obtain ⟨s4, e4, d4⟩ := DataW.trod_bool Tryd.underlying4 (show DataW.trod enc Tryd.prog W base spare held n 4 [v4] = some x4 from f4)
  subst d0 d1 d2 d3 d4
  have hd := congrArg Prod.fst hx
  simp only [datO, List.map_cons, List.map_nil, DataW.agg.injEq, List.cons.injEq, DataW.lit.injEq, Lit.bool.injEq, and_true] at hd
  obtain ⟨q0, q1, q2, q3, q4⟩ := hd
  cases e0; cases e1; cases e2; cases e3; cases e4
  unfold cellsOf5
  rw [q0, q1, q2, q3, q4]

theorem ops_of {fuel : Nat} {cs : List Value} {p : List MemPlace} (h : DataW.trod enc Tryd.prog W base spare held fuel 46 cs = some (.agg (opsL.map datO), p)) : cs = opsA.toList := by
  have c4 : Tryd.prog.cellsOf 40 = 5 := by kernel_rfl
  have c160 : Tryd.prog.cellsOf 46 = 160 := by kernel_rfl
  obtain ⟨xs, m, hm, hx, hl, hxl, he⟩ := DataW.trod_array Tryd.underlying46 h
  rw [c160] at hl
  have hd : opsL.map datO = xs.map (·.1) := by
    have := congrArg Prod.fst hx
    simpa only [DataW.agg.injEq] using this
  rw [opsA_cells]
  refine rowsO_join opsL cs (by rw [hl, opsL_len]) fun i f hf => ?_
  have hi : i < 32 := by
    have := (List.getElem?_eq_some_iff.1 hf).1
    rwa [opsL_len] at this
  have h1 := he i hi
  rw [c4] at h1
  have h2 : (xs.map (·.1))[i]? = some (datO f) := by rw [← hd, List.getElem?_map, hf]; rfl
  rw [List.getElem?_map] at h2
  obtain ⟨⟨y, z⟩, hy, hz⟩ := Option.map_eq_some_iff.1 h2
  rw [hy] at h1
  obtain rfl : y = datO f := hz
  exact ofm_of h1
end

theorem opsIn_of_laid {W : World} {rest : List (String × DataW Unit)} (h : laidMet Tryd.prog (("loop.example/g00293/impl.opForms", Rows.laid_loop_example_g00293_impl_opForms) :: rest) W) : OpsIn W := by
  obtain ⟨ps, ⟨g, t, cs, fuel, p, q, hg, ht, hvar, hd, _, _⟩, _⟩ := h
  obtain rfl := Option.some.inj ((show Tryd.prog.globalNamed "loop.example/g00293/impl.opForms" = some 0 by kernel_rfl).symm.trans hg)
  obtain rfl := Option.some.inj ((show (Tryd.prog.globals[0]?).map (·.type) = some 46 by kernel_rfl).symm.trans ht)
  rw [laidO_dat] at hd
  have hc : cs.toList = opsA.toList := ops_of hd
  obtain rfl : cs = opsA := by
    cases cs; cases hfa : opsA
    rw [hfa] at hc
    simp at hc
    rw [hc]
  unfold World.var? at hvar
  rw [hg] at hvar
  simp only [Option.bind_some] at hvar
  split at hvar
  · rename_i c t' fr hh
    exact ⟨t', fr, by rw [hh]; cases hvar; rfl⟩
  · cases hvar

end Go.Proofs.YtmjbnalhimhgnaaDoor.By
