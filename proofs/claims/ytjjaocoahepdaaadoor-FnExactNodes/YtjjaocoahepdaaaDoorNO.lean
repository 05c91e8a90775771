/-
  The table of forms stands where the row lays it. No statement is proved here.
-/
import Derived.Test.YtjjaocoahepdaaaDoorRows
import Derived.Test.YtjjaocoahepdaaaDoorNF
import Derived.OpenShut
import Derived.ChangeArms
import Derived.LaidLaws
namespace Go.Proofs.YtjjaocoahepdaaaDoor.By
open Go.RowKit
set_option linter.unusedVariables false
set_option maxRecDepth 100000

def cellsF (f : Frm) : List Value := [.string f.1, .int .i64 f.2.1, .int .i64 f.2.2.1, .string f.2.2.2]
def datF {H : Type} (f : Frm) : DataW H := .agg [.lit (.string f.1.data.toList), .lit (.int .i64 f.2.1), .lit (.int .i64 f.2.2.1), .lit (.string f.2.2.2.data.toList)]
theorem formsA_cells : formsA.toList = formsL.flatMap cellsF := by kernel_rfl
theorem laid_dat : (Rows.laid_loop_example_g00293_impl_forms : DataW Unit) = .agg (formsL.map datF) := by kernel_rfl

theorem rows_join : ∀ (rows : List Frm) (cs : List Value), cs.length = rows.length * 4 → (∀ i f, rows[i]? = some f → (cs.drop (i * 4)).take 4 = cellsF f) → cs = rows.flatMap cellsF
  | [], cs, h, _ => by simpa using h
  | f :: rows, cs, h, H => by
    have h0 : cs.take 4 = cellsF f := by simpa using H 0 f rfl
    have ht : cs.drop 4 = rows.flatMap cellsF := rows_join rows (cs.drop 4) (by simp at h ⊢; omega) (fun i g hg => by
      have := H (i + 1) g (by simpa using hg)
      rw [List.drop_drop]
      have e : 4 + i * 4 = (i + 1) * 4 := by omega
      rw [e]; exact this)
    rw [List.flatMap_cons, ← h0, ← ht, List.take_append_drop]

theorem bytes_of {s u : ByteArray} (h : s.data.toList = u.data.toList) : s = u := by
  cases s; cases u
  simp at h
  subst h
  rfl

section
variable {H : Type} {enc : TypeId × Value → H} {W : World} {base : Nat} {spare : Nat → Bool} {held : Bool}
theorem frm_of {m : Nat} {cs : List Value} {f : Frm} {p : List MemPlace} (h : DataW.trod enc Tryd.prog W base spare held m 61 cs = some (datF f, p)) : cs = cellsF f := by
  have c3 : Tryd.prog.cellsOf 3 = 1 := by kernel_rfl
  have c9 : Tryd.prog.cellsOf 9 = 1 := by kernel_rfl
  have c4 : Tryd.prog.cellsOf 61 = 4 := by kernel_rfl
  obtain ⟨xs, n, hn, hx, hl, hxl, hf⟩ := DataW.trod_struct Tryd.underlying61 h
  have f0 : DataW.trod enc Tryd.prog W base spare held n 9 ((cs.drop 0).take (Tryd.prog.cellsOf 9)) = xs[0]? := hf 0 _ rfl
  have f1 : DataW.trod enc Tryd.prog W base spare held n 3 ((cs.drop 1).take (Tryd.prog.cellsOf 3)) = xs[1]? := hf 1 _ rfl
  have f2 : DataW.trod enc Tryd.prog W base spare held n 3 ((cs.drop 2).take (Tryd.prog.cellsOf 3)) = xs[2]? := hf 2 _ rfl
  have f3 : DataW.trod enc Tryd.prog W base spare held n 9 ((cs.drop 3).take (Tryd.prog.cellsOf 9)) = xs[3]? := hf 3 _ rfl
  rw [c9] at f0 f3
  rw [c3] at f1 f2
  have hx4 : xs.length = 4 := hxl
  rw [c4] at hl
  match cs, hl with
  | [v0, v1, v2, v3], _ =>
  match xs, hx4 with
  | [x0, x1, x2, x3], _ =>
  obtain ⟨s0, e0, d0, _⟩ := DataW.trod_string Tryd.underlying9 (show DataW.trod enc Tryd.prog W base spare held n 9 [v0] = some x0 from f0)
  obtain ⟨n1, e1, d1, _⟩ := DataW.trod_int Tryd.underlying3 (show DataW.trod enc Tryd.prog W base spare held n 3 [v1] = some x1 from f1)
  obtain ⟨n2, e2, d2, _⟩ := DataW.trod_int Tryd.underlying3 (show DataW.trod enc Tryd.prog W base spare held n 3 [v2] = some x2 from f2)
  obtain ⟨s3, e3, d3, _⟩ := DataW.trod_string Tryd.underlying9 (show DataW.trod enc Tryd.prog W base spare held n 9 [v3] = some x3 from f3)
  subst d0 d1 d2 d3
  have hd := congrArg Prod.fst hx
  simp only [datF, List.map_cons, List.map_nil, DataW.agg.injEq, List.cons.injEq, DataW.lit.injEq, Lit.string.injEq, Lit.int.injEq, true_and, and_true] at hd
  obtain ⟨q0, q1, q2, q3⟩ := hd
  cases e0; cases e1; cases e2; cases e3
  unfold cellsF
  rw [bytes_of q0, q1, q2, bytes_of q3]

theorem forms_of {fuel : Nat} {cs : List Value} {p : List MemPlace} (h : DataW.trod enc Tryd.prog W base spare held fuel 70 cs = some (.agg (formsL.map datF), p)) : cs = formsA.toList := by
  have c4 : Tryd.prog.cellsOf 61 = 4 := by kernel_rfl
  have c124 : Tryd.prog.cellsOf 70 = 124 := by kernel_rfl
  obtain ⟨xs, m, hm, hx, hl, hxl, he⟩ := DataW.trod_array Tryd.underlying70 h
  rw [c124] at hl
  have hd : formsL.map datF = xs.map (·.1) := by
    have := congrArg Prod.fst hx
    simpa only [DataW.agg.injEq] using this
  rw [formsA_cells]
  refine rows_join formsL cs (by rw [hl, formsL_len]) fun i f hf => ?_
  have hi : i < 31 := by
    have := (List.getElem?_eq_some_iff.1 hf).1
    rwa [formsL_len] at this
  have h1 := he i hi
  rw [c4] at h1
  have h2 : (xs.map (·.1))[i]? = some (datF f) := by rw [← hd, List.getElem?_map, hf]; rfl
  rw [List.getElem?_map] at h2
  obtain ⟨⟨y, z⟩, hy, hz⟩ := Option.map_eq_some_iff.1 h2
  rw [hy] at h1
  obtain rfl : y = datF f := hz
  exact frm_of h1
end

theorem formsIn_of_laid {W : World} {rest : List (String × DataW Unit)} (h : laidMet Tryd.prog (("loop.example/g00293/impl.forms", Rows.laid_loop_example_g00293_impl_forms) :: rest) W) : FormsIn W := by
  obtain ⟨ps, ⟨g, t, cs, fuel, p, q, hg, ht, hvar, hd, _, _⟩, _⟩ := h
  obtain rfl := Option.some.inj ((show Tryd.prog.globalNamed "loop.example/g00293/impl.forms" = some 0 by kernel_rfl).symm.trans hg)
  obtain rfl := Option.some.inj ((show (Tryd.prog.globals[0]?).map (·.type) = some 70 by kernel_rfl).symm.trans ht)
  rw [laid_dat] at hd
  have hc : cs.toList = formsA.toList := forms_of hd
  obtain rfl : cs = formsA := by
    cases cs; cases hfa : formsA
    rw [hfa] at hc
    simp at hc
    rw [hc]
  unfold World.var? at hvar
  rw [hg] at hvar
  simp only [Option.bind_some] at hvar
  split at hvar
  · rename_i c t' fr hh
    exact ⟨t', fr, by rw [hh]; cases hvar; rfl⟩
  · cases hvar
end Go.Proofs.YtjjaocoahepdaaaDoor.By
