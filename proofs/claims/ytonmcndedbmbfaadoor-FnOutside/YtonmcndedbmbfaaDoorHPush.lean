/-
  An access more at the end of a log of our own, for this seat's proofs. No statement is proved here.
-/
import Derived.Test.YtonmcndedbmbfaaDoorHCopy
import Derived.Deep.AppendSrc
namespace Go.Proofs.YtonmcndedbmbfaaDoor.By
open Go.RowKit
set_option linter.unusedVariables false
set_option linter.unusedSimpArgs false

theorem run_push {P : Program} {w : World} (t ty e : TypeId) (i : TypeInfo) (z : Value) (ht : P.underlying t = some (.slice e)) (hi : P.info? e = some i) (hz : i.zero = some z) (hsize : i.size = 3) (hby : i.bytes = 24) (hzs : z.cells.size = 3)
    (g m d : Nat) (b : Option Addr) (ls : List Int) (h : LogI w e g b m d ls) (hm : m ≤ 4000) (ad : Addr) (x y v : Int) (hnews : ∀ j u, (valsI [x, y, v])[j]? = some u → w.cell? (ad.add j) = some u) :
    ∃ b' d' g' w', (Builtin.append_ #[t, t] ty #[.slice b m d, .slice (some ad) 1 1]).run P w = .ok (.slice b' (m + 1) d') w' ∧ (g' = g ∨ w.heap.size ≤ g') ∧ LogI w' e g' b' (m + 1) d' (ls ++ [x, y, v]) ∧ w.grownBy w' (some g) := by
  obtain ⟨hl, h⟩ := h
  have src : Src P i.size t (.slice (some ad) 1 1) 1 (valsI [x, y, v]) w := Src.ofSlice w ht ad 1 1 (valsI [x, y, v]) (by simp [valsI, hsize]) hnews (one_vals _)
  have hgrow : ∀ (hold : (Builtin.firstCells i.size m (.slice b m d)).run P w.drew = .ok (valsI ls).toArray w.drew) (hd : d < m + 1), ∃ b' d' g' w', (Builtin.append_ #[t, t] ty #[.slice b m d, .slice (some ad) 1 1]).run P w = .ok (.slice b' (m + 1) d') w' ∧ (g' = g ∨ w.heap.size ≤ g') ∧ LogI w' e g' b' (m + 1) d' (ls ++ [x, y, v]) ∧ w.grownBy w' (some g) := by
    intro hold hd
    have r := run_append_grow_src (P := P) w t t ty e i z ht hi hz b m d (valsI ls) hold (.slice (some ad) 1 1) 1 (valsI [x, y, v]) src hd (by omega) (growslice_fits hd (by rw [hby]; omega))
    have hge := grownCap_ge w (m + 1) d e
    refine ⟨_, _, w.heap.size, _, r, .inr (Nat.le_refl _), ⟨by simp [hl]; omega, .inr ⟨0, _, rfl, heap_alloc_new w.drew _, hge, grownCap_le_maxLen w (m + 1) d e (by simp [maxLen]; omega), ?_, fun j hj => ?_⟩⟩, ⟨rfl, rfl, rfl, by simp, fun k hk _ => heap_alloc_old w.drew _ hk⟩⟩
    · simp only [Array.size_append, List.size_toArray, size_zeroCells, hzs, List.length_append, valsI, List.length_map, hl, List.length_cons, List.length_nil]
      omega
    · have hv : valsI ls ++ valsI [x, y, v] = valsI (ls ++ [x, y, v]) := by simp [valsI]
      have hjl : j < (ls ++ [x, y, v]).length := by simp [hl]; omega
      rw [Nat.zero_add, hv, Array.getElem?_append_left (by simpa [valsI] using hjl)]
      rw [List.getElem?_toArray, valsI, List.getElem?_map, List.getElem?_eq_getElem hjl, List.getD_eq_getElem?_getD, List.getElem?_eq_getElem hjl]
      rfl
  rcases h with ⟨rfl, rfl, rfl⟩ | ⟨off, cur, rfl, hg, hmd, hdm, hsz, hc⟩
  · obtain rfl : ls = [] := List.eq_nil_of_length_eq_zero (by omega)
    exact hgrow (run_firstCells_none w.drew i.size 0 0 0) (by omega)
  · by_cases hroom : m + 1 ≤ d
    · have hcell : ∀ j, j < 3 → (w.cell? ⟨g, off + m * 3 + j, none⟩).isSome = true := fun j hj => by
        rw [cell_of_row w g _ cur e (0, 0) hg, Array.getElem?_eq_getElem (by omega)]; rfl
      have r := run_append_room_src (P := P) w t t ty e i ht hi g off m d (.slice (some ad) 1 1) 1 (valsI [x, y, v]) src hroom (by rw [hsize]; intro j hj; exact hcell j (by simpa [valsI] using hj)) (by rw [hsize]; intro j hj; exact frozen_of_row w g _ cur e hg)
      rw [hsize] at r
      have h1 := heap_setCell_same w g (off + m * 3) cur e (.int .i64 x) hg
      have h2 := heap_setCell_same _ g (off + m * 3 + 1) _ e (.int .i64 y) h1
      have h3 := heap_setCell_same _ g (off + m * 3 + 1 + 1) _ e (.int .i64 v) h2
      refine ⟨_, _, g, _, r, .inl rfl, ⟨by simp [hl]; omega, .inr ⟨off, _, rfl, h3, hroom, hdm, by simpa using hsz, fun j hj => ?_⟩⟩, grown_trans (grown_trans (grown_setCell _ _ _ _) (grown_setCell _ _ _ _)) (grown_setCell _ _ _ _)⟩
      by_cases j0 : j < m * 3
      · rw [Array.getElem?_setIfInBounds_ne (by omega), Array.getElem?_setIfInBounds_ne (by omega), Array.getElem?_setIfInBounds_ne (by omega), hc j j0, List.getD_eq_getElem?_getD, List.getD_eq_getElem?_getD, List.getElem?_append_left (by omega)]
      · obtain ⟨q, hq⟩ : ∃ q, j = m * 3 + q := ⟨j - m * 3, by omega⟩
        have hq3 : q = 0 ∨ q = 1 ∨ q = 2 := by omega
        rw [List.getD_eq_getElem?_getD, List.getElem?_append_right (by omega), hl]
        have e0 : off + j = off + m * 3 + q := by omega
        have e1 : j - m * 3 = q := by omega
        rw [e0, e1]
        rcases hq3 with rfl | rfl | rfl
        · rw [Array.getElem?_setIfInBounds_ne (by omega), Array.getElem?_setIfInBounds_ne (by omega)]
          simp [show off + m * 3 < cur.size by omega]
        · rw [Array.getElem?_setIfInBounds_ne (by omega)]
          simp [show off + m * 3 + 1 < cur.size by omega]
        · simp [show off + m * 3 + 2 < cur.size by omega]
    · refine hgrow ?_ (by omega)
      refine run_firstCells_some w.drew i.size m ⟨g, off, none⟩ m d (valsI ls) (by simp [valsI, hl, hsize]) (fun j u hu => ?_)
      have hj : j < ls.length := by have := (List.getElem?_eq_some_iff.1 hu).1; simpa [valsI] using this
      have ec := hc j (by omega)
      rw [valsI, List.getElem?_map, List.getElem?_eq_getElem hj] at hu
      rw [Go.WideShapes.add_plain]
      show w.cell? ⟨g, off + j, none⟩ = some u
      rw [cell_of_row w g _ cur e (0, 0) hg, ec, List.getD_eq_getElem?_getD, List.getElem?_eq_getElem hj]
      exact hu

theorem step_push {P : Program} {ops : Array Oper} {o : Oper} {a : Act} {w : World} {K : Act → World → Prop} {Q : Exit → Act → World → Prop} {E : Prop}
    (hg : o.guard = none) (s x : Operand) (t : TypeId) (ho : o.op = .call { callee := .builtin .append, args := #[s, x], argTypes := #[t, t] })
    (e : TypeId) (i : TypeInfo) (z : Value) (ht : P.underlying t = some (.slice e)) (hi : P.info? e = some i) (hz : i.zero = some z) (hsize : i.size = 3) (hby : i.bytes = 24) (hzs : z.cells.size = 3)
    (g m d : Nat) (b : Option Addr) (ls : List Int) (hs : a.eval s = .slice b m d) (hlog : LogI w e g b m d ls) (hm : m ≤ 4000) (ad : Addr) (hx : a.eval x = .slice (some ad) 1 1) (x1 y1 v1 : Int) (hnews : ∀ j u, (valsI [x1, y1, v1])[j]? = some u → w.cell? (ad.add j) = some u)
    (h : ∀ b' d' g' w', (g' = g ∨ w.heap.size ≤ g') → LogI w' e g' b' (m + 1) d' (ls ++ [x1, y1, v1]) → w.grownBy w' (some g) → K (a.put o.dst (.slice b' (m + 1) d')) w') :
    if Region.wanted o (yielded ops a.tmps) = true then Oper.wp P o a w K Q else E := by
  have hw : Region.wanted o (yielded ops a.tmps) = true := by simp [Region.wanted, hg]
  rw [if_pos hw]
  obtain ⟨b', d', g', w', hrun, h1, h2, h3⟩ := run_push (P := P) (w := w) t o.type e i z ht hi hz hsize hby hzs g m d b ls hlog hm ad x1 y1 v1 hnews
  unfold Oper.wp execOp
  simp only [ho, resolve, invoke, builtin, Sem.run_bind, Sem.run_pure, Result.andThen_ok, List.map_toArray, List.map_cons, List.map_nil, hs, hx, hrun]
  exact h b' d' g' w' h1 h2 h3
end Go.Proofs.YtonmcndedbmbfaaDoor.By
