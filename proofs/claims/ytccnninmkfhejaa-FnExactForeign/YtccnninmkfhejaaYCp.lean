/-
  copy of rows whose elements have more than one cell; what stores of cells in a row leave. No statement is proved here.
-/
import Derived.Test.YtccnninmkfhejaaYVs
import Derived.Laws.IdiomCopy
import Derived.Laws.Externs
import Derived.Lib.Overlaps
import Derived.Lib.AppendZerosOnto
namespace Go.Proofs.Ytccnninmkfhejaa.By
open Go.RowKit
set_option linter.unusedVariables false
set_option linter.unusedSimpArgs false

theorem run_copy_much {P : Program} (w : World) (dT sT ty elem : TypeId) (i : TypeInfo) (s b o dLen dCap : Nat) (a : Addr) (sLen sCap n : Nat) (cs : List Value)
    (hu : P.underlying dT = some (.slice elem)) (hq : P.info? elem = some i) (hi : i.size = s) (hn : n = Nat.min sLen dLen) (hcs : cs.length = n * s)
    (hsrc : ∀ j v, cs[j]? = some v → w.cell? (a.add j) = some v) (hc : ∀ j, j < cs.length → (w.cell? ⟨b, o + j, none⟩).isSome = true) (hf : ∀ j, j < cs.length → w.frozen? ⟨b, o + j, none⟩ = false) (h1 : ∀ v ∈ cs, v.oneCell' = true) :
    (Builtin.copy_ #[dT, sT] ty #[.slice (some ⟨b, o, none⟩) dLen dCap, .slice (some a) sLen sCap]).run P w = .ok (goInt n) (w.setCells b o cs) := by
  have hl := run_firstCells_some (P := P) (w := w) s n a sLen sCap cs hcs hsrc
  have hst := run_storeCells_cells (P := P) b o cs 0 w (by simpa using hc) (by simpa using hf) h1
  simp [Builtin.copy_, run_underlying hu, Builtin.lenOf, sizeOf, typeInfo, hq, hi, ← hn, hl, hst]

theorem wpList_copy_much {P : Program} (w : World) {ops : Array Oper} {rest : List Oper} {o : Oper} {a : Act} {Q : Exit → Act → World → Prop} (hgd : o.guard = none) (d s : Operand) (t t' : TypeId)
    (ho : o.op = .call { callee := .builtin .copy, args := #[d, s], argTypes := #[t, t'] }) (v u : Value) (hd : a.eval d = v) (hs : a.eval s = u) {v' : Value} {w' : World}
    (hr : (Builtin.copy_ #[t, t'] o.type #[v, u]).run P w = .ok v' w') (h : wpList P ops Q rest (a.put o.dst v') w') : wpList P ops Q (o :: rest) a w :=
  wpList_plain hgd fun K hK => by
    unfold Oper.wp execOp
    simp only [ho, resolve, invoke, builtin, Sem.run_bind, Sem.run_pure, Result.andThen_ok, List.map_toArray, List.map_cons, List.map_nil, hd, hs, hr]
    exact hK _ _ h

theorem setCells_row (g : Nat) : ∀ (vs : List Value) (o : Nat) (w : World) (cur : Array Value) (t : TypeId), w.heap[g]? = some (.cells cur t (0, 0)) → o + vs.length ≤ cur.size →
    ∃ cur', (w.setCells g o vs).heap[g]? = some (.cells cur' t (0, 0)) ∧ cur'.size = cur.size ∧ (∀ j, j < vs.length → cur'[o + j]? = vs[j]?) ∧ ∀ j, (j < o ∨ o + vs.length ≤ j) → cur'[j]? = cur[j]?
  | [], o, w, cur, t, h, _ => ⟨cur, h, rfl, fun j hj => by simp at hj, fun j _ => rfl⟩
  | v :: r, o, w, cur, t, h, hl => by
    have hl' : o + (r.length + 1) ≤ cur.size := by simpa using hl
    obtain ⟨cur', h1, h2, h3, h4⟩ := setCells_row g r (o + 1) (w.setCell ⟨g, o, none⟩ v) (cur.setIfInBounds o v) t (heap_setCell_same w g o cur t v h) (by simp; omega)
    refine ⟨cur', h1, by simpa using h2, fun j hj => ?_, fun j hj => ?_⟩
    · cases j with
      | zero =>
        rw [Nat.add_zero, h4 o (.inl (by omega))]
        simp [show o < cur.size by omega]
      | succ j =>
        have := h3 j (by simpa using hj)
        rw [show o + (j + 1) = o + 1 + j by omega, this]; simp
    · simp only [List.length_cons] at hj
      rw [h4 j (by omega), Array.getElem?_setIfInBounds_ne (by omega)]
theorem setCells_grown (g : Nat) : ∀ (vs : List Value) (o : Nat) (w : World), w.grownBy (w.setCells g o vs) (some g)
  | [], o, w => World.grownBy.refl _ _
  | v :: r, o, w => grown_trans (grown_setCell w g o v) (setCells_grown g r (o + 1) _)

/-- A row with two cells put in at an even place. -/
def insC (V : List Value) (k : Nat) (A C : Int) : List Value := V.take (k * 2) ++ ([.int .i64 A, .int .i64 C] ++ V.drop (k * 2))
theorem insC_len {V : List Value} {n k : Nat} (hV : V.length = n * 2) (hk : k ≤ n) (A C : Int) : (insC V k A C).length = (n + 1) * 2 := by
  simp only [insC, List.length_append, List.length_take, List.length_drop, List.length_cons, List.length_nil, hV]; omega
theorem insC_get {V : List Value} {n k : Nat} (hV : V.length = n * 2) (hk : k ≤ n) (A C : Int) (j : Nat) :
    (insC V k A C)[j]? = if j < k * 2 then V[j]? else if j < k * 2 + 2 then ([.int .i64 A, .int .i64 C] : List Value)[j - k * 2]? else (V.drop (k * 2))[j - (k * 2 + 2)]? := by
  unfold insC
  have hl : (V.take (k * 2)).length = k * 2 := by rw [List.length_take]; omega
  by_cases h1 : j < k * 2
  · rw [if_pos h1, List.getElem?_append_left (by omega), List.getElem?_take, if_pos h1]
  · rw [if_neg h1, List.getElem?_append_right (by omega), hl]
    by_cases h2 : j < k * 2 + 2
    · rw [if_pos h2, List.getElem?_append_left (by simp; omega)]
    · rw [if_neg h2, List.getElem?_append_right (by simp; omega)]
      rw [show j - k * 2 - ([Value.int .i64 A, .int .i64 C] : List Value).length = j - (k * 2 + 2) by simp; omega]
theorem vE_take : ∀ (xs : List REntry) (k : Nat), (vE xs).take (k * 2) = vE (xs.take k)
  | [], k => by simp [vE]
  | x :: r, 0 => rfl
  | x :: r, k + 1 => by
    rw [show (k + 1) * 2 = k * 2 + 1 + 1 by omega]
    simp only [vE, List.take_succ_cons, vE_take r k]
theorem vE_drop : ∀ (xs : List REntry) (k : Nat), (vE xs).drop (k * 2) = vE (xs.drop k)
  | [], k => by simp [vE]
  | x :: r, 0 => rfl
  | x :: r, k + 1 => by
    rw [show (k + 1) * 2 = k * 2 + 1 + 1 by omega]
    simp only [vE, List.drop_succ_cons, vE_drop r k]
theorem insC_vE (xs : List REntry) (k : Nat) (A C : Int) : insC (vE xs) k A C = vE (xs.take k ++ ⟨A, C⟩ :: xs.drop k) := by
  unfold insC
  rw [vE_take, vE_drop, vE_app]
  rfl
/-- A row, by its cells. -/
theorem row_of {w : World} {B g n c : Nat} {cur : Array Value} {t : TypeId} {s : Nat} {L : List Value} (hb : B ≤ g) (hg : w.heap[g]? = some (.cells cur t (0, 0))) (hn : n ≤ c) (hc : c ≤ maxLen) (hs : cur.size = c * s) (hL : L.length = n * s) (h : ∀ j, j < n * s → cur[j]? = L[j]?) : w.ownsRow B t s (.slice (some ⟨g, 0, none⟩) n c) n L := by
  refine ⟨hL, .inr ⟨g, c, cur, rfl, hb, hg, hn, hc, hs, ?_⟩⟩
  apply List.ext_getElem?
  intro j
  rw [List.getElem?_take]
  split
  · rename_i hj
    rw [Array.getElem?_toList]; exact h j hj
  · rename_i hj
    rw [List.getElem?_eq_none (by omega)]
end Go.Proofs.Ytccnninmkfhejaa.By
