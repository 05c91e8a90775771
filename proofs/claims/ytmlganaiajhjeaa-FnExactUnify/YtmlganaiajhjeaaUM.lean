/-
  A map from variables to trees: what it holds, for this seat's proofs. No statement is proved here.
-/
import Derived.Test.YtmlganaiajhjeaaUF
import Derived.Test.YtmlganaiajhjeaaTSubF
import Derived.Maps.OwnSet
import Derived.Maps.OwnOps
namespace Go.Proofs.Ytmlganaiajhjeaa.By
open Go.RowKit
set_option linter.unusedVariables false

def heldR (v : Value) : Option (DataW Value × List MemPlace) := some (.held v, [])
theorem keyI : Maps.Keyed Try.prog 3 := Maps.int_keyed Try.underlying3
theorem zeroTy (w : World) : (zeroValue 25).run Try.prog w = .ok (.agg #[.int .i64 0, .int .i64 0, .slice none 0 0]) w := by kernel_rfl
def I64x (x : Int) : Prop := -9223372036854775808 ≤ x ∧ x ≤ 9223372036854775807
theorem keyX {x : Int} (h : I64x x) : keyOf Try.prog 3 (.int .i64 x) = some (.int .i64 x) := Maps.keyOf_int_mk Try.underlying3 (WalkArith.wf_i64 ⟨h.1, h.2⟩)
theorem isKeyX {x : Int} (h : I64x x) : WideAt.IsKeyLit (.int .i64 x) := by simp [WideAt.IsKeyLit]
theorem lit_ne {x y : Int} (h : x ≠ y) : (Lit.int .i64 x) ≠ (Lit.int .i64 y) := fun e => h (by injection e)
def updT (T : Int → Option Value) (x : Int) (o : Option Value) (y : Int) : Option Value := if y = x then o else T y
/-- Block m is a map of at most n entries: what each variable is bound to. -/
def MapIs (w : World) (m n : Nat) (T : Int → Option Value) : Prop :=
  ∃ D, w.ownsMap Try.prog 3 heldR m n D ∧ ∀ x, I64x x → Maps.has D (.int .i64 x) = (T x).isSome ∧ ∀ v, T x = some v → ∀ z, D.atKey (.int .i64 x) z = .held v
theorem MapIs.made (w : World) : MapIs (w.alloc (.map #[] 0)) w.heap.size 0 (fun _ => none) :=
  ⟨.map [], World.ownsMap_made w _ _ _, fun x _ => ⟨rfl, fun v h => by cases h⟩⟩
theorem MapIs.kept {w u : World} {m n : Nat} {T : Int → Option Value} {row : Option Nat} (h : MapIs w m n T) (hg : w.grownBy u row) (hne : some m ≠ row) : MapIs u m n T := by
  obtain ⟨D, h1, h2⟩ := h; exact ⟨D, h1.kept hg hne, h2⟩
theorem MapIs.of {w u : World} {m n : Nat} {T : Int → Option Value} (h : MapIs w m n T) (e : u.heap[m]? = w.heap[m]?) : MapIs u m n T := by
  obtain ⟨D, ⟨es, clock, hb, r⟩, h2⟩ := h; exact ⟨D, ⟨es, clock, e.trans hb, r⟩, h2⟩
theorem MapIs.isMap {w : World} {m n : Nat} {T : Int → Option Value} (h : MapIs w m n T) : ∃ es clock, w.heap[m]? = some (.map es clock) := by
  obtain ⟨D, ⟨es, clock, hb, r⟩, h2⟩ := h; exact ⟨es, clock, hb⟩
theorem MapIs.lt {w : World} {m n : Nat} {T : Int → Option Value} (h : MapIs w m n T) : m < w.heap.size := by
  obtain ⟨D, h1, h2⟩ := h; exact h1.lt
abbrev zeroTyV : Value := .agg #[.int .i64 0, .int .i64 0, .slice none 0 0]
theorem MapIs.read {w : World} {m n : Nat} {T : Int → Option Value} {D : DataW Value} (h : ∀ x, I64x x → Maps.has D (.int .i64 x) = (T x).isSome ∧ ∀ v, T x = some v → ∀ z, D.atKey (.int .i64 x) z = .held v) {x : Int} (hx : I64x x) {v : Value} {ps : List MemPlace} (hv : heldR v = some (D.atKey (.int .i64 x) (.held zeroTyV), ps)) : v = (T x).getD zeroTyV := by
  obtain ⟨h1, h2⟩ := h x hx
  simp only [heldR, Option.some.injEq, Prod.mk.injEq] at hv
  cases hT : T x with
  | none =>
    rw [hT] at h1
    rw [Maps.atKey_of_not_has h1] at hv
    have := hv.1
    injection this with e
  | some y =>
    rw [h2 y hT] at hv
    have := hv.1
    injection this with e
theorem MapIs.look_ok {w : World} {m n : Nat} {T : Int → Option Value} (h : MapIs w m n T) {x : Int} (hx : I64x x) : (Instr.lookup 110 (.map (some m)) (.int .i64 x) true).run Try.prog w = .ok (.tuple #[(T x).getD zeroTyV, .bool (T x).isSome]) w := by
  obtain ⟨D, h1, h2⟩ := h
  obtain ⟨v, ps, hr, hv⟩ := h1.look_ok keyI Try.underlying110 (zeroTy w) (zd := .held zeroTyV) (zp := []) rfl (keyX hx)
  rw [hr, MapIs.read (w := w) (m := m) (n := n) h2 hx hv, (h2 x hx).1]
theorem MapIs.look {w : World} {m n : Nat} {T : Int → Option Value} (h : MapIs w m n T) {x : Int} (hx : I64x x) : (Instr.lookup 110 (.map (some m)) (.int .i64 x) false).run Try.prog w = .ok ((T x).getD zeroTyV) w := by
  obtain ⟨D, h1, h2⟩ := h
  obtain ⟨v, ps, hr, hv⟩ := h1.lookup keyI Try.underlying110 (zeroTy w) (zd := .held zeroTyV) (zp := []) rfl (keyX hx)
  rw [hr, MapIs.read (w := w) (m := m) (n := n) h2 hx hv]
theorem MapIs.put {w : World} {m n : Nat} {T : Int → Option Value} (h : MapIs w m n T) {x : Int} (hx : I64x x) (hn : n < 1000000) (v : Value) : ∃ w', (Instr.mapUpdate 110 (.map (some m)) (.int .i64 x) v).run Try.prog w = .ok () w' ∧ MapIs w' m (n + 1) (updT T x (some v)) ∧ w.grownBy w' (some m) := by
  obtain ⟨D, h1, h2⟩ := h
  obtain ⟨w', hr, h3, h4⟩ := h1.update keyI Try.underlying110 (by unfold maxLen; omega) (keyX hx) (val := v) (d := .held v) (ps := []) rfl
  refine ⟨w', hr, ⟨_, h3, fun y hy => ?_⟩, h4⟩
  have hD := h1.isMap
  by_cases hxy : y = x
  · subst hxy
    refine ⟨by rw [Maps.has_put_same hD (isKeyX hx)]; simp [updT], fun u hu z => ?_⟩
    rw [show updT T y (some v) y = some v from if_pos rfl] at hu
    cases hu
    exact Maps.atKey_put_same hD (isKeyX hx) _ _
  · refine ⟨by rw [Maps.has_put_other (lit_ne hxy), (h2 y hy).1]; simp [updT, hxy], fun u hu z => ?_⟩
    simp only [updT, if_neg hxy] at hu
    rw [Maps.atKey_put_other (lit_ne hxy)]
    exact (h2 y hy).2 u hu z
theorem MapIs.del {w : World} {m n : Nat} {T : Int → Option Value} (h : MapIs w m n T) {x : Int} (hx : I64x x) (ty : TypeId) : ∃ w', (Builtin.delete_ #[110, 3] ty #[.map (some m), .int .i64 x]).run Try.prog w = .ok (.tuple #[]) w' ∧ MapIs w' m n (updT T x none) ∧ w.grownBy w' (some m) := by
  obtain ⟨D, h1, h2⟩ := h
  obtain ⟨w', hr, h3, h4⟩ := h1.drop keyI Try.underlying110 (keyX hx) ty
  refine ⟨w', hr, ⟨_, h3, fun y hy => ?_⟩, h4.grown⟩
  by_cases hxy : y = x
  · subst hxy
    refine ⟨by rw [Maps.has_del_same]; simp [updT], fun u hu z => ?_⟩
    simp [updT] at hu
  · refine ⟨by rw [Maps.has_del_other (lit_ne hxy), (h2 y hy).1]; simp [updT, hxy], fun u hu z => ?_⟩
    simp only [updT, if_neg hxy] at hu
    rw [Maps.atKey_del_other (lit_ne hxy)]
    exact (h2 y hy).2 u hu z
/-- 'm[k] = v' at the operation. -/
theorem wp_mapPut {w : World} {o : Oper} {ac : Act} {K : Act → World → Prop} {Q : Exit → Act → World → Prop} (mo xo vo : Operand) (ho : o.op = Op.mapUpdate 110 mo xo vo)
    {m n : Nat} {T : Int → Option Value} (h : MapIs w m n T) {x : Int} (hx : I64x x) (hn : n < 1000000) (v : Value) (e1 : ac.eval mo = .map (some m)) (e2 : ac.eval xo = .int .i64 x) (e3 : ac.eval vo = v)
    (H : ∀ w', MapIs w' m (n + 1) (updT T x (some v)) → w.grownBy w' (some m) → K (ac.put o.dst undef) w') : Oper.wp Try.prog o ac w K Q := by
  obtain ⟨w', hr, h1, h2⟩ := h.put hx hn v
  unfold Oper.wp
  simp [execOp, ho, e1, e2, e3, hr, Result.andThen]
  exact H w' h1 h2
theorem wpList_mapDel {w : World} {ops : Array Oper} {rest : List Oper} {o : Oper} {ac : Act} {Q : Exit → Act → World → Prop} (hg : o.guard = none) (mo xo : Operand) (ho : o.op = Op.call { callee := Callee.builtin Builtin.delete, args := #[mo, xo], argTypes := #[110, 3] })
    {m n : Nat} {T : Int → Option Value} (h : MapIs w m n T) {x : Int} (hx : I64x x) (e1 : ac.eval mo = .map (some m)) (e2 : ac.eval xo = .int .i64 x)
    (H : ∀ w', MapIs w' m n (updT T x none) → w.grownBy w' (some m) → wpList Try.prog ops Q rest (ac.put o.dst (.tuple #[])) w') : wpList Try.prog ops Q (o :: rest) ac w := by
  refine wpList_plain hg fun K' hK' => ?_
  obtain ⟨w', hr, h1, h2⟩ := h.del hx o.type
  unfold Oper.wp
  simp [execOp, ho, resolve, invoke, builtin, e1, e2, hr, Result.andThen]
  exact hK' _ _ (H w' h1 h2)
end Go.Proofs.Ytmlganaiajhjeaa.By
