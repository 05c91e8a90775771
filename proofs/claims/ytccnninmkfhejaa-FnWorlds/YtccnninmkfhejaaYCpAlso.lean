/-
  Several texts in one (YVs, YCp). No statement is proved here.
-/
import Derived.Test.YtccnninmkfhejaaYFrAlso
import Derived.Laws.IdiomCopy
import Derived.Laws.Externs
import Derived.Lib.Overlaps
import Derived.Lib.AppendZerosOnto
namespace Go.Proofs.Ytccnninmkfhejaa.By
open Go.RowKit
set_option linter.unusedVariables false
set_option linter.unusedSimpArgs false

def vI (zs : List Int) : List Value := zs.map fun z => .int .i64 z
def vB (zs : List Int) : List Value := zs.map fun z => .int .u8 z
def vE : List REntry → List Value
  | [] => []
  | x :: r => .int .i64 x.key :: .int .i64 x.val :: vE r
theorem vI_len (zs : List Int) : (vI zs).length = zs.length := by simp [vI]
theorem vB_len (zs : List Int) : (vB zs).length = zs.length := by simp [vB]
theorem vE_len : ∀ xs : List REntry, (vE xs).length = xs.length * 2
  | [] => rfl
  | x :: r => by simp only [vE, List.length_cons, vE_len r]; omega
theorem vI_one (zs : List Int) : ∀ u ∈ vI zs, u.oneCell' = true := by
  intro u hu; simp only [vI, List.mem_map] at hu; obtain ⟨z, _, rfl⟩ := hu; rfl
theorem vB_one (zs : List Int) : ∀ u ∈ vB zs, u.oneCell' = true := by
  intro u hu; simp only [vB, List.mem_map] at hu; obtain ⟨z, _, rfl⟩ := hu; rfl
theorem vE_one : ∀ xs : List REntry, ∀ u ∈ vE xs, u.oneCell' = true
  | [], u, hu => by simp [vE] at hu
  | x :: r, u, hu => by
    simp only [vE, List.mem_cons] at hu
    rcases hu with rfl | rfl | hu
    · rfl
    · rfl
    · exact vE_one r u hu
theorem vE_app : ∀ xs ys : List REntry, vE (xs ++ ys) = vE xs ++ vE ys
  | [], ys => rfl
  | x :: r, ys => by simp only [List.cons_append, vE, vE_app r ys]
theorem vI_get {zs : List Int} {j : Nat} (h : j < zs.length) : (vI zs)[j]? = some (.int .i64 (zs.getD j 0)) := by simp [vI, h]
theorem vB_get {zs : List Int} {j : Nat} (h : j < zs.length) : (vB zs)[j]? = some (.int .u8 (zs.getD j 0)) := by simp [vB, h]

theorem RdI.lies {w : World} {a : Option Addr} {l : Nat} {zs : List Int} (h : RdI w a l zs) : Lies w a l (vI zs) := by
  rcases h.1.2 with h0 | ⟨b, o, e, hc⟩
  · exact .inl h0
  · refine .inr ⟨b, o, e, fun j u hj => ?_⟩
    have hj' : j < zs.length := by have := (List.getElem?_eq_some_iff.1 hj).1; simpa [vI] using this
    rw [vI_get hj'] at hj
    cases hj
    exact hc j (by rw [← h.1.1]; exact hj')
theorem RdB.lies {w : World} {a : Option Addr} {l : Nat} {zs : List Int} (h : RdB w a l zs) : Lies w a l (vB zs) := by
  rcases h.1.2 with h0 | ⟨b, o, e, hc⟩
  · exact .inl h0
  · refine .inr ⟨b, o, e, fun j u hj => ?_⟩
    have hj' : j < zs.length := by have := (List.getElem?_eq_some_iff.1 hj).1; simpa [vB] using this
    rw [vB_get hj'] at hj
    cases hj
    exact hc j (by rw [← h.1.1]; exact hj')
theorem InEntry.vs {w wp : World} : ∀ {xs : List REntry} {b o : Nat}, InEntry w wp xs b o → ∀ j u, (vE xs)[j]? = some u → w.cell? ⟨b, o + j, none⟩ = some u
  | [], b, o, _, j, u, hj => by simp [vE] at hj
  | x :: r, b, o, ⟨⟨a1, l1, c1, ⟨h0, h1⟩, _⟩, hr⟩, j, u, hj => by
    match j, hj with
    | 0, hj => cases hj; exact h0
    | 1, hj => cases hj; exact h1
    | j + 2, hj =>
      have := InEntry.vs hr j u (by simpa [vE] using hj)
      rw [show o + (j + 2) = o + 2 + j by omega]; exact this
theorem SlEntry.lies {w : World} {a : Option Addr} {l : Nat} {xs : List REntry} (h : SlEntry w a l xs) : Lies w a l (vE xs) := by
  rcases h.2.2 with h0 | ⟨b, o, e, hin⟩
  · exact .inl h0
  · exact .inr ⟨b, o, e, hin.vs⟩

/-- The cells of events, whose texts are read. -/
def EvR (w : World) : List REvent → List Value → Prop
  | [], vs => vs = []
  | x :: r, vs => ∃ a l c vs', vs = [.int .i64 x.cap, .int .i64 x.a, .int .i64 x.b, .slice a l c, .int .i64 x.res] ++ vs' ∧ RdB w a l x.lit ∧ EvR w r vs'
theorem EvR.le {w u : World} (k : CLe w u) : ∀ {xs : List REvent} {vs : List Value}, EvR w xs vs → EvR u xs vs
  | [], _, h => h
  | x :: r, _, ⟨a, l, c, vs', e, hb, hr⟩ => ⟨a, l, c, vs', e, hb.le k, EvR.le k hr⟩
theorem EvR.len {w : World} : ∀ {xs : List REvent} {vs : List Value}, EvR w xs vs → vs.length = xs.length * 5
  | [], vs, h => by rw [show vs = [] from h]; rfl
  | x :: r, vs, ⟨a, l, c, vs', e, hb, hr⟩ => by have := EvR.len hr; rw [e]; simp only [List.length_append, List.length_cons, List.length_nil]; omega
theorem EvR.one {w : World} : ∀ {xs : List REvent} {vs : List Value}, EvR w xs vs → ∀ u ∈ vs, u.oneCell' = true
  | [], vs, h, u, hu => by rw [show vs = [] from h] at hu; simp at hu
  | x :: r, vs, ⟨a, l, c, vs', e, hb, hr⟩, u, hu => by
    rw [e] at hu
    rcases List.mem_append.1 hu with hu | hu
    · simp only [List.mem_cons, List.not_mem_nil, or_false] at hu
      rcases hu with rfl | rfl | rfl | rfl | rfl <;> rfl
    · exact EvR.one hr u hu
theorem InEvent.vs {w wp : World} : ∀ {xs : List REvent} {b o : Nat}, InEvent w wp xs b o → ∃ vs, EvR wp xs vs ∧ ∀ j u, vs[j]? = some u → w.cell? ⟨b, o + j, none⟩ = some u
  | [], b, o, _ => ⟨[], rfl, fun j u hj => by simp at hj⟩
  | x :: r, b, o, ⟨⟨a1, l1, c1, ⟨k0, k1, k2, k3, k4⟩, hd⟩, hr⟩ => by
    obtain ⟨vs', h1, h2⟩ := InEvent.vs hr
    refine ⟨[.int .i64 x.cap, .int .i64 x.a, .int .i64 x.b, .slice a1 l1 c1, .int .i64 x.res] ++ vs', ⟨a1, l1, c1, vs', rfl, hd, h1⟩, fun j u hj => ?_⟩
    match j, hj with
    | 0, hj => cases hj; exact k0
    | 1, hj => cases hj; exact k1
    | 2, hj => cases hj; exact k2
    | 3, hj => cases hj; exact k3
    | 4, hj => cases hj; exact k4
    | j + 5, hj =>
      have := h2 j u (by simpa using hj)
      rw [show o + (j + 5) = o + 5 + j by omega]; exact this
theorem SlEvent.lies {w : World} {a : Option Addr} {l : Nat} {xs : List REvent} (h : SlEvent w a l xs) : ∃ vs, EvR w xs vs ∧ Lies w a l vs := by
  rcases h.cases with ⟨rfl, rfl⟩ | ⟨b, o, e, hin, -⟩
  · exact ⟨[], rfl, .inl rfl⟩
  · obtain ⟨vs, h1, h2⟩ := hin.vs
    exact ⟨vs, h1, .inr ⟨b, o, e, h2⟩⟩

/-- The cells of events of our own: each text in a block of its own, in order, from lo on and below hi. -/
def EvO (u : World) (hi : Nat) : List REvent → List Value → Nat → Prop
  | [], vs, lo => vs = [] ∧ lo ≤ hi
  | x :: r, vs, lo => ∃ a l c mid vs', vs = [.int .i64 x.cap, .int .i64 x.a, .int .i64 x.b, .slice a l c, .int .i64 x.res] ++ vs' ∧ (u.ownsRow lo 5 1 (.slice a l c) l (vB x.lit) ∧ Byt x.lit ∧ l ≤ 1048576) ∧ (∀ g, (Value.slice a l c).ownBlock = some g → g < mid) ∧ lo ≤ mid ∧ EvO u hi r vs' mid
theorem EvO.kept {u z : World} {hi : Nat} {row : Option Nat} (hg : u.grownBy z row) : ∀ {xs : List REvent} {vs : List Value} {lo : Nat}, EvO u hi xs vs lo → (∀ g, row = some g → ∀ cur, u.heap[g]? ≠ some (.cells cur 5 (0, 0))) → EvO z hi xs vs lo
  | [], _, _, h, _ => h
  | x :: r, _, _, ⟨a, l, c, mid, vs', e, ⟨ho, hb, hl⟩, hm, hlm, hr⟩, hn => by
    refine ⟨a, l, c, mid, vs', e, ⟨ho.kept hg ?_, hb, hl⟩, hm, hlm, EvO.kept hg hr hn⟩
    rcases ho.2 with ⟨e1, -⟩ | ⟨g, cap, cur, e1, -, hb', -⟩
    · left; rw [e1]; rfl
    · right; rw [e1]; intro e2; exact hn g e2.symm cur hb'
theorem EvO.none {u z : World} {hi : Nat} (hg : u.grownBy z Option.none) {xs : List REvent} {vs : List Value} {lo : Nat} (h : EvO u hi xs vs lo) : EvO z hi xs vs lo := h.kept hg (fun g e => by cases e)
theorem EvO.mono {u : World} {hi hi' : Nat} (hh : hi ≤ hi') : ∀ {xs : List REvent} {vs : List Value} {lo : Nat}, EvO u hi xs vs lo → EvO u hi' xs vs lo
  | [], _, _, h => ⟨h.1, Nat.le_trans h.2 hh⟩
  | x :: r, _, _, ⟨a, l, c, mid, vs', e, ho, hm, hlm, hr⟩ => ⟨a, l, c, mid, vs', e, ho, hm, hlm, EvO.mono hh hr⟩
theorem EvO.len {u : World} {hi : Nat} : ∀ {xs : List REvent} {vs : List Value} {lo : Nat}, EvO u hi xs vs lo → vs.length = xs.length * 5
  | [], vs, _, h => by rw [h.1]; rfl
  | x :: r, vs, _, ⟨a, l, c, mid, vs', e, ho, hm, hlm, hr⟩ => by have := EvO.len hr; rw [e]; simp only [List.length_append, List.length_cons, List.length_nil]; omega
theorem EvO.app {u : World} {mi hi : Nat} : ∀ {xs ys : List REvent} {vs us : List Value} {lo : Nat}, EvO u mi xs vs lo → EvO u hi ys us mi → EvO u hi (xs ++ ys) (vs ++ us) lo
  | [], ys, vs, us, lo, h, k => by
    rw [h.1]
    cases ys with
    | nil => exact ⟨k.1, Nat.le_trans h.2 k.2⟩
    | cons y r =>
      obtain ⟨a, l, c, mid, vs', e, ⟨ho, hb, hl⟩, hm, hlm, hr⟩ := k
      exact ⟨a, l, c, mid, vs', e, ⟨Go.Joins.ownsRow_le ho h.2, hb, hl⟩, hm, Nat.le_trans h.2 hlm, hr⟩
  | x :: r, ys, vs, us, lo, ⟨a, l, c, mid, vs', e, ho, hm, hlm, hr⟩, k => ⟨a, l, c, mid, vs' ++ us, by rw [e, List.append_assoc], ho, hm, hlm, EvO.app hr k⟩

/-- A row of our own, read. -/
theorem own_rdI {u : World} {B : Nat} {a : Option Addr} {l c : Nat} {zs : List Int} (h : u.ownsRow B 3 1 (.slice a l c) l (vI zs)) (hl : l ≤ 9223372036854775807) : RdI (hideZ u B) a l zs := by
  have hz : zs.length = l := by have := h.1; rw [vI_len] at this; omega
  refine ⟨⟨hz, ?_⟩, hl⟩
  rcases h.2 with ⟨-, h0⟩ | ⟨g, cap, cur, e, hb, hg, hn, hm, hs, ht⟩
  · exact .inl h0
  · cases e
    refine .inr ⟨g, 0, rfl, fun i hi => ?_⟩
    rw [cell_of_row _ g _ cur 3 (0, 0) (hideZ_heap hb hg)]
    have h1 : (cur.toList.take (l * 1))[0 + i]? = cur.toList[0 + i]? := by rw [List.getElem?_take]; simp; omega
    rw [ht, Nat.zero_add, vI_get (by omega)] at h1
    rw [Nat.zero_add, ← Array.getElem?_toList, ← h1]
theorem own_rdB {u : World} {B : Nat} {a : Option Addr} {l c : Nat} {zs : List Int} (h : u.ownsRow B 5 1 (.slice a l c) l (vB zs)) (hb : Byt zs) (hl : l ≤ 9223372036854775807) : RdB (hideZ u B) a l zs := by
  have hz : zs.length = l := by have := h.1; rw [vB_len] at this; omega
  refine ⟨⟨hz, ?_⟩, hb, hl⟩
  rcases h.2 with ⟨-, h0⟩ | ⟨g, cap, cur, e, hb, hg, hn, hm, hs, ht⟩
  · exact .inl h0
  · cases e
    refine .inr ⟨g, 0, rfl, fun i hi => ?_⟩
    rw [cell_of_row _ g _ cur 5 (0, 0) (hideZ_heap hb hg)]
    have h1 : (cur.toList.take (l * 1))[0 + i]? = cur.toList[0 + i]? := by rw [List.getElem?_take]; simp; omega
    rw [ht, Nat.zero_add, vB_get (by omega)] at h1
    rw [Nat.zero_add, ← Array.getElem?_toList, ← h1]
theorem inEntry_of {w wp : World} : ∀ {xs : List REntry} {b o : Nat}, (∀ j u, (vE xs)[j]? = some u → w.cell? ⟨b, o + j, none⟩ = some u) → InEntry w wp xs b o
  | [], _, _, _ => trivial
  | x :: r, b, o, h => ⟨⟨none, 0, 0, ⟨by simpa using h 0 _ rfl, h 1 _ rfl⟩, trivial⟩, inEntry_of fun j u hj => by
      have := h (j + 2) u (by simpa [vE] using hj)
      rw [show o + 2 + j = o + (j + 2) by omega]; exact this⟩
theorem row_cell {u : World} {B : Nat} {t : TypeId} {size : Nat} {a : Option Addr} {l c : Nat} {vs : List Value} (h : u.ownsRow B t size (.slice a l c) l vs) : l = 0 ∨ ∃ g, a = some ⟨g, 0, none⟩ ∧ B ≤ g ∧ (∃ cur, u.heap[g]? = some (.cells cur t (0, 0))) ∧ ∀ j x, vs[j]? = some x → (hideZ u B).cell? ⟨g, j, none⟩ = some x := by
  rcases h.2 with ⟨-, h0⟩ | ⟨g, cap, cur, e, hb, hg, hn, hm, hs, ht⟩
  · exact .inl h0
  · cases e
    refine .inr ⟨g, rfl, hb, ⟨cur, hg⟩, fun j x hj => ?_⟩
    rw [cell_of_row _ g _ cur t (0, 0) (hideZ_heap hb hg)]
    have hjl : j < l * size := by have := (List.getElem?_eq_some_iff.1 hj).1; rw [h.1] at this; exact this
    have h1 : (cur.toList.take (l * size))[j]? = cur.toList[j]? := by rw [List.getElem?_take]; simp; omega
    rw [ht, hj] at h1
    rw [← Array.getElem?_toList, ← h1]
theorem own_slE {u : World} {B : Nat} {a : Option Addr} {l c : Nat} {xs : List REntry} (h : u.ownsRow B 66 2 (.slice a l c) l (vE xs)) (hl : l ≤ 9223372036854775807) : SlEntry (hideZ u B) a l xs := by
  have hz : xs.length = l := by have := h.1; rw [vE_len] at this; omega
  refine ⟨hz, hl, ?_⟩
  rcases row_cell h with h0 | ⟨g, e, hb, -, hc⟩
  · exact .inl h0
  · exact .inr ⟨g, 0, e, inEntry_of fun j x hj => by rw [Nat.zero_add]; exact hc j x hj⟩
theorem inEvent_of {w u : World} {hi B : Nat} : ∀ {xs : List REvent} {vs : List Value} {lo b o : Nat}, EvO u hi xs vs lo → B ≤ lo → (∀ j x, vs[j]? = some x → w.cell? ⟨b, o + j, none⟩ = some x) → InEvent w (hideZ u B) xs b o
  | [], _, _, _, _, _, _, _ => trivial
  | x :: r, vs, lo, b, o, ⟨a, l, c, mid, vs', e, ⟨ho, hb, hl⟩, hm, hlm, hr⟩, hB, h => by
    subst e
    refine ⟨⟨a, l, c, ⟨by simpa using h 0 _ rfl, h 1 _ rfl, h 2 _ rfl, h 3 _ rfl, h 4 _ rfl⟩, own_rdB (Go.Joins.ownsRow_le ho hB) hb (by omega)⟩, inEvent_of hr (by omega) fun j y hj => ?_⟩
    have := h (j + 5) y (by simpa using hj)
    rw [show o + 5 + j = o + (j + 5) by omega]; exact this
theorem own_slV {u : World} {hi B : Nat} {a : Option Addr} {l c : Nat} {xs : List REvent} {vs : List Value} (h : u.ownsRow B 36 5 (.slice a l c) l vs) (ho : EvO u hi xs vs B) (hl : l ≤ 9223372036854775807) : SlEvent (hideZ u B) a l xs := by
  have hz : xs.length = l := by have := h.1; rw [ho.len] at this; omega
  refine ⟨hz, hl, ?_⟩
  rcases row_cell h with h0 | ⟨g, e, hb, -, hc⟩
  · exact .inl h0
  · exact .inr ⟨g, 0, e, inEvent_of ho (Nat.le_refl _) fun j x hj => by rw [Nat.zero_add]; exact hc j x hj⟩
end Go.Proofs.Ytccnninmkfhejaa.By

namespace Go.Proofs.Ytccnninmkfhejaa.By
open Go.RowKit
set_option linter.unusedVariables false
set_option linter.unusedSimpArgs false

theorem run_copy_much {P : Program} (w : World) (dT sT ty elem : TypeId) (i : TypeInfo) (s b o dLen dCap : Nat) (a : Addr) (sLen sCap n : Nat) (cs : List Value)
    (hu : P.underlying dT = some (.slice elem)) (hq : P.info? elem = some i) (hi : i.size = s) (hn : n = Nat.min sLen dLen) (hcs : cs.length = n * s)
    (hsrc : ∀ j v, cs[j]? = some v → w.cell? (a.add j) = some v) (hc : ∀ j, j < cs.length → (w.cell? ⟨b, o + j, none⟩).isSome = true) (hf : ∀ j, j < cs.length → w.frozen? ⟨b, o + j, none⟩ = false) (h1 : ∀ v ∈ cs, v.oneCell' = true) :
    (Builtin.copy_ #[dT, sT] ty #[.slice (some ⟨b, o, none⟩) dLen dCap, .slice (some a) sLen sCap]).run P w = .ok (goInt n) (w.setCells b o cs) := by
  have hl := run_firstCells_some (P := P) (w := w) s n a sLen sCap cs hcs hsrc
  have hst := run_storeCells_cells (P := P) b o cs 0 w (by simpa using hc) (by simpa using hf) h1
  simp [Builtin.copy_, run_underlying hu, Builtin.lenOf, sizeOf, typeInfo, hq, hi, ← hn, hl, hst]

theorem wpList_copy_much {P : Program} (w : World) {ops : Array Oper} {rest : List Oper} {o : Oper} {a : Act} {Q : Exit → Act → World → Prop} (hgd : o.guard = none) (d s : Operand) (t t' : TypeId)
    (ho : o.op = .call { callee := .builtin .copy, args := #[d, s], argTypes := #[t, t'] }) (v u : Value) (hd : a.eval d = v) (hs : a.eval s = u) {v' : Value} {w' : World}
    (hr : (Builtin.copy_ #[t, t'] o.type #[v, u]).run P w = .ok v' w') (h : wpList P ops Q rest (a.put o.dst v') w') : wpList P ops Q (o :: rest) a w :=
  wpList_plain hgd fun K hK => by
    unfold Oper.wp execOp
    simp only [ho, resolve, invoke, builtin, Sem.run_bind, Sem.run_pure, Result.andThen_ok, List.map_toArray, List.map_cons, List.map_nil, hd, hs, hr]
    exact hK _ _ h

theorem setCells_row (g : Nat) : ∀ (vs : List Value) (o : Nat) (w : World) (cur : Array Value) (t : TypeId), w.heap[g]? = some (.cells cur t (0, 0)) → o + vs.length ≤ cur.size →
    ∃ cur', (w.setCells g o vs).heap[g]? = some (.cells cur' t (0, 0)) ∧ cur'.size = cur.size ∧ (∀ j, j < vs.length → cur'[o + j]? = vs[j]?) ∧ ∀ j, (j < o ∨ o + vs.length ≤ j) → cur'[j]? = cur[j]?
  | [], o, w, cur, t, h, _ => ⟨cur, h, rfl, fun j hj => by simp at hj, fun j _ => rfl⟩
  | v :: r, o, w, cur, t, h, hl => by
    have hl' : o + (r.length + 1) ≤ cur.size := by simpa using hl
    obtain ⟨cur', h1, h2, h3, h4⟩ := setCells_row g r (o + 1) (w.setCell ⟨g, o, none⟩ v) (cur.setIfInBounds o v) t (heap_setCell_same w g o cur t v h) (by simp; omega)
    refine ⟨cur', h1, by simpa using h2, fun j hj => ?_, fun j hj => ?_⟩
    · cases j with
      | zero =>
        rw [Nat.add_zero, h4 o (.inl (by omega))]
        simp [show o < cur.size by omega]
      | succ j =>
        have := h3 j (by simpa using hj)
        rw [show o + (j + 1) = o + 1 + j by omega, this]; simp
    · simp only [List.length_cons] at hj
      rw [h4 j (by omega), Array.getElem?_setIfInBounds_ne (by omega)]
theorem setCells_grown (g : Nat) : ∀ (vs : List Value) (o : Nat) (w : World), w.grownBy (w.setCells g o vs) (some g)
  | [], o, w => World.grownBy.refl _ _
  | v :: r, o, w => grown_trans (grown_setCell w g o v) (setCells_grown g r (o + 1) _)

/-- A row with two cells put in at an even place. -/
def insC (V : List Value) (k : Nat) (A C : Int) : List Value := V.take (k * 2) ++ ([.int .i64 A, .int .i64 C] ++ V.drop (k * 2))
theorem insC_len {V : List Value} {n k : Nat} (hV : V.length = n * 2) (hk : k ≤ n) (A C : Int) : (insC V k A C).length = (n + 1) * 2 := by
  simp only [insC, List.length_append, List.length_take, List.length_drop, List.length_cons, List.length_nil, hV]; omega
theorem insC_get {V : List Value} {n k : Nat} (hV : V.length = n * 2) (hk : k ≤ n) (A C : Int) (j : Nat) :
    (insC V k A C)[j]? = if j < k * 2 then V[j]? else if j < k * 2 + 2 then ([.int .i64 A, .int .i64 C] : List Value)[j - k * 2]? else (V.drop (k * 2))[j - (k * 2 + 2)]? := by
  unfold insC
  have hl : (V.take (k * 2)).length = k * 2 := by rw [List.length_take]; omega
  by_cases h1 : j < k * 2
  · rw [if_pos h1, List.getElem?_append_left (by omega), List.getElem?_take, if_pos h1]
  · rw [if_neg h1, List.getElem?_append_right (by omega), hl]
    by_cases h2 : j < k * 2 + 2
    · rw [if_pos h2, List.getElem?_append_left (by simp; omega)]
    · rw [if_neg h2, List.getElem?_append_right (by simp; omega)]
      rw [show j - k * 2 - ([Value.int .i64 A, .int .i64 C] : List Value).length = j - (k * 2 + 2) by simp; omega]
theorem vE_take : ∀ (xs : List REntry) (k : Nat), (vE xs).take (k * 2) = vE (xs.take k)
  | [], k => by simp [vE]
  | x :: r, 0 => rfl
  | x :: r, k + 1 => by
    rw [show (k + 1) * 2 = k * 2 + 1 + 1 by omega]
    simp only [vE, List.take_succ_cons, vE_take r k]
theorem vE_drop : ∀ (xs : List REntry) (k : Nat), (vE xs).drop (k * 2) = vE (xs.drop k)
  | [], k => by simp [vE]
  | x :: r, 0 => rfl
  | x :: r, k + 1 => by
    rw [show (k + 1) * 2 = k * 2 + 1 + 1 by omega]
    simp only [vE, List.drop_succ_cons, vE_drop r k]
theorem insC_vE (xs : List REntry) (k : Nat) (A C : Int) : insC (vE xs) k A C = vE (xs.take k ++ ⟨A, C⟩ :: xs.drop k) := by
  unfold insC
  rw [vE_take, vE_drop, vE_app]
  rfl
/-- A row, by its cells. -/
theorem row_of {w : World} {B g n c : Nat} {cur : Array Value} {t : TypeId} {s : Nat} {L : List Value} (hb : B ≤ g) (hg : w.heap[g]? = some (.cells cur t (0, 0))) (hn : n ≤ c) (hc : c ≤ maxLen) (hs : cur.size = c * s) (hL : L.length = n * s) (h : ∀ j, j < n * s → cur[j]? = L[j]?) : w.ownsRow B t s (.slice (some ⟨g, 0, none⟩) n c) n L := by
  refine ⟨hL, .inr ⟨g, c, cur, rfl, hb, hg, hn, hc, hs, ?_⟩⟩
  apply List.ext_getElem?
  intro j
  rw [List.getElem?_take]
  split
  · rename_i hj
    rw [Array.getElem?_toList]; exact h j hj
  · rename_i hj
    rw [List.getElem?_eq_none (by omega)]
end Go.Proofs.Ytccnninmkfhejaa.By
