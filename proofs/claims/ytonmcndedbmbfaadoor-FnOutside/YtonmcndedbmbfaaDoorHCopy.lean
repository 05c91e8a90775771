/-
  The contract of the specification's copy of a heap, for this seat's proofs. No statement is proved here.
-/
import Derived.Test.YtonmcndedbmbfaaDoorHOwnT
import Derived.Deep.RegionHeld
namespace Go.Proofs.YtonmcndedbmbfaaDoor.By
open Go.RowKit
set_option linter.unusedVariables false
set_option linter.unusedSimpArgs false

theorem run_copy {P : Program} {w : World} (t ty : TypeId) (B : Nat) (e : TypeId) (i : TypeInfo) (z : Value) (size bytes : Nat) (ht : P.underlying t = some (.slice e)) (hi : P.info? e = some i) (hz : i.zero = some z)
    (hsize : i.size = size) (hby : i.bytes = bytes) (hzs : z.cells.size = size) (hsz : 0 < size) (v : Value) (hown : w.ownsRow B e size v 0 (valsI [])) (src : Option Addr) (m c : Nat) (zs : List Int)
    (hr : ReadsI w src (m * size) zs) (hn : src = none → c = 0) (hm : m ≤ 1048576) (hbytes : m * bytes ≤ 140737488355328) (hB : B ≤ w.heap.size) :
    ∃ v' w', (Builtin.append_ #[t, t] ty #[v, .slice src m c]).run P w = .ok v' w' ∧ w'.ownsRow B e size v' m (valsI zs) ∧ w.grownBy w' v.ownBlock := by
  obtain ⟨hl, hr⟩ := hr
  cases src with
  | none =>
    obtain rfl := hn rfl
    have hm0 : m * size = 0 := by
      rcases hr with h | ⟨_, _, h, _⟩
      · exact h
      · cases h
    obtain rfl : m = 0 := by
      rcases Nat.mul_eq_zero.1 hm0 with h | h
      · exact h
      · omega
    obtain rfl : zs = [] := List.eq_nil_of_length_eq_zero (by omega)
    exact ⟨v, w, run_append_owned_none (P := P) (w := w) B t ty e i size ht hi v 0 _ hown, hown, World.grownBy.refl _ _⟩
  | some ad =>
    have hnews : ∀ j u, (valsI zs)[j]? = some u → w.cell? (ad.add j) = some u := by
      rcases hr with h | ⟨b, off, h, hc⟩
      · have : zs = [] := List.eq_nil_of_length_eq_zero (by omega)
        subst this
        intro j u hu; simp [valsI] at hu
      · cases h; exact reads_news hl hc
    obtain ⟨v', w', h1, h2, h3, -⟩ := run_append_own (P := P) w B t ty e i z size bytes ht hi hz hsize hby hzs hsz v 0 (valsI []) hown ad m c (valsI zs) (by simp [valsI, hl]) hnews (one_vals zs) (by simp [maxLen]; omega) (by simpa using hbytes) hB
    exact ⟨v', w', h1, by simpa [valsI] using h2, h3⟩

theorem step_copy {P : Program} {ops : Array Oper} {o : Oper} {a : Act} {w : World} {K : Act → World → Prop} {Q : Exit → Act → World → Prop} {E : Prop}
    (hg : o.guard = none) (s x : Operand) (t : TypeId) (ho : o.op = .call { callee := .builtin .append, args := #[s, x], argTypes := #[t, t] })
    (B : Nat) (e : TypeId) (i : TypeInfo) (z : Value) (size bytes : Nat) (ht : P.underlying t = some (.slice e)) (hi : P.info? e = some i) (hz : i.zero = some z)
    (hsize : i.size = size) (hby : i.bytes = bytes) (hzs : z.cells.size = size) (hsz : 0 < size) (v : Value) (hs : a.eval s = v) (hown : w.ownsRow B e size v 0 (valsI [])) (src : Option Addr) (m c : Nat) (hx : a.eval x = .slice src m c) (zs : List Int)
    (hr : ReadsI w src (m * size) zs) (hn : src = none → c = 0) (hm : m ≤ 1048576) (hbytes : m * bytes ≤ 140737488355328) (hB : B ≤ w.heap.size)
    (h : ∀ v' w', w'.ownsRow B e size v' m (valsI zs) → w.grownBy w' v.ownBlock → K (a.put o.dst v') w') :
    if Region.wanted o (yielded ops a.tmps) = true then Oper.wp P o a w K Q else E := by
  have hw : Region.wanted o (yielded ops a.tmps) = true := by simp [Region.wanted, hg]
  rw [if_pos hw]
  obtain ⟨v', w', hrun, h2, h3⟩ := run_copy (P := P) (w := w) t o.type B e i z size bytes ht hi hz hsize hby hzs hsz v hown src m c zs hr hn hm hbytes hB
  unfold Oper.wp execOp
  simp only [ho, resolve, invoke, builtin, Sem.run_bind, Sem.run_pure, Result.andThen_ok, List.map_toArray, List.map_cons, List.map_nil, hs, hx, hrun]
  exact h v' w' h2 h3

/-- The five cells of a boxed heap. -/
def Box (p : Nat) (v0 v1 v2 v3 v4 : Value) (w : World) : Prop :=
  w.cell? ⟨p, 0, none⟩ = some v0 ∧ w.cell? ⟨p, 1, none⟩ = some v1 ∧ w.cell? ⟨p, 2, none⟩ = some v2 ∧ w.cell? ⟨p, 3, none⟩ = some v3 ∧ w.cell? ⟨p, 4, none⟩ = some v4
theorem Box.kept {p : Nat} {v0 v1 v2 v3 v4 : Value} {w w' : World} {row : Option Nat} (h : Box p v0 v1 v2 v3 v4 w) (hg : w.grownBy w' row) (hne : some p ≠ row) : Box p v0 v1 v2 v3 v4 w' := by
  obtain ⟨h0, h1, h2, h3, h4⟩ := h
  exact ⟨hg.cell h0 hne, hg.cell h1 hne, hg.cell h2 hne, hg.cell h3 hne, hg.cell h4 hne⟩
/-- What is held along the region. -/
structure Along (w u : World) (p p1 : Nat) (v0 v1 v2 v3 v4 : Value) (z : Obj) : Prop where
  grown : w.grownBy u none
  box : Box p v0 v1 v2 v3 v4 u
  zero : u.heap[p1]? = some z
  room : p1 + 1 ≤ u.heap.size
  lt : p < p1
  old : w.heap.size ≤ p1
theorem Along.step {w u u' : World} {p p1 : Nat} {v0 v1 v2 v3 v4 : Value} {z : Obj} {row : Option Nat} (h : Along w u p p1 v0 v1 v2 v3 v4 z) (k : u.grownBy u' row) (hr : row = none ∨ ∃ g, row = some g ∧ p1 + 1 ≤ g) : Along w u' p p1 v0 v1 v2 v3 v4 z := by
  obtain ⟨h1, h2, h3, h4, h5, h6⟩ := h
  have s := k.size
  refine ⟨?_, h2.kept k ?_, (k.block p1 (by omega) ?_).trans h3, by omega, h5, h6⟩
  · rcases hr with rfl | ⟨g, rfl, hg⟩
    · exact grown_trans h1 k
    · exact grown_into h1 k (by omega)
  · rcases hr with rfl | ⟨g, rfl, hg⟩ <;> simp; omega
  · rcases hr with rfl | ⟨g, rfl, hg⟩ <;> simp; omega
theorem own_far {u : World} {B : Nat} {e : TypeId} {size : Nat} {v : Value} {n : Nat} {xs : List Value} (h : u.ownsRow B e size v n xs) : v.ownBlock = none ∨ ∃ g, v.ownBlock = some g ∧ B ≤ g := by
  cases e : v.ownBlock with
  | none => exact .inl rfl
  | some g => exact .inr ⟨g, rfl, (h.lt g e).1⟩
theorem own_type {u : World} {B : Nat} {e : TypeId} {size : Nat} {v : Value} {n : Nat} {xs : List Value} (h : u.ownsRow B e size v n xs) {g : Nat} (hg : v.ownBlock = some g) : ∃ cur, u.heap[g]? = some (.cells cur e (0, 0)) := by
  rcases h.2 with ⟨rfl, _⟩ | ⟨g', cap, cur, rfl, _, hc, _⟩
  · simp [Value.ownBlock] at hg
  · simp [Value.ownBlock] at hg; subst hg; exact ⟨cur, hc⟩
theorem own_ne {u : World} {B B' : Nat} {e e' : TypeId} {size size' : Nat} {v v' : Value} {n n' : Nat} {xs xs' : List Value} (h : u.ownsRow B e size v n xs) (h' : u.ownsRow B' e' size' v' n' xs') (hne : e ≠ e') : v.ownBlock = none ∨ v.ownBlock ≠ v'.ownBlock := by
  cases k : v.ownBlock with
  | none => exact .inl rfl
  | some g =>
    refine .inr (fun k' => ?_)
    obtain ⟨c, hc⟩ := own_type h k
    obtain ⟨c', hc'⟩ := own_type h' k'.symm
    rw [hc] at hc'
    simp at hc'
    exact hne hc'.2
theorem own_none {v : Value} : v.ownBlock = none ∨ v.ownBlock ≠ none := by by_cases h : v.ownBlock = none <;> simp [h]

end Go.Proofs.YtonmcndedbmbfaaDoor.By
