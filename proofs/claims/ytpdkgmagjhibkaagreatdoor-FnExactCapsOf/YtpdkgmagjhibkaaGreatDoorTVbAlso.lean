/-
  Several texts in one (WD, TVm, TVb). No statement is proved here.
-/
import Derived.Test.YtpdkgmagjhibkaaGreatDoorWC
import Derived.Test.YtpdkgmagjhibkaaGreatDoorTByAlso
import Derived.Lib.SlicesCompact
import Derived.Test.YtpdkgmagjhibkaaGreatDoorSBaAlso
import Derived.Test.YtpdkgmagjhibkaaGreatDoorTShapeAlso
import Derived.Test.YtpdkgmagjhibkaaGreatDoorTSize
import Derived.Test.YtpdkgmagjhibkaaGreatDoorEC0Also
namespace Go.Proofs.YtpdkgmagjhibkaaGreatDoor.By
open Go.RowKit
set_option linter.unusedVariables false
set_option linter.unusedSimpArgs false

set_option maxRecDepth 8000 in
set_option maxHeartbeats 2000000 in
theorem specProgT (x : RProg) (a1 : Option Addr) (l1 c1 : Nat) (a2 : Option Addr) (l2 c2 : Nat) (a3 : Option Addr) (l3 c3 : Nat) (w : World) (h : RdProg w x a1 l1 a2 l2 a3 l3) :
    Calls Tryz.prog 7 #[.agg #[.slice a1 l1 c1, .slice a2 l2 c2, .slice a3 l3 c3]] w fun e u => e = .returned (.bool (okP x)) ∧ w.grownBy u none := by
  have g0 := World.grownBy_alloc w (.cells #[.slice a1 l1 c1, .slice a2 l2 c2, .slice a3 l3 c3] 32) none
  have b0 := heap_alloc_new w (.cells #[.slice a1 l1 c1, .slice a2 l2 c2, .slice a3 l3 c3] 32)
  have C0 : Hid _ := l8programOkT x a1 l1 c1 a2 l2 c2 a3 l3 c3 (w.alloc (.cells #[.slice a1 l1 c1, .slice a2 l2 c2, .slice a3 l3 c3] 32)) (h.none g0)
  have L0 : Hid (w.grownBy _ none ∧ _ = some (Obj.cells #[.slice a1 l1 c1, .slice a2 l2 c2, .slice a3 l3 c3] 32)) := ⟨g0, b0⟩
  have HS : Hid (∀ u, w.grownBy u none → RdProg u x a1 l1 a2 l2 a3 l3) := fun u hu => h.none hu
  obtain ⟨⟨y0, y1, y2⟩, -⟩ := blkProg b0
  clear h g0 b0
  go_enter Tryz.func7, Tryz.ntmps7
  go_wp2_with fail
  refine Calls.mono C0.out ?_
  rintro e u0 ⟨he, hg⟩
  subst he
  have L1 : Hid (w.grownBy u0 none ∧ u0.heap[w.heap.size]? = some (Obj.cells #[.slice a1 l1 c1, .slice a2 l2 c2, .slice a3 l3 c3] 32)) := ⟨grown_trans L0.out.1 hg, (hg.block _ (lt_of_block L0.out.2) (by simp)).trans L0.out.2⟩
  clear C0 L0 hg y0 y1 y2
  generalize w.heap.size = p0 at *
  obtain ⟨⟨y0, y1, y2⟩, -⟩ := blkProg L1.out.2
  simp only []
  cases hst : standsV x with
  | false =>
    have E : Hid (okP x = false) := by show _ = _; unfold okP; rw [hst]; rfl
    go_wp2
    go_ret
    exact ⟨by rw [E.out]; rfl, L1.out.1⟩
  | true =>
    have C1 : Hid _ := l8bytesT x a1 l1 c1 a2 l2 c2 a3 l3 c3 u0 (HS.out _ L1.out.1) hst
    have hpl := (progB_len hst).1
    have E : Hid (okP x = decide (([76, 75] ++ progB x).length ≤ 30000)) := by show _ = _; unfold okP; rw [hst]; rfl
    have E3 : Hid (([76, 75] ++ progB x).length = (progB x).length + 2) := by show _ = _; simp
    clear hst
    go_wp2_with fail
    refine Calls.mono C1.out ?_
    rintro e u1 ⟨v, rfl, hA, hg⟩
    obtain ⟨a', c', rfl, -⟩ := hA.owB
    have G : Hid (w.grownBy u1 none) := grown_trans L1.out.1 hg
    rw [E3.out]
    clear C1 hA hg y0 y1 y2
    generalize hn : (progB x).length + 2 = n at *
    have E2 : Hid (okP x = decide (n ≤ 30000)) := by show _ = _; rw [E.out, E3.out]
    simp only []
    by_cases hle : n ≤ 30000
    · have hle' : (n : Int) ≤ 30000 := by omega
      go_wp2
      go_ret
      exact ⟨by rw [E2.out, decide_eq_true hle]; rfl, G.out⟩
    · have hle' : ¬ (n : Int) ≤ 30000 := by omega
      go_wp2
      go_ret
      exact ⟨by rw [E2.out, decide_eq_false hle]; rfl, G.out⟩

set_option maxRecDepth 8000 in
set_option maxHeartbeats 2000000 in
theorem specCodeT (x : RProg) (a1 : Option Addr) (l1 c1 : Nat) (a2 : Option Addr) (l2 c2 : Nat) (a3 : Option Addr) (l3 c3 : Nat) (w : World) (h : RdProg w x a1 l1 a2 l2 a3 l3) :
    Calls Tryz.prog 11 #[.agg #[.slice a1 l1 c1, .slice a2 l2 c2, .slice a3 l3 c3]] w fun e u => ∃ a' c', e = .returned (.tuple #[.slice a' (codeV x).length c', .bool (okP x)]) ∧ w.grownBy u none ∧ OwB w.heap.size u a' (codeV x).length c' (codeV x) := by
  have g0 := World.grownBy_alloc w (.cells #[.slice a1 l1 c1, .slice a2 l2 c2, .slice a3 l3 c3] 32) none
  have b0 := heap_alloc_new w (.cells #[.slice a1 l1 c1, .slice a2 l2 c2, .slice a3 l3 c3] 32)
  have C0 : Hid _ := specProgT x a1 l1 c1 a2 l2 c2 a3 l3 c3 (w.alloc (.cells #[.slice a1 l1 c1, .slice a2 l2 c2, .slice a3 l3 c3] 32)) (h.none g0)
  have L0 : Hid (w.grownBy _ none ∧ _ = some (Obj.cells #[.slice a1 l1 c1, .slice a2 l2 c2, .slice a3 l3 c3] 32)) := ⟨g0, b0⟩
  have HS : Hid (∀ u, w.grownBy u none → RdProg u x a1 l1 a2 l2 a3 l3) := fun u hu => h.none hu
  obtain ⟨⟨y0, y1, y2⟩, -⟩ := blkProg b0
  clear h g0 b0
  go_enter Tryz.func11, Tryz.ntmps11
  go_wp2_with fail
  refine Calls.mono C0.out ?_
  rintro e u0 ⟨he, hg⟩
  subst he
  have L1 : Hid (w.grownBy u0 none ∧ u0.heap[w.heap.size]? = some (Obj.cells #[.slice a1 l1 c1, .slice a2 l2 c2, .slice a3 l3 c3] 32)) := ⟨grown_trans L0.out.1 hg, (hg.block _ (lt_of_block L0.out.2) (by simp)).trans L0.out.2⟩
  clear C0 L0 hg y0 y1 y2
  generalize hp0 : w.heap.size = p0 at *
  have HP0 : Hid (w.heap.size = p0) := hp0
  clear hp0
  obtain ⟨⟨y0, y1, y2⟩, -⟩ := blkProg L1.out.2
  simp only []
  cases hst : okP x with
  | false =>
    have E : Hid (codeV x = []) := by show _ = _; unfold codeV; rw [hst]; rfl
    go_wp2
    go_ret2
    refine ⟨none, 0, ?_, L1.out.1, ?_⟩
    · rw [E.out, hst]; rfl
    · rw [E.out]; exact OwB.nil _ _
  | true =>
    have hsv : standsV x = true := by
      have := hst
      unfold okP at this
      rw [Bool.and_eq_true] at this
      exact this.1
    have C1 : Hid _ := l8bytesT x a1 l1 c1 a2 l2 c2 a3 l3 c3 u0 (HS.out _ L1.out.1) hsv
    have E : Hid (codeV x = [76, 75] ++ progB x) := by show _ = _; unfold codeV; rw [hst]; rfl
    clear hsv
    go_wp2_with fail
    refine Calls.mono C1.out ?_
    rintro e u1 ⟨v, rfl, hA, hg⟩
    obtain ⟨a', c', rfl, ho⟩ := hA.owB
    have G : Hid (w.grownBy u1 none ∧ OwB p0 u1 a' ([76, 75] ++ progB x).length c' ([76, 75] ++ progB x)) := ⟨grown_trans L1.out.1 hg, OwB.mono ho (by rw [← HP0.out]; exact L1.out.1.size)⟩
    clear C1 hA hg y0 y1 y2 ho
    simp only []
    go_wp2
    go_ret2
    refine ⟨a', c', ?_, G.out.1, ?_⟩
    · rw [E.out, hst]; rfl
    · rw [E.out, HP0.out]; exact G.out.2

end Go.Proofs.YtpdkgmagjhibkaaGreatDoor.By

namespace Go.Proofs.YtpdkgmagjhibkaaGreatDoor.By
open Go.RowKit
set_option linter.unusedVariables false

/-- Put in its place, unless it is there. -/
def srtV : List Int → Int → List Int
  | [], n => [n]
  | x :: l, n => if x < n then x :: srtV l n else if x = n then x :: l else n :: x :: l
def insL (l vs : List Int) : List Int := vs.foldl srtV l
theorem srtV_mem (l : List Int) (n y : Int) : y ∈ srtV l n ↔ y = n ∨ y ∈ l := by
  induction l with
  | nil => simp [srtV]
  | cons x l ih =>
    rw [srtV]
    split
    · simp only [List.mem_cons, ih]
      constructor
      · rintro (h | h | h) <;> simp [h]
      · rintro (h | h | h) <;> simp [h]
    · split
      · rename_i _ e
        subst e
        simp only [List.mem_cons]
        constructor
        · intro h; exact Or.inr h
        · rintro (h | h)
          · exact Or.inl h
          · exact h
      · simp only [List.mem_cons]
theorem srtV_sorted (l : List Int) (n : Int) (h : l.Pairwise (· < ·)) : (srtV l n).Pairwise (· < ·) := by
  induction l with
  | nil => simp [srtV]
  | cons x l ih =>
    rw [List.pairwise_cons] at h
    rw [srtV]
    split
    · rename_i hx
      rw [List.pairwise_cons]
      refine ⟨fun y hy => ?_, ih h.2⟩
      rcases (srtV_mem l n y).1 hy with e | hy
      · rw [e]; exact hx
      · exact h.1 y hy
    · split
      · rw [List.pairwise_cons]; exact h
      · rw [List.pairwise_cons, List.pairwise_cons]
        refine ⟨fun y hy => ?_, h⟩
        rcases List.mem_cons.1 hy with e | hy
        · omega
        · have := h.1 y hy; omega
theorem insL_mem (vs : List Int) : ∀ (l : List Int) (y : Int), y ∈ insL l vs ↔ y ∈ vs ∨ y ∈ l := by
  induction vs with
  | nil => intro l y; simp [insL]
  | cons v vs ih =>
    intro l y
    have e : insL l (v :: vs) = insL (srtV l v) vs := rfl
    rw [e, ih, srtV_mem, List.mem_cons]
    constructor
    · rintro (h | h | h) <;> simp [h]
    · rintro ((h | h) | h) <;> simp [h]
theorem insL_sorted (vs : List Int) : ∀ (l : List Int), l.Pairwise (· < ·) → (insL l vs).Pairwise (· < ·) := by
  induction vs with
  | nil => intro l h; exact h
  | cons v vs ih => intro l h; exact ih _ (srtV_sorted l v h)
theorem insL_app (l vs us : List Int) : insL l (vs ++ us) = insL (insL l vs) us := by simp [insL, List.foldl_append]
theorem srtV_len (l : List Int) (n : Int) : (srtV l n).length ≤ l.length + 1 := by
  induction l with
  | nil => simp [srtV]
  | cons x l ih =>
    rw [srtV]
    split
    · simp only [List.length_cons]; omega
    · split <;> simp only [List.length_cons] <;> omega
theorem insL_len (vs : List Int) : ∀ (l : List Int), (insL l vs).length ≤ l.length + vs.length := by
  induction vs with
  | nil => intro l; simp [insL]
  | cons v vs ih => intro l; have h1 := ih (srtV l v); have h2 := srtV_len l v; have e : insL l (v :: vs) = insL (srtV l v) vs := rfl; rw [e]; simp only [List.length_cons]; omega
/-- Two lists that grow and have the same members are one. -/
theorem one_of_members : ∀ (a b : List Int), a.Pairwise (· < ·) → b.Pairwise (· < ·) → (∀ y, y ∈ a ↔ y ∈ b) → a = b := by
  intro a
  induction a with
  | nil =>
    intro b _ _ h
    cases b with
    | nil => rfl
    | cons y b => exact absurd ((h y).2 (by simp)) (by simp)
  | cons x a ih =>
    intro b ha hb h
    cases b with
    | nil => exact absurd ((h x).1 (by simp)) (by simp)
    | cons y b =>
      rw [List.pairwise_cons] at ha hb
      have hxy : x = y := by
        rcases List.mem_cons.1 ((h x).1 (by simp)) with e | hx
        · exact e
        · rcases List.mem_cons.1 ((h y).2 (by simp)) with e | hy
          · exact e.symm
          · have := ha.1 y hy; have := hb.1 x hx; omega
      subst hxy
      congr 1
      refine ih b ha.2 hb.2 (fun z => ?_)
      constructor
      · intro hz
        rcases List.mem_cons.1 ((h z).1 (List.mem_cons_of_mem _ hz)) with e | hz'
        · have := ha.1 z hz; omega
        · exact hz'
      · intro hz
        rcases List.mem_cons.1 ((h z).2 (List.mem_cons_of_mem _ hz)) with e | hz'
        · have := hb.1 z hz; omega
        · exact hz'
theorem compactUp (zs : List Int) (hs : zs.Pairwise (· ≤ ·)) : ∀ m, m ≤ zs.length → (Lib.compactUpTo zs.toArray m).Pairwise (· < ·) ∧ ∀ y, y ∈ Lib.compactUpTo zs.toArray m ↔ ∃ j, j < m ∧ zs[j]? = some y := by
  have hg : ∀ j, j < zs.length → zs[j]? = some (zs.toArray[j]!) := fun j hj => by
    rw [List.getElem?_eq_getElem hj]
    simp [hj]
  intro m
  induction m with
  | zero => intro _; exact ⟨by simp [Lib.compactUpTo], fun y => by simp [Lib.compactUpTo]⟩
  | succ m ih =>
    intro hm
    obtain ⟨h1, h2⟩ := ih (by omega)
    rw [Lib.compactUpTo_succ]
    by_cases hk : Lib.keeps zs.toArray m = true
    · rw [if_pos hk]
      refine ⟨?_, fun y => ?_⟩
      · rw [List.pairwise_append]
        refine ⟨h1, by simp, fun x hx y hy => ?_⟩
        obtain ⟨j, hj, hjx⟩ := (h2 x).1 hx
        rw [List.mem_singleton] at hy
        subst hy
        have hne : zs.toArray[m]! ≠ zs.toArray[m - 1]! := by
          simp only [Lib.keeps, decide_eq_true_eq] at hk
          rcases hk with hk | hk
          · omega
          · exact hk
        have e1 : zs.toArray[m]! = zs[m] := by simp [show m < zs.length from hm]
        have e2 : zs.toArray[m - 1]! = zs[m - 1] := by simp [show m - 1 < zs.length by omega]
        rw [e1, e2] at hne
        rw [e1]
        have e3 : x = zs[j] := by rw [List.getElem?_eq_getElem (by omega)] at hjx; exact (Option.some.inj hjx).symm
        rw [List.pairwise_iff_getElem] at hs
        have a1 : zs[m - 1] ≤ zs[m] := hs (m - 1) m (by omega) (by omega) (by omega)
        have a2 : zs[j] ≤ zs[m - 1] := by
          by_cases hjm : j = m - 1
          · subst hjm; exact Int.le_refl _
          · exact hs j (m - 1) (by omega) (by omega) (by omega)
        rw [e3]; omega
      · rw [List.mem_append, h2, List.mem_singleton]
        constructor
        · rintro (⟨j, hj, e⟩ | e)
          · exact ⟨j, by omega, e⟩
          · exact ⟨m, by omega, by rw [e]; exact hg m hm⟩
        · rintro ⟨j, hj, e⟩
          by_cases hjm : j = m
          · subst hjm
            right
            have := hg j hm
            rw [this] at e
            exact (Option.some.inj e).symm
          · exact Or.inl ⟨j, by omega, e⟩
    · rw [if_neg hk, List.append_nil]
      refine ⟨h1, fun y => ?_⟩
      rw [h2]
      simp only [Lib.keeps, decide_eq_true_eq, not_or, Decidable.not_not] at hk
      constructor
      · rintro ⟨j, hj, e⟩; exact ⟨j, by omega, e⟩
      · rintro ⟨j, hj, e⟩
        by_cases hjm : j = m
        · subst hjm
          refine ⟨j - 1, by omega, ?_⟩
          rw [hg (j - 1) (by omega), ← hk.2, ← hg j hm]; exact e
        · exact ⟨j, by omega, e⟩
/-- What is sorted and made compact is what was put in its place, one by one. -/
theorem sorted_compact (vs : List Int) : Lib.compact (vs.mergeSort fun x y => decide (x ≤ y)) = insL [] vs := by
  have hs : (vs.mergeSort fun x y => decide (x ≤ y)).Pairwise (· ≤ ·) := by
    have := List.pairwise_mergeSort (le := fun x y => decide (x ≤ y)) (fun a b c h1 h2 => by simp only [decide_eq_true_eq] at *; omega) (fun a b => by simp only [Bool.or_eq_true, decide_eq_true_eq]; omega) vs
    exact this.imp (fun h => by simpa using h)
  obtain ⟨h1, h2⟩ := compactUp _ hs _ (Nat.le_refl _)
  refine one_of_members _ _ h1 (insL_sorted vs [] List.Pairwise.nil) (fun y => ?_)
  rw [show Lib.compact (vs.mergeSort fun x y => decide (x ≤ y)) = Lib.compactUpTo (vs.mergeSort fun x y => decide (x ≤ y)).toArray (vs.mergeSort fun x y => decide (x ≤ y)).length from rfl, h2, insL_mem]
  constructor
  · rintro ⟨j, hj, e⟩
    left
    rw [← List.mem_mergeSort (le := fun x y => decide (x ≤ y))]
    exact List.mem_of_getElem? e
  · rintro (h | h)
    · rw [← List.mem_mergeSort (le := fun x y => decide (x ≤ y))] at h
      obtain ⟨j, hj, e⟩ := List.getElem_of_mem h
      exact ⟨j, hj, by rw [List.getElem?_eq_getElem hj, e]⟩
    · simp at h
/-- The variables of a list of trees, as they come. -/
def varsF : F → List Int
  | .nil => []
  | .cons k n d r => (if k = 7 then [n] else varsF d) ++ varsF r
def vT (k n : Int) (d : F) : List Int := if k = 7 then [n] else varsF d
theorem varsF_len (f : F) : (varsF f).length ≤ f.size := by
  induction f with
  | nil => simp [varsF, F.size]
  | cons k n d r ihd ihr =>
    rw [varsF, List.length_append, F.size]
    split
    · simp only [List.length_singleton]; omega
    · omega
theorem vT_len (k n : Int) (d : F) : (vT k n d).length ≤ 1 + d.size := by
  unfold vT
  have := varsF_len d
  split
  · simp only [List.length_singleton]; omega
  · omega
/-- What TyVars answers. -/
def varsV (k n : Int) (d : F) : List Int := if okT k n d = true then insL [] (vT k n d) else []
theorem varsV_len (k n : Int) (d : F) : (varsV k n d).length ≤ 60 := by
  unfold varsV
  by_cases h : okT k n d = true
  · rw [if_pos h]
    simp only [okT, Bool.and_eq_true, decide_eq_true_eq] at h
    have h1 := insL_len (vT k n d) []
    have h2 := vT_len k n d
    simp only [List.length_nil] at h1
    omega
  · rw [if_neg h]; simp
end Go.Proofs.YtpdkgmagjhibkaaGreatDoor.By

namespace Go.Proofs.YtpdkgmagjhibkaaGreatDoor.By
open Go.RowKit
set_option linter.unusedVariables false
set_option linter.unusedSimpArgs false

theorem InF.belowV {w w' : World} {f : F} {b off : Nat} (h : InF w f b off) (hb : Below w.heap.size w w') : InF w' f b off :=
  h.cells fun p v hv => by rw [hb.cell (p := p) (block_lt_of_cell hv)]; exact hv
theorem grown_of_belowV {w w' : World} (h : Below w.heap.size w w') : w.grownBy w' none := ⟨h.os, h.tape, h.output, h.size, fun k hk _ => h.block k hk⟩
/-- Blocks below B have not turned, nor any that is no row of ints. -/
structure FrI (B : Nat) (w u : World) : Prop where
  below : Below B w u
  other : ∀ (i : Nat) (cur : Array Value) (t : TypeId) (r : Nat × Nat), w.heap[i]? = some (.cells cur t r) → t ≠ 3 → u.heap[i]? = some (.cells cur t r)
theorem FrI.refl (B : Nat) (w : World) : FrI B w w := ⟨Below.refl _ _, fun _ _ _ _ h _ => h⟩
theorem FrI.trans {B : Nat} {a b c : World} (h : FrI B a b) (k : FrI B b c) : FrI B a c := ⟨h.below.trans k.below, fun i cur t r hi ht => k.other i cur t r (h.other i cur t r hi ht) ht⟩
theorem FrI.grown {B : Nat} {w u : World} (h : w.grownBy u none) (hB : B ≤ w.heap.size) : FrI B w u :=
  ⟨(Below.refl B w).grown h hB (fun k hk => by cases hk), fun i cur t r hi _ => (h.block i (lt_of_block hi) (by simp)).trans hi⟩
theorem FrI.own {B N : Nat} {w u : World} {v : Value} {xs : List Value} (h : w.grownBy u v.ownBlock) (ho : w.ownsRow B 3 1 v N xs) (hB : B ≤ w.heap.size) : FrI B w u := by
  refine ⟨(Below.refl B w).grown h hB (fun k hk => (ho.lt k hk).1), fun i cur t r hi ht => (h.block i (lt_of_block hi) ?_).trans hi⟩
  rcases ho.2 with ⟨rfl, _⟩ | ⟨g, cap, cur', rfl, _, hg, _⟩
  · simp [Value.ownBlock]
  · simp only [Value.ownBlock]
    intro e
    injection e with e
    subst e
    rw [hg] at hi
    injection hi with hi
    injection hi with _ h2
    exact ht h2.symm
theorem FrI.three {B g : Nat} {w u : World} {t : TypeId} {c0 c1 c2 : Value} (f : FrI B w u) (h : w.heap[g]? = some (.cells #[c0, c1, c2] t (0, 0))) (ht : t ≠ 3) : u.heap[g]? = some (.cells #[c0, c1, c2] t (0, 0)) := f.other _ _ _ _ h ht

/-- A row of ints of our own, from block B on, or none. -/
def OwI (B : Nat) (w : World) (a : Option Addr) (n c : Nat) (zs : List Int) : Prop := w.ownsRow B 3 1 (.slice a n c) n (valsI zs) ∧ zs.length = n
theorem OwI.reads {B n c : Nat} {w : World} {a : Option Addr} {zs : List Int} (h : OwI B w a n c zs) : ReadsI w a n zs := by
  obtain ⟨h, hl⟩ := h
  rcases h.2 with ⟨_, h0⟩ | ⟨g, cap, cur, e, _, hg, hn, _, hs, ht⟩
  · exact ⟨hl, .inl h0⟩
  · injection e with e1 e2 e3
    subst e1
    have hr : RowI w 3 g cap zs := ⟨cur, hg, by omega, by rw [hl]; simpa using ht, by omega⟩
    exact hr.reads' hl
theorem OwI.kept {B n c : Nat} {w u : World} {a : Option Addr} {zs : List Int} (h : OwI B w a n c zs) (hg : w.grownBy u none) : OwI B u a n c zs := ⟨h.1.kept hg (Classical.em _), h.2⟩
theorem OwI.of {B n c : Nat} {w u : World} {a : Option Addr} {zs : List Int} (h : OwI B w a n c zs) (hg : ∀ g cur, w.heap[g]? = some (.cells cur 3 (0, 0)) → some g = (Value.slice a n c).ownBlock → u.heap[g]? = w.heap[g]?) : OwI B u a n c zs := by
  obtain ⟨⟨h1, h⟩, hl⟩ := h
  refine ⟨⟨h1, ?_⟩, hl⟩
  rcases h with h | ⟨g, cap, cur, e, hB, hc, r⟩
  · exact .inl h
  · have e2 := hg g cur hc (by rw [e]; rfl)
    exact .inr ⟨g, cap, cur, e, hB, by rw [e2]; exact hc, r⟩
theorem OwI.mono {B B' n c : Nat} {w : World} {a : Option Addr} {zs : List Int} (h : OwI B w a n c zs) (hB : B' ≤ B) : OwI B' w a n c zs := by
  obtain ⟨⟨h1, h⟩, hl⟩ := h
  refine ⟨⟨h1, ?_⟩, hl⟩
  rcases h with h | ⟨g, cap, cur, e, hb, r⟩
  · exact .inl h
  · exact .inr ⟨g, cap, cur, e, Nat.le_trans hB hb, r⟩
theorem OwI.lt {B n c : Nat} {w : World} {a : Option Addr} {zs : List Int} (h : OwI B w a n c zs) : ∀ g, (Value.slice a n c).ownBlock = some g → B ≤ g ∧ g < w.heap.size := fun g hg => h.1.lt g hg
theorem OwI.nil (B : Nat) (w : World) : OwI B w none 0 0 [] := ⟨⟨rfl, .inl ⟨rfl, rfl⟩⟩, rfl⟩
theorem OwI.tn {B n c : Nat} {w u : World} {a : Option Addr} {zs : List Int} {bs : List Nat} (h : OwI B w a n c zs) (ht : Tn w u bs) (hb : ∀ g ∈ bs, ∃ cur, w.heap[g]? = some (.cells cur 60 (0, 0))) : OwI B u a n c zs :=
  h.of fun g cur hc _ => ht.block g (lt_of_block hc) (fun hm => by
    obtain ⟨cur', hc'⟩ := hb g hm
    rw [hc] at hc'
    injection hc' with hc'
    injection hc' with _ h2
    exact absurd h2 (by decide))
/-- Marks on a row leave every other row as it was. -/
theorem OwI.far {B B' n n' c c' : Nat} {w u : World} {a a' : Option Addr} {zs : List Int} (h : OwI B w a n c zs) (hg : w.grownBy u (Value.slice a' n' c').ownBlock) (hne : ∀ g, (Value.slice a n c).ownBlock = some g → (Value.slice a' n' c').ownBlock ≠ some g) : OwI B u a n c zs :=
  h.of fun g cur hc hb => hg.block g (lt_of_block hc) (fun e => hne g hb.symm e.symm)

/-- A block that is no row of ints is far from one that is. -/
theorem OwI.box {B n c p : Nat} {w u : World} {a : Option Addr} {zs : List Int} {cur : Array Value} {t : TypeId} {r : Nat × Nat} (h : OwI B w a n c zs) (hg : w.grownBy u (Value.slice a n c).ownBlock) (hp : w.heap[p]? = some (.cells cur t r)) (ht : t ≠ 3) : u.heap[p]? = some (.cells cur t r) := by
  refine (hg.block p (lt_of_block hp) (fun e => ?_)).trans hp
  rcases h.1.2 with ⟨e1, _⟩ | ⟨g, cap, cur', e1, _, hc, _⟩
  · rw [e1] at e; cases e
  · rw [e1] at e
    injection e with e
    subst e
    rw [hc] at hp
    injection hp with hp
    injection hp with _ h2
    exact ht h2.symm
theorem OwI.grown {A B n c : Nat} {v w u : World} {a : Option Addr} {zs : List Int} (h : OwI B w a n c zs) (hg : w.grownBy u (Value.slice a n c).ownBlock) (h0 : v.grownBy w none) (hA : v.heap.size ≤ B) : v.grownBy u none :=
  ⟨hg.os.trans h0.os, hg.tape.trans h0.tape, hg.output.trans h0.output, Nat.le_trans h0.size hg.size, fun i hi _ => (hg.block i (Nat.lt_of_lt_of_le hi h0.size) (fun e => by have := (h.lt i e.symm).1; omega)).trans (h0.block i hi (by simp))⟩

theorem SlO.blkV {w : World} {t : TypeId} {f : F} {a : Option Addr} {l c : Nat} {bs : List Nat} (h : SlO w t a l c f bs) : ∀ g ∈ bs, ∃ cur, w.heap[g]? = some (.cells cur t (0, 0)) := by
  have key : ∀ (f : F) (b off : Nat) (bs : List Nat), OwnF w t f b off bs → ∀ g ∈ bs, ∃ cur, w.heap[g]? = some (.cells cur t (0, 0)) := by
    intro f
    induction f with
    | nil => intro b off bs h g hg; rw [show bs = [] from h] at hg; simp at hg
    | cons k n d r ihd ihr =>
      intro b off bs h g hg
      obtain ⟨bs1, bs2, rfl, ⟨a, l, c, h0, h1, h2, h3, h4, h5, h6⟩, hr⟩ := h
      rcases List.mem_append.1 hg with hg | hg
      · rcases h6 with ⟨_, rfl⟩ | ⟨g', bs', _, _, rfl, ⟨cur, hb, _⟩, h6⟩
        · simp at hg
        · rcases List.mem_cons.1 hg with rfl | hg
          · exact ⟨cur, hb⟩
          · exact ihd _ _ _ h6 g hg
      · exact ihr _ _ _ hr g hg
  obtain ⟨h1, h2, h3, h4⟩ := h
  intro g hg
  rcases h4 with ⟨_, rfl⟩ | ⟨g', bs', _, _, rfl, ⟨cur, hb, _⟩, h6⟩
  · simp at hg
  · rcases List.mem_cons.1 hg with rfl | hg
    · exact ⟨cur, hb⟩
    · exact key _ _ _ _ h6 g hg
theorem infoV : (Tryz.prog.info? 3).map (fun i => (i.zero, i.size, i.bytes)) = some (some (.int .i64 0), 1, 8) := by kernel_rfl
theorem newsV {w : World} {b off n : Nat} {zs : List Int} (hl : zs.length = n) (hc : ∀ i, i < n → w.cell? ⟨b, off + i, none⟩ = some (.int .i64 (zs.getD i 0))) : ∀ j u, (valsI zs)[j]? = some u → w.cell? ((⟨b, off, none⟩ : Addr).add j) = some u := by
  intro j u hu
  have hj : j < zs.length := by
    have := (List.getElem?_eq_some_iff.1 hu).1; simpa [valsI] using this
  have e : (valsI zs)[j]? = some (.int .i64 (zs.getD j 0)) := by simp [valsI, hj]
  rw [e] at hu
  rw [Go.WideShapes.add_plain, hc j (by omega), hu]
theorem oneV (zs : List Int) : ∀ u ∈ valsI zs, u.oneCell' = true := by
  intro u hu
  simp only [valsI, List.mem_map] at hu
  obtain ⟨x, _, rfl⟩ := hu
  rfl
theorem run_appI {P : Program} {w : World} (t ty : TypeId) (B : Nat) (i : TypeInfo) (z : Value) (ht : P.underlying t = some (.slice 3)) (hi : P.info? 3 = some i) (hz : i.zero = some z)
    (hsize : i.size = 1) (hby : i.bytes = 8) (hzs : z.cells.size = 1) (v : Value) (n : Nat) (zs : List Int) (hown : w.ownsRow B 3 1 v n (valsI zs)) (src : Option Addr) (m c : Nat) (ys : List Int)
    (hr : ReadsI w src m ys) (hn : src = none → c = 0) (hm : n + m ≤ 1048576) (hB : B ≤ w.heap.size) :
    ∃ v' w', (Builtin.append_ #[t, t] ty #[v, .slice src m c]).run P w = .ok v' w' ∧ w'.ownsRow B 3 1 v' (n + m) (valsI (zs ++ ys)) ∧ w.grownBy w' v.ownBlock ∧ (v' = .slice none 0 0 ↔ v = .slice none 0 0 ∧ m = 0) := by
  obtain ⟨hl, hr⟩ := hr
  cases src with
  | none =>
    obtain rfl := hn rfl
    obtain rfl : m = 0 := by
      rcases hr with h | ⟨_, _, h, _⟩
      · exact h
      · cases h
    obtain rfl : ys = [] := List.eq_nil_of_length_eq_zero (by omega)
    exact ⟨v, w, run_append_owned_none (P := P) (w := w) B t ty 3 i 1 ht hi v n _ hown, by simpa using hown, World.grownBy.refl _ _, by simp⟩
  | some ad =>
    have hnews : ∀ j u, (valsI ys)[j]? = some u → w.cell? (ad.add j) = some u := by
      rcases hr with h | ⟨b, off, h, hc⟩
      · have : ys = [] := List.eq_nil_of_length_eq_zero (by omega)
        subst this
        intro j u hu; simp [valsI] at hu
      · cases h; exact newsV hl hc
    obtain ⟨v', w', h1, h2, h3, h4⟩ := run_append_own (P := P) w B t ty 3 i z 1 8 ht hi hz hsize hby hzs (by decide) v n (valsI zs) hown ad m c (valsI ys) (by simp [valsI, hl]) hnews (oneV ys) (by simp [maxLen]; omega) (by omega) hB
    exact ⟨v', w', h1, by simpa [valsI] using h2, h3, h4⟩
theorem wpList_appI {P : Program} {w : World} {ops : Array Oper} {rest : List Oper} {o : Oper} {ac : Act} {Q : Exit → Act → World → Prop}
    (hg : o.guard = none) (s x : Operand) (t : TypeId) (ho : o.op = .call { callee := .builtin .append, args := #[s, x], argTypes := #[t, t] })
    (B : Nat) (i : TypeInfo) (z : Value) (ht : P.underlying t = some (.slice 3)) (hi : P.info? 3 = some i) (hz : i.zero = some z) (hsize : i.size = 1) (hby : i.bytes = 8) (hzs : z.cells.size = 1)
    (v : Value) (n : Nat) (zs : List Int) (hs : ac.eval s = v) (hown : w.ownsRow B 3 1 v n (valsI zs)) (src : Option Addr) (m c : Nat) (ys : List Int) (hx : ac.eval x = .slice src m c) (hr : ReadsI w src m ys) (hn : src = none → c = 0) (hm : n + m ≤ 1048576) (hB : B ≤ w.heap.size)
    (H : ∀ v' w', w'.ownsRow B 3 1 v' (n + m) (valsI (zs ++ ys)) → w.grownBy w' v.ownBlock → (v' = .slice none 0 0 ↔ v = .slice none 0 0 ∧ m = 0) → wpList P ops Q rest (ac.put o.dst v') w') :
    wpList P ops Q (o :: rest) ac w := by
  refine wpList_plain hg fun K hK => ?_
  obtain ⟨v', w', hr', h2, h3, h4⟩ := run_appI (P := P) (w := w) t o.type B i z ht hi hz hsize hby hzs v n zs hown src m c ys hr hn hm hB
  unfold Oper.wp execOp
  simp only [ho, resolve, invoke, builtin, Sem.run_bind, Sem.run_pure, Result.andThen_ok, List.map_toArray, List.map_cons, List.map_nil, hs, hx, hr']
  exact hK _ _ (H v' w' h2 h3 h4)
theorem readsOne (w : World) (x : Int) (t : TypeId) : ReadsI (w.alloc (.cells #[.int .i64 x] t)) (some ⟨w.heap.size, 0, none⟩) 1 [x] := by
  refine ⟨rfl, .inr ⟨_, _, rfl, fun i hi => ?_⟩⟩
  obtain rfl : i = 0 := by omega
  have hb := heap_alloc_new w (.cells #[.int .i64 x] t)
  unfold World.cell?
  rw [hb]
  rfl
/-- No kind but 7 has the shape of a variable. -/
theorem notVar {k : Int} (h : k ≠ 7) (w : World) : Sem.run Tryz.prog (Instr.typeAssert (shpV k) 172 175 true) w = .ok (.tuple #[.agg #[], .bool false]) w := by
  unfold shpV
  by_cases h6 : k = 6
  · rw [if_pos h6]; exact asVarData w
  · rw [if_neg h6, if_neg h]
    by_cases hx : k < 0 ∨ 7 < k
    · rw [if_pos hx]; exact asVarNo w
    · rw [if_neg hx]; exact asVarFix _ w
/-- What a row of our own is. -/
theorem ownsV {B n : Nat} {w : World} {v : Value} {zs : List Int} (h : w.ownsRow B 3 1 v n (valsI zs)) : zs.length = n ∧ ∃ a c, v = .slice a n c ∧ OwI B w a n c zs := by
  have hl : zs.length = n := by have := h.1; simpa [valsI] using this
  refine ⟨hl, ?_⟩
  rcases h.2 with ⟨rfl, h0⟩ | ⟨g, cap, cur, rfl, _⟩
  · subst h0; exact ⟨none, 0, rfl, h, hl⟩
  · exact ⟨_, _, rfl, h, hl⟩
end Go.Proofs.YtpdkgmagjhibkaaGreatDoor.By
