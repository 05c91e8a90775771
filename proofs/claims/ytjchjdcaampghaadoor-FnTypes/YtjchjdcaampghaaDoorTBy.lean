/-
  The bytes of trees; what a growing row of bytes leaves as it was. No statement is proved here.
-/
import Derived.Test.YtjchjdcaampghaaDoorPutJJ
import Derived.Test.YtjchjdcaampghaaDoorPutS
import Derived.Test.YtjchjdcaampghaaDoorTOk
namespace Go.Proofs.YtjchjdcaampghaaDoor.By
open Go.RowKit
set_option linter.unusedVariables false

theorem InF.below {w w' : World} {f : F} {b off : Nat} (h : InF w f b off) (hb : Below w.heap.size w w') : InF w' f b off :=
  h.cells fun p v hv => by rw [hb.cell (p := p) (block_lt_of_cell hv)]; exact hv
theorem SlF.below {w w' : World} {f : F} {a : Option Addr} {l : Nat} (h : SlF w a l f) (hb : Below w.heap.size w w') : SlF w' a l f := by
  obtain ⟨h1, h2, h3⟩ := h
  refine ⟨h1, h2, ?_⟩
  rcases h3 with h3 | ⟨b, o, e, h3⟩
  · exact .inl h3
  · exact .inr ⟨b, o, e, h3.below hb⟩
/-- Blocks below B have not turned, nor any that is no row of bytes. -/
structure Fr (B : Nat) (w u : World) : Prop where
  below : Below B w u
  other : ∀ (i : Nat) (cur : Array Value) (t : TypeId) (r : Nat × Nat), w.heap[i]? = some (.cells cur t r) → t ≠ 5 → u.heap[i]? = some (.cells cur t r)
theorem Fr.refl (B : Nat) (w : World) : Fr B w w := ⟨Below.refl _ _, fun _ _ _ _ h _ => h⟩
theorem Fr.trans {B : Nat} {a b c : World} (h : Fr B a b) (k : Fr B b c) : Fr B a c := ⟨h.below.trans k.below, fun i cur t r hi ht => k.other i cur t r (h.other i cur t r hi ht) ht⟩
theorem Fr.grown {B : Nat} {w u : World} (h : w.grownBy u none) (hB : B ≤ w.heap.size) : Fr B w u :=
  ⟨(Below.refl B w).grown h hB (fun k hk => by cases hk), fun i cur t r hi _ => (h.block i (lt_of_block hi) (by simp)).trans hi⟩
theorem Fr.own {B N : Nat} {w u : World} {v : Value} {xs : List Value} (h : w.grownBy u v.ownBlock) (ho : w.ownsRow B 5 1 v N xs) (hB : B ≤ w.heap.size) : Fr B w u := by
  refine ⟨(Below.refl B w).grown h hB (own_lt ho), fun i cur t r hi ht => (h.block i (lt_of_block hi) ?_).trans hi⟩
  rcases ho.2 with ⟨rfl, _⟩ | ⟨g, cap, cur', rfl, _, hg, _⟩
  · simp [Value.ownBlock]
  · simp only [Value.ownBlock]
    intro e
    injection e with e
    subst e
    rw [hg] at hi
    injection hi with hi
    injection hi with _ h2
    exact ht h2.symm
theorem Fr.three {B g : Nat} {w u : World} {t : TypeId} {c0 c1 c2 : Value} (f : Fr B w u) (h : w.heap[g]? = some (.cells #[c0, c1, c2] t (0, 0))) (ht : t ≠ 5) : u.heap[g]? = some (.cells #[c0, c1, c2] t (0, 0)) := f.other _ _ _ _ h ht

/-- What stands ahead of the parts. -/
def headB (k n : Int) (l : Nat) : List Int := k :: (if k = 6 then numB n ++ numB (l : Int) else if k = 7 then numB n else [])
def bytesF : F → List Int
  | .nil => []
  | .cons k n d r => headB k n d.len ++ bytesF d ++ bytesF r
def tyB (k n : Int) (d : F) : List Int := headB k n d.len ++ bytesF d
theorem headB_len (k n : Int) (l : Nat) : (headB k n l).length ≤ 11 := by
  unfold headB
  have h1 := numB_len n
  have h2 := numB_len (l : Int)
  by_cases h6 : k = 6
  · rw [if_pos h6]; simp only [List.length_cons, List.length_append]; omega
  · rw [if_neg h6]
    by_cases h7 : k = 7
    · rw [if_pos h7]; simp only [List.length_cons]; omega
    · rw [if_neg h7]; simp
theorem bytesF_len (f : F) : (bytesF f).length ≤ 11 * f.size := by
  induction f with
  | nil => simp [bytesF]
  | cons k n d r ihd ihr =>
    have := headB_len k n d.len
    simp only [bytesF, List.length_append, F.size]; omega
theorem fits_range {k n : Int} {l : Nat} (h : fitsB k n l = true) : 0 ≤ k ∧ k ≤ 7 := by
  by_cases h0 : 0 ≤ k ∧ k ≤ 7
  · exact h0
  · rw [fitsx (by omega) (by omega) (by omega) (by omega) (by omega) (by omega) (by omega) (by omega)] at h; cases h
theorem headB_byt {k n : Int} {l : Nat} (h : fitsB k n l = true) : Byt (headB k n l) := by
  have hk := fits_range h
  intro z hz
  rcases List.mem_cons.1 hz with rfl | hz
  · omega
  · by_cases h6 : k = 6
    · rw [if_pos h6] at hz
      rcases List.mem_append.1 hz with hz | hz
      · exact numB_byt _ z hz
      · exact numB_byt _ z hz
    · rw [if_neg h6] at hz
      by_cases h7 : k = 7
      · rw [if_pos h7] at hz; exact numB_byt _ z hz
      · rw [if_neg h7] at hz; simp at hz
theorem bytesF_byt (f : F) : ∀ p, okF f p = true → Byt (bytesF f) := by
  induction f with
  | nil => intro p _ z hz; simp [bytesF] at hz
  | cons k n d r ihd ihr =>
    intro p h
    simp only [okF, Bool.and_eq_true] at h
    intro z hz
    simp only [bytesF, List.mem_append] at hz
    rcases hz with (hz | hz) | hz
    · exact headB_byt h.1.1.2 z hz
    · exact ihd _ h.1.2 z hz
    · exact ihr _ h.2 z hz
end Go.Proofs.YtjchjdcaampghaaDoor.By
