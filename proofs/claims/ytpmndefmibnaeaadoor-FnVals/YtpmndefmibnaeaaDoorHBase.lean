/-
  Plain facts for this seat's proofs: what it is that a slice of whole numbers (or of records of them, laid flat) reads in a world, and that a block of them is owned. No statement is proved here.
-/
import Derived.Test.YtpmndefmibnaeaaDoorBase
namespace Go.Proofs.YtpmndefmibnaeaaDoor.By
open Go.RowKit

/-- The numbers as values of the kind int. -/
def valsI (zs : List Int) : List Value := zs.map (Value.int .i64)
/-- From address a on k cells read zs. -/
def ReadsI (w : World) (a : Option Addr) (k : Nat) (zs : List Int) : Prop :=
  zs.length = k ∧ (k = 0 ∨ ∃ b off, a = some ⟨b, off, none⟩ ∧ ∀ i, i < k → w.cell? ⟨b, off + i, none⟩ = some (.int .i64 (zs.getD i 0)))
/-- Block g is a row of cap cells of our own, the first of which are zs. -/
def RowI (w : World) (t : TypeId) (g cap : Nat) (zs : List Int) : Prop :=
  ∃ cur, w.heap[g]? = some (.cells cur t (0, 0)) ∧ cur.size = cap ∧ cur.toList.take zs.length = valsI zs ∧ zs.length ≤ cap

theorem RowI.lt {w : World} {t : TypeId} {g cap : Nat} {zs : List Int} (h : RowI w t g cap zs) : g < w.heap.size := by
  obtain ⟨cur, hc, _⟩ := h; exact lt_of_block hc
theorem RowI.len {w : World} {t : TypeId} {g cap : Nat} {zs : List Int} (h : RowI w t g cap zs) : zs.length ≤ cap := by
  obtain ⟨cur, hc, _, _, h⟩ := h; exact h
theorem RowI.of_block {w w' : World} {t : TypeId} {g cap : Nat} {zs : List Int} (h : RowI w t g cap zs) (e : w'.heap[g]? = w.heap[g]?) : RowI w' t g cap zs := by
  obtain ⟨cur, hc, r⟩ := h; exact ⟨cur, by rw [e]; exact hc, r⟩
theorem RowI.kept {w w' : World} {t : TypeId} {g cap : Nat} {zs : List Int} {row : Option Nat} (h : RowI w t g cap zs) (hg : w.grownBy w' row) (hne : some g ≠ row) : RowI w' t g cap zs :=
  h.of_block (hg.block g h.lt hne)
theorem RowI.free {w : World} {t : TypeId} {g cap : Nat} {zs : List Int} (h : RowI w t g cap zs) (j : Nat) : w.frozen? ⟨g, j, none⟩ = false := by
  obtain ⟨cur, hc, _⟩ := h; exact frozen_of_row w g j cur t hc
theorem RowI.cell {w : World} {t : TypeId} {g cap : Nat} {zs : List Int} (h : RowI w t g cap zs) (j : Nat) (hj : j < zs.length) : w.cell? ⟨g, j, none⟩ = some (.int .i64 (zs.getD j 0)) := by
  obtain ⟨cur, hc, _, ht, _⟩ := h
  rw [cell_of_row w g j cur t (0, 0) hc]
  have h1 : (cur.toList.take zs.length)[j]? = cur.toList[j]? := by rw [List.getElem?_take]; simp [hj]
  rw [ht] at h1
  rw [← Array.getElem?_toList, ← h1]
  simp [valsI, hj]
theorem RowI.reads {w : World} {t : TypeId} {g cap : Nat} {zs : List Int} (h : RowI w t g cap zs) : ReadsI w (some ⟨g, 0, none⟩) zs.length zs :=
  ⟨rfl, .inr ⟨g, 0, rfl, fun i hi => by simpa using h.cell i hi⟩⟩
theorem RowI.reads' {w : World} {t : TypeId} {g cap n : Nat} {zs : List Int} (h : RowI w t g cap zs) (hn : zs.length = n) : ReadsI w (some ⟨g, 0, none⟩) n zs := by subst hn; exact h.reads
theorem ReadsI.kept {w w' : World} {a : Option Addr} {n : Nat} {zs : List Int} {row : Option Nat} (h : ReadsI w a n zs) (hg : w.grownBy w' row) (hne : ∀ x, a = some x → x.block < w.heap.size → some x.block ≠ row) : ReadsI w' a n zs := by
  refine ⟨h.1, ?_⟩
  rcases h.2 with h0 | ⟨b, off, rfl, hc⟩
  · exact .inl h0
  · by_cases hn : n = 0
    · exact .inl hn
    · refine .inr ⟨b, off, rfl, fun i hi => hg.cell (hc i hi) (hne ⟨b, off, Option.none⟩ rfl (by have := block_lt_of_cell (hc i hi); exact this))⟩
theorem ReadsI.none {w w' : World} {a : Option Addr} {n : Nat} {zs : List Int} (h : ReadsI w a n zs) (hg : w.grownBy w' Option.none) : ReadsI w' a n zs := h.kept hg (fun _ _ _ => by simp)
/-- A store into an own row. -/
theorem RowI.store {w : World} {t : TypeId} {g cap : Nat} {zs : List Int} (h : RowI w t g cap zs) (j : Nat) (x : Int) : RowI (w.setCell ⟨g, j, none⟩ (.int .i64 x)) t g cap (zs.set j x) := by
  obtain ⟨cur, hc, hs, ht, hl⟩ := h
  refine ⟨cur.set! j (.int .i64 x), heap_setCell_same w g j cur t _ hc, by simp [hs], ?_, by simpa using hl⟩
  simp only [List.length_set, valsI, List.map_set, Array.set!_eq_setIfInBounds, Array.toList_setIfInBounds]
  rw [List.take_set, ht]; rfl
/-- What 'mark' writes: k, k + 1, .. -/
def marksI (k : Int) (n : Nat) : List Int := (List.range n).map (fun (i : Nat) => k + (i : Int))
theorem marksI_len (k : Int) (n : Nat) : (marksI k n).length = n := by simp [marksI]
theorem marksI_get (k : Int) (n j : Nat) (h : j < n) : (marksI k n).getD j 0 = k + (j : Int) := by simp [marksI, h]
/-- The first j turned into marks, the rest as it was. -/
def halfI (zs : List Int) (k : Int) (j : Nat) : List Int := marksI k j ++ zs.drop j
theorem halfI_len (zs : List Int) (k : Int) (j : Nat) (h : j ≤ zs.length) : (halfI zs k j).length = zs.length := by simp [halfI, marksI_len]; omega
theorem halfI_zero (zs : List Int) (k : Int) : halfI zs k 0 = zs := by simp [halfI, marksI]
theorem halfI_all (zs : List Int) (k : Int) : halfI zs k zs.length = marksI k zs.length := by simp [halfI]
theorem halfI_step (zs : List Int) (k : Int) (j : Nat) (h : j < zs.length) : (halfI zs k j).set j (k + (j : Int)) = halfI zs k (j + 1) := by
  have h1 : (marksI k j).length = j := marksI_len k j
  unfold halfI
  rw [List.set_append_right j _ (by omega), h1, Nat.sub_self, List.drop_eq_getElem_cons h, List.set_cons_zero]
  have h2 : marksI k (j + 1) = marksI k j ++ [k + (j : Int)] := by simp [marksI, List.range_succ]
  rw [h2, List.append_assoc, List.singleton_append]
/-- Block g holds zs from off on, and is our own. -/
def RowAt (w : World) (t : TypeId) (g off : Nat) (zs : List Int) : Prop :=
  ∃ cur, w.heap[g]? = some (.cells cur t (0, 0)) ∧ ∀ i, i < zs.length → cur[off + i]? = some (.int .i64 (zs.getD i 0))
theorem RowAt.lt {w : World} {t : TypeId} {g off : Nat} {zs : List Int} (h : RowAt w t g off zs) : g < w.heap.size := by
  obtain ⟨cur, hc, _⟩ := h; exact lt_of_block hc
theorem RowAt.kept {w w' : World} {t : TypeId} {g off : Nat} {zs : List Int} {row : Option Nat} (h : RowAt w t g off zs) (hg : w.grownBy w' row) (hne : some g ≠ row) : RowAt w' t g off zs := by
  have e := hg.block g h.lt hne
  obtain ⟨cur, hc, r⟩ := h; exact ⟨cur, by rw [e]; exact hc, r⟩
theorem RowAt.free {w : World} {t : TypeId} {g off : Nat} {zs : List Int} (h : RowAt w t g off zs) (j : Nat) : w.frozen? ⟨g, j, none⟩ = false := by
  obtain ⟨cur, hc, _⟩ := h; exact frozen_of_row w g j cur t hc
theorem RowAt.cell {w : World} {t : TypeId} {g off : Nat} {zs : List Int} (h : RowAt w t g off zs) (j : Nat) (hj : j < zs.length) : w.cell? ⟨g, off + j, none⟩ = some (.int .i64 (zs.getD j 0)) := by
  obtain ⟨cur, hc, hr⟩ := h
  rw [cell_of_row w g _ cur t (0, 0) hc]; exact hr j hj
theorem RowAt.store {w : World} {t : TypeId} {g off : Nat} {zs : List Int} (h : RowAt w t g off zs) (j : Nat) (x : Int) : RowAt (w.setCell ⟨g, off + j, none⟩ (.int .i64 x)) t g off (zs.set j x) := by
  obtain ⟨cur, hc, hr⟩ := h
  refine ⟨cur.set! (off + j) (.int .i64 x), heap_setCell_same w g _ cur t _ hc, fun i hi => ?_⟩
  rw [List.length_set] at hi
  have hin : off + i < cur.size := (Array.getElem?_eq_some_iff.1 (hr i hi)).1
  rw [Array.set!_eq_setIfInBounds, List.getD_eq_getElem?_getD]
  by_cases e : j = i
  · subst e; simp [hi, hin]
  · rw [Array.getElem?_setIfInBounds_ne (by omega), List.getElem?_set_ne e, ← List.getD_eq_getElem?_getD]; exact hr i hi
theorem RowI.at {w : World} {t : TypeId} {g cap : Nat} {zs : List Int} (h : RowI w t g cap zs) : RowAt w t g 0 zs := by
  have hcell := h.cell
  obtain ⟨cur, hc, hr⟩ := h
  refine ⟨cur, hc, fun i hi => ?_⟩
  have := hcell i hi
  rw [cell_of_row w g i cur t (0, 0) hc] at this
  simpa using this
/-- k cells from a on are our own, in block g, and hold zs. -/
def OwnI (w : World) (t : TypeId) (g : Nat) (a : Option Addr) (k : Nat) (zs : List Int) : Prop :=
  zs.length = k ∧ (k = 0 ∨ ∃ off, a = some ⟨g, off, none⟩ ∧ RowAt w t g off zs)
theorem RowI.own {w : World} {t : TypeId} {g cap n : Nat} {zs : List Int} (h : RowI w t g cap zs) (hn : zs.length = n) : OwnI w t g (some ⟨g, 0, none⟩) n zs := ⟨hn, .inr ⟨0, rfl, h.at⟩⟩
theorem OwnI.reads {w : World} {t : TypeId} {g k : Nat} {a : Option Addr} {zs : List Int} (h : OwnI w t g a k zs) : ReadsI w a k zs := by
  obtain ⟨hl, h⟩ := h
  refine ⟨hl, ?_⟩
  rcases h with h | ⟨off, rfl, hr⟩
  · exact .inl h
  · exact .inr ⟨g, off, rfl, fun i hi => hr.cell i (by omega)⟩
theorem OwnI.kept {w w' : World} {t : TypeId} {g k : Nat} {a : Option Addr} {zs : List Int} {row : Option Nat} (h : OwnI w t g a k zs) (hg : w.grownBy w' row) (hne : some g ≠ row) : OwnI w' t g a k zs := by
  obtain ⟨hl, h⟩ := h
  refine ⟨hl, ?_⟩
  rcases h with h | ⟨off, rfl, hr⟩
  · exact .inl h
  · exact .inr ⟨off, rfl, hr.kept hg hne⟩
theorem OwnI.lt {w : World} {t : TypeId} {g k : Nat} {a : Option Addr} {zs : List Int} (h : OwnI w t g a k zs) : k = 0 ∨ g < w.heap.size := by
  rcases h.2 with h | ⟨off, _, hr⟩
  · exact .inl h
  · exact .inr hr.lt
/-- The block that is written when there are n cells: none when there is none. -/
def tgt (n g : Nat) : Option Nat := if n = 0 then none else some g
theorem tgt_ne {n g k : Nat} (h : n = 0 ∨ k ≠ g) : some k ≠ tgt n g := by
  unfold tgt
  split
  · simp
  · simp; omega
theorem OwnI.empty (w : World) (t : TypeId) (g : Nat) (a : Option Addr) : OwnI w t g a 0 [] := ⟨rfl, .inl rfl⟩
theorem grown_alloc {a w : World} (h : a.grownBy w Option.none) (o : Obj) : a.grownBy (w.alloc o) Option.none := grown_trans h (World.grownBy_alloc _ _ _)
theorem grown_drew {a w : World} (h : a.grownBy w Option.none) : a.grownBy w.drew Option.none := grown_trans h (grown_drewN w 1 _)
theorem grown_qN {a w : World} (h : a.grownBy w Option.none) (n : Nat) : a.grownBy (w.drewN n) Option.none := grown_trans h (grown_drewN w n _)
theorem alloc3_blocks (w : World) (A B C : Obj) : (((w.alloc A).alloc B).alloc C).heap[w.heap.size]? = some A ∧ (((w.alloc A).alloc B).alloc C).heap[w.heap.size + 1]? = some B ∧ (((w.alloc A).alloc B).alloc C).heap[w.heap.size + 1 + 1]? = some C ∧ (((w.alloc A).alloc B).alloc C).heap.size = w.heap.size + 1 + 1 + 1 := by
  have e1 : (w.alloc A).heap.size = w.heap.size + 1 := by simp
  have e2 : ((w.alloc A).alloc B).heap.size = w.heap.size + 1 + 1 := by simp
  refine ⟨?_, ?_, ?_, by simp⟩
  · rw [heap_alloc_old _ _ (by omega), heap_alloc_old _ _ (by omega)]; exact heap_alloc_new w A
  · rw [heap_alloc_old _ _ (by omega)]; have := heap_alloc_new (w.alloc A) B; rw [e1] at this; exact this
  · have := heap_alloc_new ((w.alloc A).alloc B) C; rw [e2] at this; exact this
/-- The cells of a block of five. -/
theorem five {w : World} {g : Nat} {t : TypeId} {c0 c1 c2 c3 c4 : Value} (h : w.heap[g]? = some (.cells #[c0, c1, c2, c3, c4] t (0, 0))) :
    (w.cell? ⟨g, 0, none⟩ = some c0 ∧ w.cell? ⟨g, 1, none⟩ = some c1 ∧ w.cell? ⟨g, 2, none⟩ = some c2 ∧ w.cell? ⟨g, 3, none⟩ = some c3 ∧ w.cell? ⟨g, 4, none⟩ = some c4) ∧ (w.frozen? ⟨g, 0, none⟩ = false ∧ w.frozen? ⟨g, 1, none⟩ = false ∧ w.frozen? ⟨g, 2, none⟩ = false ∧ w.frozen? ⟨g, 3, none⟩ = false ∧ w.frozen? ⟨g, 4, none⟩ = false) := by
  refine ⟨⟨?_, ?_, ?_, ?_, ?_⟩, frozen_of_row w g _ _ t h, frozen_of_row w g _ _ t h, frozen_of_row w g _ _ t h, frozen_of_row w g _ _ t h, frozen_of_row w g _ _ t h⟩ <;> (rw [cell_of_row w g _ _ t (0, 0) h]; rfl)
theorem grown_into {a w w' : World} {p : Nat} (h : a.grownBy w Option.none) (k : w.grownBy w' (some p)) (hp : a.heap.size ≤ p) : a.grownBy w' Option.none :=
  ⟨k.os.trans h.os, k.tape.trans h.tape, k.output.trans h.output, Nat.le_trans h.size k.size, fun i hi _ => (k.block i (Nat.lt_of_lt_of_le hi h.size) (by simp; omega)).trans (h.block i hi (by simp))⟩
theorem fill4 {w : World} {p : Nat} {t : TypeId} {c0 c1 c2 c3 c4 : Value} (v0 v1 v2 v3 : Value) (h : w.heap[p]? = some (.cells #[c0, c1, c2, c3, c4] t (0, 0))) :
    ((((w.setCell ⟨p, 0, none⟩ v0).setCell ⟨p, 1, none⟩ v1).setCell ⟨p, 2, none⟩ v2).setCell ⟨p, 3, none⟩ v3).heap[p]? = some (.cells #[v0, v1, v2, v3, c4] t (0, 0)) ∧ w.grownBy ((((w.setCell ⟨p, 0, none⟩ v0).setCell ⟨p, 1, none⟩ v1).setCell ⟨p, 2, none⟩ v2).setCell ⟨p, 3, none⟩ v3) (some p) :=
  ⟨heap_setCell_same _ p 3 _ t _ (heap_setCell_same _ p 2 _ t _ (heap_setCell_same _ p 1 _ t _ (heap_setCell_same w p 0 _ t _ h))), grown_trans (grown_trans (grown_trans (grown_setCell _ _ _ _) (grown_setCell _ _ _ _)) (grown_setCell _ _ _ _)) (grown_setCell _ _ _ _)⟩
theorem fill5 {w : World} {p : Nat} {t : TypeId} {c0 c1 c2 c3 c4 : Value} (v0 v1 v2 v3 v4 : Value) (h : w.heap[p]? = some (.cells #[c0, c1, c2, c3, c4] t (0, 0))) :
    (((((w.setCell ⟨p, 0, none⟩ v0).setCell ⟨p, 1, none⟩ v1).setCell ⟨p, 2, none⟩ v2).setCell ⟨p, 3, none⟩ v3).setCell ⟨p, 4, none⟩ v4).heap[p]? = some (.cells #[v0, v1, v2, v3, v4] t (0, 0)) ∧ w.grownBy (((((w.setCell ⟨p, 0, none⟩ v0).setCell ⟨p, 1, none⟩ v1).setCell ⟨p, 2, none⟩ v2).setCell ⟨p, 3, none⟩ v3).setCell ⟨p, 4, none⟩ v4) (some p) :=
  ⟨heap_setCell_same _ p 4 _ t _ (fill4 v0 v1 v2 v3 h).1, grown_trans (fill4 v0 v1 v2 v3 h).2 (grown_setCell _ _ _ _)⟩
/-- What a heap is that may be: half, how many words, low, next, how many accesses. -/
def okB (half : Int) (n : Nat) (low next : Int) (m : Nat) : Bool :=
  decide (16 ≤ half) && decide (half ≤ 4096) && decide ((n : Int) = 2 * half) && decide (m ≤ 4000) && (decide (low = 0) || decide (low = half)) && decide (low ≤ next) && decide (next ≤ low + half)
end Go.Proofs.YtpmndefmibnaeaaDoor.By
