/-
  Plain facts for this seat's proofs: what it is that a slice value reads as bytes in a world, and that a block of bytes is owned. No statement is proved here.
-/
import Derived.WalkKit
import Derived.ProofKit
import Derived.WalkSpells
import Derived.Below
import Derived.OneCell
import Derived.WalkSmall
import Derived.OpenShut
namespace Go.Proofs.YtpmndefmibnaeaaDoor.By
open Go.RowKit

/-- The numbers as values of the kind uint8. -/
def vals (zs : List Int) : List Value := zs.map (Value.int .u8)
/-- Bytes: each in 0 .. 255. -/
def Byt (zs : List Int) : Prop := ∀ z ∈ zs, 0 ≤ z ∧ z ≤ 255
/-- A slice at address a of n elements reads zs. -/
def Reads (w : World) (a : Option Addr) (n : Nat) (zs : List Int) : Prop :=
  zs.length = n ∧ (n = 0 ∨ ∃ b off, a = some ⟨b, off, none⟩ ∧ ∀ i, i < n → w.cell? ⟨b, off + i, none⟩ = some (.int .u8 (zs.getD i 0)))
/-- Block g is a row of cap bytes of our own, the first of which are zs. -/
def Row (w : World) (g cap : Nat) (zs : List Int) : Prop :=
  ∃ cur, w.heap[g]? = some (.cells cur 5 (0, 0)) ∧ cur.size = cap ∧ cur.toList.take zs.length = vals zs ∧ zs.length ≤ cap

theorem byt_get {zs : List Int} (h : Byt zs) (k : Nat) : 0 ≤ zs[k]?.getD 0 ∧ zs[k]?.getD 0 ≤ 255 := by
  by_cases hk : k < zs.length
  · rw [List.getElem?_eq_getElem hk]; exact h _ (List.getElem_mem hk)
  · rw [List.getElem?_eq_none (by omega)]; exact ⟨by decide, by decide⟩

theorem Row.lt {w : World} {g cap : Nat} {zs : List Int} (h : Row w g cap zs) : g < w.heap.size := by
  obtain ⟨cur, hc, _⟩ := h; exact lt_of_block hc
theorem Row.len {w : World} {g cap : Nat} {zs : List Int} (h : Row w g cap zs) : zs.length ≤ cap := by
  obtain ⟨cur, hc, _, _, h⟩ := h; exact h
theorem Row.of_block {w w' : World} {g cap : Nat} {zs : List Int} (h : Row w g cap zs) (e : w'.heap[g]? = w.heap[g]?) : Row w' g cap zs := by
  obtain ⟨cur, hc, r⟩ := h; exact ⟨cur, by rw [e]; exact hc, r⟩
theorem Row.kept {w w' : World} {g cap : Nat} {zs : List Int} {row : Option Nat} (h : Row w g cap zs) (hg : w.grownBy w' row) (hne : some g ≠ row) : Row w' g cap zs :=
  h.of_block (hg.block g h.lt hne)
theorem Row.free {w : World} {g cap : Nat} {zs : List Int} (h : Row w g cap zs) (j : Nat) : w.frozen? ⟨g, j, none⟩ = false := by
  obtain ⟨cur, hc, _⟩ := h; exact frozen_of_row w g j cur 5 hc
theorem Row.cell {w : World} {g cap : Nat} {zs : List Int} (h : Row w g cap zs) (j : Nat) (hj : j < zs.length) : w.cell? ⟨g, j, none⟩ = some (.int .u8 (zs.getD j 0)) := by
  obtain ⟨cur, hc, _, ht, _⟩ := h
  rw [cell_of_row w g j cur 5 (0, 0) hc]
  have h1 : (cur.toList.take zs.length)[j]? = cur.toList[j]? := by rw [List.getElem?_take]; simp [hj]
  rw [ht] at h1
  rw [← Array.getElem?_toList, ← h1]
  simp [vals, hj]
theorem Row.reads {w : World} {g cap : Nat} {zs : List Int} (h : Row w g cap zs) : Reads w (some ⟨g, 0, none⟩) zs.length zs :=
  ⟨rfl, .inr ⟨g, 0, rfl, fun i hi => by simpa using h.cell i hi⟩⟩
theorem Row.reads' {w : World} {g cap n : Nat} {zs : List Int} (h : Row w g cap zs) (hn : zs.length = n) : Reads w (some ⟨g, 0, none⟩) n zs := by subst hn; exact h.reads
theorem Reads.kept {w w' : World} {a : Option Addr} {n : Nat} {zs : List Int} {row : Option Nat} (h : Reads w a n zs) (hg : w.grownBy w' row) (hne : ∀ x, a = some x → x.block < w.heap.size → some x.block ≠ row) : Reads w' a n zs := by
  refine ⟨h.1, ?_⟩
  rcases h.2 with h0 | ⟨b, off, rfl, hc⟩
  · exact .inl h0
  · by_cases hn : n = 0
    · exact .inl hn
    · refine .inr ⟨b, off, rfl, fun i hi => hg.cell (hc i hi) (hne ⟨b, off, Option.none⟩ rfl (by have := block_lt_of_cell (hc i hi); exact this))⟩
theorem Reads.none {w w' : World} {a : Option Addr} {n : Nat} {zs : List Int} (h : Reads w a n zs) (hg : w.grownBy w' Option.none) : Reads w' a n zs := h.kept hg (fun _ _ _ => by simp)
theorem Reads.below {w w' : World} {a : Option Addr} {n : Nat} {zs : List Int} (h : Reads w a n zs) (hb : Below w.heap.size w w') : Reads w' a n zs := by
  refine ⟨h.1, ?_⟩
  rcases h.2 with h0 | ⟨b, off, rfl, hc⟩
  · exact .inl h0
  · refine .inr ⟨b, off, rfl, fun i hi => ?_⟩
    rw [hb.cell (p := ⟨b, off + i, Option.none⟩) (block_lt_of_cell (hc i hi))]; exact hc i hi

/-- A store into an own row. -/
theorem Row.store {w : World} {g cap : Nat} {zs : List Int} (h : Row w g cap zs) (j : Nat) (x : Int) : Row (w.setCell ⟨g, j, none⟩ (.int .u8 x)) g cap (zs.set j x) := by
  obtain ⟨cur, hc, hs, ht, hl⟩ := h
  refine ⟨cur.set! j (.int .u8 x), heap_setCell_same w g j cur 5 _ hc, by simp [hs], ?_, by simpa using hl⟩
  simp only [List.length_set, vals, List.map_set, Array.set!_eq_setIfInBounds, Array.toList_setIfInBounds]
  rw [List.take_set, ht]; rfl
theorem grown_setCell (w : World) (g j : Nat) (v : Value) : w.grownBy (w.setCell ⟨g, j, none⟩ v) (some g) :=
  ⟨rfl, rfl, rfl, by simp [World.setCell], fun k _ hk => heap_setCell_other w _ k v (by simpa using hk)⟩
theorem grown_trans {a b c : World} {row : Option Nat} (h : a.grownBy b row) (k : b.grownBy c row) : a.grownBy c row :=
  ⟨k.os.trans h.os, k.tape.trans h.tape, k.output.trans h.output, Nat.le_trans h.size k.size, fun i hi hr => (k.block i (Nat.lt_of_lt_of_le hi h.size) hr).trans (h.block i hi hr)⟩
theorem grown_drewN (w : World) (n : Nat) (row : Option Nat) : w.grownBy (w.drewN n) row := ⟨rfl, rfl, rfl, Nat.le_refl _, fun _ _ _ => rfl⟩
theorem grown_none {a b : World} (h : a.grownBy b Option.none) (row : Option Nat) : a.grownBy b row := ⟨h.os, h.tape, h.output, h.size, fun i hi _ => h.block i hi (by simp)⟩
/-- What was grown in rows of our own alone has turned nothing below. -/
theorem below_of {B : Nat} {a w w' : World} {row : Option Nat} (h : Below B a w) (hg : w.grownBy w' row) (hB : B ≤ w.heap.size) (hr : ∀ k, row = some k → B ≤ k) : Below B a w' := h.grown hg hB hr

/-- A store into a block that is new: nothing old has turned. -/
theorem grown_own {a w : World} (h : a.grownBy w Option.none) (g : Nat) (hg : a.heap.size ≤ g) (j : Nat) (v : Value) : a.grownBy (w.setCell ⟨g, j, Option.none⟩ v) Option.none :=
  ⟨h.os, h.tape, h.output, by simpa [World.setCell] using h.size, fun k hk _ => (heap_setCell_other w _ k v (by simp; omega)).trans (h.block k hk (by simp))⟩
theorem set_step (zs : List Int) (n k : Nat) (hl : zs.length = n) (hk : k < n) : (zs.take k ++ List.replicate (n - k) 0).set k (zs.getD k 0) = zs.take (k + 1) ++ List.replicate (n - (k + 1)) 0 := by
  have h1 : (zs.take k).length = k := by simp; omega
  rw [List.set_append_right k _ (by omega), h1, Nat.sub_self]
  have h2 : n - k = (n - (k + 1)) + 1 := by omega
  have h3 : zs.getD k 0 = zs[k]'(by omega) := by rw [List.getD_eq_getElem?_getD, List.getElem?_eq_getElem (by omega)]; rfl
  rw [h2, List.replicate_succ, List.set_cons_zero, List.take_succ_eq_append_getElem (by omega), h3, List.append_assoc, List.singleton_append]
/-- A row that 'make' has laid. -/
theorem made_row (w : World) (n : Nat) : Row (w.alloc (.cells (madeCells #[.int .u8 0] n) 5)) w.heap.size n (List.replicate n 0) := by
  refine ⟨_, heap_alloc_new w _, ?_, ?_, by simp⟩
  · have := congrArg List.length (toList_madeCells_one (.int .u8 0) n); simpa using this
  · rw [toList_madeCells_one]; simp [vals]
/-- What 'mark' writes: k, k + 1, .., each as a byte. -/
def marks (k : Int) (n : Nat) : List Int := (List.range n).map (fun (i : Nat) => (k + (i : Int)) % 256)
theorem marks_len (k : Int) (n : Nat) : (marks k n).length = n := by simp [marks]
theorem marks_get (k : Int) (n j : Nat) (h : j < n) : (marks k n)[j]?.getD 0 = (k + (j : Int)) % 256 := by simp [marks, h]
/-- The first j turned into marks, the rest as it was. -/
def half (zs : List Int) (k : Int) (j : Nat) : List Int := marks k j ++ zs.drop j
theorem half_len (zs : List Int) (k : Int) (j : Nat) (h : j ≤ zs.length) : (half zs k j).length = zs.length := by simp [half, marks_len]; omega
theorem half_zero (zs : List Int) (k : Int) : half zs k 0 = zs := by simp [half, marks]
theorem half_all (zs : List Int) (k : Int) : half zs k zs.length = marks k zs.length := by simp [half]
theorem half_step (zs : List Int) (k : Int) (j : Nat) (h : j < zs.length) : (half zs k j).set j ((k + (j : Int)) % 256) = half zs k (j + 1) := by
  have h1 : (marks k j).length = j := marks_len k j
  unfold half
  rw [List.set_append_right j _ (by omega), h1, Nat.sub_self, List.drop_eq_getElem_cons h, List.set_cons_zero]
  have h2 : marks k (j + 1) = marks k j ++ [(k + (j : Int)) % 256] := by simp [marks, List.range_succ]
  rw [h2, List.append_assoc, List.singleton_append]
theorem byt_replicate (n : Nat) : Byt (List.replicate n 0) := by
  intro z hz; rw [List.mem_replicate] at hz; obtain ⟨_, rfl⟩ := hz; exact ⟨by decide, by decide⟩

theorem quiet {w w' : World} (h : ∃ m, w' = w.drewN m) : w.grownBy w' Option.none := by
  obtain ⟨m, rfl⟩ := h; exact grown_drewN _ _ _
/-- What came in, as it reads. -/
theorem reads_of {w : World} {a : Option Addr} {len cap : Nat} {zs : List Int}
    (h : (a = Option.none ∧ len = 0 ∧ cap = 0 ∧ zs = []) ∨ ∃ x, a = some x ∧ len ≤ cap ∧ cap ≤ maxLen ∧ zs.length = cap ∧ (∀ i, i < zs.length → w.cell? (x.add i) = some (.int .u8 (zs.getD i 0))) ∧ ∀ n ∈ zs, (Lit.int .u8 n).wf = true) :
    ∃ ys, Reads w a len ys ∧ Byt ys := by
  rcases h with ⟨rfl, rfl, rfl, rfl⟩ | ⟨x, rfl, hl, hm, hz, hcell, hwz⟩
  · exact ⟨[], ⟨rfl, .inl rfl⟩, fun z hz => by simp at hz⟩
  · refine ⟨zs.take len, ⟨by simp; omega, ?_⟩, ?_⟩
    · by_cases h0 : len = 0
      · exact .inl h0
      · obtain ⟨b, off, spot⟩ := x
        have hc0 := hcell 0 (by omega)
        have hspot : spot = Option.none := by simpa [Addr.add] using World.cell?_spot hc0
        subst hspot
        refine .inr ⟨b, off, rfl, fun i hi => ?_⟩
        have := hcell i (by omega)
        rw [List.getD_eq_getElem?_getD, List.getElem?_take_of_lt hi, ← List.getD_eq_getElem?_getD]
        by_cases h0' : i = 0
        · subst h0'; simpa [Addr.add] using this
        · simpa [Addr.add, h0'] using this
    · intro z hz'
      exact bounds_u8 (hwz z (List.mem_of_mem_take hz'))
end Go.Proofs.YtpmndefmibnaeaaDoor.By
