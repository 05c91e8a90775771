/-
  Lists of trees that are our own: each list in a block of its own, no two in one. No statement is proved here.
-/
import Derived.Test.YtpmndefmibnaeaaDoorTBase
namespace Go.Proofs.YtpmndefmibnaeaaDoor.By
open Go.RowKit
set_option linter.unusedVariables false

/-- Block g is a row of c trees' cells, our own. -/
def Blk (w : World) (t : TypeId) (g c : Nat) : Prop := ∃ cur, w.heap[g]? = some (.cells cur t (0, 0)) ∧ cur.size = c * 3
theorem Blk.lt {w : World} {t : TypeId} {g c : Nat} (h : Blk w t g c) : g < w.heap.size := by
  obtain ⟨cur, hc, _⟩ := h; exact lt_of_block hc
theorem Blk.of {w w' : World} {t : TypeId} {g c : Nat} (h : Blk w t g c) (e : w'.heap[g]? = w.heap[g]?) : Blk w' t g c := by
  obtain ⟨cur, hc, r⟩ := h; exact ⟨cur, by rw [e]; exact hc, r⟩
theorem Blk.free {w : World} {t : TypeId} {g c : Nat} (h : Blk w t g c) (j : Nat) : w.frozen? ⟨g, j, none⟩ = false := by
  obtain ⟨cur, hc, _⟩ := h; exact frozen_of_row w g j cur t hc
theorem Blk.has {w : World} {t : TypeId} {g c : Nat} (h : Blk w t g c) (j : Nat) (hj : j < c * 3) : ∃ v, w.cell? ⟨g, j, none⟩ = some v := by
  obtain ⟨cur, hc, hs⟩ := h
  rw [cell_of_row w g j cur t (0, 0) hc]
  exact ⟨_, Array.getElem?_eq_getElem (by omega)⟩
theorem cell_of_heap {w w' : World} {g j : Nat} (e : w'.heap[g]? = w.heap[g]?) : w'.cell? ⟨g, j, none⟩ = w.cell? ⟨g, j, none⟩ := by
  unfold World.cell?; simp only [e]
/-- Three cells of a block are stored. -/
theorem Blk.put3 {u : World} {t : TypeId} {g c : Nat} (h : Blk u t g c) (p : Nat) (hp : p + 2 < c * 3) (v0 v1 v2 : Value) :
    Blk (((u.setCell ⟨g, p, none⟩ v0).setCell ⟨g, p + 1, none⟩ v1).setCell ⟨g, p + 2, none⟩ v2) t g c ∧ u.grownBy (((u.setCell ⟨g, p, none⟩ v0).setCell ⟨g, p + 1, none⟩ v1).setCell ⟨g, p + 2, none⟩ v2) (some g) ∧
    ((((u.setCell ⟨g, p, none⟩ v0).setCell ⟨g, p + 1, none⟩ v1).setCell ⟨g, p + 2, none⟩ v2).cell? ⟨g, p, none⟩ = some v0 ∧ (((u.setCell ⟨g, p, none⟩ v0).setCell ⟨g, p + 1, none⟩ v1).setCell ⟨g, p + 2, none⟩ v2).cell? ⟨g, p + 1, none⟩ = some v1 ∧ (((u.setCell ⟨g, p, none⟩ v0).setCell ⟨g, p + 1, none⟩ v1).setCell ⟨g, p + 2, none⟩ v2).cell? ⟨g, p + 2, none⟩ = some v2) ∧
    ∀ q, (q < p ∨ p + 2 < q) → (((u.setCell ⟨g, p, none⟩ v0).setCell ⟨g, p + 1, none⟩ v1).setCell ⟨g, p + 2, none⟩ v2).cell? ⟨g, q, none⟩ = u.cell? ⟨g, q, none⟩ := by
  obtain ⟨cur, hc, hs⟩ := h
  have h1 := heap_setCell_same u g p cur t v0 hc
  have h2 := heap_setCell_same _ g (p + 1) _ t v1 h1
  have h3 := heap_setCell_same _ g (p + 2) _ t v2 h2
  refine ⟨⟨_, h3, by simpa using hs⟩, grown_trans (grown_trans (grown_setCell _ _ _ _) (grown_setCell _ _ _ _)) (grown_setCell _ _ _ _), ⟨?_, ?_, ?_⟩, fun q hq => ?_⟩
  · rw [cell_of_row _ g _ _ t (0, 0) h3]; simp [show p < cur.size by omega]
  · rw [cell_of_row _ g _ _ t (0, 0) h3]; simp [show p + 1 < cur.size by omega]
  · rw [cell_of_row _ g _ _ t (0, 0) h3]; simp [show p + 2 < cur.size by omega]
  · rw [cell_of_row _ g _ _ t (0, 0) h3, cell_of_row _ g _ _ t (0, 0) hc]
    rw [Array.getElem?_setIfInBounds_ne (by omega), Array.getElem?_setIfInBounds_ne (by omega), Array.getElem?_setIfInBounds_ne (by omega)]

/-- The list lies from cell off of block b on; bs are the blocks of the lists below it. -/
def OwnF (w : World) (t : TypeId) : F → Nat → Nat → List Nat → Prop
  | .nil, _, _, bs => bs = []
  | .cons k n d r, b, off, bs => ∃ bs1 bs2, bs = bs1 ++ bs2 ∧ (∃ a l c, w.cell? ⟨b, off, none⟩ = some (.int .i64 k) ∧ w.cell? ⟨b, off + 1, none⟩ = some (.int .i64 n) ∧ w.cell? ⟨b, off + 2, none⟩ = some (.slice a l c) ∧ d.len = l ∧ l ≤ 9223372036854775807 ∧ l ≤ c ∧ ((c = 0 ∧ bs1 = []) ∨ ∃ g bs', 0 < l ∧ a = some ⟨g, 0, none⟩ ∧ bs1 = g :: bs' ∧ Blk w t g c ∧ OwnF w t d g 0 bs')) ∧ OwnF w t r b (off + 3) bs2
/-- A slice of ours reads f; bs are its blocks. -/
def SlO (w : World) (t : TypeId) (a : Option Addr) (l c : Nat) (f : F) (bs : List Nat) : Prop :=
  f.len = l ∧ l ≤ 9223372036854775807 ∧ l ≤ c ∧ ((c = 0 ∧ bs = []) ∨ ∃ g bs', 0 < l ∧ a = some ⟨g, 0, none⟩ ∧ bs = g :: bs' ∧ Blk w t g c ∧ OwnF w t f g 0 bs')
theorem OwnF.out {w : World} {t : TypeId} {k n : Int} {d r : F} {b off : Nat} {bs : List Nat} (h : OwnF w t (.cons k n d r) b off bs) :
    ∃ bs1 bs2 a l c, bs = bs1 ++ bs2 ∧ w.cell? ⟨b, off, none⟩ = some (.int .i64 k) ∧ w.cell? ⟨b, off + 1, none⟩ = some (.int .i64 n) ∧ w.cell? ⟨b, off + 2, none⟩ = some (.slice a l c) ∧ SlO w t a l c d bs1 ∧ OwnF w t r b (off + 3) bs2 := by
  obtain ⟨bs1, bs2, e, ⟨a, l, c, h0, h1, h2, h3⟩, hr⟩ := h
  exact ⟨bs1, bs2, a, l, c, e, h0, h1, h2, h3, hr⟩
theorem OwnF.mk {w : World} {t : TypeId} {k n : Int} {d r : F} {b off : Nat} {bs1 bs2 : List Nat} {a : Option Addr} {l c : Nat} (h0 : w.cell? ⟨b, off, none⟩ = some (.int .i64 k)) (h1 : w.cell? ⟨b, off + 1, none⟩ = some (.int .i64 n)) (h2 : w.cell? ⟨b, off + 2, none⟩ = some (.slice a l c)) (h3 : SlO w t a l c d bs1) (h4 : OwnF w t r b (off + 3) bs2) : OwnF w t (.cons k n d r) b off (bs1 ++ bs2) :=
  ⟨bs1, bs2, rfl, ⟨a, l, c, h0, h1, h2, h3⟩, h4⟩
theorem OwnF.reads {w : World} {t : TypeId} {f : F} {b off : Nat} {bs : List Nat} (h : OwnF w t f b off bs) : InF w f b off := by
  induction f generalizing b off bs with
  | nil => trivial
  | cons k n d r ihd ihr =>
    obtain ⟨bs1, bs2, e, ⟨a, l, c, h0, h1, h2, h3, h4, h5, h6⟩, hr⟩ := h
    refine ⟨⟨a, l, c, h0, h1, h2, h3, h4, ?_⟩, ihr hr⟩
    rcases h6 with ⟨h6, _⟩ | ⟨g, bs', _, e1, _, _, h6⟩
    · exact .inl (by omega)
    · exact .inr ⟨g, 0, e1, ihd h6⟩
theorem SlO.reads {w : World} {t : TypeId} {f : F} {a : Option Addr} {l c : Nat} {bs : List Nat} (h : SlO w t a l c f bs) : SlF w a l f := by
  obtain ⟨h1, h2, h3, h4⟩ := h
  refine ⟨h1, h2, ?_⟩
  rcases h4 with ⟨h4, _⟩ | ⟨g, bs', _, e1, _, _, h4⟩
  · exact .inl (by omega)
  · exact .inr ⟨g, 0, e1, h4.reads⟩
theorem OwnF.lt {w : World} {t : TypeId} {f : F} {b off : Nat} {bs : List Nat} (h : OwnF w t f b off bs) : ∀ g ∈ bs, g < w.heap.size := by
  induction f generalizing b off bs with
  | nil => intro g hg; rw [show bs = [] from h] at hg; simp at hg
  | cons k n d r ihd ihr =>
    obtain ⟨bs1, bs2, rfl, ⟨a, l, c, h0, h1, h2, h3, h4, h5, h6⟩, hr⟩ := h
    intro g hg
    rcases List.mem_append.1 hg with hg | hg
    · rcases h6 with ⟨_, rfl⟩ | ⟨g', bs', _, _, rfl, hb, h6⟩
      · simp at hg
      · rcases List.mem_cons.1 hg with rfl | hg
        · exact hb.lt
        · exact ihd h6 g hg
    · exact ihr hr g hg
theorem SlO.lt {w : World} {t : TypeId} {f : F} {a : Option Addr} {l c : Nat} {bs : List Nat} (h : SlO w t a l c f bs) : ∀ g ∈ bs, g < w.heap.size := by
  obtain ⟨h1, h2, h3, h4⟩ := h
  intro g hg
  rcases h4 with ⟨_, rfl⟩ | ⟨g', bs', _, _, rfl, hb, h6⟩
  · simp at hg
  · rcases List.mem_cons.1 hg with rfl | hg
    · exact hb.lt
    · exact h6.lt g hg
/-- The list lies elsewhere, or in another world: the cells are the same, the blocks below have not turned. -/
theorem OwnF.move {w w' : World} {t : TypeId} {f : F} {b off b' off' : Nat} {bs : List Nat} (h : OwnF w t f b off bs) (hc : ∀ i, i < f.len * 3 → w'.cell? ⟨b', off' + i, none⟩ = w.cell? ⟨b, off + i, none⟩) (hb : ∀ g ∈ bs, w'.heap[g]? = w.heap[g]?) : OwnF w' t f b' off' bs := by
  induction f generalizing b off b' off' bs with
  | nil => exact h
  | cons k n d r ihd ihr =>
    obtain ⟨bs1, bs2, rfl, ⟨a, l, c, h0, h1, h2, h3, h4, h5, h6⟩, hr⟩ := h
    simp only [F.len] at hc
    have k0 := hc 0 (by omega)
    have k1 := hc 1 (by omega)
    have k2 := hc 2 (by omega)
    refine ⟨bs1, bs2, rfl, ⟨a, l, c, by simpa using k0.trans h0, k1.trans h1, k2.trans h2, h3, h4, h5, ?_⟩, ihr hr (fun i hi => ?_) (fun g hg => hb g (List.mem_append_right _ hg))⟩
    · rcases h6 with h6 | ⟨g, bs', hp, e1, rfl, hbk, h6⟩
      · exact .inl h6
      · have eg := hb g (by simp)
        exact .inr ⟨g, bs', hp, e1, rfl, hbk.of eg, ihd h6 (fun i _ => cell_of_heap eg) (fun g' hg' => hb g' (by simp [hg']))⟩
    · have := hc (3 + i) (by omega)
      rw [Nat.add_assoc, Nat.add_assoc]; exact this
theorem SlO.of {w w' : World} {t : TypeId} {f : F} {a : Option Addr} {l c : Nat} {bs : List Nat} (h : SlO w t a l c f bs) (hb : ∀ g ∈ bs, w'.heap[g]? = w.heap[g]?) : SlO w' t a l c f bs := by
  obtain ⟨h1, h2, h3, h4⟩ := h
  refine ⟨h1, h2, h3, ?_⟩
  rcases h4 with h4 | ⟨g, bs', hp, e1, rfl, hbk, h4⟩
  · exact .inl h4
  · have eg := hb g (by simp)
    exact .inr ⟨g, bs', hp, e1, rfl, hbk.of eg, h4.move (fun i _ => cell_of_heap eg) (fun g' hg' => hb g' (by simp [hg']))⟩
theorem SlO.kept {w w' : World} {t : TypeId} {f : F} {a : Option Addr} {l c : Nat} {bs : List Nat} {row : Option Nat} (h : SlO w t a l c f bs) (hg : w.grownBy w' row) (hne : ∀ g ∈ bs, some g ≠ row) : SlO w' t a l c f bs :=
  h.of fun g hm => hg.block g (h.lt g hm) (hne g hm)
theorem SlO.old {w w' : World} {t : TypeId} {f : F} {a : Option Addr} {l c : Nat} {bs : List Nat} (h : SlO w t a l c f bs) (hg : w.grownBy w' none) : SlO w' t a l c f bs :=
  h.kept hg fun _ _ => by simp
theorem OwnF.old {w w' : World} {t : TypeId} {f : F} {b off : Nat} {bs : List Nat} (h : OwnF w t f b off bs) (hg : w.grownBy w' none) (hb : b < w.heap.size) : OwnF w' t f b off bs :=
  h.move (fun i _ => cell_of_heap (hg.block b hb (by simp))) fun g hm => hg.block g (h.lt g hm) (by simp)
theorem OwnF.app {w : World} {t : TypeId} {f g : F} {b off : Nat} {bs1 bs2 : List Nat} (h : OwnF w t f b off bs1) (k : OwnF w t g b (off + f.len * 3) bs2) : OwnF w t (f.app g) b off (bs1 ++ bs2) := by
  induction f generalizing off bs1 with
  | nil => rw [show bs1 = [] from h]; simpa [F.app, F.len] using k
  | cons kk n d r ihd ihr =>
    obtain ⟨c1, c2, rfl, hx, hr⟩ := h
    have e : off + (F.cons kk n d r).len * 3 = off + 3 + r.len * 3 := by simp only [F.len]; omega
    rw [e] at k
    rw [List.append_assoc]
    exact ⟨c1, c2 ++ bs2, rfl, hx, ihr hr k⟩
/-- One tree alone. -/
theorem OwnF.one {w : World} {t : TypeId} {k n : Int} {d : F} {b off : Nat} {bs : List Nat} {a : Option Addr} {l c : Nat} (h0 : w.cell? ⟨b, off, none⟩ = some (.int .i64 k)) (h1 : w.cell? ⟨b, off + 1, none⟩ = some (.int .i64 n)) (h2 : w.cell? ⟨b, off + 2, none⟩ = some (.slice a l c)) (h3 : SlO w t a l c d bs) : OwnF w t (.cons k n d .nil) b off bs := by
  have := OwnF.mk (r := .nil) (bs2 := []) h0 h1 h2 h3 rfl
  simpa using this
/-- A slice that is new in u: no block of it was in w, no two are one. -/
def New (w u : World) (t : TypeId) (a : Option Addr) (l c : Nat) (f : F) (bs : List Nat) : Prop :=
  SlO u t a l c f bs ∧ bs.Nodup ∧ ∀ g ∈ bs, w.heap.size ≤ g
end Go.Proofs.YtpmndefmibnaeaaDoor.By
