/-
  Lists of binds (a variable and a tree): how they lie in a world, that they are owned. No statement is proved here.
-/
import Derived.Test.YtmlganaiajhjeaaTOwn
import Derived.Test.YtmlganaiajhjeaaTMark
import Derived.Test.YtmlganaiajhjeaaTEq
namespace Go.Proofs.Ytmlganaiajhjeaa.By
open Go.RowKit
set_option linter.unusedVariables false

/-- A list of binds: the first one's variable, kind, number and list, and the others. -/
inductive B : Type
  | nil : B
  | cons (v k n : Int) (d : F) (rest : B) : B
def B.len : B → Nat
  | .nil => 0
  | .cons _ _ _ _ r => r.len + 1
/-- How many binds and trees below their tops in all. -/
def B.size : B → Nat
  | .nil => 0
  | .cons _ _ _ d r => 1 + d.size + r.size
def B.app : B → B → B
  | .nil, g => g
  | .cons v k n d r, g => .cons v k n d (r.app g)
theorem B.app_nil (f : B) : f.app .nil = f := by
  induction f with
  | nil => rfl
  | cons v k n d r ih => simp [B.app, ih]
theorem B.app_assoc (f g h : B) : (f.app g).app h = f.app (g.app h) := by
  induction f with
  | nil => rfl
  | cons v k n d r ih => simp [B.app, ih]
theorem B.app_len (f g : B) : (f.app g).len = f.len + g.len := by
  induction f with
  | nil => simp [B.app, B.len]
  | cons v k n d r ih => simp [B.app, B.len, ih]; omega
theorem B.len_le (f : B) : f.len ≤ f.size := by
  induction f with
  | nil => simp [B.len, B.size]
  | cons v k n d r ih => simp [B.len, B.size]; omega
theorem B.nil_of_len {f : B} (h : f.len = 0) : f = .nil := by
  cases f with
  | nil => rfl
  | cons v k n d r => simp [B.len] at h
theorem B.cons_of_len {f : B} {m : Nat} (h : f.len = m + 1) : ∃ v k n d r, f = .cons v k n d r ∧ r.len = m := by
  cases f with
  | nil => simp [B.len] at h
  | cons v k n d r => exact ⟨v, k, n, d, r, rfl, by simpa [B.len] using h⟩

/-- Four cells from off on. -/
def Qua (b off : Nat) (v0 v1 v2 v3 : Value) (w : World) : Prop := w.cell? ⟨b, off, none⟩ = some v0 ∧ w.cell? ⟨b, off + 1, none⟩ = some v1 ∧ w.cell? ⟨b, off + 2, none⟩ = some v2 ∧ w.cell? ⟨b, off + 3, none⟩ = some v3
theorem Qua.none {b off : Nat} {v0 v1 v2 v3 : Value} {w w' : World} (h : Qua b off v0 v1 v2 v3 w) (hg : w.grownBy w' Option.none) : Qua b off v0 v1 v2 v3 w' :=
  ⟨hg.cell h.1 (by simp), hg.cell h.2.1 (by simp), hg.cell h.2.2.1 (by simp), hg.cell h.2.2.2 (by simp)⟩
/-- The list lies in the world from cell off of block b on, four cells a bind. -/
def InB (w : World) : B → Nat → Nat → Prop
  | .nil, _, _ => True
  | .cons v k n d r, b, off => (∃ a l c, Qua b off (.int .i64 v) (.int .i64 k) (.int .i64 n) (.slice a l c) w ∧ SlF w a l d) ∧ InB w r b (off + 4)
/-- A slice of l binds at a reads f. -/
def SlB (w : World) (a : Option Addr) (l : Nat) (f : B) : Prop :=
  f.len = l ∧ l ≤ 9223372036854775807 ∧ (l = 0 ∨ ∃ b o, a = some ⟨b, o, none⟩ ∧ InB w f b o)
theorem InB.none {w w' : World} {f : B} {b off : Nat} (h : InB w f b off) (hg : w.grownBy w' Option.none) : InB w' f b off := by
  induction f generalizing off with
  | nil => trivial
  | cons v k n d r ih =>
    obtain ⟨⟨a, l, c, h0, h1⟩, hr⟩ := h
    exact ⟨⟨a, l, c, h0.none hg, h1.none hg⟩, ih hr⟩
theorem SlB.none {w w' : World} {f : B} {a : Option Addr} {l : Nat} (h : SlB w a l f) (hg : w.grownBy w' Option.none) : SlB w' a l f := by
  obtain ⟨h1, h2, h3⟩ := h
  refine ⟨h1, h2, ?_⟩
  rcases h3 with h3 | ⟨b, o, e, h3⟩
  · exact .inl h3
  · exact .inr ⟨b, o, e, h3.none hg⟩
theorem SlB.cases {w : World} {f : B} {a : Option Addr} {l : Nat} (h : SlB w a l f) : (l = 0 ∧ f = .nil) ∨ ∃ b o, a = some ⟨b, o, Option.none⟩ ∧ InB w f b o ∧ f.len = l ∧ 0 < l := by
  obtain ⟨h1, h2, h3⟩ := h
  by_cases h0 : l = 0
  · subst h0; exact .inl ⟨rfl, B.nil_of_len h1⟩
  · rcases h3 with h3 | ⟨b, o, e, h3⟩
    · exact absurd h3 h0
    · exact .inr ⟨b, o, e, h3, h1, by omega⟩
theorem SlB.nil (w : World) (a : Option Addr) : SlB w a 0 .nil := ⟨rfl, by omega, .inl rfl⟩
/-- Part of a list. -/
theorem InB.app {w : World} {f g : B} {b off : Nat} (h : InB w f b off) (k : InB w g b (off + f.len * 4)) : InB w (f.app g) b off := by
  induction f generalizing off with
  | nil => simpa [B.app, B.len] using k
  | cons v kk n d r ih =>
    have e : off + (B.cons v kk n d r).len * 4 = off + 4 + r.len * 4 := by simp only [B.len]; omega
    rw [e] at k
    exact ⟨h.1, ih h.2 k⟩
theorem InB.fst {w : World} {f g : B} {b off : Nat} (h : InB w (f.app g) b off) : InB w f b off := by
  induction f generalizing off with
  | nil => trivial
  | cons v kk n d r ih => exact ⟨h.1, ih h.2⟩
theorem InB.snd {w : World} {f g : B} {b off : Nat} (h : InB w (f.app g) b off) : InB w g b (off + f.len * 4) := by
  induction f generalizing off with
  | nil => simpa [B.app, B.len] using h
  | cons v kk n d r ih =>
    have e : off + (B.cons v kk n d r).len * 4 = off + 4 + r.len * 4 := by simp only [B.len]; omega
    rw [e]
    exact ih h.2
/-- The four cells of a block of four. -/
theorem four {w : World} {g : Nat} {t : TypeId} {c0 c1 c2 c3 : Value} (h : w.heap[g]? = some (.cells #[c0, c1, c2, c3] t (0, 0))) :
    Qua g 0 c0 c1 c2 c3 w ∧ (w.frozen? ⟨g, 0, none⟩ = false ∧ w.frozen? ⟨g, 1, none⟩ = false ∧ w.frozen? ⟨g, 2, none⟩ = false ∧ w.frozen? ⟨g, 3, none⟩ = false) := by
  refine ⟨⟨?_, ?_, ?_, ?_⟩, frozen_of_row w g _ _ t h, frozen_of_row w g _ _ t h, frozen_of_row w g _ _ t h, frozen_of_row w g _ _ t h⟩ <;> (rw [cell_of_row w g _ _ t (0, 0) h]; rfl)

/-- Block g is a row of c binds' cells, our own. -/
def Blk4 (w : World) (t : TypeId) (g c : Nat) : Prop := ∃ cur, w.heap[g]? = some (.cells cur t (0, 0)) ∧ cur.size = c * 4
theorem Blk4.lt {w : World} {t : TypeId} {g c : Nat} (h : Blk4 w t g c) : g < w.heap.size := by
  obtain ⟨cur, hc, _⟩ := h; exact lt_of_block hc
theorem Blk4.of {w w' : World} {t : TypeId} {g c : Nat} (h : Blk4 w t g c) (e : w'.heap[g]? = w.heap[g]?) : Blk4 w' t g c := by
  obtain ⟨cur, hc, r⟩ := h; exact ⟨cur, by rw [e]; exact hc, r⟩
theorem Blk4.free {w : World} {t : TypeId} {g c : Nat} (h : Blk4 w t g c) (j : Nat) : w.frozen? ⟨g, j, none⟩ = false := by
  obtain ⟨cur, hc, _⟩ := h; exact frozen_of_row w g j cur t hc
theorem Blk4.has {w : World} {t : TypeId} {g c : Nat} (h : Blk4 w t g c) (j : Nat) (hj : j < c * 4) : ∃ v, w.cell? ⟨g, j, none⟩ = some v := by
  obtain ⟨cur, hc, hs⟩ := h
  rw [cell_of_row w g j cur t (0, 0) hc]
  exact ⟨_, Array.getElem?_eq_getElem (by omega)⟩
/-- Four cells of a block are stored. -/
theorem Blk4.put4 {u : World} {t : TypeId} {g c : Nat} (h : Blk4 u t g c) (p : Nat) (hp : p + 3 < c * 4) (v0 v1 v2 v3 : Value) :
    Blk4 ((((u.setCell ⟨g, p, none⟩ v0).setCell ⟨g, p + 1, none⟩ v1).setCell ⟨g, p + 2, none⟩ v2).setCell ⟨g, p + 3, none⟩ v3) t g c ∧ u.grownBy ((((u.setCell ⟨g, p, none⟩ v0).setCell ⟨g, p + 1, none⟩ v1).setCell ⟨g, p + 2, none⟩ v2).setCell ⟨g, p + 3, none⟩ v3) (some g) ∧
    Qua g p v0 v1 v2 v3 ((((u.setCell ⟨g, p, none⟩ v0).setCell ⟨g, p + 1, none⟩ v1).setCell ⟨g, p + 2, none⟩ v2).setCell ⟨g, p + 3, none⟩ v3) ∧
    ∀ q, (q < p ∨ p + 3 < q) → ((((u.setCell ⟨g, p, none⟩ v0).setCell ⟨g, p + 1, none⟩ v1).setCell ⟨g, p + 2, none⟩ v2).setCell ⟨g, p + 3, none⟩ v3).cell? ⟨g, q, none⟩ = u.cell? ⟨g, q, none⟩ := by
  obtain ⟨cur, hc, hs⟩ := h
  have h1 := heap_setCell_same u g p cur t v0 hc
  have h2 := heap_setCell_same _ g (p + 1) _ t v1 h1
  have h3 := heap_setCell_same _ g (p + 2) _ t v2 h2
  have h4 := heap_setCell_same _ g (p + 3) _ t v3 h3
  refine ⟨⟨_, h4, by simpa using hs⟩, grown_trans (grown_trans (grown_trans (grown_setCell _ _ _ _) (grown_setCell _ _ _ _)) (grown_setCell _ _ _ _)) (grown_setCell _ _ _ _), ⟨?_, ?_, ?_, ?_⟩, fun q hq => ?_⟩
  · rw [cell_of_row _ g _ _ t (0, 0) h4]; simp [show p < cur.size by omega]
  · rw [cell_of_row _ g _ _ t (0, 0) h4]; simp [show p + 1 < cur.size by omega]
  · rw [cell_of_row _ g _ _ t (0, 0) h4]; simp [show p + 2 < cur.size by omega]
  · rw [cell_of_row _ g _ _ t (0, 0) h4]; simp [show p + 3 < cur.size by omega]
  · rw [cell_of_row _ g _ _ t (0, 0) h4, cell_of_row _ g _ _ t (0, 0) hc]
    rw [Array.getElem?_setIfInBounds_ne (by omega), Array.getElem?_setIfInBounds_ne (by omega), Array.getElem?_setIfInBounds_ne (by omega), Array.getElem?_setIfInBounds_ne (by omega)]

/-- The list lies from cell off of block b on; bs are the blocks of the trees below it. -/
def OwnB (w : World) (t : TypeId) : B → Nat → Nat → List Nat → Prop
  | .nil, _, _, bs => bs = []
  | .cons v k n d r, b, off, bs => ∃ bs1 bs2, bs = bs1 ++ bs2 ∧ (∃ a l c, Qua b off (.int .i64 v) (.int .i64 k) (.int .i64 n) (.slice a l c) w ∧ SlO w t a l c d bs1) ∧ OwnB w t r b (off + 4) bs2
/-- A slice of binds of ours reads f; bs are its blocks. -/
def SlOB (w : World) (t s : TypeId) (a : Option Addr) (l c : Nat) (f : B) (bs : List Nat) : Prop :=
  f.len = l ∧ l ≤ 9223372036854775807 ∧ l ≤ c ∧ ((c = 0 ∧ bs = []) ∨ ∃ g bs', 0 < l ∧ a = some ⟨g, 0, none⟩ ∧ bs = g :: bs' ∧ Blk4 w s g c ∧ OwnB w t f g 0 bs')
theorem OwnB.reads {w : World} {t : TypeId} {f : B} {b off : Nat} {bs : List Nat} (h : OwnB w t f b off bs) : InB w f b off := by
  induction f generalizing off bs with
  | nil => trivial
  | cons v k n d r ih =>
    obtain ⟨bs1, bs2, e, ⟨a, l, c, h0, h1⟩, hr⟩ := h
    exact ⟨⟨a, l, c, h0, h1.reads⟩, ih hr⟩
theorem SlOB.reads {w : World} {t s : TypeId} {f : B} {a : Option Addr} {l c : Nat} {bs : List Nat} (h : SlOB w t s a l c f bs) : SlB w a l f := by
  obtain ⟨h1, h2, h3, h4⟩ := h
  refine ⟨h1, h2, ?_⟩
  rcases h4 with ⟨h4, _⟩ | ⟨g, bs', _, e1, _, _, h4⟩
  · exact .inl (by omega)
  · exact .inr ⟨g, 0, e1, h4.reads⟩
theorem OwnB.lt {w : World} {t : TypeId} {f : B} {b off : Nat} {bs : List Nat} (h : OwnB w t f b off bs) : ∀ g ∈ bs, g < w.heap.size := by
  induction f generalizing off bs with
  | nil => intro g hg; rw [show bs = [] from h] at hg; simp at hg
  | cons v k n d r ih =>
    obtain ⟨bs1, bs2, rfl, ⟨a, l, c, h0, h1⟩, hr⟩ := h
    intro g hg
    rcases List.mem_append.1 hg with hg | hg
    · exact h1.lt g hg
    · exact ih hr g hg
theorem SlOB.lt {w : World} {t s : TypeId} {f : B} {a : Option Addr} {l c : Nat} {bs : List Nat} (h : SlOB w t s a l c f bs) : ∀ g ∈ bs, g < w.heap.size := by
  obtain ⟨h1, h2, h3, h4⟩ := h
  intro g hg
  rcases h4 with ⟨_, rfl⟩ | ⟨g', bs', _, _, rfl, hb, h6⟩
  · simp at hg
  · rcases List.mem_cons.1 hg with rfl | hg
    · exact hb.lt
    · exact h6.lt g hg
theorem OwnB.move {w w' : World} {t : TypeId} {f : B} {b off b' off' : Nat} {bs : List Nat} (h : OwnB w t f b off bs) (hc : ∀ i, i < f.len * 4 → w'.cell? ⟨b', off' + i, none⟩ = w.cell? ⟨b, off + i, none⟩) (hb : ∀ g ∈ bs, w'.heap[g]? = w.heap[g]?) : OwnB w' t f b' off' bs := by
  induction f generalizing off off' bs with
  | nil => exact h
  | cons v k n d r ih =>
    obtain ⟨bs1, bs2, rfl, ⟨a, l, c, ⟨h0, h1, h2, h3⟩, hs⟩, hr⟩ := h
    simp only [B.len] at hc
    have k0 := hc 0 (by omega)
    have k1 := hc 1 (by omega)
    have k2 := hc 2 (by omega)
    have k3 := hc 3 (by omega)
    refine ⟨bs1, bs2, rfl, ⟨a, l, c, ⟨by simpa using k0.trans h0, k1.trans h1, k2.trans h2, k3.trans h3⟩, hs.of (fun g hg => hb g (List.mem_append_left _ hg))⟩, ih hr (fun i hi => ?_) (fun g hg => hb g (List.mem_append_right _ hg))⟩
    have := hc (4 + i) (by omega)
    rw [Nat.add_assoc, Nat.add_assoc]; exact this
theorem SlOB.of {w w' : World} {t s : TypeId} {f : B} {a : Option Addr} {l c : Nat} {bs : List Nat} (h : SlOB w t s a l c f bs) (hb : ∀ g ∈ bs, w'.heap[g]? = w.heap[g]?) : SlOB w' t s a l c f bs := by
  obtain ⟨h1, h2, h3, h4⟩ := h
  refine ⟨h1, h2, h3, ?_⟩
  rcases h4 with h4 | ⟨g, bs', hp, e1, rfl, hbk, h4⟩
  · exact .inl h4
  · have eg := hb g (by simp)
    exact .inr ⟨g, bs', hp, e1, rfl, hbk.of eg, h4.move (fun i _ => cell_of_heap eg) (fun g' hg' => hb g' (by simp [hg']))⟩
theorem SlOB.kept {w w' : World} {t s : TypeId} {f : B} {a : Option Addr} {l c : Nat} {bs : List Nat} {row : Option Nat} (h : SlOB w t s a l c f bs) (hg : w.grownBy w' row) (hne : ∀ g ∈ bs, some g ≠ row) : SlOB w' t s a l c f bs :=
  h.of fun g hm => hg.block g (h.lt g hm) (hne g hm)
theorem SlOB.old {w w' : World} {t s : TypeId} {f : B} {a : Option Addr} {l c : Nat} {bs : List Nat} (h : SlOB w t s a l c f bs) (hg : w.grownBy w' none) : SlOB w' t s a l c f bs :=
  h.kept hg fun _ _ => by simp
theorem OwnB.old {w w' : World} {t : TypeId} {f : B} {b off : Nat} {bs : List Nat} (h : OwnB w t f b off bs) (hg : w.grownBy w' none) (hb : b < w.heap.size) : OwnB w' t f b off bs :=
  h.move (fun i _ => cell_of_heap (hg.block b hb (by simp))) fun g hm => hg.block g (h.lt g hm) (by simp)
theorem OwnB.app {w : World} {t : TypeId} {f g : B} {b off : Nat} {bs1 bs2 : List Nat} (h : OwnB w t f b off bs1) (k : OwnB w t g b (off + f.len * 4) bs2) : OwnB w t (f.app g) b off (bs1 ++ bs2) := by
  induction f generalizing off bs1 with
  | nil => rw [show bs1 = [] from h]; simpa [B.app, B.len] using k
  | cons v kk n d r ih =>
    obtain ⟨c1, c2, rfl, hx, hr⟩ := h
    have e : off + (B.cons v kk n d r).len * 4 = off + 4 + r.len * 4 := by simp only [B.len]; omega
    rw [e] at k
    rw [List.append_assoc]
    exact ⟨c1, c2 ++ bs2, rfl, hx, ih hr k⟩
theorem OwnB.one {w : World} {t : TypeId} {v k n : Int} {d : F} {b off : Nat} {bs : List Nat} {a : Option Addr} {l c : Nat} (h0 : Qua b off (.int .i64 v) (.int .i64 k) (.int .i64 n) (.slice a l c) w) (h3 : SlO w t a l c d bs) : OwnB w t (.cons v k n d .nil) b off bs :=
  ⟨bs, [], by simp, ⟨a, l, c, h0, h3⟩, rfl⟩
/-- A slice of binds that is new in u: no block of it was in w, no two are one. -/
def NewB (w u : World) (t s : TypeId) (a : Option Addr) (l c : Nat) (f : B) (bs : List Nat) : Prop :=
  SlOB u t s a l c f bs ∧ bs.Nodup ∧ ∀ g ∈ bs, w.heap.size ≤ g
theorem NewB.nil (w u : World) (t s : TypeId) : NewB w u t s Option.none 0 0 .nil [] := ⟨⟨rfl, by omega, by omega, .inl ⟨rfl, rfl⟩⟩, List.nodup_nil, fun x hx => by simp at hx⟩
end Go.Proofs.Ytmlganaiajhjeaa.By
