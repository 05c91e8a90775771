/-
  A world of our own while it is drawn. No statement is proved here.
-/
import Derived.Test.YtccnninmkfhejaaYLw
import Derived.Test.YtccnninmkfhejaaYLaAlso
import Derived.Test.YtccnninmkfhejaaDrawN
namespace Go.Proofs.Ytccnninmkfhejaa.By
open Go.RowKit
set_option linter.unusedVariables false
set_option linter.unusedSimpArgs false

/-- Below B nothing has turned but block g. -/
def Bg (B g : Nat) (w u : World) : Prop := u.os = w.os ∧ u.tape = w.tape ∧ u.output = w.output ∧ w.heap.size ≤ u.heap.size ∧ ∀ i, i < B → i ≠ g → u.heap[i]? = w.heap[i]?
theorem Bg.refl (B g : Nat) (w : World) : Bg B g w w := ⟨rfl, rfl, rfl, Nat.le_refl _, fun _ _ _ => rfl⟩
theorem Bg.grown {B g : Nat} {w u z : World} {row : Option Nat} (h : Bg B g w u) (hg : u.grownBy z row) (hB : B ≤ u.heap.size) (hr : ∀ b, row = some b → b = g ∨ B ≤ b) : Bg B g w z :=
  ⟨hg.os.trans h.1, hg.tape.trans h.2.1, hg.output.trans h.2.2.1, Nat.le_trans h.2.2.2.1 hg.size, fun i hi hn => (hg.block i (by omega) (fun e => by
    rcases hr i e.symm with h1 | h1
    · exact hn h1
    · omega)).trans (h.2.2.2.2 i hi hn)⟩
theorem Bg.below {B g : Nat} {w u z : World} (h : Bg B g w u) (hb : Below B u z) : Bg B g w z :=
  ⟨hb.os.trans h.1, hb.tape.trans h.2.1, hb.output.trans h.2.2.1, Nat.le_trans h.2.2.2.1 hb.size, fun i hi hn => (hb.block i hi).trans (h.2.2.2.2 i hi hn)⟩
theorem row_keep {u z : World} {B : Nat} {t : TypeId} {s m : Nat} {v : Value} {zs : List Value} {row : Option Nat} (h : u.ownsRow B t s v m zs) (hg : u.grownBy z row) (hr : ∀ b, row = some b → ∃ cur t', u.heap[b]? = some (Obj.cells cur t' (0, 0)) ∧ t ≠ t') : z.ownsRow B t s v m zs := by
  cases row with
  | none => exact h.kept hg (Classical.em _)
  | some b =>
    obtain ⟨cur, t', hb, ht⟩ := hr b rfl
    exact h.kept hg (row_ne h hb ht)

/-- The lists of a world that is drawn: the cursor g, rows from B on. -/
structure DR (w0 w u : World) (B g : Nat) (a : Option Addr) (n cap : Nat) (x : RWorld) (d1 : Option Addr) (l1 k1 : Nat) (d2 : Option Addr) (l2 k2 : Nat) : Prop where
  cur : Cur w0 u g a n cap
  gr : Bg B g w u
  gB : g < B
  Bu : B ≤ u.heap.size
  tr : x.trace = []
  dr : u.ownsRow B 3 1 (.slice d1 l1 k1) l1 (vI x.draws)
  st : u.ownsRow B 66 2 (.slice d2 l2 k2) l2 (vE x.store)
/-- And its box q. -/
structure DW (w0 w u : World) (B g : Nat) (a : Option Addr) (n cap q : Nat) (x : RWorld) (d1 : Option Addr) (l1 k1 : Nat) (d2 : Option Addr) (l2 k2 : Nat) : Prop extends DR w0 w u B g a n cap x d1 l1 k1 d2 l2 k2 where
  Bq : B ≤ q
  box : u.heap[q]? = some (.cells #[.int .i64 x.ticks, .slice d1 l1 k1, .slice d2 l2 k2, .slice none 0 0] 27 (0, 0))
section
variable {w0 w u z : World} {B g : Nat} {a : Option Addr} {n cap q : Nat} {x : RWorld} {d1 : Option Addr} {l1 k1 : Nat} {d2 : Option Addr} {l2 k2 : Nat}

theorem DR.lo0 (h : DR w0 w u B g a n cap x d1 l1 k1 d2 l2 k2) : w0.heap.size ≤ B := Nat.le_trans h.cur.1 (Nat.le_of_lt h.gB)
theorem DR.none (h : DR w0 w u B g a n cap x d1 l1 k1 d2 l2 k2) (hg : u.grownBy z Option.none) : DR w0 w z B g a n cap x d1 l1 k1 d2 l2 k2 :=
  ⟨h.cur.none hg, h.gr.grown hg h.Bu (fun b e => by cases e), h.gB, Nat.le_trans h.Bu hg.size, h.tr, h.dr.kept hg (Classical.em _), h.st.kept hg (Classical.em _)⟩
theorem DR.drawn (h : DR w0 w u B g a n cap x d1 l1 k1 d2 l2 k2) (k : Kept w0 u z g a n cap) : DR w0 w z B g a n cap x d1 l1 k1 d2 l2 k2 := by
  obtain ⟨c1, c2, i, hh, hb, hi⟩ := h.cur
  refine ⟨k.1, h.gr.grown k.2 h.Bu (fun b e => .inl (Option.some.inj e).symm), h.gB, Nat.le_trans h.Bu k.2.size, h.tr, row_keep h.dr k.2 (fun b e => ?_), row_keep h.st k.2 (fun b e => ?_)⟩
  · obtain rfl := Option.some.inj e; exact ⟨_, _, hb, by decide⟩
  · obtain rfl := Option.some.inj e; exact ⟨_, _, hb, by decide⟩
theorem DW.none (h : DW w0 w u B g a n cap q x d1 l1 k1 d2 l2 k2) (hg : u.grownBy z Option.none) : DW w0 w z B g a n cap q x d1 l1 k1 d2 l2 k2 :=
  ⟨h.toDR.none hg, h.Bq, (hg.block q (lt_of_block h.box) (by simp)).trans h.box⟩
theorem DW.drawn (h : DW w0 w u B g a n cap q x d1 l1 k1 d2 l2 k2) (k : Kept w0 u z g a n cap) : DW w0 w z B g a n cap q x d1 l1 k1 d2 l2 k2 :=
  ⟨h.toDR.drawn k, h.Bq, (k.2.block q (lt_of_block h.box) (by have := h.gB; have := h.Bq; simp; omega)).trans h.box⟩
/-- Into a new box. -/
theorem DR.boxed (h : DR w0 w u B g a n cap x d1 l1 k1 d2 l2 k2) : DW w0 w (u.alloc (.cells #[.int .i64 x.ticks, .slice d1 l1 k1, .slice d2 l2 k2, .slice Option.none 0 0] 27)) B g a n cap u.heap.size x d1 l1 k1 d2 l2 k2 :=
  ⟨h.none (World.grownBy_alloc _ _ _), h.Bu, heap_alloc_new u _⟩
/-- The box is stored into. -/
theorem DW.setRow {x' : RWorld} {e1 : Option Addr} {m1 j1 : Nat} {e2 : Option Addr} {m2 j2 : Nat} (h : DR w0 w u B g a n cap x' e1 m1 j1 e2 m2 j2) (hBq : B ≤ q) {cs : Array Value} (hq : u.heap[q]? = some (.cells cs 27 (0, 0))) (i : Nat) (v : Value)
    (hc : cs.setIfInBounds i v = #[.int .i64 x'.ticks, .slice e1 m1 j1, .slice e2 m2 j2, .slice Option.none 0 0]) : DW w0 w (u.setCell ⟨q, i, Option.none⟩ v) B g a n cap q x' e1 m1 j1 e2 m2 j2 := by
  have kk := grown_setCell u q i v
  have hw := h.lo0
  have hgB := h.gB
  refine ⟨⟨h.cur.kept kk (by simp; omega) (fun k e => by obtain rfl := Option.some.inj e; omega), h.gr.grown kk h.Bu (fun b e => by obtain rfl := Option.some.inj e; exact .inr hBq), h.gB, Nat.le_trans h.Bu kk.size, h.tr, row_keep h.dr kk (fun b e => ?_), row_keep h.st kk (fun b e => ?_)⟩, hBq, ?_⟩
  · obtain rfl := Option.some.inj e; exact ⟨_, _, hq, by decide⟩
  · obtain rfl := Option.some.inj e; exact ⟨_, _, hq, by decide⟩
  · rw [← hc]; exact heap_setCell_same u q i _ _ v hq
theorem DW.app1 {ds : List Int} {d' : Option Addr} {l' k' : Nat} (h : DW w0 w u B g a n cap q x d1 l1 k1 d2 l2 k2) (hg : u.grownBy z (Value.slice d1 l1 k1).ownBlock) (ho : z.ownsRow B 3 1 (.slice d' l' k') l' (vI ds)) :
    z.heap[q]? = some (.cells #[.int .i64 x.ticks, .slice d1 l1 k1, .slice d2 l2 k2, .slice Option.none 0 0] 27 (0, 0)) ∧ DW w0 w (z.setCell ⟨q, 1, Option.none⟩ (.slice d' l' k')) B g a n cap q { x with draws := ds } d' l' k' d2 l2 k2 := by
  have hb := row_blk h.dr
  have hw := h.lo0
  have hgB := h.gB
  have hqz : z.heap[q]? = some (.cells #[.int .i64 x.ticks, .slice d1 l1 k1, .slice d2 l2 k2, .slice Option.none 0 0] 27 (0, 0)) := (hg.block q (lt_of_block h.box) (fun e => by
    obtain ⟨cur, hc⟩ := (hb q e.symm).2
    rw [h.box] at hc
    cases hc)).trans h.box
  refine ⟨hqz, DW.setRow (x' := { x with draws := ds }) ⟨h.cur.kept hg (fun e => by have := (hb g e.symm).1; omega) (fun k e => Nat.le_trans hw (hb k e).1), h.gr.grown hg h.Bu (fun b e => .inr (hb b e).1), h.gB, Nat.le_trans h.Bu hg.size, h.tr, ho, ?_⟩ h.Bq hqz 1 _ rfl⟩
  exact row_keep h.st hg (fun b e => by obtain ⟨cur, hc⟩ := (hb b e).2; exact ⟨cur, 3, hc, by decide⟩)
theorem DW.app2 {ys : List REntry} {d' : Option Addr} {l' k' : Nat} (h : DW w0 w u B g a n cap q x d1 l1 k1 d2 l2 k2) (hg : u.grownBy z (Value.slice d2 l2 k2).ownBlock) (ho : z.ownsRow B 66 2 (.slice d' l' k') l' (vE ys)) :
    z.heap[q]? = some (.cells #[.int .i64 x.ticks, .slice d1 l1 k1, .slice d2 l2 k2, .slice Option.none 0 0] 27 (0, 0)) ∧ DW w0 w (z.setCell ⟨q, 2, Option.none⟩ (.slice d' l' k')) B g a n cap q { x with store := ys } d1 l1 k1 d' l' k' := by
  have hb := row_blk h.st
  have hw := h.lo0
  have hgB := h.gB
  have hqz : z.heap[q]? = some (.cells #[.int .i64 x.ticks, .slice d1 l1 k1, .slice d2 l2 k2, .slice Option.none 0 0] 27 (0, 0)) := (hg.block q (lt_of_block h.box) (fun e => by
    obtain ⟨cur, hc⟩ := (hb q e.symm).2
    rw [h.box] at hc
    cases hc)).trans h.box
  refine ⟨hqz, DW.setRow (x' := { x with store := ys }) ⟨h.cur.kept hg (fun e => by have := (hb g e.symm).1; omega) (fun k e => Nat.le_trans hw (hb k e).1), h.gr.grown hg h.Bu (fun b e => .inr (hb b e).1), h.gB, Nat.le_trans h.Bu hg.size, h.tr, ?_, ho⟩ h.Bq hqz 2 _ rfl⟩
  exact row_keep h.dr hg (fun b e => by obtain ⟨cur, hc⟩ := (hb b e).2; exact ⟨cur, 66, hc, by decide⟩)
theorem DW.mine (h : DW w0 w u B g a n cap q x d1 l1 k1 d2 l2 k2) (hl : l1 ≤ 9223372036854775807) : Mine u B q x d1 l1 k1 d2 l2 k2 Option.none 0 0 [] B :=
  ⟨h.box, OwI0.of h.dr hl, h.st, World.ownsRow_nil _ _ _ _, by rw [h.tr]; exact ⟨rfl, Nat.le_refl _⟩, h.Bu⟩
/-- Behind a put. -/
theorem DW.put {ys : List REntry} {l2' k2' : Nat} {d2' : Option Addr} {hi : Nat} (h : DW w0 w u B g a n cap q x d1 l1 k1 d2 l2 k2) (M : Mine z B q { x with store := ys } d1 l1 k1 d2' l2' k2' Option.none 0 0 [] hi) (hb : Below B u z)
    (ht : ∀ (m : Nat) (cur : Array Value) (t : TypeId), t ≠ 66 → t ≠ 27 → u.heap[m]? = some (Obj.cells cur t (0, 0)) → z.heap[m]? = some (Obj.cells cur t (0, 0))) : DW w0 w z B g a n cap q { x with store := ys } d1 l1 k1 d2' l2' k2' := by
  obtain ⟨c1, c2, i, hh, hc, hi⟩ := h.cur
  refine ⟨⟨⟨c1, c2.trans (hb.mono h.lo0), i, hh, ht g _ _ (by decide) (by decide) hc, hi⟩, h.gr.below hb, h.gB, Nat.le_trans h.Bu hb.size, h.tr, ⟨h.dr.1, ?_⟩, M.2.2.1⟩, h.Bq, M.1⟩
  rcases h.dr.2 with h0 | ⟨g', cap', cur, e, hb', hg', hr'⟩
  · exact .inl h0
  · exact .inr ⟨g', cap', cur, e, hb', ht g' cur 3 (by decide) (by decide) hg', hr'⟩
end
theorem vI_app (xs : List Int) (z : Int) : vI xs ++ [.int .i64 z] = vI (xs ++ [z]) := by simp [vI]
theorem vE_snoc (xs : List REntry) (A C : Int) : vE xs ++ [.int .i64 A, .int .i64 C] = vE (xs ++ [⟨A, C⟩]) := by
  induction xs with
  | nil => rfl
  | cons y r ih => simp only [List.cons_append, vE, ih]
theorem pickIn (w0 w1 : World) (g : Nat) (a : Option Addr) (n cap : Nat) (zs : List Int) (hr : Reads w0 a n zs) (hz : Byt zs) (hn : n ≤ 9223372036854775807) (hc : Cur w0 w1 g a n cap) (l : List Int) (h0 : 0 < l.length) (h1 : l.length ≤ 1000) :
    Calls Try.prog 26 #[.pointer (some ⟨g, 0, none⟩), .slice (some ⟨w1.heap.size, 0, none⟩) l.length l.length] (w1.alloc (.cells (l.map (Value.int .i64)).toArray 3)) fun e w' => ∃ x, e = .returned (.int .i64 x) ∧ x ∈ l ∧ Kept w0 w1 w' g a n cap := by
  have hga := World.grownBy_alloc w1 (.cells (l.map (Value.int .i64)).toArray 3) none
  have hlt : g < w1.heap.size := by obtain ⟨_, _, i, h, hb, _⟩ := hc; exact lt_of_block hb
  refine (pickT w0 _ g a n cap zs hr hz hn (hc.none hga) w1.heap.size l.length l h0 h1 (by omega) (list_cells (heap_alloc_new w1 _))).mono ?_
  rintro e w2 ⟨j, hj, he, hk⟩
  refine ⟨_, he, ?_, hk.1, grown_trans (grown_none hga _) hk.2⟩
  rw [List.getD_eq_getElem?_getD, List.getElem?_eq_getElem hj]
  exact List.getElem_mem hj
end Go.Proofs.Ytccnninmkfhejaa.By
