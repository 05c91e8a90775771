/-
  The program's own set of binds: what it holds; asked whether a variable is bound. No statement is proved here.
-/
import Derived.Test.YtmlganaiajhjeaaUM
import Derived.Test.YtmlganaiajhjeaaTVi
import Derived.Test.YtmlganaiajhjeaaTCopy
namespace Go.Proofs.Ytmlganaiajhjeaa.By
open Go.RowKit
set_option linter.unusedVariables false
set_option linter.unusedSimpArgs false

/-- As InF and SlF; each list lies in a block of trees. -/
def InD (w : World) (t : TypeId) : F → Nat → Nat → Prop
  | .nil, _, _ => True
  | .cons k n d r, b, off => (∃ a l c, w.cell? ⟨b, off, none⟩ = some (.int .i64 k) ∧ w.cell? ⟨b, off + 1, none⟩ = some (.int .i64 n) ∧ w.cell? ⟨b, off + 2, none⟩ = some (.slice a l c) ∧ d.len = l ∧ l ≤ 9223372036854775807 ∧ (l = 0 ∨ ∃ b' o', a = some ⟨b', o', none⟩ ∧ (∃ cur, w.heap[b']? = some (.cells cur t (0, 0))) ∧ InD w t d b' o')) ∧ InD w t r b (off + 3)
def SlD (w : World) (t : TypeId) (a : Option Addr) (l : Nat) (f : F) : Prop :=
  f.len = l ∧ l ≤ 9223372036854775807 ∧ (l = 0 ∨ ∃ b o, a = some ⟨b, o, none⟩ ∧ (∃ cur, w.heap[b]? = some (.cells cur t (0, 0))) ∧ InD w t f b o)
theorem InD.reads {w : World} {t : TypeId} {f : F} {b off : Nat} (h : InD w t f b off) : InF w f b off := by
  induction f generalizing b off with
  | nil => trivial
  | cons k n d r ihd ihr =>
    obtain ⟨⟨a, l, c, h0, h1, h2, h3, h4, h5⟩, hr⟩ := h
    refine ⟨⟨a, l, c, h0, h1, h2, h3, h4, ?_⟩, ihr hr⟩
    rcases h5 with h5 | ⟨b', o', e, _, h5⟩
    · exact .inl h5
    · exact .inr ⟨b', o', e, ihd h5⟩
theorem SlD.reads {w : World} {t : TypeId} {f : F} {a : Option Addr} {l : Nat} (h : SlD w t a l f) : SlF w a l f := by
  obtain ⟨h1, h2, h3⟩ := h
  refine ⟨h1, h2, ?_⟩
  rcases h3 with h3 | ⟨b, o, e, _, h3⟩
  · exact .inl h3
  · exact .inr ⟨b, o, e, h3.reads⟩
theorem InD.fix {w u : World} {t : TypeId} {f : F} {b off : Nat} (h : InD w t f b off) (hb : u.heap[b]? = w.heap[b]?) (hx : ∀ (i : Nat) (cur : Array Value), w.heap[i]? = some (.cells cur t (0, 0)) → u.heap[i]? = w.heap[i]?) : InD u t f b off := by
  induction f generalizing b off with
  | nil => trivial
  | cons k n d r ihd ihr =>
    obtain ⟨⟨a, l, c, h0, h1, h2, h3, h4, h5⟩, hr⟩ := h
    refine ⟨⟨a, l, c, (cell_of_heap hb).trans h0, (cell_of_heap hb).trans h1, (cell_of_heap hb).trans h2, h3, h4, ?_⟩, ihr hr hb⟩
    rcases h5 with h5 | ⟨b', o', e, ⟨cur, hc⟩, h5⟩
    · exact .inl h5
    · exact .inr ⟨b', o', e, ⟨cur, (hx b' cur hc).trans hc⟩, ihd h5 (hx b' cur hc)⟩
theorem SlD.fix {w u : World} {t : TypeId} {f : F} {a : Option Addr} {l : Nat} (h : SlD w t a l f) (hx : ∀ (i : Nat) (cur : Array Value), w.heap[i]? = some (.cells cur t (0, 0)) → u.heap[i]? = w.heap[i]?) : SlD u t a l f := by
  obtain ⟨h1, h2, h3⟩ := h
  refine ⟨h1, h2, ?_⟩
  rcases h3 with h3 | ⟨b, o, e, ⟨cur, hc⟩, h3⟩
  · exact .inl h3
  · exact .inr ⟨b, o, e, ⟨cur, (hx b cur hc).trans hc⟩, h3.fix (hx b cur hc) hx⟩
theorem SlD.none {w u : World} {t : TypeId} {f : F} {a : Option Addr} {l : Nat} (h : SlD w t a l f) (hg : w.grownBy u Option.none) : SlD u t a l f :=
  h.fix fun i cur hc => hg.block i (lt_of_block hc) (by simp)
theorem OwnF.typed {w : World} {t : TypeId} {f : F} {b off : Nat} {bs : List Nat} (h : OwnF w t f b off bs) : InD w t f b off := by
  induction f generalizing b off bs with
  | nil => trivial
  | cons k n d r ihd ihr =>
    obtain ⟨bs1, bs2, e, ⟨a, l, c, h0, h1, h2, h3, h4, h5, h6⟩, hr⟩ := h
    refine ⟨⟨a, l, c, h0, h1, h2, h3, h4, ?_⟩, ihr hr⟩
    rcases h6 with ⟨h6, _⟩ | ⟨g, bs', _, e1, _, ⟨cur, hc, _⟩, h6⟩
    · exact .inl (by omega)
    · exact .inr ⟨g, 0, e1, ⟨cur, hc⟩, ihd h6⟩
theorem SlO.typed {w : World} {t : TypeId} {f : F} {a : Option Addr} {l c : Nat} {bs : List Nat} (h : SlO w t a l c f bs) : SlD w t a l f := by
  obtain ⟨h1, h2, h3, h4⟩ := h
  refine ⟨h1, h2, ?_⟩
  rcases h4 with ⟨h4, _⟩ | ⟨g, bs', _, e1, _, ⟨cur, hc, _⟩, h4⟩
  · exact .inl (by omega)
  · exact .inr ⟨g, 0, e1, ⟨cur, hc⟩, h4.typed⟩
theorem InD.out {w : World} {t : TypeId} {k n : Int} {d r : F} {b off : Nat} (h : InD w t (.cons k n d r) b off) :
    ∃ a l c, w.cell? ⟨b, off, none⟩ = some (.int .i64 k) ∧ w.cell? ⟨b, off + 1, none⟩ = some (.int .i64 n) ∧ w.cell? ⟨b, off + 2, none⟩ = some (.slice a l c) ∧ SlD w t a l d ∧ InD w t r b (off + 3) := by
  obtain ⟨⟨a, l, c, h0, h1, h2, h3⟩, hr⟩ := h
  exact ⟨a, l, c, h0, h1, h2, h3, hr⟩
/-- Binds, each of whose trees lies in blocks of trees. -/
def InBD (w : World) (t : TypeId) : B → Nat → Nat → Prop
  | .nil, _, _ => True
  | .cons v k n d r, b, off => (∃ a l c, Qua b off (.int .i64 v) (.int .i64 k) (.int .i64 n) (.slice a l c) w ∧ SlD w t a l d) ∧ InBD w t r b (off + 4)
def SlBD (w : World) (t s : TypeId) (a : Option Addr) (l : Nat) (f : B) : Prop :=
  f.len = l ∧ l ≤ 9223372036854775807 ∧ (l = 0 ∨ ∃ b o, a = some ⟨b, o, none⟩ ∧ (∃ cur, w.heap[b]? = some (.cells cur s (0, 0))) ∧ InBD w t f b o)
theorem InBD.reads {w : World} {t : TypeId} {f : B} {b off : Nat} (h : InBD w t f b off) : InB w f b off := by
  induction f generalizing off with
  | nil => trivial
  | cons v k n d r ih =>
    obtain ⟨⟨a, l, c, h0, h1⟩, hr⟩ := h
    exact ⟨⟨a, l, c, h0, h1.reads⟩, ih hr⟩
theorem SlBD.reads {w : World} {t s : TypeId} {f : B} {a : Option Addr} {l : Nat} (h : SlBD w t s a l f) : SlB w a l f := by
  obtain ⟨h1, h2, h3⟩ := h
  refine ⟨h1, h2, ?_⟩
  rcases h3 with h3 | ⟨b, o, e, _, h3⟩
  · exact .inl h3
  · exact .inr ⟨b, o, e, h3.reads⟩
theorem InBD.fix {w u : World} {t : TypeId} {f : B} {b off : Nat} (h : InBD w t f b off) (hb : u.heap[b]? = w.heap[b]?) (hx : ∀ (i : Nat) (cur : Array Value), w.heap[i]? = some (.cells cur t (0, 0)) → u.heap[i]? = w.heap[i]?) : InBD u t f b off := by
  induction f generalizing off with
  | nil => trivial
  | cons v k n d r ih =>
    obtain ⟨⟨a, l, c, ⟨h0, h1, h2, h3⟩, h4⟩, hr⟩ := h
    exact ⟨⟨a, l, c, ⟨(cell_of_heap hb).trans h0, (cell_of_heap hb).trans h1, (cell_of_heap hb).trans h2, (cell_of_heap hb).trans h3⟩, h4.fix hx⟩, ih hr⟩
theorem SlBD.none {w u : World} {t s : TypeId} {f : B} {a : Option Addr} {l : Nat} (h : SlBD w t s a l f) (hg : w.grownBy u Option.none) : SlBD u t s a l f := by
  obtain ⟨h1, h2, h3⟩ := h
  refine ⟨h1, h2, ?_⟩
  rcases h3 with h3 | ⟨b, o, e, ⟨cur, hc⟩, h3⟩
  · exact .inl h3
  · have hb := hg.block b (lt_of_block hc) (by simp)
    exact .inr ⟨b, o, e, ⟨cur, hb.trans hc⟩, h3.fix hb (fun i cur hc => hg.block i (lt_of_block hc) (by simp))⟩
theorem OwnB.typed {w : World} {t : TypeId} {f : B} {b off : Nat} {bs : List Nat} (h : OwnB w t f b off bs) : InBD w t f b off := by
  induction f generalizing off bs with
  | nil => trivial
  | cons v k n d r ih =>
    obtain ⟨bs1, bs2, e, ⟨a, l, c, h0, h1⟩, hr⟩ := h
    exact ⟨⟨a, l, c, h0, h1.typed⟩, ih hr⟩
theorem SlOB.typed {w : World} {t s : TypeId} {f : B} {a : Option Addr} {l c : Nat} {bs : List Nat} (h : SlOB w t s a l c f bs) : SlBD w t s a l f := by
  obtain ⟨h1, h2, h3, h4⟩ := h
  refine ⟨h1, h2, ?_⟩
  rcases h4 with ⟨h4, _⟩ | ⟨g, bs', _, e1, _, ⟨cur, hc, _⟩, h4⟩
  · exact .inl (by omega)
  · exact .inr ⟨g, 0, e1, ⟨cur, hc⟩, h4.typed⟩
theorem InBD.snd {w : World} {t : TypeId} {f g : B} {b off : Nat} (h : InBD w t (f.app g) b off) : InBD w t g b (off + f.len * 4) := by
  induction f generalizing off with
  | nil => simpa [B.app, B.len] using h
  | cons v kk n d r ih =>
    have e : off + (B.cons v kk n d r).len * 4 = off + 4 + r.len * 4 := by simp only [B.len]; omega
    rw [e]
    exact ih h.2

/-- Blocks below B0 have not turned, nor any but rows of integers, maps and a set of binds. -/
structure FrS (B0 : Nat) (w u : World) : Prop where
  below : Below B0 w u
  other : ∀ (i : Nat) (cur : Array Value) (t : TypeId) (r : Nat × Nat), w.heap[i]? = some (.cells cur t r) → t ≠ 3 → t ≠ 112 → u.heap[i]? = some (.cells cur t r)
theorem FrS.refl (B0 : Nat) (w : World) : FrS B0 w w := ⟨Below.refl _ _, fun _ _ _ _ h _ _ => h⟩
theorem FrS.trans {B0 : Nat} {a b c : World} (h : FrS B0 a b) (k : FrS B0 b c) : FrS B0 a c := ⟨h.below.trans k.below, fun i cur t r hi h1 h2 => k.other i cur t r (h.other i cur t r hi h1 h2) h1 h2⟩
theorem FrS.grown {B0 : Nat} {w u : World} (h : w.grownBy u none) (hB : B0 ≤ w.heap.size) : FrS B0 w u :=
  ⟨(Below.refl _ _).grown h hB (fun k hk => by cases hk), fun i cur t r hi _ _ => (h.block i (lt_of_block hi) (by simp)).trans hi⟩
theorem FrS.row {B0 g : Nat} {w u : World} (h : w.grownBy u (some g)) (hB : B0 ≤ g) (hW : B0 ≤ w.heap.size) (hg : ∀ (cur : Array Value) (t : TypeId) (r : Nat × Nat), w.heap[g]? = some (.cells cur t r) → t = 3 ∨ t = 112) : FrS B0 w u :=
  ⟨(Below.refl _ _).grown h hW (fun k hk => by cases hk; exact hB), fun i cur t r hi h1 h2 => (h.block i (lt_of_block hi) (fun e => by
    cases e
    rcases hg cur t r hi with e | e
    · exact h1 e
    · exact h2 e)).trans hi⟩
theorem FrS.ty {B0 : Nat} {w u : World} (h : FrS B0 w u) {t : TypeId} (h1 : t ≠ 3) (h2 : t ≠ 112) : ∀ (i : Nat) (cur : Array Value), w.heap[i]? = some (.cells cur t (0, 0)) → u.heap[i]? = w.heap[i]? := fun i cur hc => (h.other i cur t (0, 0) hc h1 h2).trans hc.symm
theorem FrS.slD {B0 : Nat} {w u : World} (h : FrS B0 w u) {f : F} {a : Option Addr} {l : Nat} (hs : SlD w 25 a l f) : SlD u 25 a l f := hs.fix (h.ty (by decide) (by decide))
theorem FrS.slBD {B0 : Nat} {w u : World} (h : FrS B0 w u) {f : B} {a : Option Addr} {l : Nat} (hs : SlBD w 25 44 a l f) : SlBD u 25 44 a l f := by
  obtain ⟨h1, h2, h3⟩ := hs
  refine ⟨h1, h2, ?_⟩
  rcases h3 with h3 | ⟨b, o, e, ⟨cur, hc⟩, h3⟩
  · exact .inl h3
  · have hb := h.other b cur 44 (0, 0) hc (by decide) (by decide)
    exact .inr ⟨b, o, e, ⟨cur, hb⟩, h3.fix (hb.trans hc.symm) (h.ty (by decide) (by decide))⟩

/-- What the map holds is what the binds say. -/
def Vals (w : World) (T : Int → Option Value) (L : B) : Prop :=
  ∀ x, match L.find x with
    | none => T x = none
    | some y => ∃ a l c, T x = some (.agg #[.int .i64 y.1, .int .i64 y.2.1, .slice a l c]) ∧ SlD w 25 a l y.2.2
theorem Vals.isIn {w : World} {T : Int → Option Value} {L : B} (h : Vals w T L) (x : Int) : (T x).isSome = L.dom.contains x := by
  have := h x
  rw [← B.find_dom]
  cases hf : L.find x with
  | none => rw [hf] at this; simp [this]
  | some y => rw [hf] at this; obtain ⟨a, l, c, e, _⟩ := this; simp [e]
theorem Vals.fix {w u : World} {T : Int → Option Value} {L : B} (h : Vals w T L) (hx : ∀ (i : Nat) (cur : Array Value), w.heap[i]? = Option.some (.cells cur 25 (0, 0)) → u.heap[i]? = w.heap[i]?) : Vals u T L := by
  intro x
  have := h x
  cases hf : L.find x with
  | none => rw [hf] at this; exact this
  | some y => rw [hf] at this; obtain ⟨a, l, c, e, hs⟩ := this; exact ⟨a, l, c, e, hs.fix hx⟩
/-- The set of binds at p: its map, its order (from block B0 on), what they hold. -/
structure BS (B0 : Nat) (w : World) (p m : Nat) (oa : Option Addr) (oc : Nat) (L : B) : Prop where
  box : w.heap[p]? = some (.cells #[.map (some m), .slice oa L.len oc] 112 (0, 0))
  order : OwI B0 w oa L.len oc L.dom
  has : ∃ T, MapIs w m L.len T ∧ Vals w T L
  p0 : B0 ≤ p
  m0 : B0 ≤ m
  sz : B0 ≤ w.heap.size
theorem two {w : World} {g : Nat} {t : TypeId} {c0 c1 : Value} (h : w.heap[g]? = some (.cells #[c0, c1] t (0, 0))) :
    (w.cell? ⟨g, 0, none⟩ = some c0 ∧ w.cell? ⟨g, 1, none⟩ = some c1) ∧ (w.frozen? ⟨g, 0, none⟩ = false ∧ w.frozen? ⟨g, 1, none⟩ = false) := by
  refine ⟨⟨?_, ?_⟩, frozen_of_row w g _ _ t h, frozen_of_row w g _ _ t h⟩ <;> (rw [cell_of_row w g _ _ t (0, 0) h]; rfl)
theorem BS.none {B0 : Nat} {w u : World} {p m : Nat} {oa : Option Addr} {oc : Nat} {L : B} (h : BS B0 w p m oa oc L) (hg : w.grownBy u Option.none) : BS B0 u p m oa oc L := by
  obtain ⟨h1, h2, ⟨T, h3, h4⟩, h5, h6, h7⟩ := h
  exact ⟨(hg.block p (lt_of_block h1) (by simp)).trans h1, h2.kept hg, ⟨T, h3.kept hg (by simp), h4.fix fun i cur hc => hg.block i (lt_of_block hc) (by simp)⟩, h5, h6, Nat.le_trans h7 hg.size⟩

set_option maxHeartbeats 400000 in
/-- Is v in the map? -/
theorem bindsAskG (p m n : Nat) (T : Int → Option Value) (v : Int) (hv : I64x v) (w : World) (x0 : w.cell? ⟨p, 0, none⟩ = some (.map (some m))) (hM : MapIs w m n T) (hval : ∃ k n a l c, (T v).getD zeroTyV = .agg #[.int .i64 k, .int .i64 n, .slice a l c]) :
    Calls Try.prog 76 #[.pointer (some ⟨p, 0, none⟩), .int .i64 v] w fun e u => e = .returned (.bool (T v).isSome) ∧ w.grownBy u none := by
  have hlook := hM.look_ok hv
  obtain ⟨k, n, a, l, c, hval⟩ := hval
  rw [hval] at hlook
  clear hval hM
  generalize (T v).isSome = t at *
  go_enter Try.func76, Try.ntmps76
  go_wp2
  go_ret
  exact ⟨rfl, World.grownBy_alloc _ _ _⟩
theorem Vals.aggs {w : World} {T : Int → Option Value} {L : B} (h : Vals w T L) (x : Int) : ∃ k n a l c, (T x).getD zeroTyV = .agg #[.int .i64 k, .int .i64 n, .slice a l c] := by
  have := h x
  cases hf : L.find x with
  | none => rw [hf] at this; rw [this]; exact ⟨0, 0, Option.none, 0, 0, rfl⟩
  | some y => rw [hf] at this; obtain ⟨a, l, c, e, _⟩ := this; rw [e]; exact ⟨_, _, a, l, c, rfl⟩
/-- Is v bound? -/
theorem bindsAsk (B0 : Nat) (p m : Nat) (oa : Option Addr) (oc : Nat) (L : B) (v : Int) (hv : I64x v) (w : World) (h : BS B0 w p m oa oc L) :
    Calls Try.prog 76 #[.pointer (some ⟨p, 0, none⟩), .int .i64 v] w fun e u => e = .returned (.bool (L.dom.contains v)) ∧ w.grownBy u none := by
  obtain ⟨T, hM, hV⟩ := h.has
  have := bindsAskG p m L.len T v hv w (two h.box).1.1 hM (hV.aggs v)
  rw [hV.isIn v] at this
  exact this

/-- Is there one of zs that f holds of? -/
def AtI (zs : List Int) (q : Int → Bool) (r : Int) : Prop := if zs.any q = true then 0 ≤ r else r = -1

set_option maxHeartbeats 1000000 in
theorem indexI (zs : List Int) (fn : Value) (q : Int → Bool) (a : Option Addr) (c : Nat) (w : World) (h : ReadsI w a zs.length zs) (hn : zs.length ≤ 1000000)
    (H : ∀ u, w.grownBy u none → ∀ x ∈ zs, Calls Try.prog 76 #[fn, .int .i64 x] u fun e u' => e = .returned (.bool (q x)) ∧ u.grownBy u' none) :
    Calls Try.prog 99 #[.slice a zs.length c, .func (Fn.func 76) #[fn] #[]] w fun e u => ∃ r, AtI zs q r ∧ e = .returned (.int .i64 r) ∧ w.grownBy u none := by
  have HH : Hid _ := H
  have HR : Hid (ReadsI w a zs.length zs) := h
  clear H h
  go_enter Try.func99, Try.ntmps99
  go_wp2
  go_loopw [8] (fun i wr => ∃ j : Nat, j ≤ zs.length ∧ i = .int .i64 j ∧ Hid (w.grownBy wr none ∧ (zs.take j).any q = false)) (fun i _ => zs.length - (intOf i).toNat)
  case atStart => exact ⟨0, Nat.zero_le _, rfl, World.grownBy.refl _ _, by simp⟩
  case round =>
    obtain ⟨j, hj, rfl, HQ⟩ := hrel
    by_cases hlt : j < zs.length
    · have hlt' : (j : Int) < zs.length := by omega
      have hr := HR.out.none HQ.out.1
      rcases hr.2 with h0 | ⟨b, off, rfl, hc⟩
      · omega
      have c0 := hc j hlt
      have hmem : zs.getD j 0 ∈ zs := by
        rw [List.getD_eq_getElem?_getD, List.getElem?_eq_getElem hlt]; exact List.getElem_mem hlt
      have HX : Hid ((zs.take (j + 1)).any q = q (zs.getD j 0) ∧ (q (zs.getD j 0) = true → zs.any q = true)) := ⟨by
        rw [List.take_succ_eq_append_getElem hlt, List.any_append, HQ.out.2, Bool.false_or]
        simp [List.getElem?_eq_getElem hlt], fun hp => List.any_eq_true.2 ⟨_, hmem, hp⟩⟩
      have CC : Hid _ := HH.out wr HQ.out.1 _ hmem
      generalize zs.getD j 0 = x at *
      clear hr hc
      go_wp2_with fail
      refine Calls.mono CC.out ?_
      rintro e u ⟨rfl, hg⟩
      have G : Hid (w.grownBy u none) := grown_trans HQ.out.1 hg
      clear hg CC HQ c0
      cases hq : q x with
      | true =>
        simp only []
        go_wp2
        go_ret
        exact ⟨j, by unfold AtI; rw [HX.out.2 hq, if_pos rfl]; omega, rfl, G.out⟩
      | false =>
        simp only []
        go_wp2
        go_roundw
        case rel => exact ⟨j + 1, by omega, by go_num, G.out, by rw [HX.out.1, hq]⟩
        case measure => simp [intOf]; omega
    · obtain rfl : j = zs.length := by omega
      have E : Hid (zs.any q = false ∧ w.grownBy wr none) := ⟨by have := HQ.out.2; rwa [List.take_length] at this, HQ.out.1⟩
      clear HQ
      go_wp2
      go_ret
      exact ⟨-1, by unfold AtI; rw [E.out.1]; simp, rfl, E.out.2⟩

set_option maxHeartbeats 400000 in
theorem containsI (zs : List Int) (fn : Value) (q : Int → Bool) (a : Option Addr) (c : Nat) (w : World) (h : ReadsI w a zs.length zs) (hn : zs.length ≤ 1000000)
    (H : ∀ u, w.grownBy u none → ∀ x ∈ zs, Calls Try.prog 76 #[fn, .int .i64 x] u fun e u' => e = .returned (.bool (q x)) ∧ u.grownBy u' none) :
    Calls Try.prog 92 #[.slice a zs.length c, .func (Fn.func 76) #[fn] #[]] w fun e u => e = .returned (.bool (zs.any q)) ∧ w.grownBy u none := by
  have CC : Hid _ := indexI zs fn q a c w h hn H
  clear H h
  go_enter Try.func92, Try.ntmps92
  go_wp2_with fail
  refine Calls.mono CC.out ?_
  rintro e u ⟨r, hr, rfl, hg⟩
  have G : Hid (w.grownBy u none) := hg
  have hd : decide (0 ≤ r) = zs.any q := by
    unfold AtI at hr
    cases hz : zs.any q with
    | true => rw [hz, if_pos rfl] at hr; simpa using hr
    | false => rw [hz] at hr; simp at hr; subst hr; rfl
  clear CC hr hg
  have E : Hid (decide (0 ≤ r) = zs.any q) := hd
  clear hd
  simp only []
  go_wp2
  go_ret
  exact ⟨by rw [← E.out]; rfl, G.out⟩
end Go.Proofs.Ytmlganaiajhjeaa.By
