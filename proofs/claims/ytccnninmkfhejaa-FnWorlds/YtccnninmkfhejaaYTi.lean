/-
  What the calls of each kind do to a world of our own: print, tick, draw, get, by their contracts. No statement is proved here.
-/
import Derived.Test.YtccnninmkfhejaaYOw
import Derived.Test.YtccnninmkfhejaaWF
namespace Go.Proofs.Ytccnninmkfhejaa.By
open Go.RowKit
set_option linter.unusedVariables false
set_option linter.unusedSimpArgs false

/-- Numbers in a block of our own, also at an offset. -/
def OwI0 (w : World) (B : Nat) (a : Option Addr) (l : Nat) (zs : List Int) : Prop :=
  zs.length = l ∧ l ≤ 9223372036854775807 ∧ (l = 0 ∨ ∃ g o cur, a = some ⟨g, o, none⟩ ∧ B ≤ g ∧ w.heap[g]? = some (.cells cur 3 (0, 0)) ∧ ∀ i, i < l → cur[o + i]? = some (.int .i64 (zs.getD i 0)))
theorem OwI0.rd {w : World} {B : Nat} {a : Option Addr} {l : Nat} {zs : List Int} (h : OwI0 w B a l zs) : RdI (hideZ w B) a l zs := by
  refine ⟨⟨h.1, ?_⟩, h.2.1⟩
  rcases h.2.2 with h0 | ⟨g, o, cur, e, hb, hg, hc⟩
  · exact .inl h0
  · exact .inr ⟨g, o, e, fun i hi => by rw [cell_of_row _ g _ cur 3 (0, 0) (hideZ_heap hb hg)]; exact hc i hi⟩
theorem OwI0.kept {w u : World} {B : Nat} {a : Option Addr} {l : Nat} {zs : List Int} {row : Option Nat} (h : OwI0 w B a l zs) (hg : w.grownBy u row) (hn : ∀ g, row = some g → ∀ cur, w.heap[g]? ≠ some (.cells cur 3 (0, 0))) : OwI0 u B a l zs := by
  refine ⟨h.1, h.2.1, ?_⟩
  rcases h.2.2 with h0 | ⟨g, o, cur, e, hb, hh, hc⟩
  · exact .inl h0
  · exact .inr ⟨g, o, cur, e, hb, (hg.block g (lt_of_block hh) (fun e => hn g e.symm cur hh)).trans hh, hc⟩
theorem OwI0.of {w : World} {B : Nat} {a : Option Addr} {l c : Nat} {zs : List Int} (h : w.ownsRow B 3 1 (.slice a l c) l (vI zs)) (hl : l ≤ 9223372036854775807) : OwI0 w B a l zs := by
  have hz : zs.length = l := by have := h.1; rw [vI_len] at this; omega
  refine ⟨hz, hl, ?_⟩
  rcases h.2 with ⟨-, h0⟩ | ⟨g, cap, cur, e, hb, hg, hn, hm, hs, ht⟩
  · exact .inl h0
  · cases e
    refine .inr ⟨g, 0, cur, rfl, hb, hg, fun i hi => ?_⟩
    have h1 : (cur.toList.take (l * 1))[0 + i]? = cur.toList[0 + i]? := by rw [List.getElem?_take]; simp; omega
    rw [ht, Nat.zero_add, vI_get (by omega)] at h1
    rw [Nat.zero_add, ← Array.getElem?_toList, ← h1]
theorem row_ne {w : World} {B q : Nat} {t t' : TypeId} {s n : Nat} {v : Value} {zs : List Value} {cur : Array Value} (h : w.ownsRow B t s v n zs) (hq : w.heap[q]? = some (.cells cur t' (0, 0))) (ht : t ≠ t') : v.ownBlock = none ∨ v.ownBlock ≠ some q := by
  rcases h.2 with ⟨rfl, -⟩ | ⟨g, cap, cur', rfl, -, hg, -⟩
  · left; rfl
  · right
    intro e
    have e' : g = q := by simpa [Value.ownBlock] using e
    subst e'
    rw [hq] at hg
    cases hg
    exact ht rfl

/-- A world of our own in block q. -/
def Mine (w : World) (B q : Nat) (x : RWorld) (d1 : Option Addr) (l1 k1 : Nat) (d2 : Option Addr) (l2 k2 : Nat) (d3 : Option Addr) (l3 k3 : Nat) (vs : List Value) (hi : Nat) : Prop :=
  w.heap[q]? = some (.cells #[.int .i64 x.ticks, .slice d1 l1 k1, .slice d2 l2 k2, .slice d3 l3 k3] 27 (0, 0)) ∧ OwI0 w B d1 l1 x.draws ∧ w.ownsRow B 66 2 (.slice d2 l2 k2) l2 (vE x.store) ∧ w.ownsRow B 36 5 (.slice d3 l3 k3) l3 vs ∧ EvO w hi x.trace vs B ∧ hi ≤ w.heap.size
theorem Mine.none {w u : World} {B q : Nat} {x : RWorld} {d1 : Option Addr} {l1 k1 : Nat} {d2 : Option Addr} {l2 k2 : Nat} {d3 : Option Addr} {l3 k3 : Nat} {vs : List Value} {hi : Nat} (h : Mine w B q x d1 l1 k1 d2 l2 k2 d3 l3 k3 vs hi) (hg : w.grownBy u Option.none) : Mine u B q x d1 l1 k1 d2 l2 k2 d3 l3 k3 vs hi := by
  obtain ⟨h0, h1, h2, h3, h4, h5⟩ := h
  exact ⟨(hg.block _ (lt_of_block h0) (by simp)).trans h0, h1.kept hg (fun g e => by cases e), h2.kept hg (Classical.em _), h3.kept hg (Classical.em _), h4.none hg, Nat.le_trans h5 hg.size⟩
/-- A cell of block q is stored into: the lists stand. -/
theorem Mine.rest {w : World} {B q : Nat} {x : RWorld} {d1 : Option Addr} {l1 k1 : Nat} {d2 : Option Addr} {l2 k2 : Nat} {d3 : Option Addr} {l3 k3 : Nat} {vs : List Value} {hi : Nat} (h : Mine w B q x d1 l1 k1 d2 l2 k2 d3 l3 k3 vs hi) (i : Nat) (v : Value) :
    OwI0 (w.setCell ⟨q, i, Option.none⟩ v) B d1 l1 x.draws ∧ (w.setCell ⟨q, i, Option.none⟩ v).ownsRow B 66 2 (.slice d2 l2 k2) l2 (vE x.store) ∧ (w.setCell ⟨q, i, Option.none⟩ v).ownsRow B 36 5 (.slice d3 l3 k3) l3 vs ∧ EvO (w.setCell ⟨q, i, Option.none⟩ v) hi x.trace vs B ∧ hi ≤ (w.setCell ⟨q, i, Option.none⟩ v).heap.size := by
  obtain ⟨h0, h1, h2, h3, h4, h5⟩ := h
  have kk := grown_setCell w q i v
  have hne : ∀ t', t' ≠ 27 → ∀ g, some q = some g → ∀ cur, w.heap[g]? ≠ some (.cells cur t' (0, 0)) := fun t' ht g e cur e2 => by
    obtain rfl := Option.some.inj e
    rw [h0] at e2
    cases e2
    exact ht rfl
  exact ⟨h1.kept kk (hne 3 (by decide)), h2.kept kk (row_ne h2 h0 (by decide)), h3.kept kk (row_ne h3 h0 (by decide)), h4.kept kk (hne 5 (by decide)), Nat.le_trans h5 kk.size⟩
theorem mine_below {w : World} {B q i : Nat} (hq : B ≤ q) (v : Value) : Below B w (w.setCell ⟨q, i, none⟩ v) := (Below.refl B w).setCell (p := ⟨q, i, Option.none⟩) hq v

/-- What a call answers, and the world that it leaves. -/
def DeedR (w : World) (B q : Nat) (x : RWorld) (ev : REvent) (e : Ending) (u : World) : Prop :=
  ∃ a l c d1 l1 k1 d2 l2 k2 d3 l3 k3 vs hi, e = .returned (.agg #[.int .i64 ev.cap, .int .i64 ev.a, .int .i64 ev.b, .slice a l c, .int .i64 ev.res]) ∧ Mine u B q x d1 l1 k1 d2 l2 k2 d3 l3 k3 vs hi ∧ (u.ownsRow hi 5 1 (.slice a l c) l (vB ev.lit) ∧ Byt ev.lit ∧ l ≤ 1048576) ∧ Below B w u


set_option maxRecDepth 8000 in
set_option maxHeartbeats 4000000 in
theorem printT (x : RWorld) (B q : Nat) (A C : Int) (lit : List Int) (a : Option Addr) (l c : Nat) (d1 : Option Addr) (l1 k1 : Nat) (d2 : Option Addr) (l2 k2 : Nat) (d3 : Option Addr) (l3 k3 : Nat) (vs : List Value) (hi : Nat) (w : World) (h : Mine w B q x d1 l1 k1 d2 l2 k2 d3 l3 k3 vs hi) (hB : B ≤ w.heap.size) (hl : RdB w a l lit) (hn : l ≤ 1048576) :
    Calls Try.prog 71 #[.pointer (some ⟨q, 0, none⟩), .int .i64 A, .int .i64 C, .slice a l c] w fun e u => DeedR w B q x ⟨0, 0, 0, lit, 0⟩ e u := by
  have g0 := World.grownBy_alloc w (.cells #[.int .i64 0, .int .i64 0, .int .i64 0, .slice none 0 0, .int .i64 0] 36) none
  have b0 := heap_alloc_new w (.cells #[.int .i64 0, .int .i64 0, .int .i64 0, .slice none 0 0, .int .i64 0] 36)
  have C0 : Hid _ := freshYb (vB lit) a l c _ (by rw [vB_len, hl.1.1]; omega) (vB_one _) ((hl.none g0).lies) hn
  have L0 : Hid _ := And.intro g0 (And.intro b0 (And.intro (World.size_alloc w (.cells #[.int .i64 0, .int .i64 0, .int .i64 0, .slice none 0 0, .int .i64 0] 36)) (And.intro h (And.intro hB hl.2.1))))
  clear h hl hB g0 b0
  go_enter Try.func71, Try.ntmps71
  go_wp2_with fail
  refine Calls.mono C0.out ?_
  rintro e u ⟨d, k, rfl, ho, hg⟩
  obtain ⟨g0, b0, hss, hm, hB, hby⟩ := L0.out
  have b0 := (hg.block _ (lt_of_block b0) (by simp)).trans b0
  obtain ⟨mf, kf⟩ := fillEvent (.int .i64 0) (.int .i64 0) (.int .i64 0) (.slice d l k) (.int .i64 0) b0
  have G := grown_into (grown_trans g0 hg) kf (Nat.le_refl _)
  have ho2 := ho.kept kf (by
    rcases ho.2 with ⟨e, -⟩ | ⟨g, cap, cur, e, hb, -⟩
    · left; rw [e]; rfl
    · right; rw [e]; rw [hss] at hb; simp [Value.ownBlock]; omega)
  have FQ : Hid _ := And.intro mf (And.intro (hm.none G) (And.intro (Go.Joins.ownsRow_le ho2 (base' := hi) (by have := hm.2.2.2.2.2; omega)) (And.intro hby ((Below.refl B w).grown G hB (fun k e => by cases e)))))
  obtain ⟨⟨y0, y1, y2, y3, y4⟩, hfy⟩ := blkEvent b0
  have f0 := hfy 0
  have f1 := hfy 1
  have f2 := hfy 2
  have f3 := hfy 3
  have f4 := hfy 4
  clear G ho2 ho hg kf mf hm hby hB g0 b0 hss L0 C0 hfy
  simp only []
  go_wp2
  (try simp only [Exit.inBlock, Exit.then])
  refine bodyPost_ret (results_cell_row (P := Try.prog) Try.results71 _ _ _ _ _ _ _ rfl FQ.out.1 Try.underlying36 rfl (by kernel_rfl)) rfl ?_
  obtain ⟨-, f1, f2, f3, f4⟩ := FQ.out
  exact ⟨d, l, k, d1, l1, k1, d2, l2, k2, d3, l3, k3, vs, hi, rfl, f1, ⟨f2, f3, hn⟩, f4⟩

theorem heap_alloc_set (w : World) (p : Addr) (v : Value) (o : Obj) : ((w.setCell p v).alloc o).heap[w.heap.size]? = some o := by
  have := World.alloc_heap_new (w.setCell p v) o
  simpa [World.setCell] using this
theorem deed_fin {w w1 : World} {B q : Nat} {x : RWorld} {d1 : Option Addr} {l1 k1 : Nat} {d2 : Option Addr} {l2 k2 : Nat} {d3 : Option Addr} {l3 k3 : Nat} {vs : List Value} {hi : Nat} (h : Mine w1 B q x d1 l1 k1 d2 l2 k2 d3 l3 k3 vs hi) (hb : Below B w w1) (hB : B ≤ w1.heap.size) (ca A C r : Int) (o : Obj) :
    DeedR w B q x ⟨ca, A, C, [], r⟩ (.returned (.agg #[.int .i64 ca, .int .i64 A, .int .i64 C, .slice none 0 0, .int .i64 r])) (w1.alloc o) :=
  ⟨none, 0, 0, d1, l1, k1, d2, l2, k2, d3, l3, k3, vs, hi, rfl, h.none (World.grownBy_alloc _ _ _), ⟨World.ownsRow_nil _ _ _ _, fun z hz => by simp at hz, by omega⟩, hb.alloc hB o⟩
/-- The ticks are set. -/
theorem Mine.ticks {w : World} {B q : Nat} {x : RWorld} {d1 : Option Addr} {l1 k1 : Nat} {d2 : Option Addr} {l2 k2 : Nat} {d3 : Option Addr} {l3 k3 : Nat} {vs : List Value} {hi : Nat} (h : Mine w B q x d1 l1 k1 d2 l2 k2 d3 l3 k3 vs hi) (t : Int) : Mine (w.setCell ⟨q, 0, Option.none⟩ (.int .i64 t)) B q { x with ticks := t } d1 l1 k1 d2 l2 k2 d3 l3 k3 vs hi :=
  ⟨heap_setCell_same _ q 0 _ _ (.int .i64 t) h.1, h.rest 0 (.int .i64 t)⟩

/-- The draws are set. -/
theorem Mine.draws {w : World} {B q : Nat} {x : RWorld} {d1 : Option Addr} {l1 k1 : Nat} {d2 : Option Addr} {l2 k2 : Nat} {d3 : Option Addr} {l3 k3 : Nat} {vs : List Value} {hi : Nat} (h : Mine w B q x d1 l1 k1 d2 l2 k2 d3 l3 k3 vs hi) {d' : Option Addr} {l' : Nat} {r : List Int} (hr : OwI0 w B d' l' r) (k' : Nat) : Mine (w.setCell ⟨q, 1, Option.none⟩ (.slice d' l' k')) B q { x with draws := r } d' l' k' d2 l2 k2 d3 l3 k3 vs hi :=
  ⟨heap_setCell_same _ q 1 _ _ (.slice d' l' k') h.1, hr.kept (grown_setCell _ _ _ _) (fun g e cur e2 => by obtain rfl := Option.some.inj e; rw [h.1] at e2; cases e2), (h.rest 1 (.slice d' l' k')).2⟩

def tickV (x : RWorld) : RWorld := { x with ticks := if x.ticks < 2147483647 then x.ticks + 1 else x.ticks }


set_option maxRecDepth 8000 in
set_option maxHeartbeats 4000000 in
theorem tickT (x : RWorld) (B q : Nat) (A C : Int) (a : Option Addr) (l c : Nat) (d1 : Option Addr) (l1 k1 : Nat) (d2 : Option Addr) (l2 k2 : Nat) (d3 : Option Addr) (l3 k3 : Nat) (vs : List Value) (hi : Nat) (w : World) (h : Mine w B q x d1 l1 k1 d2 l2 k2 d3 l3 k3 vs hi) (hB : B ≤ w.heap.size) (hq : B ≤ q) (ht : 0 ≤ x.ticks ∧ x.ticks ≤ 2147483647) :
    Calls Try.prog 72 #[.pointer (some ⟨q, 0, none⟩), .int .i64 A, .int .i64 C, .slice a l c] w fun e u => DeedR w B q (tickV x) ⟨0, 0, 0, [], x.ticks⟩ e u := by
  have hm := h.none (World.grownBy_alloc w (.cells #[.int .i64 0, .int .i64 0, .int .i64 0, .slice none 0 0, .int .i64 0] 36) none)
  have hlt := lt_of_block h.1
  obtain ⟨⟨y0, y1, y2, y3⟩, hfy⟩ := blkWorld hm.1
  have fy0 := hfy 0
  have nq : q ≠ w.heap.size := by omega
  have hw : IntKind.i64.wrap (x.ticks + 1) = x.ticks + 1 := IntWalk.i64_in _ ⟨by omega, by omega⟩
  have HM : Hid (Mine w B q x d1 l1 k1 d2 l2 k2 d3 l3 k3 vs hi ∧ B ≤ w.heap.size ∧ B ≤ q) := ⟨h, hB, hq⟩
  have E1 : Hid (x.ticks < 2147483647 → tickV x = { x with ticks := x.ticks + 1 }) := fun hh => by simp [tickV, hh]
  have E2 : Hid (¬ x.ticks < 2147483647 → tickV x = { x with ticks := 2147483647 }) := fun hh => by
    have : x.ticks = 2147483647 := by omega
    simp only [tickV, if_neg hh]
    rw [this]
  have HT : Hid (0 ≤ x.ticks ∧ x.ticks ≤ 2147483647) := ht
  clear h hm hfy hB hq ht
  go_enter Try.func72, Try.ntmps72
  go_wp2
  · have e := E2.out (by omega)
    rw [e]
    (try simp only [Exit.inBlock, Exit.then])
    refine bodyPost_ret (results_cell_row (P := Try.prog) Try.results72 _ _ _ _ _ _ _ rfl (heap_alloc_set _ _ _ _) Try.underlying36 rfl (by kernel_rfl)) rfl ?_
    exact deed_fin (HM.out.1.ticks _) (mine_below HM.out.2.2 _) (Nat.le_trans HM.out.2.1 (grown_setCell _ _ _ _).size) _ _ _ _ _
  · have e := E1.out (by omega)
    rw [e]
    (try simp only [Exit.inBlock, Exit.then])
    refine bodyPost_ret (results_cell_row (P := Try.prog) Try.results72 _ _ _ _ _ _ _ rfl (heap_alloc_set _ _ _ _) Try.underlying36 rfl (by kernel_rfl)) rfl ?_
    exact deed_fin (HM.out.1.ticks _) (mine_below HM.out.2.2 _) (Nat.le_trans HM.out.2.1 (grown_setCell _ _ _ _).size) _ _ _ _ _

def drawV (x : RWorld) (A : Int) : RWorld × Int :=
  match x.draws with
  | [] => (x, 0)
  | d :: r => if 0 < A then ({ x with draws := r }, d % A) else (x, 0)

set_option maxRecDepth 8000 in
set_option maxHeartbeats 4000000 in
theorem drawT (x : RWorld) (B q : Nat) (A C : Int) (a : Option Addr) (l c : Nat) (d1 : Option Addr) (l1 k1 : Nat) (d2 : Option Addr) (l2 k2 : Nat) (d3 : Option Addr) (l3 k3 : Nat) (vs : List Value) (hi : Nat) (w : World) (h : Mine w B q x d1 l1 k1 d2 l2 k2 d3 l3 k3 vs hi) (hB : B ≤ w.heap.size) (hq : B ≤ q) (hk : l1 ≤ k1 ∧ k1 ≤ 9223372036854775807) (hd : ∀ z ∈ x.draws, 0 ≤ z ∧ z ≤ 2147483647) :
    Calls Try.prog 73 #[.pointer (some ⟨q, 0, none⟩), .int .i64 A, .int .i64 C, .slice a l c] w fun e u => DeedR w B q (drawV x A).1 ⟨0, A, 0, [], (drawV x A).2⟩ e u := by
  have hm := h.none (World.grownBy_alloc w (.cells #[.int .i64 0, .int .i64 0, .int .i64 0, .slice none 0 0, .int .i64 0] 36) none)
  have hlt := lt_of_block h.1
  obtain ⟨⟨y0, y1, y2, y3⟩, hfy⟩ := blkWorld hm.1
  have fy1 := hfy 1
  have nq : q ≠ w.heap.size := by omega
  have hl1 := h.2.1.1
  have HM : Hid (Mine w B q x d1 l1 k1 d2 l2 k2 d3 l3 k3 vs hi ∧ B ≤ w.heap.size ∧ B ≤ q) := ⟨h, hB, hq⟩
  have hlm := h.2.1.2.1
  by_cases hA : A ≤ 0
  · have E : Hid (drawV x A = (x, 0)) := by
      show _ = _
      unfold drawV
      cases x.draws with
      | nil => rfl
      | cons d r => simp only [if_neg (by omega : ¬ 0 < A)]
    clear h hm hfy hB hq hd hl1
    go_enter Try.func73, Try.ntmps73
    go_wp2
    rw [E.out]
    (try simp only [Exit.inBlock, Exit.then])
    refine bodyPost_ret (results_cell_row (P := Try.prog) Try.results73 _ _ _ _ _ _ _ rfl (World.alloc_heap_new _ _) Try.underlying36 rfl (by kernel_rfl)) rfl ?_
    exact deed_fin HM.out.1 (Below.refl _ _) HM.out.2.1 _ _ _ _ _
  cases hx : x.draws with
  | nil =>
    have E : Hid (drawV x A = (x, 0)) := by show _ = _; unfold drawV; rw [hx]
    rw [hx] at hl1
    obtain rfl : l1 = 0 := by simpa using hl1.symm
    clear h hm hfy hB hq hd hx
    go_enter Try.func73, Try.ntmps73
    go_wp2
    rw [E.out]
    (try simp only [Exit.inBlock, Exit.then])
    refine bodyPost_ret (results_cell_row (P := Try.prog) Try.results73 _ _ _ _ _ _ _ rfl (World.alloc_heap_new _ _) Try.underlying36 rfl (by kernel_rfl)) rfl ?_
    exact deed_fin HM.out.1 (Below.refl _ _) HM.out.2.1 _ _ _ _ _
  | cons d r =>
    have E : Hid (drawV x A = ({ x with draws := r }, d % A)) := by show _ = _; unfold drawV; rw [hx]; simp only [if_pos (by omega : 0 < A)]
    rw [hx] at hl1
    simp only [List.length_cons] at hl1
    obtain ⟨g, o, cur, rfl, hbg, hcg, hc⟩ : ∃ g o cur, d1 = some ⟨g, o, none⟩ ∧ B ≤ g ∧ w.heap[g]? = some (.cells cur 3 (0, 0)) ∧ ∀ i, i < l1 → cur[o + i]? = some (.int .i64 (x.draws.getD i 0)) := by
      rcases h.2.1.2.2 with h0 | h0
      · omega
      · exact h0
    have hz : w.cell? ⟨g, o, none⟩ = some (.int .i64 d) := by
      have := hc 0 (by omega)
      rw [hx] at this
      rw [cell_of_row _ g _ cur 3 (0, 0) hcg]; simpa using this
    have hgw := lt_of_block hcg
    have ng : g ≠ w.heap.size := by omega
    have hz' := (World.grownBy_alloc w (.cells #[.int .i64 0, .int .i64 0, .int .i64 0, .slice none 0 0, .int .i64 0] 36) none).cell hz (by simp)
    have hdz := hd d (by rw [hx]; simp)
    have hA0 : ¬ A = 0 := by omega
    have HC : Hid ((∀ i, i < l1 → cur[o + i]? = some (.int .i64 (x.draws.getD i 0))) ∧ x.draws = d :: r ∧ r.length + 1 = l1 ∧ w.heap[g]? = some (.cells cur 3 (0, 0)) ∧ B ≤ g) := ⟨hc, hx, hl1, hcg, hbg⟩
    clear h hm hfy hB hq hd hx hc hcg hl1 hbg
    have hl0 : 0 < l1 := by have := HC.out.2.2.1; omega
    have hl1' : ¬ ((l1 : Int) = 0) := by omega
    go_enter Try.func73, Try.ntmps73
    go_wp2
    · have hr : OwI0 w B (some ⟨g, o, none⟩) (l1 - 1) r := ⟨by have := HC.out.2.2.1; omega, by omega, .inl (by omega)⟩
      rw [E.out]
      (try simp only [Exit.inBlock, Exit.then])
      refine bodyPost_ret (results_cell_row (P := Try.prog) Try.results73 _ _ _ _ _ _ _ rfl (heap_alloc_set _ _ _ _) Try.underlying36 rfl (by kernel_rfl)) rfl ?_
      exact deed_fin (HM.out.1.draws hr _) (mine_below HM.out.2.2 _) (Nat.le_trans HM.out.2.1 (grown_setCell _ _ _ _).size) _ _ _ _ _
    · have hr : OwI0 w B (some ⟨g, o + 1, none⟩) (l1 - 1) r := by
        refine ⟨by have := HC.out.2.2.1; omega, by omega, .inr ⟨g, o + 1, cur, rfl, HC.out.2.2.2.2, HC.out.2.2.2.1, fun i hi => ?_⟩⟩
        have := HC.out.1 (i + 1) (by omega)
        rw [HC.out.2.1] at this
        rw [show o + 1 + i = o + (i + 1) by omega]; simpa using this
      rw [E.out]
      (try simp only [Exit.inBlock, Exit.then])
      refine bodyPost_ret (results_cell_row (P := Try.prog) Try.results73 _ _ _ _ _ _ _ rfl (heap_alloc_set _ _ _ _) Try.underlying36 rfl (by kernel_rfl)) rfl ?_
      exact deed_fin (HM.out.1.draws hr _) (mine_below HM.out.2.2 _) (Nat.le_trans HM.out.2.1 (grown_setCell _ _ _ _).size) _ _ _ _ _

/-- The value of a key, 0 where there is none. -/
def getV : List REntry → Int → Int
  | [], _ => 0
  | x :: r, key => if x.key = key then x.val else getV r key
theorem getV_at {key : Int} : ∀ {xs : List REntry} {k : Nat}, k < xs.length → (∀ i, i < k → keyAt xs i < key) → keyAt xs k = key → getV xs key = valAt xs k
  | [], k, hk, _, _ => by simp at hk
  | x :: r, 0, _, _, he => by
    have : x.key = key := by simpa [keyAt] using he
    simp [getV, this, valAt]
  | x :: r, k + 1, hk, hl, he => by
    have h0 : x.key < key := by simpa [keyAt] using hl 0 (by omega)
    have ih := getV_at (xs := r) (k := k) (by simpa using hk) (fun i hi => by simpa [keyAt] using hl (i + 1) (by omega)) (by simpa [keyAt] using he)
    have hne : ¬ x.key = key := by omega
    simp only [getV, if_neg hne, ih]
    simp [valAt]
theorem getV_none {key : Int} : ∀ {xs : List REntry}, (∀ i, i < xs.length → keyAt xs i ≠ key) → getV xs key = 0
  | [], _ => rfl
  | x :: r, h => by
    have h0 : ¬ x.key = key := by simpa [keyAt] using h 0 (by simp)
    simp only [getV, if_neg h0]
    exact getV_none fun i hi => by simpa [keyAt] using h (i + 1) (by simpa using hi)
theorem okTo_at {xs : List REntry} : ∀ {n k : Nat}, okTo xs n = true → k < n → okAt xs k = true
  | 0, k, _, hk => by omega
  | n + 1, k, h, hk => by
    simp only [okTo, Bool.and_eq_true] at h
    by_cases e : k = n
    · subst e; exact h.2
    · exact okTo_at h.1 (by omega)
theorem keys_up {xs : List REntry} (h : okTo xs xs.length = true) : ∀ {k i : Nat}, i < k → k < xs.length → keyAt xs i < keyAt xs k
  | 0, i, hi, _ => by omega
  | k + 1, i, hi, hk => by
    have h1 := okTo_at h hk
    simp only [okAt, Bool.and_eq_true, Bool.or_eq_true, decide_eq_true_eq] at h1
    have h2 : keyAt xs k < keyAt xs (k + 1) := by
      rcases h1.2 with h2 | h2
      · omega
      · simpa using h2
    by_cases e : i = k
    · subst e; exact h2
    · have := keys_up h (k := k) (i := i) (by omega) (by omega)
      omega
theorem fnd_get {xs : List REntry} {key : Int} {k : Nat} {b : Bool} (ho : okTo xs xs.length = true) (h : Fnd xs key k b) : (b = true → k < xs.length ∧ getV xs key = valAt xs k) ∧ (b = false → getV xs key = 0) := by
  obtain ⟨h1, h2, h3, rfl⟩ := h
  refine ⟨fun hb => ?_, fun hb => ?_⟩
  · have hb := of_decide_eq_true hb
    exact ⟨hb.1, getV_at hb.1 h2 hb.2⟩
  · have hb := of_decide_eq_false hb
    refine getV_none fun i hi => ?_
    by_cases e : i < k
    · have := h2 i e; omega
    · have hk : k < xs.length := by omega
      have hkk := h3 hk
      by_cases e2 : i = k
      · subst e2; exact fun e3 => hb ⟨hi, e3⟩
      · have := keys_up ho (k := i) (i := k) (by omega) hi
        omega

theorem deed_fin2 {w w1 : World} {B q : Nat} {x : RWorld} {d1 : Option Addr} {l1 k1 : Nat} {d2 : Option Addr} {l2 k2 : Nat} {d3 : Option Addr} {l3 k3 : Nat} {vs : List Value} {hi : Nat} (h : Mine w B q x d1 l1 k1 d2 l2 k2 d3 l3 k3 vs hi) (hg : w.grownBy w1 Option.none) (hB : B ≤ w.heap.size) (ca A C r : Int) :
    DeedR w B q x ⟨ca, A, C, [], r⟩ (.returned (.agg #[.int .i64 ca, .int .i64 A, .int .i64 C, .slice none 0 0, .int .i64 r])) w1 :=
  ⟨none, 0, 0, d1, l1, k1, d2, l2, k2, d3, l3, k3, vs, hi, rfl, h.none hg, ⟨World.ownsRow_nil _ _ _ _, fun z hz => by simp at hz, by omega⟩, (Below.refl B w).grown hg hB (fun k e => by cases e)⟩
theorem vE_at : ∀ {xs : List REntry} {k : Nat}, k < xs.length → (vE xs)[k * 2]? = some (.int .i64 (keyAt xs k)) ∧ (vE xs)[k * 2 + 1]? = some (.int .i64 (valAt xs k))
  | [], k, hk => by simp at hk
  | x :: r, 0, _ => ⟨rfl, rfl⟩
  | x :: r, k + 1, hk => by
    have := vE_at (xs := r) (k := k) (by simpa using hk)
    rw [show (k + 1) * 2 = k * 2 + 1 + 1 by omega]
    exact ⟨by simpa [vE, keyAt] using this.1, by simpa [vE, valAt] using this.2⟩

set_option maxRecDepth 8000 in
set_option maxHeartbeats 4000000 in
theorem getT (x : RWorld) (B q : Nat) (A C : Int) (a : Option Addr) (l c : Nat) (d1 : Option Addr) (l1 k1 : Nat) (d2 : Option Addr) (l2 k2 : Nat) (d3 : Option Addr) (l3 k3 : Nat) (vs : List Value) (hi : Nat) (w : World) (h : Mine w B q x d1 l1 k1 d2 l2 k2 d3 l3 k3 vs hi) (hB : B ≤ w.heap.size) (hq : B ≤ q) (hl2 : l2 ≤ 9223372036854775807) (hok : okTo x.store x.store.length = true) :
    Calls Try.prog 74 #[.pointer (some ⟨q, 0, none⟩), .int .i64 A, .int .i64 C, .slice a l c] w fun e u => DeedR w B q x ⟨0, A, 0, [], getV x.store A⟩ e u := by
  have hm := h.none (World.grownBy_alloc w (.cells #[.int .i64 0, .int .i64 0, .int .i64 0, .slice none 0 0, .int .i64 0] 36) none)
  have hlt := lt_of_block h.1
  have CF : Hid _ := findT x.store A d2 l2 k2 q _ (blkWorld hm.1).1.2.2.1 ((own_slE hm.2.2.1 hl2).le CLe.unhidz)
  have bE := heap_alloc_new w (.cells #[.int .i64 0, .int .i64 0, .int .i64 0, .slice none 0 0, .int .i64 0] 36)
  have HM : Hid (Mine w B q x d1 l1 k1 d2 l2 k2 d3 l3 k3 vs hi ∧ B ≤ w.heap.size ∧ B ≤ q ∧ okTo x.store x.store.length = true) := ⟨h, hB, hq, hok⟩
  have L0 : Hid _ := And.intro bE (And.intro hm (World.grownBy_alloc w (.cells #[.int .i64 0, .int .i64 0, .int .i64 0, .slice none 0 0, .int .i64 0] 36) none))
  clear h hm hB hq hok bE
  go_enter Try.func74, Try.ntmps74
  go_wp2_with fail
  refine Calls.mono CF.out ?_
  rintro e u ⟨⟨k, b, rfl, hf⟩, hg⟩
  obtain ⟨bE, hm, g0⟩ := L0.out
  have hg2 := fnd_get HM.out.2.2.2 hf
  have bE := (hg.block _ (lt_of_block bE) (by simp)).trans bE
  have hmu := hm.none hg
  have gu := grown_trans g0 hg
  have hkl := hf.1
  obtain ⟨⟨y0, y1, y2, y3⟩, hfy⟩ := blkWorld hmu.1
  obtain ⟨⟨x0, x1, x2, x3, x4⟩, hfx⟩ := blkEvent bE
  have fx0 := hfx 0
  have fx1 := hfx 1
  have fx2 := hfx 2
  have fx3 := hfx 3
  have fx4 := hfx 4
  have hxl : x.store.length = l2 := by have := hmu.2.2.1.1; rw [vE_len] at this; omega
  cases b with
  | false =>
    have hz := hg2.2 rfl
    obtain ⟨mf, kf⟩ := fillEvent (.int .i64 0) (.int .i64 A) (.int .i64 0) (.slice none 0 0) (.int .i64 0) bE
    have FQ : Hid _ := And.intro mf (grown_into gu kf (Nat.le_refl _))
    clear hmu hm hg g0 bE hfy hfx hf hg2 mf kf CF L0 gu
    simp only []
    go_wp2
    rw [hz]
    (try simp only [Exit.inBlock, Exit.then])
    refine bodyPost_ret (results_cell_row (P := Try.prog) Try.results74 _ _ _ _ _ _ _ rfl FQ.out.1 Try.underlying36 rfl (by kernel_rfl)) rfl ?_
    exact deed_fin2 HM.out.1 FQ.out.2 HM.out.2.1 _ _ _ _
  | true =>
    obtain ⟨hkx, hz⟩ := hg2.1 rfl
    obtain ⟨g, rfl, hbg, -, hc⟩ : ∃ g, d2 = some ⟨g, 0, none⟩ ∧ B ≤ g ∧ (∃ cur, u.heap[g]? = some (.cells cur 66 (0, 0))) ∧ ∀ j v, (vE x.store)[j]? = some v → (hideZ u B).cell? ⟨g, j, none⟩ = some v := by
      rcases row_cell hmu.2.2.1 with h0 | h0
      · omega
      · exact h0
    have hv : u.cell? ⟨g, k * 2 + 1, none⟩ = some (.int .i64 (valAt x.store k)) := CLe.unhidz _ _ (hc _ _ (vE_at hkx).2)
    have hkl2 : k < l2 := by omega
    obtain ⟨mf, kf⟩ := fillEvent (.int .i64 0) (.int .i64 A) (.int .i64 0) (.slice none 0 0) (.int .i64 (valAt x.store k)) bE
    have FQ : Hid _ := And.intro mf (grown_into gu kf (Nat.le_refl _))
    have HX : Hid _ := hz
    clear hmu hm hg g0 bE hfy hfx hf hg2 mf kf CF L0 gu hc hz
    generalize valAt x.store k = V at *
    simp only []
    go_wp2
    rw [HX.out]
    (try simp only [Exit.inBlock, Exit.then])
    refine bodyPost_ret (results_cell_row (P := Try.prog) Try.results74 _ _ _ _ _ _ _ rfl FQ.out.1 Try.underlying36 rfl (by kernel_rfl)) rfl ?_
    exact deed_fin2 HM.out.1 FQ.out.2 HM.out.2.1 _ _ _ _
end Go.Proofs.Ytccnninmkfhejaa.By
