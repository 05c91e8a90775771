/-
  (*World).own by its contract. No statement is proved here.
-/
import Derived.Test.YtccnninmkfhejaaYCpAlso
import Derived.Deep.DeepCutAuto
namespace Go.Proofs.Ytccnninmkfhejaa.By
open Go.RowKit
set_option linter.unusedVariables false
set_option linter.unusedSimpArgs false

abbrev wc (t : Int) (v1 v2 v3 : Value) : Array Value := #[.int .i64 t, v1, v2, v3]

theorem row_set_far {w : World} {B : Nat} {t : TypeId} {size n : Nat} {v : Value} {xs : List Value} (h : w.ownsRow B t size v n xs) {p : Addr} (hp : p.block < B) (u : Value) : (w.setCell p u).ownsRow B t size v n xs := ownsRow_setCell_below h hp u

set_option maxRecDepth 8000 in
set_option maxHeartbeats 8000000 in
theorem ownT (x : RWorld) (p : Nat) (a1 : Option Addr) (l1 c1 : Nat) (a2 : Option Addr) (l2 c2 : Nat) (a3 : Option Addr) (l3 c3 : Nat) (w : World) (h : RdWorld w x a1 l1 a2 l2 a3 l3) (hp : AtW w p x a1 l1 c1 a2 l2 c2 a3 l3 c3) (hs : szWorld x ≤ 1048576) :
    Calls Try.prog 30 #[.pointer (some ⟨p, 0, none⟩)] w fun e u => ∃ d1 k1 d2 k2 d3 k3 vs hi, e = .returned (.agg #[.int .i64 x.ticks, .slice d1 l1 k1, .slice d2 l2 k2, .slice d3 l3 k3]) ∧ w.grownBy u none ∧ u.ownsRow w.heap.size 3 1 (.slice d1 l1 k1) l1 (vI x.draws) ∧ u.ownsRow w.heap.size 66 2 (.slice d2 l2 k2) l2 (vE x.store) ∧ u.ownsRow w.heap.size 36 5 (.slice d3 l3 k3) l3 vs ∧ EvO u hi x.trace vs w.heap.size ∧ hi ≤ u.heap.size := by
  have hsz : x.draws.length + szEntrys x.store + szEvents x.trace ≤ 1048576 := hs
  have q1 := szEntrys_len x.store
  have q2 := szEvents_len x.trace
  have e1 := h.1.1.1
  have e2 := h.2.1.1
  have e3 := h.2.2.1
  have b1 : l1 ≤ 1048576 := by omega
  have b2 : l2 ≤ 1048576 := by omega
  have b3 : l3 ≤ 1048576 := by omega
  have hpl : p < w.heap.size := World.block_lt_of_cell? w ⟨p, 0, none⟩ hp.1
  have HR : Hid (RdWorld w x a1 l1 a2 l2 a3 l3 ∧ AtW w p x a1 l1 c1 a2 l2 c2 a3 l3 c3) := ⟨h, hp⟩
  obtain ⟨p0, p1, p2, p3⟩ := hp
  have HSZ : Hid (szEvents x.trace ≤ 1048576) := by show _ ≤ _; omega
  have EL : Hid (x.draws.length = l1 ∧ x.store.length = l2 ∧ x.trace.length = l3) := ⟨e1, e2, e3⟩
  clear h hs hsz q1 q2 e1 e2 e3
  obtain ⟨r0, r1, rsz⟩ := alloc2_blocks w (.cells #[.int .i64 0, .slice none 0 0, .slice none 0 0, .slice none 0 0] 27) (.cells #[.int .i64 x.ticks, .slice a1 l1 c1, .slice a2 l2 c2, .slice a3 l3 c3] 27)
  have g0 := grown_alloc (grown_alloc (World.grownBy.refl w none) (.cells #[.int .i64 0, .slice none 0 0, .slice none 0 0, .slice none 0 0] 27)) (.cells #[.int .i64 x.ticks, .slice a1 l1 c1, .slice a2 l2 c2, .slice a3 l3 c3] 27)
  have L0 : Hid _ := And.intro g0 (And.intro r0 (And.intro r1 rsz))
  clear g0 r0 r1 rsz
  go_enter Try.func30, Try.ntmps30
  go_wp2_with fail
  refine Calls.mono (freshYi (vI x.draws) a1 l1 c1 _ (by rw [vI_len, EL.out.1]; omega) (vI_one _) ((HR.out.1.1.none L0.out.1).lies) b1) ?_
  rintro e u ⟨d1, k1, rfl, ho1, hg⟩
  obtain ⟨g0, r0, r1, rsz⟩ := L0.out
  rw [rsz] at ho1
  replace r0 := (hg.block _ (lt_of_block r0) (by simp)).trans r0
  replace r1 := (hg.block _ (lt_of_block r1) (by simp)).trans r1
  have g1 := grown_trans g0 hg
  clear L0 g0 hg rsz p0 p1 p2 p3
  obtain ⟨p0, p1, p2, p3⟩ := HR.out.2.none g1
  obtain ⟨⟨y0, y1, y2, y3⟩, hfy⟩ := blkWorld r1
  have f1 := hfy 1
  have nq : p ≠ w.heap.size + 1 := by omega
  have r1' := heap_setCell_same _ (w.heap.size + 1) 1 _ _ (.slice d1 l1 k1) r1
  have kk := grown_setCell u (w.heap.size + 1) 1 (.slice d1 l1 k1)
  have L1 : Hid (w.grownBy (u.setCell ⟨w.heap.size + 1, 1, none⟩ (.slice d1 l1 k1)) none ∧ (u.setCell ⟨w.heap.size + 1, 1, none⟩ (.slice d1 l1 k1)).heap[w.heap.size]? = some (.cells #[.int .i64 0, .slice none 0 0, .slice none 0 0, .slice none 0 0] 27 (0, 0)) ∧ (u.setCell ⟨w.heap.size + 1, 1, none⟩ (.slice d1 l1 k1)).heap[w.heap.size + 1]? = some (.cells #[.int .i64 x.ticks, .slice d1 l1 k1, .slice a2 l2 c2, .slice a3 l3 c3] 27 (0, 0)) ∧ (u.setCell ⟨w.heap.size + 1, 1, none⟩ (.slice d1 l1 k1)).ownsRow (w.heap.size + 1 + 1) 3 1 (.slice d1 l1 k1) l1 (vI x.draws)) :=
    ⟨grown_into g1 kk (by omega), (kk.block _ (lt_of_block r0) (by simp)).trans r0, r1', row_set_far ho1 (by show w.heap.size + 1 < _; omega) _⟩
  clear r0 r1 r1' kk ho1 g1 hfy
  simp only []
  go_wp2_with fail
  clear p0 p1 p2 p3 y0 y1 y2 y3 f1
  generalize u.setCell ⟨w.heap.size + 1, 1, none⟩ (.slice d1 l1 k1) = u1 at *
  refine Calls.mono (freshYe (vE x.store) a2 l2 c2 u1 (by rw [vE_len, EL.out.2.1]) (vE_one _) ((HR.out.1.2.1.none L1.out.1).lies) b2) ?_
  rintro e u ⟨d2, k2, rfl, ho2, hg⟩
  obtain ⟨g0, r0, r1, ho1⟩ := L1.out
  have hs1 := lt_of_block r1
  replace ho2 := Go.Joins.ownsRow_le ho2 (base' := w.heap.size + 1 + 1) (by omega)
  replace ho1 := ho1.kept hg (by cases d1 <;> simp [Value.ownBlock])
  replace r0 := (hg.block _ (lt_of_block r0) (by simp)).trans r0
  replace r1 := (hg.block _ (lt_of_block r1) (by simp)).trans r1
  have g1 := grown_trans g0 hg
  clear L1 g0 hg hs1
  obtain ⟨p0, p1, p2, p3⟩ := HR.out.2.none g1
  obtain ⟨⟨y0, y1, y2, y3⟩, hfy⟩ := blkWorld r1
  have f1 := hfy 2
  have r1' := heap_setCell_same _ (w.heap.size + 1) 2 _ _ (.slice d2 l2 k2) r1
  have kk := grown_setCell u (w.heap.size + 1) 2 (.slice d2 l2 k2)
  have L2 : Hid (w.grownBy (u.setCell ⟨w.heap.size + 1, 2, none⟩ (.slice d2 l2 k2)) none ∧ (u.setCell ⟨w.heap.size + 1, 2, none⟩ (.slice d2 l2 k2)).heap[w.heap.size]? = some (.cells #[.int .i64 0, .slice none 0 0, .slice none 0 0, .slice none 0 0] 27 (0, 0)) ∧ (u.setCell ⟨w.heap.size + 1, 2, none⟩ (.slice d2 l2 k2)).heap[w.heap.size + 1]? = some (.cells #[.int .i64 x.ticks, .slice d1 l1 k1, .slice d2 l2 k2, .slice a3 l3 c3] 27 (0, 0)) ∧ (u.setCell ⟨w.heap.size + 1, 2, none⟩ (.slice d2 l2 k2)).ownsRow (w.heap.size + 1 + 1) 3 1 (.slice d1 l1 k1) l1 (vI x.draws) ∧ (u.setCell ⟨w.heap.size + 1, 2, none⟩ (.slice d2 l2 k2)).ownsRow (w.heap.size + 1 + 1) 66 2 (.slice d2 l2 k2) l2 (vE x.store)) :=
    ⟨grown_into g1 kk (by omega), (kk.block _ (lt_of_block r0) (by simp)).trans r0, r1', row_set_far ho1 (by show w.heap.size + 1 < _; omega) _, row_set_far ho2 (by show w.heap.size + 1 < _; omega) _⟩
  clear r0 r1 r1' kk ho1 ho2 g1 hfy
  simp only []
  go_wp2_with fail
  clear p0 p1 p2 p3 y0 y1 y2 y3 f1
  generalize u.setCell ⟨w.heap.size + 1, 2, none⟩ (.slice d2 l2 k2) = u2 at *
  obtain ⟨vs, hev, hlv⟩ := SlEvent.lies HR.out.1.2.2
  have HV : Hid (EvR w x.trace vs ∧ Lies w a3 l3 vs) := ⟨hev, hlv⟩
  clear hev hlv
  refine Calls.mono (freshYv vs a3 l3 c3 u2 (by rw [HV.out.1.len, EL.out.2.2]) HV.out.1.one (HV.out.2.le (CLe.grown L2.out.1)) b3) ?_
  rintro e u ⟨d3, k3, rfl, ho3, hg⟩
  obtain ⟨g0, r0, r1, ho1, ho2⟩ := L2.out
  have hs1 := lt_of_block r1
  replace ho3 := Go.Joins.ownsRow_le ho3 (base' := w.heap.size + 1 + 1) (by omega)
  replace ho1 := ho1.kept hg (by cases d1 <;> simp [Value.ownBlock])
  replace ho2 := ho2.kept hg (by cases d2 <;> simp [Value.ownBlock])
  replace r0 := (hg.block _ (lt_of_block r0) (by simp)).trans r0
  replace r1 := (hg.block _ (lt_of_block r1) (by simp)).trans r1
  have g1 := grown_trans g0 hg
  clear L2 g0 hg
  obtain ⟨p0, p1, p2, p3⟩ := HR.out.2.none g1
  obtain ⟨⟨y0, y1, y2, y3⟩, hfy⟩ := blkWorld r1
  have f1 := hfy 3
  have r1' := heap_setCell_same _ (w.heap.size + 1) 3 _ _ (.slice d3 l3 k3) r1
  have kk := grown_setCell u (w.heap.size + 1) 3 (.slice d3 l3 k3)
  have hus : w.heap.size + 1 + 1 ≤ u.heap.size := by have := lt_of_block r1; omega
  have L3 : Hid (w.grownBy (u.setCell ⟨w.heap.size + 1, 3, none⟩ (.slice d3 l3 k3)) none ∧ (u.setCell ⟨w.heap.size + 1, 3, none⟩ (.slice d3 l3 k3)).heap[w.heap.size]? = some (.cells #[.int .i64 0, .slice none 0 0, .slice none 0 0, .slice none 0 0] 27 (0, 0)) ∧ (u.setCell ⟨w.heap.size + 1, 3, none⟩ (.slice d3 l3 k3)).heap[w.heap.size + 1]? = some (.cells #[.int .i64 x.ticks, .slice d1 l1 k1, .slice d2 l2 k2, .slice d3 l3 k3] 27 (0, 0)) ∧ (u.setCell ⟨w.heap.size + 1, 3, none⟩ (.slice d3 l3 k3)).ownsRow (w.heap.size + 1 + 1) 3 1 (.slice d1 l1 k1) l1 (vI x.draws) ∧ (u.setCell ⟨w.heap.size + 1, 3, none⟩ (.slice d3 l3 k3)).ownsRow (w.heap.size + 1 + 1) 66 2 (.slice d2 l2 k2) l2 (vE x.store) ∧ (u.setCell ⟨w.heap.size + 1, 3, none⟩ (.slice d3 l3 k3)).ownsRow (w.heap.size + 1 + 1) 36 5 (.slice d3 l3 k3) l3 vs ∧ w.heap.size + 1 + 1 ≤ (u.setCell ⟨w.heap.size + 1, 3, none⟩ (.slice d3 l3 k3)).heap.size) :=
    ⟨grown_into g1 kk (by omega), (kk.block _ (lt_of_block r0) (by simp)).trans r0, r1', row_set_far ho1 (by show w.heap.size + 1 < _; omega) _, row_set_far ho2 (by show w.heap.size + 1 < _; omega) _, row_set_far ho3 (by show w.heap.size + 1 < _; omega) _, Nat.le_trans hus kk.size⟩
  clear r0 r1 r1' kk ho1 ho2 ho3 g1 hfy hs1 hus
  simp only []
  go_wp2
  clear p0 p1 p2 p3 y0 y1 y2 y3 f1
  generalize u.setCell ⟨w.heap.size + 1, 3, none⟩ (.slice d3 l3 k3) = u3 at *
  go_loopw [32] (fun i wr => ∃ (j mi : Nat) (xd xr : List REvent) (P R : List Value), j ≤ l3 ∧ i = .int .i64 j ∧ Hid (w.grownBy wr none ∧ wr.heap[w.heap.size]? = some (.cells #[.int .i64 0, .slice none 0 0, .slice none 0 0, .slice none 0 0] 27 (0, 0)) ∧ wr.heap[w.heap.size + 1]? = some (.cells #[.int .i64 x.ticks, .slice d1 l1 k1, .slice d2 l2 k2, .slice d3 l3 k3] 27 (0, 0)) ∧ wr.ownsRow (w.heap.size + 1 + 1) 3 1 (.slice d1 l1 k1) l1 (vI x.draws) ∧ wr.ownsRow (w.heap.size + 1 + 1) 66 2 (.slice d2 l2 k2) l2 (vE x.store) ∧ wr.ownsRow (w.heap.size + 1 + 1) 36 5 (.slice d3 l3 k3) l3 (P ++ R) ∧ EvO wr mi xd P (w.heap.size + 1 + 1) ∧ mi ≤ wr.heap.size ∧ EvR w xr R ∧ vs.drop (j * 5) = R ∧ xd ++ xr = x.trace ∧ xd.length = j ∧ szEvents xr ≤ 1048576)) (fun i _ => l3 - (intOf i).toNat)
  case atStart =>
    obtain ⟨g1, r0, r1, ho1, ho2, ho3, hss⟩ := L3.out
    exact ⟨0, w.heap.size + 1 + 1, [], x.trace, [], vs, Nat.zero_le _, rfl, g1, r0, r1, ho1, ho2, ho3, ⟨rfl, Nat.le_refl _⟩, hss, HV.out.1, rfl, rfl, rfl, HSZ.out⟩
  case round =>
    obtain ⟨j, mi, xd, xr, P, R, hj, rfl, HL⟩ := hrel
    clear L3
    by_cases hlt : j < l3
    · obtain ⟨g1, r0, r1, ho1, ho2, ho3, hP, hmi, hR, hvs, hxs, hxl, hsz⟩ := HL.out
      clear HL
      obtain ⟨y, r, rfl⟩ : ∃ y r, xr = y :: r := by
        cases xr with
        | nil => have := congrArg List.length hxs; have := EL.out.2.2; simp at *; omega
        | cons y r => exact ⟨y, r, rfl⟩
      obtain ⟨a, l, c, R', rfl, hb, hR'⟩ := hR
      obtain ⟨b, o, rfl, hc⟩ : ∃ b o, a3 = some ⟨b, o, none⟩ ∧ ∀ i v, vs[i]? = some v → w.cell? ⟨b, o + i, none⟩ = some v := by
        rcases HV.out.2 with h0 | ⟨b, o, e, hc⟩
        · omega
        · exact ⟨b, o, e, hc⟩
      obtain ⟨g3, rfl, hg3, ⟨cur3, hcur3⟩, hcell3⟩ : ∃ g, d3 = some ⟨g, 0, none⟩ ∧ w.heap.size + 1 + 1 ≤ g ∧ (∃ cur, wr.heap[g]? = some (.cells cur 36 (0, 0))) ∧ ∀ j x_1, (P ++ ([Value.int .i64 y.cap, .int .i64 y.a, .int .i64 y.b, .slice a l c, .int .i64 y.res] ++ R'))[j]? = some x_1 → (hideZ wr (w.heap.size + 1 + 1)).cell? ⟨g, j, none⟩ = some x_1 := by
        rcases row_cell ho3 with h0 | h
        · omega
        · exact h
      have hPl := hP.len
      have ge : ∀ i, vs[j * 5 + i]? = ([Value.int .i64 y.cap, .int .i64 y.a, .int .i64 y.b, .slice a l c, .int .i64 y.res] ++ R')[i]? := fun i => by rw [← hvs, List.getElem?_drop]
      have k0 : wr.cell? ⟨b, o + j * 5, none⟩ = some (.int .i64 y.cap) := g1.cell (by have := hc (j * 5) _ (ge 0); exact this) (by simp)
      have k1' : wr.cell? ⟨b, o + j * 5 + 1, none⟩ = some (.int .i64 y.a) := g1.cell (by have := hc (j * 5 + 1) _ (ge 1); rw [← Nat.add_assoc] at this; exact this) (by simp)
      have k2' : wr.cell? ⟨b, o + j * 5 + 2, none⟩ = some (.int .i64 y.b) := g1.cell (by have := hc (j * 5 + 2) _ (ge 2); rw [← Nat.add_assoc] at this; exact this) (by simp)
      have k3' : wr.cell? ⟨b, o + j * 5 + 3, none⟩ = some (.slice a l c) := g1.cell (by have := hc (j * 5 + 3) _ (ge 3); rw [← Nat.add_assoc] at this; exact this) (by simp)
      have k4' : wr.cell? ⟨b, o + j * 5 + 4, none⟩ = some (.int .i64 y.res) := g1.cell (by have := hc (j * 5 + 4) _ (ge 4); rw [← Nat.add_assoc] at this; exact this) (by simp)
      have m3 : wr.cell? ⟨g3, j * 5 + 3, none⟩ = some (.slice a l c) := CLe.unhidz _ _ (hcell3 (j * 5 + 3) _ (by rw [List.getElem?_append_right (by omega)]; rw [show j * 5 + 3 - P.length = 3 by omega]; rfl))
      have ga := World.grownBy_alloc wr (.cells #[.int .i64 y.cap, .int .i64 y.a, .int .i64 y.b, .slice a l c, .int .i64 y.res] 36) none
      have ba := heap_alloc_new wr (.cells #[.int .i64 y.cap, .int .i64 y.a, .int .i64 y.b, .slice a l c, .int .i64 y.res] 36)
      have hlit : l ≤ 1048576 := by
        have h1 := hb.1.1
        simp only [szEvents, szEvent] at hsz
        omega
      have hszr : szEvents r ≤ 1048576 := by simp only [szEvents] at hsz; omega
      have gd := grown_drew ga
      have FX : Hid (wr.grownBy (wr.alloc (.cells #[.int .i64 y.cap, .int .i64 y.a, .int .i64 y.b, .slice a l c, .int .i64 y.res] 36)).drew none ∧ wr.heap.size < (wr.alloc (.cells #[.int .i64 y.cap, .int .i64 y.a, .int .i64 y.b, .slice a l c, .int .i64 y.res] 36)).drew.heap.size) := ⟨gd, Nat.lt_of_lt_of_le (lt_of_block ba) (grown_drew (World.grownBy.refl _ none)).size⟩
      have SS : Hid ((wr.alloc (.cells #[.int .i64 y.cap, .int .i64 y.a, .int .i64 y.b, .slice a l c, .int .i64 y.res] 36)).drew.cell? ⟨w.heap.size + 1, 3, none⟩ = some (.slice (some ⟨g3, 0, none⟩) l3 k3) ∧ (wr.alloc (.cells #[.int .i64 y.cap, .int .i64 y.a, .int .i64 y.b, .slice a l c, .int .i64 y.res] 36)).drew.cell? ⟨wr.heap.size, 3, none⟩ = some (.slice a l c)) :=
        ⟨gd.cell (blkWorld r1).1.2.2.2 (by simp), (grown_drew (World.grownBy.refl _ none)).cell (blkEvent ba).1.2.2.2.1 (by simp)⟩
      have FY : Hid ((w.grownBy wr none ∧ wr.heap[w.heap.size]? = some (.cells #[.int .i64 0, .slice none 0 0, .slice none 0 0, .slice none 0 0] 27 (0, 0)) ∧ wr.heap[w.heap.size + 1]? = some (.cells #[.int .i64 x.ticks, .slice d1 l1 k1, .slice d2 l2 k2, .slice (some ⟨g3, 0, none⟩) l3 k3] 27 (0, 0))) ∧ wr.ownsRow (w.heap.size + 1 + 1) 3 1 (.slice d1 l1 k1) l1 (vI x.draws) ∧ wr.ownsRow (w.heap.size + 1 + 1) 66 2 (.slice d2 l2 k2) l2 (vE x.store) ∧ wr.ownsRow (w.heap.size + 1 + 1) 36 5 (.slice (some ⟨g3, 0, none⟩) l3 k3) l3 (P ++ ([Value.int .i64 y.cap, .int .i64 y.a, .int .i64 y.b, .slice a l c, .int .i64 y.res] ++ R')) ∧ EvO wr mi xd P (w.heap.size + 1 + 1) ∧ mi ≤ wr.heap.size) := ⟨⟨g1, r0, r1⟩, ho1, ho2, ho3, hP, hmi⟩
      have FZ : Hid (RdB w a l y.lit ∧ EvR w r R' ∧ vs.drop (j * 5) = [Value.int .i64 y.cap, .int .i64 y.a, .int .i64 y.b, .slice a l c, .int .i64 y.res] ++ R' ∧ xd ++ y :: r = x.trace ∧ xd.length = j ∧ P.length = j * 5 ∧ wr.heap[g3]? = some (.cells cur3 36 (0, 0)) ∧ wr.cell? ⟨g3, j * 5 + 3, none⟩ = some (.slice a l c)) := ⟨hb, hR', hvs, hxs, hxl, by omega, hcur3, m3⟩
      clear g1 r0 r1 ho1 ho2 ho3 hP hmi hvs hxs hxl hsz hb hR' hc hcell3 hcur3 ga ba gd m3 hPl ge
      go_wp2
      refine wp_region_held_drew (S := (fun u => u.cell? ⟨w.heap.size + 1, 3, none⟩ = some (.slice (some ⟨g3, 0, none⟩) l3 k3) ∧ u.cell? ⟨wr.heap.size, 3, none⟩ = some (.slice a l c))) (by kernel_rfl) SS.out (fun hH => ?_)
      clear k0 k1' k2' k3' k4' SS
      generalize (wr.alloc (.cells #[.int .i64 y.cap, .int .i64 y.a, .int .i64 y.b, .slice a l c, .int .i64 y.res] 36)).drew = u at *
      simp only [List.size_toArray, List.length_cons, List.length_nil, Nat.reduceAdd, Array.replicate, List.replicate]
      refine wpAnyH_take (i := 0) (v := ?_) rfl (by kernel_rfl) (by kernel_rfl) (by kernel_rfl) (fun _ _ _ h => h) (Or.inl ⟨by rfl, ?_⟩) hH ?_
      rotate_left
      · (intro v hS; obtain ⟨s0, s1⟩ := hS; go_simp; try with_reducible rfl)
      simp only [Act.put, List.setIfInBounds_toArray, List.set_cons_zero, List.set_cons_succ, List.getElem_toArray, List.getElem_cons_succ, List.getElem_cons_zero]
      refine wpAnyH_take (i := 1) (v := ?_) rfl (by kernel_rfl) (by kernel_rfl) (by kernel_rfl) (fun _ _ _ h => h) (Or.inl ⟨by rfl, ?_⟩) hH ?_
      rotate_left
      · (intro v hS; obtain ⟨s0, s1⟩ := hS; go_simp; try with_reducible rfl)
      simp only [Act.put, List.setIfInBounds_toArray, List.set_cons_zero, List.set_cons_succ, List.getElem_toArray, List.getElem_cons_succ, List.getElem_cons_zero]
      refine wpAnyH_take (i := 2) (v := ?_) rfl (by kernel_rfl) (by kernel_rfl) (by kernel_rfl) (fun _ _ _ h => h) (Or.inl ⟨by rfl, ?_⟩) hH ?_
      rotate_left
      · (intro v hS; obtain ⟨s0, s1⟩ := hS; go_simp; try with_reducible rfl)
      simp only [Act.put, List.setIfInBounds_toArray, List.set_cons_zero, List.set_cons_succ, List.getElem_toArray, List.getElem_cons_succ, List.getElem_cons_zero]
      refine wpAnyH_take (i := 3) (v := ?_) rfl (by kernel_rfl) (by kernel_rfl) (by kernel_rfl) (fun _ _ _ h => h) (Or.inl ⟨by rfl, ?_⟩) hH ?_
      rotate_left
      · (intro v hS; obtain ⟨s0, s1⟩ := hS; go_simp; try with_reducible rfl)
      simp only [Act.put, List.setIfInBounds_toArray, List.set_cons_zero, List.set_cons_succ, List.getElem_toArray, List.getElem_cons_succ, List.getElem_cons_zero]
      refine wpAnyH_take (i := 4) (v := ?_) rfl (by kernel_rfl) (by kernel_rfl) (by kernel_rfl) (fun _ _ _ h => h) (Or.inl ⟨by rfl, ?_⟩) hH ?_
      rotate_left
      · (intro v hS; obtain ⟨s0, s1⟩ := hS; go_simp; try with_reducible rfl)
      simp only [Act.put, List.setIfInBounds_toArray, List.set_cons_zero, List.set_cons_succ, List.getElem_toArray, List.getElem_cons_succ, List.getElem_cons_zero]
      refine wpAnyH_ready (rs := [5]) (by kernel_rfl) (by simp) ?_
      refine AllReadyH.cons rfl (fun K hK => ?_) AllReadyH.nil
      go_simp
      refine Calls.mono (freshYb (vB y.lit) a l c u (by rw [vB_len, FZ.out.1.1.1]; omega) (vB_one _) ((FZ.out.1.lies.le (CLe.grown FY.out.1.1)).le (CLe.grown FX.out.1)) hlit) ?_
      rintro e u' ⟨d, k, rfl, ho, hg⟩
      refine hK.out _ _ ⟨hg.cell hH.1 (by simp), hg.cell hH.2 (by simp)⟩ (fun hH2 => ?_)
      clear hK K hH
      have hH := hH2
      clear hH2
      have G2 : Hid (wr.grownBy u' none ∧ wr.heap.size < u.heap.size ∧ u.heap.size ≤ u'.heap.size ∧ u'.ownsRow u.heap.size 5 1 (.slice d l k) l (vB y.lit)) := ⟨grown_trans FX.out.1 hg, FX.out.2, hg.size, ho⟩
      clear FX ho hg
      simp only [Act.put, List.setIfInBounds_toArray, List.set_cons_zero, List.set_cons_succ, List.getElem_toArray, List.getElem_cons_succ, List.getElem_cons_zero]
      refine wpAnyH_take (i := 6) (v := ?_) rfl (by kernel_rfl) (by kernel_rfl) (by kernel_rfl) (fun _ _ _ h => h) (Or.inl ⟨by rfl, ?_⟩) hH ?_
      rotate_left
      · (intro v hS; obtain ⟨s0, s1⟩ := hS; go_simp; try with_reducible rfl)
      simp only [Act.put, List.setIfInBounds_toArray, List.set_cons_zero, List.set_cons_succ, List.getElem_toArray, List.getElem_cons_succ, List.getElem_cons_zero]
      refine wpAnyH_take (i := 7) (v := ?_) rfl (by kernel_rfl) (by kernel_rfl) (by kernel_rfl) (fun _ _ _ h => h) (Or.inl ⟨by rfl, ?_⟩) hH ?_
      rotate_left
      · (intro v hS; obtain ⟨s0, s1⟩ := hS; go_simp; try with_reducible rfl)
      simp only [Act.put, List.setIfInBounds_toArray, List.set_cons_zero, List.set_cons_succ, List.getElem_toArray, List.getElem_cons_succ, List.getElem_cons_zero]
      have m3 := G2.out.1.cell FZ.out.2.2.2.2.2.2.2 (by simp)
      have hb3 := (G2.out.1.block g3 (lt_of_block FZ.out.2.2.2.2.2.2.1) (by simp)).trans FZ.out.2.2.2.2.2.2.1
      have f3 := frozen_of_row u' g3 (j * 5 + 3) _ _ hb3
      refine wpAnyH_ready (rs := [8]) (by kernel_rfl) (by simp) ?_
      refine AllReadyH.cons rfl (fun K hK => ?_) AllReadyH.nil
      go_simp
      have kk := grown_setCell u' g3 (j * 5 + 3) (.slice d l k)
      have ns1 : g3 ≠ w.heap.size + 1 := by omega
      have hlt3 := lt_of_block FZ.out.2.2.2.2.2.2.1
      have ns2 : g3 ≠ wr.heap.size := by omega
      refine hK.out _ _ ⟨kk.cell hH.1 (by simp; omega), kk.cell hH.2 (by simp; omega)⟩ (fun hH2 => ?_)
      clear hK K hH hH2 m3 f3
      have HG : Hid (w.grownBy (u'.setCell ⟨g3, j * 5 + 3, none⟩ (.slice d l k)) none ∧ (u'.setCell ⟨g3, j * 5 + 3, none⟩ (.slice d l k)).heap[w.heap.size]? = some (.cells #[.int .i64 0, .slice none 0 0, .slice none 0 0, .slice none 0 0] 27 (0, 0)) ∧ (u'.setCell ⟨g3, j * 5 + 3, none⟩ (.slice d l k)).heap[w.heap.size + 1]? = some (.cells #[.int .i64 x.ticks, .slice d1 l1 k1, .slice d2 l2 k2, .slice (some ⟨g3, 0, none⟩) l3 k3] 27 (0, 0)) ∧ (u'.setCell ⟨g3, j * 5 + 3, none⟩ (.slice d l k)).ownsRow (w.heap.size + 1 + 1) 3 1 (.slice d1 l1 k1) l1 (vI x.draws) ∧ (u'.setCell ⟨g3, j * 5 + 3, none⟩ (.slice d l k)).ownsRow (w.heap.size + 1 + 1) 66 2 (.slice d2 l2 k2) l2 (vE x.store) ∧ (u'.setCell ⟨g3, j * 5 + 3, none⟩ (.slice d l k)).ownsRow (w.heap.size + 1 + 1) 36 5 (.slice (some ⟨g3, 0, none⟩) l3 k3) l3 ((P ++ [Value.int .i64 y.cap, .int .i64 y.a, .int .i64 y.b, .slice d l k, .int .i64 y.res]) ++ R') ∧ EvO (u'.setCell ⟨g3, j * 5 + 3, none⟩ (.slice d l k)) u'.heap.size (xd ++ [y]) (P ++ [Value.int .i64 y.cap, .int .i64 y.a, .int .i64 y.b, .slice d l k, .int .i64 y.res]) (w.heap.size + 1 + 1) ∧ u'.heap.size ≤ (u'.setCell ⟨g3, j * 5 + 3, none⟩ (.slice d l k)).heap.size ∧ EvR w r R' ∧ vs.drop ((j + 1) * 5) = R' ∧ (xd ++ [y]) ++ r = x.trace ∧ (xd ++ [y]).length = j + 1 ∧ szEvents r ≤ 1048576) := by
        obtain ⟨⟨g1, r0, r1⟩, ho1, ho2, ho3, hP, hmi⟩ := FY.out
        obtain ⟨hb, hR', hvs, hxs, hxl, hPl, hcur, -⟩ := FZ.out
        obtain ⟨gu, hlu, hle, hob⟩ := G2.out
        have nt1 : ∀ {v : Value} {n : Nat} {zs : List Value} {t : TypeId} {s : Nat}, wr.ownsRow (w.heap.size + 1 + 1) t s v n zs → t ≠ 36 → v.ownBlock = none ∨ v.ownBlock ≠ some g3 := fun {v n zs t s} hh ht => by
          rcases hh.2 with ⟨rfl, -⟩ | ⟨g, cap, cur, rfl, -, hg, -⟩
          · left; rfl
          · right
            intro e
            have e' : g = g3 := by simpa [Value.ownBlock] using e
            subst e'
            rw [hcur] at hg
            cases hg
            exact ht rfl
        have st := (ho3.kept gu (Or.inr (by simp [Value.ownBlock]))).stored (j * 5 + 3) (.slice d l k)
        refine ⟨grown_into (grown_trans g1 gu) kk (by omega), (kk.block _ (by have := lt_of_block r0; have := gu.size; omega) (by simp; omega)).trans ((gu.block _ (lt_of_block r0) (by simp)).trans r0), (kk.block _ (by have := lt_of_block r1; have := gu.size; omega) (by simp; omega)).trans ((gu.block _ (lt_of_block r1) (by simp)).trans r1), (ho1.kept gu (Classical.em _)).kept kk (nt1 ho1 (by decide)), (ho2.kept gu (Classical.em _)).kept kk (nt1 ho2 (by decide)), ?_, ?_, kk.size, hR', ?_, by simpa using hxs, by simp [hxl], hszr⟩
        · have e := st.1
          rw [List.set_append_right _ _ (by omega), show j * 5 + 3 - P.length = 3 by omega] at e
          simpa using e
        · refine EvO.app (mi := mi) ((hP.none gu).kept kk (fun g e cur => ?_)) ?_
          · intro e2
            obtain rfl : g3 = g := Option.some.inj e
            rw [(gu.block _ (lt_of_block hcur) (by simp)).trans hcur] at e2
            cases e2
          · have hob2 := hob.kept kk (by
              rcases hob.2 with ⟨e2, -⟩ | ⟨g, cap, cur, e2, hbg, -⟩
              · left; rw [e2]; rfl
              · right; rw [e2]; simp [Value.ownBlock]; omega)
            refine ⟨d, l, k, u'.heap.size, [], rfl, ⟨Go.Joins.ownsRow_le hob2 (by omega), hb.2.1, hlit⟩, fun g e => ?_, by omega, rfl, Nat.le_refl _⟩
            exact (hob.lt g e).2
        · rw [show (j + 1) * 5 = j * 5 + 5 by omega, ← List.drop_drop, hvs]
          rfl
      clear G2 FY FZ kk ns1 hlt3 ns2 hb3
      generalize u'.setCell ⟨g3, j * 5 + 3, none⟩ (.slice d l k) = z at *
      simp only [Act.put, List.setIfInBounds_toArray, List.set_cons_zero, List.set_cons_succ, List.getElem_toArray, List.getElem_cons_succ, List.getElem_cons_zero]
      refine wpAnyH_done (by kernel_rfl) ?_ _
      go_wp2
      go_roundw
      case rel => exact ⟨j + 1, u'.heap.size, xd ++ [y], r, _, R', by omega, by go_num, HG⟩
      case measure => simp [intOf]; omega
    · obtain rfl : j = l3 := by omega
      obtain ⟨g1, r0, r1, ho1, ho2, ho3, hP, hmi, hR, hvs, hxs, hxl, hsz⟩ := HL.out
      have hxr : xr = [] := by
        have := congrArg List.length hxs
        have := EL.out.2.2
        simp at *
        exact List.eq_nil_of_length_eq_zero (by omega)
      subst hxr
      have hR0 : R = [] := hR
      subst hR0
      simp only [List.append_nil] at hxs ho3
      subst hxs
      obtain ⟨mf, kf⟩ := fillWorld (.int .i64 x.ticks) (.slice d1 l1 k1) (.slice d2 l2 k2) (.slice d3 j k3) r0
      have nb : ∀ {v : Value} {n : Nat} {zs : List Value} {t : TypeId} {s : Nat}, wr.ownsRow (w.heap.size + 1 + 1) t s v n zs → v.ownBlock = none ∨ v.ownBlock ≠ some w.heap.size := fun {v n zs t s} hh => by
        rcases hh.2 with ⟨rfl, -⟩ | ⟨g, cap, cur, rfl, hbg, -⟩
        · left; rfl
        · right; simp [Value.ownBlock]; omega
      have FQ : Hid _ := And.intro mf (And.intro (grown_into g1 kf (Nat.le_refl _)) (And.intro (Go.Joins.ownsRow_le (ho1.kept kf (nb ho1)) (base' := w.heap.size) (by omega)) (And.intro (Go.Joins.ownsRow_le (ho2.kept kf (nb ho2)) (base' := w.heap.size) (by omega)) (And.intro (Go.Joins.ownsRow_le (ho3.kept kf (nb ho3)) (base' := w.heap.size) (by omega)) (And.intro (EvO.kept kf hP (fun g e cur e2 => by obtain rfl := Option.some.inj e; rw [r0] at e2; cases e2)) (Nat.le_trans hmi kf.size))))))
      obtain ⟨⟨y0, y1, y2, y3⟩, hfy⟩ := blkWorld r1
      obtain ⟨⟨x0, x1, x2, x3⟩, hfx⟩ := blkWorld r0
      have fx0 := hfx 0
      have fx1 := hfx 1
      have fx2 := hfx 2
      have fx3 := hfx 3
      clear g1 r0 r1 ho1 ho2 ho3 hP hmi hR hvs hsz mf kf nb hfx hfy HL
      go_wp2
      (try simp only [Exit.inBlock, Exit.then])
      refine bodyPost_ret (results_cell_row (P := Try.prog) Try.results30 _ _ _ _ _ _ _ rfl FQ.out.1 Try.underlying27 rfl (by kernel_rfl)) rfl ?_
      obtain ⟨-, f1, f2, f3, f4, f5, f6⟩ := FQ.out
      exact ⟨d1, k1, d2, k2, d3, k3, P, mi, rfl, f1, f2, f3, f4, EvO.app (mi := w.heap.size + 1 + 1) (xs := []) (vs := []) ⟨rfl, by omega⟩ f5, f6⟩
end Go.Proofs.Ytccnninmkfhejaa.By
