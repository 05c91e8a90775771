/-
  The document's call of one effect in any world, as draws make it. No statement is proved here.
-/
import Derived.Test.YtccnninmkfhejaaYLc
namespace Go.Proofs.Ytccnninmkfhejaa.By
open Go.RowKit
set_option linter.unusedVariables false
set_option linter.unusedSimpArgs false

/-- One call: an event more, lists hardly greater. -/
def StepW (x : RWorld) (kind : Int) (n : Nat) (x' : RWorld) (ev : REvent) : Prop :=
  x'.trace = x.trace ∧ ev.cap = kind ∧ ev.lit.length ≤ n ∧ x'.draws.length ≤ x.draws.length ∧ x'.store.length ≤ x.store.length + 1 ∧ (-10 ≤ x'.ticks ∧ x'.ticks ≤ 4294967296)
/-- A world of our own in block q. -/
def MineW (u : World) (B q : Nat) (y : RWorld) : Prop := ∃ e1 m1 j1 e2 m2 j2 e3 m3 j3 us hi, (m1 ≤ j1 ∧ j1 ≤ 9223372036854775807) ∧ Mine u B q y e1 m1 j1 e2 m2 j2 e3 m3 j3 us hi
/-- Within a call: the world of our own, the event that grows, its text. -/
def CallW (w : World) (n B q : Nat) (kind : Int) (d3 : Option Addr) (l3 k3 : Nat) (vs : List Value) (hi : Nat) (x' : RWorld) (ev : REvent) (u : World) : Prop :=
  ∃ ta tl tc e1 m1 j1 e2 m2 j2, (m1 ≤ j1 ∧ j1 ≤ 9223372036854775807) ∧ Mine u B q x' e1 m1 j1 e2 m2 j2 d3 l3 k3 vs hi ∧ u.heap[n]? = some (.cells #[.int .i64 kind, .int .i64 ev.a, .int .i64 ev.b, .slice ta tl tc, .int .i64 0] 36 (0, 0)) ∧ (u.ownsRow hi 5 1 (.slice ta tl tc) tl (vB ev.lit) ∧ Byt ev.lit ∧ tl ≤ 1048576) ∧ Below B w u

set_option maxRecDepth 8000 in
set_option maxHeartbeats 8000000 in
theorem lcallW (x : RWorld) (B q : Nat) (kind A C : Int) (lit : List Int) (a : Option Addr) (l c : Nat) (d1 : Option Addr) (l1 k1 : Nat) (d2 : Option Addr) (l2 k2 : Nat) (d3 : Option Addr) (l3 k3 : Nat) (vs : List Value) (hi : Nat) (w : World) (h : Mine w B q x d1 l1 k1 d2 l2 k2 d3 l3 k3 vs hi) (hB : B ≤ w.heap.size) (hq : B ≤ q) (ht0 : -10 ≤ x.ticks ∧ x.ticks ≤ 4294967296) (hl : RdB w a l lit) (hl64 : l ≤ 64) (hk : 0 ≤ kind ∧ kind ≤ 4) (hkk : l1 ≤ k1 ∧ k1 ≤ 9223372036854775807) (hl2 : l2 ≤ 1000) (hl3 : l3 ≤ 1048576) :
    Calls Try.prog 24 #[.pointer (some ⟨q, 0, none⟩), .int .i64 kind, .int .i64 A, .int .i64 C, .slice a l c] w fun e u => ∃ x' ev, e = .returned (.int .i64 ev.res) ∧ StepW x kind l x' ev ∧ MineW u B q (evApp x' ev) ∧ Below B w u := by
  have hro := row_old h.2.2.2.1
  have hqw := lt_of_block h.1
  have ga := World.grownBy_alloc w (.cells #[.int .i64 kind, .int .i64 0, .int .i64 0, .slice none 0 0, .int .i64 0] 36) none
  have ba := heap_alloc_new w (.cells #[.int .i64 kind, .int .i64 0, .int .i64 0, .slice none 0 0, .int .i64 0] 36)
  have ha : Hid (Mine (w.alloc (.cells #[.int .i64 kind, .int .i64 0, .int .i64 0, .slice none 0 0, .int .i64 0] 36)) B q x d1 l1 k1 d2 l2 k2 d3 l3 k3 vs hi ∧ _) := And.intro (h.none ga) (And.intro ba ga)
  have HK : Hid ((-10 ≤ x.ticks ∧ x.ticks ≤ 4294967296) ∧ RdB w a l lit ∧ Mine w B q x d1 l1 k1 d2 l2 k2 d3 l3 k3 vs hi) := ⟨ht0, hl, h⟩
  have HPL : Hid ((putV x.store A C).length ≤ x.store.length + 1) := by
    show _ ≤ _
    unfold putV putK
    have := fndK_le x.store A
    split
    · rename_i hb
      have hb' : fndK x.store A < x.store.length ∧ keyAt x.store (fndK x.store A) = A := by unfold fndB at hb; exact of_decide_eq_true hb
      simp only [List.length_append, List.length_cons, List.length_take, List.length_drop]; omega
    · split
      · simp only [List.length_append, List.length_cons, List.length_take, List.length_drop]; omega
      · omega
  have HKK : Hid (l1 ≤ k1 ∧ k1 ≤ 9223372036854775807) := hkk
  have RO : Hid _ := hro
  have BU : Hid _ := (Below.refl B w).grown ga hB (fun k e => by cases e)
  have hnu : w.heap.size < (w.alloc (.cells #[.int .i64 kind, .int .i64 0, .int .i64 0, .slice none 0 0, .int .i64 0] 36)).heap.size := lt_of_block ba
  have hhi := h.2.2.2.2.2
  clear h ht0 hl ga ba hro
  go_enter Try.func24, Try.ntmps24
  go_upto_block 0 with fail
  generalize w.alloc (.cells #[.int .i64 kind, .int .i64 0, .int .i64 0, .slice none 0 0, .int .i64 0] 36) = u at *
  obtain ⟨n, hn⟩ : ∃ n, n = w.heap.size := ⟨_, rfl⟩
  rw [← hn] at ha RO hnu hB hqw hhi ⊢
  clear hn
  go_cut [11] (fun s wx => ∃ x' ev, s = .int .i64 ev.res ∧ StepW x kind l x' ev ∧ Hid (CallW w n B q kind d3 l3 k3 vs hi x' ev wx))
  case first =>
    obtain ⟨M, bE, gu⟩ := ha.out
    obtain ⟨⟨y0, y1, y2, y3⟩, hfy⟩ := blkWorld M.1
    have fy0 := hfy 0
    obtain ⟨⟨x0, x1, x2, x3, x4⟩, hfx⟩ := blkEvent bE
    have fx1 := hfx 1
    have nq : q ≠ n := by omega
    have MU : Hid (Mine u B q x d1 l1 k1 d2 l2 k2 d3 l3 k3 vs hi) := M
    clear hfx
    rcases (by omega : kind = 0 ∨ kind = 1 ∨ kind = 2 ∨ kind = 3 ∨ kind = 4) with rfl | rfl | rfl | rfl | rfl
    · skip
      have ge := World.grownBy_alloc u (.cells #[] 5) none
      have be := heap_alloc_new u (.cells #[] 5)
      have LL : Hid (Lies (u.alloc (.cells #[] 5)) a l (vB lit)) := ((HK.out.2.1.none gu).none ge).lies
      have NB : Hid (_ = some (Obj.cells #[] 5 (0, 0))) := be
      have GE : Hid (u.grownBy (u.alloc (.cells #[] 5)) none) := ge
      obtain ⟨i0, hi0, hz0, hz1, hz2⟩ := info_parts infoYb
      have hvl : (vB lit).length = l * 1 := by rw [vB_len, HK.out.2.1.1.1, Nat.mul_one]
      have hnu2 : n ≤ u.heap.size := by omega
      clear M bE gu ge be hfy y0 y1 y2 y3 fy0 x0 x1 x2 x3 x4 fx1
      go_wp2_with (at_builtin; go_must (refine wpList_appE rfl (.tmp 27) (.tmp 28) 22 rfl n 5 i0 _ 1 1 Try.underlying22 hi0 hz0 hz1 hz2 rfl (by decide) u.heap.size rfl NB.out hnu2 a l c (vB lit) rfl hvl LL.out (vB_one _) (by unfold maxLen; omega) (by omega) ?_))
      intro d k z ho hg
      obtain ⟨M, bE, gu⟩ := ha.out
      have gz := grown_into GE.out hg (Nat.le_refl _)
      replace bE := (gz.block _ (lt_of_block bE) (by simp)).trans bE
      replace M := M.none gz
      have x3 := (blkEvent bE).1.2.2.2.1
      have f3 := (blkEvent bE).2 3
      have kk := grown_setCell z n 3 (.slice d l k)
      have bE2 := heap_setCell_same _ n 3 _ _ (.slice d l k) bE
      have FQ : Hid (CallW w n B q 0 d3 l3 k3 vs hi x ⟨0, 0, 0, lit, 0⟩ (z.setCell ⟨n, 3, none⟩ (.slice d l k))) := ⟨d, l, k, d1, l1, k1, d2, l2, k2, HKK.out, mine_keep M kk bE RO.out, bE2, ⟨Go.Joins.ownsRow_le (ho.kept kk (row_ne ho bE (by decide))) (by omega), HK.out.2.1.2.1, by omega⟩, (BU.out.grown gz (by omega) (fun k e => by cases e)).setCell (p := ⟨n, 3, none⟩) (by show B ≤ n; omega) _⟩
      clear M bE gu gz kk bE2 ho hg GE NB LL
      go_wp2
      go_meet
      case rel => exact ⟨x, ⟨0, 0, 0, lit, 0⟩, rfl, ⟨rfl, rfl, Nat.le_of_eq HK.out.2.1.1.1, Nat.le_refl _, Nat.le_succ _, HK.out.1⟩, FQ⟩
    · have hw : IntKind.i64.wrap (x.ticks + 1) = x.ticks + 1 := by have := HK.out.1; exact IntWalk.i64_in _ ⟨by omega, by omega⟩
      have bq := (grown_setCell u q 0 (.int .i64 (x.ticks + 1))).block n hnu (by simp; omega)
      have B2 : Hid _ := bq.trans bE
      have BE : Hid _ := bE
      clear bq bE gu hfy M
      by_cases ht : x.ticks < 2147483647
      · skip
        go_wp2
        go_meet
        case rel => exact ⟨{ x with ticks := x.ticks + 1 }, ⟨1, 0, 0, [], x.ticks⟩, rfl, ⟨rfl, rfl, Nat.zero_le _, Nat.le_refl _, Nat.le_succ _, by have := HK.out.1; show -10 ≤ x.ticks + 1 ∧ x.ticks + 1 ≤ 4294967296; omega⟩, ⟨none, 0, 0, d1, l1, k1, d2, l2, k2, HKK.out, MU.out.ticks _, B2.out, ⟨World.ownsRow_nil _ _ _ _, fun z hz => by simp at hz, by omega⟩, BU.out.setCell (p := ⟨q, 0, none⟩) hq _⟩⟩
      · skip
        go_wp2
        go_meet
        case rel => exact ⟨x, ⟨1, 0, 0, [], x.ticks⟩, rfl, ⟨rfl, rfl, Nat.zero_le _, Nat.le_refl _, Nat.le_succ _, HK.out.1⟩, ⟨none, 0, 0, d1, l1, k1, d2, l2, k2, HKK.out, MU.out, BE.out, ⟨World.ownsRow_nil _ _ _ _, fun z hz => by simp at hz, by omega⟩, BU.out⟩⟩
    · have bE1 := heap_setCell_same _ n 1 _ _ (.int .i64 A) bE
      have M1 := mine_keep M (grown_setCell u n 1 (.int .i64 A)) bE RO.out
      have L1 : Hid _ := And.intro M1 (And.intro bE1 (BU.out.setCell (p := ⟨n, 1, none⟩) (by show B ≤ n; omega) (.int .i64 A)))
      have z1 := (blkWorld M1.1).1.2.1
      have fz1 := (blkWorld M1.1).2 1
      have hnv : n < (u.setCell ⟨n, 1, none⟩ (.int .i64 A)).heap.size := lt_of_block bE1
      clear M bE gu hfy y0 y1 y2 y3 fy0 bE1 M1 BU MU ha
      go_upto_region 15 with fail
      clear x0 x1 x2 x3 x4 fx1
      generalize u.setCell ⟨n, 1, none⟩ (.int .i64 A) = v at *
      have hdl := L1.out.1.2.1.1
      cases hx : x.draws with
      | nil =>
        rw [hx] at hdl
        obtain rfl : l1 = 0 := by simpa using hdl.symm
        clear hx hdl
        go_wp2
        go_meet
        case rel => exact ⟨x, ⟨2, A, 0, [], 0⟩, rfl, ⟨rfl, rfl, Nat.zero_le _, Nat.le_refl _, Nat.le_succ _, HK.out.1⟩, ⟨none, 0, 0, _, _, _, _, _, _, HKK.out, L1.out.1, L1.out.2.1, ⟨World.ownsRow_nil _ _ _ _, fun z hz => by simp at hz, by omega⟩, L1.out.2.2⟩⟩
      | cons d r =>
        rw [hx] at hdl
        simp only [List.length_cons] at hdl
        have hl0 : 0 < l1 := by omega
        by_cases hA : 0 < A
        · skip
          obtain ⟨g, o, cur, rfl, hbg, hcg, hc⟩ : ∃ g o cur, d1 = some ⟨g, o, none⟩ ∧ B ≤ g ∧ v.heap[g]? = some (.cells cur 3 (0, 0)) ∧ ∀ i, i < l1 → cur[o + i]? = some (.int .i64 (x.draws.getD i 0)) := by
            rcases L1.out.1.2.1.2.2 with h0 | h0
            · omega
            · exact h0
          have hz : v.cell? ⟨g, o, none⟩ = some (.int .i64 d) := by
            have := hc 0 (by omega)
            rw [hx] at this
            rw [cell_of_row _ g _ cur 3 (0, 0) hcg]; simpa using this
          have hA0 : ¬ A = 0 := by omega
          have hl1' : ¬ ((l1 : Int) = 0) := by omega
          have HC : Hid ((∀ i, i < l1 → cur[o + i]? = some (.int .i64 (x.draws.getD i 0))) ∧ x.draws = d :: r ∧ r.length + 1 = l1 ∧ v.heap[g]? = some (.cells cur 3 (0, 0)) ∧ B ≤ g) := ⟨hc, hx, hdl, hcg, hbg⟩
          have nqv := (grown_setCell v q 1 (.slice (some ⟨g, o, none⟩) (l1 - 1) (k1 - 1))).block n hnv (by simp; omega)
          clear hc hx hdl hcg hbg nqv
          go_wp2
          · go_meet
            case rel =>
              have hr : OwI0 v B (some ⟨g, o, none⟩) (l1 - 1) r := ⟨by have := HC.out.2.2.1; omega, by omega, .inl (by omega)⟩
              exact ⟨{ x with draws := r }, ⟨2, A, 0, [], _⟩, rfl, ⟨rfl, rfl, Nat.zero_le _, by have := HC.out.2.1; show r.length ≤ x.draws.length; rw [this]; simp, Nat.le_succ _, HK.out.1⟩, ⟨none, 0, 0, _, _, _, _, _, _, (by have := HKK.out; omega), L1.out.1.draws hr _, ((grown_setCell v q 1 _).block n hnv (by simp; omega)).trans L1.out.2.1, ⟨World.ownsRow_nil _ _ _ _, fun z hz => by simp at hz, by omega⟩, L1.out.2.2.setCell (p := ⟨q, 1, none⟩) hq _⟩⟩
          · go_meet
            case rel =>
              have hr : OwI0 v B (some ⟨g, o + 1, none⟩) (l1 - 1) r := by
                refine ⟨by have := HC.out.2.2.1; omega, by omega, .inr ⟨g, o + 1, cur, rfl, HC.out.2.2.2.2, HC.out.2.2.2.1, fun i hi => ?_⟩⟩
                have := HC.out.1 (i + 1) (by omega)
                rw [HC.out.2.1] at this
                rw [show o + 1 + i = o + (i + 1) by omega]; simpa using this
              exact ⟨{ x with draws := r }, ⟨2, A, 0, [], _⟩, rfl, ⟨rfl, rfl, Nat.zero_le _, by have := HC.out.2.1; show r.length ≤ x.draws.length; rw [this]; simp, Nat.le_succ _, HK.out.1⟩, ⟨none, 0, 0, _, _, _, _, _, _, (by have := HKK.out; omega), L1.out.1.draws hr _, ((grown_setCell v q 1 _).block n hnv (by simp; omega)).trans L1.out.2.1, ⟨World.ownsRow_nil _ _ _ _, fun z hz => by simp at hz, by omega⟩, L1.out.2.2.setCell (p := ⟨q, 1, none⟩) hq _⟩⟩
        · skip
          clear hx hdl
          go_wp2
          go_meet
          case rel => exact ⟨x, ⟨2, A, 0, [], 0⟩, rfl, ⟨rfl, rfl, Nat.zero_le _, Nat.le_refl _, Nat.le_succ _, HK.out.1⟩, ⟨none, 0, 0, _, _, _, _, _, _, HKK.out, L1.out.1, L1.out.2.1, ⟨World.ownsRow_nil _ _ _ _, fun z hz => by simp at hz, by omega⟩, L1.out.2.2⟩⟩
    · skip
      have bE1 := heap_setCell_same _ n 1 _ _ (.int .i64 A) bE
      have M1 := mine_keep M (grown_setCell u n 1 (.int .i64 A)) bE RO.out
      have L1 : Hid _ := And.intro M1 (And.intro bE1 (BU.out.setCell (p := ⟨n, 1, none⟩) (by show B ≤ n; omega) (.int .i64 A)))
      have z2 := (blkWorld M1.1).1.2.2.1
      clear M bE gu hfy y0 y1 y2 y3 fy0 bE1 M1 BU MU ha
      go_upto_region 20 with fail
      clear x0 x1 x2 x3 x4 fx1
      generalize u.setCell ⟨n, 1, none⟩ (.int .i64 A) = v at *
      have hsl : x.store.length = l2 := by have := L1.out.1.2.2.1.1; rw [vE_len] at this; omega
      go_wp2_with fail
      go_loop [11, 13] (fun s i => ∃ (j : Nat) (r : Int), j ≤ l2 ∧ i = .int .i64 j ∧ s = .int .i64 r) (fun _ i => l2 - (intOf i).toNat)
      case atStart => exact ⟨0, 0, Nat.zero_le _, rfl, rfl⟩
      case round =>
        obtain ⟨j, r, hj, rfl, rfl⟩ := hrel
        by_cases hlt : j < l2
        · obtain ⟨g, rfl, hcK, hcV⟩ : ∃ g, d2 = some ⟨g, 0, none⟩ ∧ v.cell? ⟨g, j * 2, none⟩ = some (.int .i64 (keyAt x.store j)) ∧ v.cell? ⟨g, j * 2 + 1, none⟩ = some (.int .i64 (valAt x.store j)) := by
            rcases row_cell L1.out.1.2.2.1 with h0 | ⟨g, e, -, -, hc⟩
            · omega
            · exact ⟨g, e, CLe.unhidz _ _ (hc _ _ (vE_at (by omega)).1), CLe.unhidz _ _ (hc _ _ (vE_at (by omega)).2)⟩
          by_cases hA : keyAt x.store j = A
          · go_wp2
            go_round
            case rel => exact ⟨j + 1, valAt x.store j, by omega, by go_num, rfl⟩
            case measure => simp [intOf]; omega
          · go_wp2
            go_round
            case rel => exact ⟨j + 1, r, by omega, by go_num, rfl⟩
            case measure => simp [intOf]; omega
        · go_wp2
          go_meet
          case rel => exact ⟨x, ⟨3, A, 0, [], r⟩, rfl, ⟨rfl, rfl, Nat.zero_le _, Nat.le_refl _, Nat.le_succ _, HK.out.1⟩, ⟨none, 0, 0, _, _, _, _, _, _, HKK.out, L1.out.1, L1.out.2.1, ⟨World.ownsRow_nil _ _ _ _, fun z hz => by simp at hz, by omega⟩, L1.out.2.2⟩⟩
    · skip
      have bE1 := heap_setCell_same _ n 1 _ _ (.int .i64 A) bE
      have M1 := mine_keep M (grown_setCell u n 1 (.int .i64 A)) bE RO.out
      have bE2 := heap_setCell_same _ n 2 _ _ (.int .i64 C) bE1
      have M2 := mine_keep M1 (grown_setCell _ n 2 (.int .i64 C)) bE1 RO.out
      have L1 : Hid _ := And.intro bE2 ((BU.out.setCell (p := ⟨n, 1, none⟩) (by show B ≤ n; omega) (.int .i64 A)).setCell (p := ⟨n, 2, none⟩) (by show B ≤ n; omega) (.int .i64 C))
      have CP : Hid _ := lputT x B q A C d1 l1 k1 d2 l2 k2 d3 l3 k3 vs hi _ M2 (by have := lt_of_block bE2; omega) hq (by omega)
      have x2' := (blkEvent bE1).1.2.2.1
      have fx2' := (blkEvent bE1).2 2
      clear M bE gu hfy y0 y1 y2 y3 fy0 bE1 M1 bE2 M2 BU MU ha
      go_wp2_with fail
      refine Calls.mono CP.out ?_
      rintro e z ⟨rfl, ⟨d2', l2', k2', M3⟩, hb, hev⟩
      have FQ : Hid (CallW w n B q 4 d3 l3 k3 vs hi { x with store := putV x.store A C } ⟨4, A, C, [], 0⟩ z) := ⟨none, 0, 0, _, _, _, _, _, _, HKK.out, M3, hev n _ _ (by decide) (by decide) L1.out.1, ⟨World.ownsRow_nil _ _ _ _, fun z hz => by simp at hz, by omega⟩, L1.out.2.trans hb⟩
      clear M3 hb hev CP L1
      simp only []
      go_wp2
      go_meet
      case rel => exact ⟨{ x with store := putV x.store A C }, ⟨4, A, C, [], 0⟩, rfl, ⟨rfl, rfl, Nat.zero_le _, Nat.le_refl _, HPL.out, HK.out.1⟩, FQ⟩
  case rest =>
  obtain ⟨X, E, rfl, HS, HC⟩ := hcut
  obtain ⟨ecap, eA, eB, elit, eres⟩ := E
  obtain rfl : ecap = kind := HS.2.1
  have HST : Hid (StepW x ecap l X ⟨ecap, eA, eB, elit, eres⟩) := HS
  clear HS
  simp only [] at HC ⊢
  obtain ⟨ta, tl, tc, e1, m1, j1, e2, m2, j2, hmj, M, bE, ⟨ot, hby, htl⟩, bl⟩ := HC.out
  simp only [] at bE ot hby
  have HMJ : Hid (m1 ≤ j1 ∧ j1 ≤ 9223372036854775807) := hmj
  clear hmj
  have kk := grown_setCell wc n 4 (.int .i64 eres)
  have b5 := heap_setCell_same _ n 4 _ _ (.int .i64 eres) bE
  have x4 := (blkEvent bE).1.2.2.2.2
  have fx4 := (blkEvent bE).2 4
  have gd := grown_drew (World.grownBy.refl (wc.setCell ⟨n, 4, none⟩ (.int .i64 eres)) none)
  have L5 : Hid (Mine (wc.setCell ⟨n, 4, none⟩ (.int .i64 eres)).drew B q X e1 m1 j1 e2 m2 j2 d3 l3 k3 vs hi ∧ (wc.setCell ⟨n, 4, none⟩ (.int .i64 eres)).drew.heap[n]? = some (.cells #[.int .i64 ecap, .int .i64 eA, .int .i64 eB, .slice ta tl tc, .int .i64 eres] 36 (0, 0)) ∧ ((wc.setCell ⟨n, 4, none⟩ (.int .i64 eres)).drew.ownsRow hi 5 1 (.slice ta tl tc) tl (vB elit) ∧ Byt elit ∧ tl ≤ 1048576) ∧ Below B w (wc.setCell ⟨n, 4, none⟩ (.int .i64 eres)).drew) :=
    ⟨(mine_keep M kk bE RO.out).none gd, (gd.block _ (lt_of_block b5) (by simp)).trans b5, ⟨(ot.kept kk (row_ne ot bE (by decide))).kept gd (Classical.em _), hby, htl⟩, (bl.setCell (p := ⟨n, 4, none⟩) (by show B ≤ n; omega) _).drew⟩
  clear M bE ot hby htl bl kk b5 gd HC ha BU HK
  go_wp2
  clear x4 fx4
  refine wp_region_held_drew (S := (fun u => u.cell? ⟨n, 0, none⟩ = some (.int .i64 ecap) ∧ u.cell? ⟨n, 1, none⟩ = some (.int .i64 eA) ∧ u.cell? ⟨n, 2, none⟩ = some (.int .i64 eB) ∧ u.cell? ⟨n, 3, none⟩ = some (.slice ta tl tc) ∧ u.cell? ⟨n, 4, none⟩ = some (.int .i64 eres))) (by kernel_rfl) (blkEvent L5.out.2.1).1 (fun hH => ?_)
  generalize (wc.setCell ⟨n, 4, none⟩ (.int .i64 eres)).drew = y at *
  simp only [List.size_toArray, List.length_cons, List.length_nil, Nat.reduceAdd, Array.replicate, List.replicate]
  refine wpAnyH_take (i := 0) (v := ?_) rfl (by kernel_rfl) (by kernel_rfl) (by kernel_rfl) (fun _ _ _ h => h) (Or.inl ⟨by rfl, ?_⟩) hH ?_
  rotate_left
  · (intro v hS; go_simp; try with_reducible rfl)
  simp only [Act.put, List.setIfInBounds_toArray, List.set_cons_zero, List.set_cons_succ, List.getElem_toArray, List.getElem_cons_succ, List.getElem_cons_zero]
  refine wpAnyH_take (i := 1) (v := ?_) rfl (by kernel_rfl) (by kernel_rfl) (by kernel_rfl) (fun _ _ _ h => h) (Or.inl ⟨by rfl, ?_⟩) hH ?_
  rotate_left
  · (intro v hS; go_simp; try with_reducible rfl)
  simp only [Act.put, List.setIfInBounds_toArray, List.set_cons_zero, List.set_cons_succ, List.getElem_toArray, List.getElem_cons_succ, List.getElem_cons_zero]
  refine wpAnyH_take (i := 2) (v := ?_) rfl (by kernel_rfl) (by kernel_rfl) (by kernel_rfl) (fun _ _ _ h => h) (Or.inl ⟨by rfl, ?_⟩) hH ?_
  rotate_left
  · (intro v hS; go_simp; try with_reducible rfl)
  simp only [Act.put, List.setIfInBounds_toArray, List.set_cons_zero, List.set_cons_succ, List.getElem_toArray, List.getElem_cons_succ, List.getElem_cons_zero]
  refine wpAnyH_take (i := 3) (v := ?_) rfl (by kernel_rfl) (by kernel_rfl) (by kernel_rfl) (fun _ _ _ h => h) (Or.inl ⟨by rfl, ?_⟩) hH ?_
  rotate_left
  · (intro v hS; go_simp; try with_reducible rfl)
  simp only [Act.put, List.setIfInBounds_toArray, List.set_cons_zero, List.set_cons_succ, List.getElem_toArray, List.getElem_cons_succ, List.getElem_cons_zero]
  refine wpAnyH_take (i := 5) (v := ?_) rfl (by kernel_rfl) (by kernel_rfl) (by kernel_rfl) (fun _ _ _ h => h) (Or.inl ⟨by rfl, ?_⟩) hH ?_
  rotate_left
  · (intro v hS; obtain ⟨t0, t1, t2, t3, t4⟩ := hS; go_simp; try with_reducible rfl)
  simp only [Act.put, List.setIfInBounds_toArray, List.set_cons_zero, List.set_cons_succ, List.getElem_toArray, List.getElem_cons_succ, List.getElem_cons_zero]
  have q3y := (blkWorld L5.out.1.1).1.2.2.2
  have ga := World.grownBy_alloc y (.cells #[.int .i64 ecap, .int .i64 eA, .int .i64 eB, .slice ta tl tc, .int .i64 eres] 36) none
  have ba := heap_alloc_new y (.cells #[.int .i64 ecap, .int .i64 eA, .int .i64 eB, .slice ta tl tc, .int .i64 eres] 36)
  have HC : Hid (∀ j w, ([.int .i64 ecap, .int .i64 eA, .int .i64 eB, .slice ta tl tc, .int .i64 eres] : List Value)[j]? = some w → (y.alloc (.cells #[.int .i64 ecap, .int .i64 eA, .int .i64 eB, .slice ta tl tc, .int .i64 eres] 36)).cell? ((⟨y.heap.size, 0, none⟩ : Addr).add j) = some w) := fun j w hj => by
    rw [Go.WideShapes.add_plain, Nat.zero_add, cell_of_row _ y.heap.size j _ 36 (0, 0) ba]
    match j, hj with
    | 0, hj => exact hj
    | 1, hj => exact hj
    | 2, hj => exact hj
    | 3, hj => exact hj
    | 4, hj => exact hj
    | j + 5, hj => simp at hj
  have H1 : Hid (∀ w ∈ ([.int .i64 ecap, .int .i64 eA, .int .i64 eB, .slice ta tl tc, .int .i64 eres] : List Value), w.oneCell' = true) := fun w hw => by
    simp only [List.mem_cons, List.not_mem_nil, or_false] at hw
    rcases hw with rfl | rfl | rfl | rfl | rfl <;> rfl
  have hBn : B ≤ y.heap.size := by have := lt_of_block L5.out.2.1; omega
  have L6 : Hid (Mine (y.alloc (.cells #[.int .i64 ecap, .int .i64 eA, .int .i64 eB, .slice ta tl tc, .int .i64 eres] 36)) B q X e1 m1 j1 e2 m2 j2 d3 l3 k3 vs hi ∧ (y.alloc (.cells #[.int .i64 ecap, .int .i64 eA, .int .i64 eB, .slice ta tl tc, .int .i64 eres] 36)).heap[n]? = some (.cells #[.int .i64 ecap, .int .i64 eA, .int .i64 eB, .slice ta tl tc, .int .i64 eres] 36 (0, 0)) ∧ ((y.alloc (.cells #[.int .i64 ecap, .int .i64 eA, .int .i64 eB, .slice ta tl tc, .int .i64 eres] 36)).ownsRow hi 5 1 (.slice ta tl tc) tl (vB elit) ∧ Byt elit ∧ tl ≤ 1048576) ∧ Below B w (y.alloc (.cells #[.int .i64 ecap, .int .i64 eA, .int .i64 eB, .slice ta tl tc, .int .i64 eres] 36)) ∧ B ≤ (y.alloc (.cells #[.int .i64 ecap, .int .i64 eA, .int .i64 eB, .slice ta tl tc, .int .i64 eres] 36)).heap.size) :=
    ⟨L5.out.1.none ga, (ga.block _ (lt_of_block L5.out.2.1) (by simp)).trans L5.out.2.1, ⟨L5.out.2.2.1.1.kept ga (Classical.em _), L5.out.2.2.1.2⟩, L5.out.2.2.2.grown ga hBn (fun k e => by cases e), Nat.le_trans hBn ga.size⟩
  have hBy : B ≤ (y.alloc (.cells #[.int .i64 ecap, .int .i64 eA, .int .i64 eB, .slice ta tl tc, .int .i64 eres] 36)).heap.size := L6.out.2.2.2.2
  have q3z := (blkWorld L6.out.1.1).1.2.2.2
  clear ga ba
  refine wpAnyH_ready (rs := [4, 6]) (by kernel_rfl) (by simp) ?_
  refine AllReadyH.cons rfl (fun K hK => ?_) ?_
  · skip
    go_simp
    refine hK.out _ _ (blkEvent L5.out.2.1).1 (fun hH2 => ?_)
    clear hK K hH
    have hH := hH2
    clear hH2
    simp only [Act.put, List.setIfInBounds_toArray, List.set_cons_zero, List.set_cons_succ, List.getElem_toArray, List.getElem_cons_succ, List.getElem_cons_zero]
    refine wpAnyH_ready (rs := [6]) (by kernel_rfl) (by simp) ?_
    refine AllReadyH.cons rfl (fun K hK => ?_) AllReadyH.nil
    go_simp
    refine hK.out _ _ (blkEvent L6.out.2.1).1 (fun hH2 => ?_)
    clear hK K hH
    have hH := hH2
    clear hH2
    simp only [Act.put, List.setIfInBounds_toArray, List.set_cons_zero, List.set_cons_succ, List.getElem_toArray, List.getElem_cons_succ, List.getElem_cons_zero]
    refine wpAnyH_ready (rs := [7]) (by kernel_rfl) (by simp) ?_
    refine AllReadyH.cons rfl (fun K hK => ?_) AllReadyH.nil
    obtain ⟨i0, hi0, hz0, hz1, hz2⟩ := info_parts infoYv
    refine step_ofY rfl (wp_append_own _ (.tmp 116) (.tmp 118) 25 rfl B 36 i0 _ 5 56 Try.underlying25 hi0 hz0 hz1 hz2 rfl (by decide) (.slice d3 l3 k3) l3 vs rfl L6.out.1.2.2.2.1 ⟨y.heap.size, 0, none⟩ 1 1 _ rfl rfl HC.out H1.out (by unfold maxLen; omega) (by omega) hBy ?_)
    intro vv w4 ho4 hg4 _
    obtain ⟨d4, k4, rfl⟩ := row_slice ho4
    have ap := mine_app (ev := ⟨ecap, eA, eB, elit, eres⟩) L6.out.1 hg4 ho4 L6.out.2.2.1.1 L6.out.2.2.1.2.1 L6.out.2.2.1.2.2
    have n4 := (hg4.block n (lt_of_block L6.out.2.1) (fun e => by
      rcases RO.out with h0 | h0
      · rw [h0] at e; cases e
      · exact h0 e.symm)).trans L6.out.2.1
    have bl4 := L6.out.2.2.2.1.grown hg4 (Nat.le_trans L6.out.2.2.2.2 (Nat.le_refl _)) (fun g e => (World.ownsRow.lt L6.out.1.2.2.2.1 g e).1)
    have kq := grown_setCell w4 q 3 (.slice d4 (l3 + 1) k4)
    have q5 := heap_setCell_same _ q 3 _ _ (.slice d4 (l3 + 1) k4) ap.1
    have ow5 := ow_kept ap.2 kq ap.1
    have n5 := (kq.block n (lt_of_block n4) (by simp; omega)).trans n4
    have L7 : Hid _ := And.intro n4 (And.intro n5 (And.intro (And.intro q5 ow5) (bl4.setCell (p := ⟨q, 3, none⟩) hq (.slice d4 (l3 + 1) k4))))
    have z3 := (blkWorld ap.1).1.2.2.2
    have fz3 := (blkWorld ap.1).2 3
    clear ap n4 bl4 kq q5 ow5 n5 ho4 hg4 i0 hi0 hz0 hz1 hz2
    refine hK.out _ _ (blkEvent L7.out.1).1 (fun hH2 => ?_)
    clear hK K hH
    have hH := hH2
    clear hH2
    simp only [Act.put, List.setIfInBounds_toArray, List.set_cons_zero, List.set_cons_succ, List.getElem_toArray, List.getElem_cons_succ, List.getElem_cons_zero]
    refine wpAnyH_take (i := 8) (v := ?_) rfl (by kernel_rfl) (by kernel_rfl) (by kernel_rfl) (fun _ _ _ h => h) (Or.inl ⟨by rfl, ?_⟩) hH ?_
    rotate_left
    · (intro v hS; go_simp; try with_reducible rfl)
    simp only [Act.put, List.setIfInBounds_toArray, List.set_cons_zero, List.set_cons_succ, List.getElem_toArray, List.getElem_cons_succ, List.getElem_cons_zero]
    refine wpAnyH_take (i := 9) (v := ?_) rfl (by kernel_rfl) (by kernel_rfl) (by kernel_rfl) (fun _ _ _ h => h) (Or.inl ⟨by rfl, ?_⟩) hH ?_
    rotate_left
    · (intro v hS; go_simp; try with_reducible rfl)
    simp only [Act.put, List.setIfInBounds_toArray, List.set_cons_zero, List.set_cons_succ, List.getElem_toArray, List.getElem_cons_succ, List.getElem_cons_zero]
    refine wpAnyH_ready (rs := [10]) (by kernel_rfl) (by simp) ?_
    refine AllReadyH.cons rfl (fun K hK => ?_) AllReadyH.nil
    go_simp
    refine hK.out _ _ (blkEvent L7.out.2.1).1 (fun hH2 => ?_)
    clear hK K hH z3 fz3
    simp only [Act.put, List.setIfInBounds_toArray, List.set_cons_zero, List.set_cons_succ, List.getElem_toArray, List.getElem_cons_succ, List.getElem_cons_zero]
    refine wpAnyH_done (by kernel_rfl) ?_ _
    clear hH2
    go_wp2
    (try simp only [Exit.inBlock, Exit.then])
    go_ret
    exact ⟨X, _, rfl, HST.out, ⟨e1, m1, j1, e2, m2, j2, d4, l3 + 1, k4, _, _, HMJ.out, L7.out.2.2.1⟩, L7.out.2.2.2⟩
  refine AllReadyH.cons rfl (fun K hK => ?_) AllReadyH.nil
  · skip
    go_simp
    refine hK.out _ _ (blkEvent L6.out.2.1).1 (fun hH2 => ?_)
    clear hK K hH
    have hH := hH2
    clear hH2
    simp only [Act.put, List.setIfInBounds_toArray, List.set_cons_zero, List.set_cons_succ, List.getElem_toArray, List.getElem_cons_succ, List.getElem_cons_zero]
    refine wpAnyH_ready (rs := [4]) (by kernel_rfl) (by simp) ?_
    refine AllReadyH.cons rfl (fun K hK => ?_) AllReadyH.nil
    go_simp
    refine hK.out _ _ (blkEvent L6.out.2.1).1 (fun hH2 => ?_)
    clear hK K hH
    have hH := hH2
    clear hH2
    simp only [Act.put, List.setIfInBounds_toArray, List.set_cons_zero, List.set_cons_succ, List.getElem_toArray, List.getElem_cons_succ, List.getElem_cons_zero]
    refine wpAnyH_ready (rs := [7]) (by kernel_rfl) (by simp) ?_
    refine AllReadyH.cons rfl (fun K hK => ?_) AllReadyH.nil
    obtain ⟨i0, hi0, hz0, hz1, hz2⟩ := info_parts infoYv
    refine step_ofY rfl (wp_append_own _ (.tmp 116) (.tmp 118) 25 rfl B 36 i0 _ 5 56 Try.underlying25 hi0 hz0 hz1 hz2 rfl (by decide) (.slice d3 l3 k3) l3 vs rfl L6.out.1.2.2.2.1 ⟨y.heap.size, 0, none⟩ 1 1 _ rfl rfl HC.out H1.out (by unfold maxLen; omega) (by omega) hBy ?_)
    intro vv w4 ho4 hg4 _
    obtain ⟨d4, k4, rfl⟩ := row_slice ho4
    have ap := mine_app (ev := ⟨ecap, eA, eB, elit, eres⟩) L6.out.1 hg4 ho4 L6.out.2.2.1.1 L6.out.2.2.1.2.1 L6.out.2.2.1.2.2
    have n4 := (hg4.block n (lt_of_block L6.out.2.1) (fun e => by
      rcases RO.out with h0 | h0
      · rw [h0] at e; cases e
      · exact h0 e.symm)).trans L6.out.2.1
    have bl4 := L6.out.2.2.2.1.grown hg4 (Nat.le_trans L6.out.2.2.2.2 (Nat.le_refl _)) (fun g e => (World.ownsRow.lt L6.out.1.2.2.2.1 g e).1)
    have kq := grown_setCell w4 q 3 (.slice d4 (l3 + 1) k4)
    have q5 := heap_setCell_same _ q 3 _ _ (.slice d4 (l3 + 1) k4) ap.1
    have ow5 := ow_kept ap.2 kq ap.1
    have n5 := (kq.block n (lt_of_block n4) (by simp; omega)).trans n4
    have L7 : Hid _ := And.intro n4 (And.intro n5 (And.intro (And.intro q5 ow5) (bl4.setCell (p := ⟨q, 3, none⟩) hq (.slice d4 (l3 + 1) k4))))
    have z3 := (blkWorld ap.1).1.2.2.2
    have fz3 := (blkWorld ap.1).2 3
    clear ap n4 bl4 kq q5 ow5 n5 ho4 hg4 i0 hi0 hz0 hz1 hz2
    refine hK.out _ _ (blkEvent L7.out.1).1 (fun hH2 => ?_)
    clear hK K hH
    have hH := hH2
    clear hH2
    simp only [Act.put, List.setIfInBounds_toArray, List.set_cons_zero, List.set_cons_succ, List.getElem_toArray, List.getElem_cons_succ, List.getElem_cons_zero]
    refine wpAnyH_take (i := 8) (v := ?_) rfl (by kernel_rfl) (by kernel_rfl) (by kernel_rfl) (fun _ _ _ h => h) (Or.inl ⟨by rfl, ?_⟩) hH ?_
    rotate_left
    · (intro v hS; go_simp; try with_reducible rfl)
    simp only [Act.put, List.setIfInBounds_toArray, List.set_cons_zero, List.set_cons_succ, List.getElem_toArray, List.getElem_cons_succ, List.getElem_cons_zero]
    refine wpAnyH_take (i := 9) (v := ?_) rfl (by kernel_rfl) (by kernel_rfl) (by kernel_rfl) (fun _ _ _ h => h) (Or.inl ⟨by rfl, ?_⟩) hH ?_
    rotate_left
    · (intro v hS; go_simp; try with_reducible rfl)
    simp only [Act.put, List.setIfInBounds_toArray, List.set_cons_zero, List.set_cons_succ, List.getElem_toArray, List.getElem_cons_succ, List.getElem_cons_zero]
    refine wpAnyH_ready (rs := [10]) (by kernel_rfl) (by simp) ?_
    refine AllReadyH.cons rfl (fun K hK => ?_) AllReadyH.nil
    go_simp
    refine hK.out _ _ (blkEvent L7.out.2.1).1 (fun hH2 => ?_)
    clear hK K hH z3 fz3
    simp only [Act.put, List.setIfInBounds_toArray, List.set_cons_zero, List.set_cons_succ, List.getElem_toArray, List.getElem_cons_succ, List.getElem_cons_zero]
    refine wpAnyH_done (by kernel_rfl) ?_ _
    clear hH2
    go_wp2
    (try simp only [Exit.inBlock, Exit.then])
    go_ret
    exact ⟨X, _, rfl, HST.out, ⟨e1, m1, j1, e2, m2, j2, d4, l3 + 1, k4, _, _, HMJ.out, L7.out.2.2.1⟩, L7.out.2.2.2⟩
end Go.Proofs.Ytccnninmkfhejaa.By
