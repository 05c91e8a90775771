/-
  Several texts in one (MYw, YLa). No statement is proved here.
-/
import Derived.Test.YtccnninmkfhejaaMYvAlso
import Derived.Test.YtccnninmkfhejaaWS
import Derived.Test.YtccnninmkfhejaaYL0
namespace Go.Proofs.Ytccnninmkfhejaa.By
open Go.RowKit
set_option linter.unusedVariables false
set_option linter.unusedSimpArgs false

set_option maxRecDepth 8000 in
set_option maxHeartbeats 4000000 in
theorem mrWo (lo hi : Nat) (x : RWorld) (a1 : Option Addr) (l1 c1 : Nat) (a2 : Option Addr) (l2 c2 : Nat) (a3 : Option Addr) (l3 c3 : Nat) (k0 : Int) (w : World) (h : RdWorld (hideR w lo hi) x a1 l1 a2 l2 a3 l3) (hh : hi ≤ w.heap.size) (hs : szWorld x ≤ 1048576) (hk0 : 0 ≤ k0) (hk1 : k0 ≤ 1048576) :
    Calls Try.prog 17 #[.agg #[.int .i64 x.ticks, .slice a1 l1 c1, .slice a2 l2 c2, .slice a3 l3 c3], .int .i64 k0] w fun e u => ∃ k' : Int, e = .returned (.int .i64 k') ∧ k0 ≤ k' ∧ k' ≤ k0 + 4 * (szWorld x : Nat) ∧ Mk lo hi w u := by
  have n1 : x.draws.length = l1 := h.1.1.1
  have n2 : x.store.length = l2 := h.2.1.1
  have le2 := szEntrys_len x.store
  have hsz : szWorld x = x.draws.length + szEntrys x.store + szEvents x.trace := rfl
  have b0 := heap_alloc_new w (.cells #[.int .i64 x.ticks, .slice a1 l1 c1, .slice a2 l2 c2, .slice a3 l3 c3] 27)
  have g0 := World.grownBy_alloc w (.cells #[.int .i64 x.ticks, .slice a1 l1 c1, .slice a2 l2 c2, .slice a3 l3 c3] 27) none
  have M0 : Hid (Mk lo hi w _ ∧ _) := And.intro (Mk.grown (lo := lo) (hi := hi) g0) b0
  have SE : l2 = 0 ∨ ∃ b o, a2 = some ⟨b, o, none⟩ ∧ ∀ i, i < l2 * 2 → ∃ z, (hideR w lo hi).cell? ⟨b, o + i, none⟩ = some (.int .i64 z) := by
    rcases h.2.1.cases with ⟨h0, -⟩ | ⟨b, o, e, hin, -⟩
    · exact .inl h0
    · refine .inr ⟨b, o, e, fun i hi => ?_⟩
      have ha := hin.at (k := i / 2) (by omega)
      rcases (by omega : i = i / 2 * 2 ∨ i = i / 2 * 2 + 1) with e2 | e2
      · rw [e2]; exact ⟨_, ha.1⟩
      · rw [e2, ← Nat.add_assoc]; exact ⟨_, ha.2⟩
  have SH : Hid (ShI (hideR w lo hi) .i64 a1 l1 ∧ (l2 = 0 ∨ ∃ b o, a2 = some ⟨b, o, none⟩ ∧ ∀ i, i < l2 * 2 → ∃ z, (hideR w lo hi).cell? ⟨b, o + i, none⟩ = some (.int .i64 z)) ∧ ShLEvent (hideR w lo hi) a3 l3 x.trace) := ⟨h.1.sh, SE, h.2.2.sh⟩
  have HB : Hid (l1 + szEntrys x.store + szEvents x.trace = szWorld x ∧ l2 ≤ szEntrys x.store ∧ szWorld x ≤ 1048576 ∧ 0 ≤ k0 ∧ k0 ≤ 1048576 ∧ hi ≤ w.heap.size) := ⟨by omega, by omega, hs, hk0, hk1, hh⟩
  have C0 : Hid _ := mrI lo hi a1 l1 c1 k0 _ (SH.out.1.like M0.out.1.like) hk0 (by omega)
  have y1 := (blkWorld b0).1.2.1
  clear h b0 g0 SE n1 n2 le2 hsz hs hk0 hk1 hh
  go_enter Try.func17, Try.ntmps17
  go_wp2_with fail
  refine Calls.mono C0.out ?_
  rintro e u ⟨q1, rfl, ha1, hb1, hm⟩
  have M1 : Hid (Mk lo hi w u ∧ _) := And.intro (M0.out.1.trans hm) ((hm.block _ (lt_of_block M0.out.2) (.inr HB.out.2.2.2.2.2)).trans M0.out.2)
  have hB := HB.out
  have C1 : Hid _ := mrE lo hi a2 l2 c2 q1 u (by
    rcases SH.out.2.1 with h0 | ⟨b, o, e, hc⟩
    · exact .inl h0
    · exact .inr ⟨b, o, e, fun i hi => M1.out.1.like.int (hc i hi)⟩) (by omega) (by omega) (by omega)
  have Q1 : Hid (k0 ≤ q1 ∧ q1 ≤ k0 + 4 * (l1 : Nat)) := ⟨ha1, hb1⟩
  have y2 := (blkWorld M1.out.2).1.2.2.1
  clear C0 M0 hm y1 hB ha1 hb1
  simp only []
  go_wp2_with fail
  refine Calls.mono C1.out ?_
  rintro e z ⟨q2, rfl, ha2, hb2, hm⟩
  have M2 : Hid (Mk lo hi w z ∧ _) := And.intro (M1.out.1.trans hm) ((hm.block _ (lt_of_block M1.out.2) (.inr HB.out.2.2.2.2.2)).trans M1.out.2)
  have hB := HB.out
  have hQ := Q1.out
  have C2 : Hid _ := mrV lo hi x.trace a3 l3 c3 q2 z (SH.out.2.2.like M2.out.1.like) (by omega) (by omega) (by omega)
  have Q2 : Hid (q1 ≤ q2 ∧ q2 ≤ q1 + 4 * (l2 : Nat)) := ⟨ha2, hb2⟩
  have y3 := (blkWorld M2.out.2).1.2.2.2
  clear C1 M1 hm y2 hB hQ ha2 hb2
  simp only []
  go_wp2_with fail
  refine Calls.mono C2.out ?_
  rintro e y ⟨q3, rfl, ha3, hb3, hm⟩
  have FQ : Hid (k0 ≤ q3 ∧ q3 ≤ k0 + 4 * (szWorld x : Nat) ∧ Mk lo hi w y) := by
    have hB := HB.out
    have hQ := Q1.out
    have hR := Q2.out
    exact ⟨by omega, by omega, M2.out.1.trans hm⟩
  clear C2 M2 hm y3 ha3 hb3
  simp only []
  go_wp2
  go_ret
  exact ⟨q3, rfl, FQ.out⟩
end Go.Proofs.Ytccnninmkfhejaa.By

namespace Go.Proofs.Ytccnninmkfhejaa.By
open Go.RowKit
set_option linter.unusedVariables false
set_option linter.unusedSimpArgs false

theorem ow_len {u : World} {B : Nat} {y : RWorld} {d1 : Option Addr} {m1 : Nat} {d2 : Option Addr} {m2 k2 : Nat} {d3 : Option Addr} {m3 k3 : Nat} {vs : List Value} {hi : Nat} (h : OwW u B y d1 m1 d2 m2 k2 d3 m3 k3 vs hi) : y.draws.length = m1 ∧ y.store.length = m2 ∧ y.trace.length = m3 :=
  ⟨h.1.1, by have := h.2.1.1; rw [vE_len] at this; omega, by have := h.2.2.1.1; rw [h.2.2.2.1.len] at this; omega⟩
theorem ow_rd {u : World} {B : Nat} {y : RWorld} {d1 : Option Addr} {m1 : Nat} {d2 : Option Addr} {m2 k2 : Nat} {d3 : Option Addr} {m3 k3 : Nat} {vs : List Value} {hi : Nat} (h : OwW u B y d1 m1 d2 m2 k2 d3 m3 k3 vs hi) (h2 : m2 ≤ 4194304) (h3 : m3 ≤ 4194304) : RdWorld (hideZ u B) y d1 m1 d2 m2 d3 m3 :=
  ⟨h.1.rd, own_slE h.2.1 (by omega), own_slV h.2.2.1 h.2.2.2.1 (by omega)⟩
theorem row_same {w u : World} {B : Nat} {t : TypeId} {s n : Nat} {v : Value} {zs : List Value} (h : w.ownsRow B t s v n zs) (hb : ∀ m, B ≤ m → m < w.heap.size → u.heap[m]? = w.heap[m]?) : u.ownsRow B t s v n zs := by
  refine ⟨h.1, ?_⟩
  rcases h.2 with h0 | ⟨g, cap, cur, e, hg, hc, hr⟩
  · exact .inl h0
  · exact .inr ⟨g, cap, cur, e, hg, (hb g hg (lt_of_block hc)).trans hc, hr⟩
theorem evo_same {w u : World} {B : Nat} (hb : ∀ m, B ≤ m → m < w.heap.size → u.heap[m]? = w.heap[m]?) {hi : Nat} : ∀ {xs : List REvent} {vs : List Value} {lo : Nat}, B ≤ lo → EvO w hi xs vs lo → EvO u hi xs vs lo
  | [], _, _, _, h => h
  | x :: r, vs, lo, hB, ⟨a, l, c, mid, vs', e, ⟨ho, hby, hl⟩, hm, hlm, hr⟩ => ⟨a, l, c, mid, vs', e, ⟨row_same ho (fun m h1 h2 => hb m (Nat.le_trans hB h1) h2), hby, hl⟩, hm, hlm, evo_same hb (Nat.le_trans hB hlm) hr⟩
theorem ow_same {w u : World} {B : Nat} {y : RWorld} {d1 : Option Addr} {m1 : Nat} {d2 : Option Addr} {m2 k2 : Nat} {d3 : Option Addr} {m3 k3 : Nat} {vs : List Value} {hi : Nat} (h : OwW w B y d1 m1 d2 m2 k2 d3 m3 k3 vs hi) (hb : ∀ m, B ≤ m → m < w.heap.size → u.heap[m]? = w.heap[m]?) (hs : w.heap.size ≤ u.heap.size) : OwW u B y d1 m1 d2 m2 k2 d3 m3 k3 vs hi := by
  obtain ⟨⟨a1, a2, a3⟩, h2, h3, h4, h5⟩ := h
  refine ⟨⟨a1, a2, ?_⟩, row_same h2 hb, row_same h3 hb, evo_same hb (Nat.le_refl _) h4, Nat.le_trans h5 hs⟩
  rcases a3 with h0 | ⟨g, o, cur, e, hg, hc, hr⟩
  · exact .inl h0
  · exact .inr ⟨g, o, cur, e, hg, (hb g hg (lt_of_block hc)).trans hc, hr⟩
theorem hir_same {w u : World} {lo hi : Nat} (hb : ∀ m, lo ≤ m → m < hi → m < w.heap.size → u.heap[m]? = w.heap[m]?) : CLe (hideR w lo hi) (hideR u lo hi) := fun p v hv => by
  obtain ⟨h1, h2, cur, t, h3⟩ := hideR_inv hv
  have e := hb p.block h1.1 h1.2 (lt_of_block h3)
  rw [cell_any (w := w) ((hideR_heap (w := u) h1.1 h1.2 (e.trans h3)).trans h3.symm)]
  exact h2
theorem below_fresh {a w u : World} {B : Nat} (h : a.grownBy w none) (k : Below B w u) (hb : a.heap.size ≤ B) : a.grownBy u none :=
  ⟨k.os.trans h.os, k.tape.trans h.tape, k.output.trans h.output, Nat.le_trans h.size k.size, fun i hi _ => (k.block i (by omega)).trans (h.block i hi (by simp))⟩

theorem eqB3 (a a' : Option Addr) (n c c' : Nat) (zs : List Int) (w : World) (h : Reads w a n zs) (h' : Reads w a' n zs) (hn : n ≤ 4194304) :
    Calls Try.prog 16 #[.slice a n c, .slice a' n c'] w fun e u => e = .returned (.bool true) ∧ w.grownBy u none :=
  (eqT a a' n c c' zs w h h' hn).mono fun e u ⟨he, hq⟩ => ⟨he, quiet hq⟩
theorem specF (x y : RWorld) (kind A C R : Int) (b : Bool) (lit : List Int) (hF : forV x kind A C lit = (y, R, b)) (m1 m2 m3 : Nat) (e1 : y.draws.length = m1) (e2 : y.store.length = m2) (e3 : y.trace.length = m3) (a1 : Option Addr) (l1 c1 : Nat) (a2 : Option Addr) (l2 c2 : Nat) (a3 : Option Addr) (l3 c3 : Nat) (a : Option Addr) (l c : Nat) (w : World) (h : RdWorld w x a1 l1 a2 l2 a3 l3) (hl : RdB w a l lit) (hs : szWorld x ≤ 1048576) :
    Calls Try.prog 12 #[.agg #[.int .i64 x.ticks, .slice a1 l1 c1, .slice a2 l2 c2, .slice a3 l3 c3], .int .i64 kind, .int .i64 A, .int .i64 C, .slice a l c] w fun e u => ∃ d1 k1 d2 k2 d3 k3 vs hi, e = .returned (.tuple #[.agg #[.int .i64 y.ticks, .slice d1 m1 k1, .slice d2 m2 k2, .slice d3 m3 k3], .int .i64 R, .bool b]) ∧ OwW u w.heap.size y d1 m1 d2 m2 k2 d3 m3 k3 vs hi ∧ w.grownBy u none := by
  refine (specForeignT x kind A C lit a1 l1 c1 a2 l2 c2 a3 l3 c3 a l c w h hl hs).mono ?_
  rw [hF]
  rintro e u ⟨d1, n1, k1, d2, n2, k2, d3, n3, k3, vs, hi, rfl, ho, hg⟩
  obtain ⟨q1, q2, q3⟩ := ow_len ho
  simp only at q1 q2 q3 ho
  subst e1 e2 e3 q1 q2 q3
  exact ⟨d1, k1, d2, k2, d3, k3, vs, hi, rfl, ho, hg⟩
theorem implF (x y : RWorld) (kind A C R : Int) (b : Bool) (lit : List Int) (hF : forV x kind A C lit = (y, R, b)) (m1 m2 m3 : Nat) (e1 : y.draws.length = m1) (e2 : y.store.length = m2) (e3 : y.trace.length = m3) (a1 : Option Addr) (l1 c1 : Nat) (a2 : Option Addr) (l2 c2 : Nat) (a3 : Option Addr) (l3 c3 : Nat) (a : Option Addr) (l c : Nat) (w : World) (h : RdWorld w x a1 l1 a2 l2 a3 l3) (hl : RdB w a l lit) (hk : I64x kind) (hs : szWorld x ≤ 1048576) :
    Calls Try.prog 6 #[.agg #[.int .i64 x.ticks, .slice a1 l1 c1, .slice a2 l2 c2, .slice a3 l3 c3], .int .i64 kind, .int .i64 A, .int .i64 C, .slice a l c] w fun e u => ∃ d1 k1 d2 k2 d3 k3 vs hi, e = .returned (.tuple #[.agg #[.int .i64 y.ticks, .slice d1 m1 k1, .slice d2 m2 k2, .slice d3 m3 k3], .int .i64 R, .bool b]) ∧ OwW u w.heap.size y d1 m1 d2 m2 k2 d3 m3 k3 vs hi ∧ w.grownBy u none := by
  refine (implForeignT x kind A C lit a1 l1 c1 a2 l2 c2 a3 l3 c3 a l c w h hl hk hs).mono ?_
  rw [hF]
  rintro e u ⟨d1, n1, k1, d2, n2, k2, d3, n3, k3, vs, hi, rfl, ho, hg⟩
  obtain ⟨q1, q2, q3⟩ := ow_len ho
  simp only at q1 q2 q3 ho
  subst e1 e2 e3 q1 q2 q3
  exact ⟨d1, k1, d2, k2, d3, k3, vs, hi, rfl, ho, hg⟩
end Go.Proofs.Ytccnninmkfhejaa.By
