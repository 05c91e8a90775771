/-
  Several texts in one (YMx, YL0). No statement is proved here.
-/
import Derived.Test.YtccnninmkfhejaaYMw
import Derived.Test.YtccnninmkfhejaaYSf
namespace Go.Proofs.Ytccnninmkfhejaa.By
open Go.RowKit
set_option linter.unusedVariables false
set_option linter.unusedSimpArgs false

/-- Blocks of all types but two stand. -/
def Fx (t1 t2 : TypeId) (w u : World) : Prop := ∀ (m : Nat) (cur : Array Value) (t : TypeId), w.heap[m]? = some (Obj.cells cur t (0, 0)) → t ≠ t1 → t ≠ t2 → u.heap[m]? = some (Obj.cells cur t (0, 0))
theorem Fx.grown {t1 : TypeId} {w u : World} {row : Option Nat} (hg : w.grownBy u row) (hr : ∀ g, row = some g → ∃ cur, w.heap[g]? = some (.cells cur t1 (0, 0))) : Fx t1 t1 w u := fun m cur t hm h1 h2 => (hg.block m (lt_of_block hm) (fun e => by
  obtain ⟨c', h3⟩ := hr m e.symm
  rw [hm] at h3
  cases h3
  exact h1 rfl)).trans hm
theorem Fx.row {t1 t2 : TypeId} {w u : World} (f : Fx t1 t2 w u) {B : Nat} {t : TypeId} {s n : Nat} {v : Value} {zs : List Value} (h : w.ownsRow B t s v n zs) (h1 : t ≠ t1) (h2 : t ≠ t2) : u.ownsRow B t s v n zs := by
  refine ⟨h.1, ?_⟩
  rcases h.2 with h0 | ⟨g, cap, cur, e, hb, hg, hr⟩
  · exact .inl h0
  · exact .inr ⟨g, cap, cur, e, hb, f g cur t hg h1 h2, hr⟩
theorem Fx.oi {t1 t2 : TypeId} {w u : World} (f : Fx t1 t2 w u) {B : Nat} {a : Option Addr} {l : Nat} {zs : List Int} (h : OwI0 w B a l zs) (h1 : (3 : TypeId) ≠ t1) (h2 : (3 : TypeId) ≠ t2) : OwI0 u B a l zs := by
  obtain ⟨a1, a2, a3⟩ := h
  refine ⟨a1, a2, ?_⟩
  rcases a3 with h0 | ⟨g, o, cur, e, hb, hg, hr⟩
  · exact .inl h0
  · exact .inr ⟨g, o, cur, e, hb, f g cur 3 hg h1 h2, hr⟩
theorem Fx.evo {t1 t2 : TypeId} {w u : World} (f : Fx t1 t2 w u) (h1 : (5 : TypeId) ≠ t1) (h2 : (5 : TypeId) ≠ t2) {hi : Nat} : ∀ {xs : List REvent} {vs : List Value} {lo : Nat}, EvO w hi xs vs lo → EvO u hi xs vs lo
  | [], _, _, h => h
  | x :: r, vs, lo, ⟨a, l, c, mid, vs', e, ⟨ho, hb, hl⟩, hm, hlm, hr⟩ => ⟨a, l, c, mid, vs', e, ⟨f.row ho h1 h2, hb, hl⟩, hm, hlm, Fx.evo f h1 h2 hr⟩
theorem evo_lo {u : World} {hi : Nat} : ∀ {xs : List REvent} {vs : List Value} {lo : Nat}, EvO u hi xs vs lo → lo ≤ hi
  | [], _, _, h => h.2
  | y :: r, _, _, ⟨_, _, _, _, _, _, _, _, h1, h2⟩ => Nat.le_trans h1 (evo_lo h2)

set_option maxHeartbeats 2000000 in
theorem markI0 (a : Option Addr) (c : Nat) (k0 : Int) (w : World) :
    Calls Try.prog 44 #[.slice a 0 c, .int .i64 k0] w fun e u => e = .returned (.int .i64 k0) ∧ w.grownBy u none := by
  go_enter Try.func44, Try.ntmps44
  go_wp2
  go_loop [1, 5] (fun v i => i = .int .i64 0 ∧ v = .int .i64 k0) (fun _ i => 1)
  case atStart => exact ⟨rfl, rfl⟩
  case round =>
    obtain ⟨rfl, rfl⟩ := hrel
    go_wp2
    go_ret
    first | exact ⟨rfl, World.grownBy.refl _ _⟩ | exact World.grownBy.refl _ _
theorem markI3 (a : Option Addr) (n c B : Nat) (zs : List Int) (k0 : Int) (w : World) (h : OwI0 w B a n zs) (hn : n ≤ 4194304) (hk0 : 0 ≤ k0) (hk1 : k0 ≤ 16777216) :
    Calls Try.prog 44 #[.slice a n c, .int .i64 k0] w fun e u => e = .returned (.int .i64 (k0 + n)) ∧ OwI0 u B a n (mkI k0 n) ∧ ∃ row, w.grownBy u row ∧ ∀ g, row = some g → B ≤ g ∧ ∃ cur, w.heap[g]? = some (.cells cur 3 (0, 0)) := by
  by_cases h0 : n = 0
  · subst h0
    refine (markI0 a c k0 w).mono ?_
    rintro e u ⟨rfl, hg⟩
    exact ⟨by simp, ⟨rfl, by omega, .inl rfl⟩, none, hg, fun g e => by cases e⟩
  · refine (markIs a n c B zs k0 w h hn hk0 hk1).mono ?_
    rintro e u ⟨rfl, h1, h2⟩
    refine ⟨rfl, h1, _, h2, fun g e => ?_⟩
    rcases h.2.2 with h3 | ⟨g', o, cur, e1, hb, hc, -⟩
    · exact absurd h3 h0
    · subst e1
      have : g' = g := by simpa [tgA] using e
      subst this
      exact ⟨hb, cur, hc⟩

def markX (k : Int) (x : RWorld) : RWorld := ⟨x.ticks, mkI k x.draws.length, mkE (k + x.draws.length) x.store.length, mkV (k + x.draws.length + 2 * x.store.length) x.trace⟩
def markN (x : RWorld) : Nat := x.draws.length + 2 * x.store.length + evn x.trace

/-- Blocks that hold a world stand. -/
def Wst (w u : World) : Prop := ∀ (m : Nat) (cur : Array Value), w.heap[m]? = some (Obj.cells cur 27 (0, 0)) → u.heap[m]? = some (Obj.cells cur 27 (0, 0))
theorem Wst.grown {w u : World} (hg : w.grownBy u none) : Wst w u := fun m cur hm => (hg.block m (lt_of_block hm) (by simp)).trans hm
theorem Wst.fx {w u z : World} {t1 t2 : TypeId} (h : Wst w u) (f : Fx t1 t2 u z) (h1 : 27 ≠ t1) (h2 : 27 ≠ t2) : Wst w z := fun m cur hm => f m cur 27 (h m cur hm) h1 h2

set_option maxRecDepth 8000 in
set_option maxHeartbeats 8000000 in
theorem markWo (x : RWorld) (B : Nat) (d1 : Option Addr) (l1 k1 : Nat) (d2 : Option Addr) (l2 k2 : Nat) (d3 : Option Addr) (l3 k3 : Nat) (vs : List Value) (hi : Nat) (k0 : Int) (w : World) (h : OwW w B x d1 l1 d2 l2 k2 d3 l3 k3 vs hi) (hB : B ≤ w.heap.size) (hn : markN x ≤ 4194304) (hk0 : 0 ≤ k0) (hk1 : k0 ≤ 1048576) :
    Calls Try.prog 17 #[.agg #[.int .i64 x.ticks, .slice d1 l1 k1, .slice d2 l2 k2, .slice d3 l3 k3], .int .i64 k0] w fun e u => e = .returned (.int .i64 (k0 + markN x)) ∧ (∃ us, OwW u B (markX k0 x) d1 l1 d2 l2 k2 d3 l3 k3 us hi) ∧ Below B w u ∧ Wst w u := by
  have n1 : x.draws.length = l1 := h.1.1
  have n2 : x.store.length = l2 := by have := h.2.1.1; rw [vE_len] at this; omega
  have hm : markN x = l1 + 2 * l2 + evn x.trace := by unfold markN; omega
  have hge := evn_ge x.trace
  have bw := heap_alloc_new w (.cells #[.int .i64 x.ticks, .slice d1 l1 k1, .slice d2 l2 k2, .slice d3 l3 k3] 27)
  have gw := World.grownBy_alloc w (.cells #[.int .i64 x.ticks, .slice d1 l1 k1, .slice d2 l2 k2, .slice d3 l3 k3] 27) none
  have O1 : Hid _ := ow_none h gw
  have CI : Hid _ := markI3 d1 l1 k1 B x.draws k0 _ O1.out.1 (by omega) hk0 (by omega)
  have L1 : Hid _ := And.intro bw ((Below.refl B w).grown gw hB (fun k e => by cases e))
  have W1 : Hid (Wst w _) := Wst.grown gw
  have BS : Hid (B ≤ (w.alloc (.cells #[.int .i64 x.ticks, .slice d1 l1 k1, .slice d2 l2 k2, .slice d3 l3 k3] 27)).heap.size) := Nat.le_trans hB gw.size
  have c1 := (blkWorld bw).1.2.1
  clear h bw gw
  go_enter Try.func17, Try.ntmps17
  go_wp2_with fail
  refine Calls.mono CI.out ?_
  rintro e u ⟨rfl, oi, row, hg, hrow⟩
  have f1 := Fx.grown hg (fun g e => (hrow g e).2)
  have hV : ∀ j, j < l2 * 2 → ∃ z, (vE x.store)[j]? = some (.int .i64 z) := fun j hj => by
    have : ∀ (xs : List REntry) (j : Nat), j < xs.length * 2 → ∃ z, (vE xs)[j]? = some (.int .i64 z) := fun xs => by
      induction xs with
      | nil => intro j hj; simp at hj
      | cons y r ih =>
        intro j hj
        match j, hj with
        | 0, _ => exact ⟨_, rfl⟩
        | 1, _ => exact ⟨_, rfl⟩
        | j + 2, hj => simpa [vE] using ih j (by simp at hj; omega)
    exact this _ _ (by omega)
  have OE : Hid _ := f1.row O1.out.2.1 (show 66 ≠ 3 by decide) (show 66 ≠ 3 by decide)
  have CE : Hid _ := markEs d2 l2 k2 B (vE x.store) (k0 + l1) u (f1.row O1.out.2.1 (by decide) (by decide)) hV (by omega) (by omega) (by omega)
  have b2 := f1 _ _ _ L1.out.1 (by decide) (by decide)
  have W2 : Hid (Wst w u) := Wst.fx W1.out f1 (by decide) (by decide)
  have L2 : Hid _ := And.intro b2 (And.intro oi (And.intro (f1.row O1.out.2.2.1 (by decide) (by decide)) (And.intro (f1.evo (by decide) (by decide) O1.out.2.2.2.1) (And.intro (Nat.le_trans O1.out.2.2.2.2 hg.size) (And.intro (L1.out.2.grown hg BS.out (fun g e => (hrow g e).1)) (Nat.le_trans BS.out hg.size))))))
  have c2 := (blkWorld b2).1.2.2.1
  clear c1 oi hg hrow f1 hV CI b2 O1 L1 BS
  simp only []
  go_wp2_with fail
  refine Calls.mono CE.out ?_
  rintro e z ⟨rfl, oe, hg⟩
  obtain ⟨b2, oi, ot, ev, hh, bl, hs⟩ := L2.out
  have f2 := Fx.grown hg (fun g e => (row_blk OE.out g e).2)
  have b3 := f2 _ _ _ b2 (by decide) (by decide)
  have W3 : Hid (Wst w z) := Wst.fx W2.out f2 (by decide) (by decide)
  have CV : Hid _ := markVs x.trace d3 l3 k3 B B hi vs (k0 + l1 + 2 * l2) z (f2.row ot (by decide) (by decide)) (f2.evo (by decide) (by decide) ev) (Nat.le_refl _) (Nat.le_trans hs hg.size) (by omega) (by omega) (by omega)
  have L3 : Hid _ := And.intro (f2.oi oi (by decide) (by decide)) (And.intro oe (And.intro (Nat.le_trans hh hg.size) (bl.grown hg hs (fun g e => (row_blk OE.out g e).1))))
  have c3 := (blkWorld b3).1.2.2.2
  clear c2 oi oe ot ev hh bl hs f2 b2 b3 hg CE L2 OE
  simp only []
  go_wp2_with fail
  refine Calls.mono CV.out ?_
  rintro e y ⟨rfl, ⟨us, ov, ev⟩, bl, fr⟩
  have F : Fx 36 5 z y := fr
  have FQ : Hid ((∃ us, OwW y B (markX k0 x) d1 l1 d2 l2 k2 d3 l3 k3 us hi) ∧ Below B w y ∧ Wst w y) := by
    obtain ⟨oi, oe, hh, bl0⟩ := L3.out
    refine ⟨⟨us, ?_, ?_, ov, ?_, Nat.le_trans hh bl.size⟩, bl0.trans bl, Wst.fx W3.out F (by decide) (by decide)⟩
    · have := F.oi oi (by decide) (by decide)
      simp only [markX, n1]; exact this
    · have := F.row oe (show 66 ≠ 36 by decide) (show 66 ≠ 5 by decide)
      simp only [markX, n1, n2]; exact this
    · simp only [markX, n1, n2]; exact ev
  have HE : Hid (k0 + l1 + 2 * l2 + (evn x.trace : Nat) = k0 + (markN x : Nat)) := by show _ = _; omega
  clear ov ev bl fr F CV L3 c3
  simp only []
  go_wp2
  go_ret
  exact ⟨by rw [← HE.out]; rfl, FQ.out.1, FQ.out.2.1, FQ.out.2.2⟩

theorem markX_len (k : Int) (x : RWorld) : markN (markX k x) = markN x := by
  have : ∀ (k : Int) (Q : List REvent), evn (mkV k Q) = evn Q := fun k Q => by
    induction Q generalizing k with
    | nil => rfl
    | cons y r ih => simp only [mkV, evn, mk1, mkB_len, ih]
  simp only [markN, markX, mkI_len, mkE_len, this]

set_option maxRecDepth 8000 in
set_option maxHeartbeats 8000000 in
theorem heldWo (x : RWorld) (t : Int) (d1 : Option Addr) (l1 k1 : Nat) (d2 : Option Addr) (l2 k2 : Nat) (d3 : Option Addr) (l3 k3 : Nat) (k0 : Int) (w : World) (h : RdWorld w (markX k0 x) d1 l1 d2 l2 d3 l3) (hn : markN x ≤ 4194304) (hlit : ∀ y ∈ x.trace, y.lit.length ≤ 1048576) (hk0 : 0 ≤ k0) (hk1 : k0 ≤ 1048576) :
    Calls Try.prog 19 #[.agg #[.int .i64 t, .slice d1 l1 k1, .slice d2 l2 k2, .slice d3 l3 k3], .int .i64 k0] w fun e u => e = .returned (.int .i64 (k0 + markN x)) ∧ w.grownBy u none := by
  obtain ⟨h1, h2, h3⟩ := h
  have n1 : x.draws.length = l1 := by have := h1.1.1; simp only [markX, mkI_len] at this; exact this
  have n2 : x.store.length = l2 := by have := h2.1; simp only [markX, mkE_len] at this; exact this
  have hm : markN x = l1 + 2 * l2 + evn x.trace := by unfold markN; omega
  simp only [markX, n1] at h1 h2 h3
  rw [n2] at h2 h3
  have bw := heap_alloc_new w (.cells #[.int .i64 t, .slice d1 l1 k1, .slice d2 l2 k2, .slice d3 l3 k3] 27)
  have gw := World.grownBy_alloc w (.cells #[.int .i64 t, .slice d1 l1 k1, .slice d2 l2 k2, .slice d3 l3 k3] 27) none
  have HR : Hid (SlEntry w d2 l2 (mkE (k0 + l1) l2) ∧ SlEvent w d3 l3 (mkV (k0 + l1 + 2 * l2) x.trace) ∧ ∀ y ∈ x.trace, y.lit.length ≤ 1048576) := ⟨h2, h3, hlit⟩
  have CI : Hid _ := heldIs d1 l1 k1 k0 _ (h1.none gw) (by omega) hk0 (by omega)
  have L1 : Hid _ := And.intro bw gw
  have c1 := (blkWorld bw).1.2.1
  have p1 : ¬ (k0 + (l1 : Int) < 0) := by omega
  have p2 : ¬ (k0 + (l1 : Int) + 2 * (l2 : Int) < 0) := by omega
  have p3 : ¬ (k0 + (l1 : Int) + 2 * (l2 : Int) + (evn x.trace : Nat) < 0) := by omega
  clear h1 h2 h3 hlit bw gw
  go_enter Try.func19, Try.ntmps19
  go_wp2_with fail
  refine Calls.mono CI.out ?_
  rintro e u ⟨rfl, hg⟩
  have gu := grown_trans L1.out.2 hg
  have b2 := (hg.block _ (lt_of_block L1.out.1) (by simp)).trans L1.out.1
  have CE : Hid _ := heldEs d2 l2 k2 (k0 + l1) u (HR.out.1.none gu) (by omega) (by omega) (by omega)
  have c2 := (blkWorld b2).1.2.2.1
  have L2 : Hid _ := And.intro b2 gu
  clear hg gu b2 c1 CI L1
  simp only []
  go_wp2_with fail
  refine Calls.mono CE.out ?_
  rintro e z ⟨rfl, rfl⟩
  have CV : Hid _ := heldVs x.trace d3 l3 k3 (k0 + l1 + 2 * l2) z (HR.out.2.1.none L2.out.2) (by omega) HR.out.2.2 (by omega) (by omega)
  have c3 := (blkWorld L2.out.1).1.2.2.2
  clear c2 CE
  simp only []
  go_wp2_with fail
  refine Calls.mono CV.out ?_
  rintro e y ⟨rfl, hg⟩
  have G : Hid (w.grownBy y none) := grown_trans L2.out.2 hg
  have HE : Hid (k0 + l1 + 2 * l2 + (evn x.trace : Nat) = k0 + (markN x : Nat)) := by show _ = _; omega
  clear hg CV c3 L2
  simp only []
  go_wp2
  go_ret
  exact ⟨by rw [← HE.out]; rfl, G.out⟩
end Go.Proofs.Ytccnninmkfhejaa.By

namespace Go.Proofs.Ytccnninmkfhejaa.By
open Go.RowKit
set_option linter.unusedVariables false
set_option linter.unusedSimpArgs false

theorem szEvents_app : ∀ (P R : List REvent), szEvents (P ++ R) = szEvents P + szEvents R
  | [], R => by simp [szEvents]
  | x :: r, R => by simp only [List.cons_append, szEvents, szEvents_app r R]; omega
theorem evn_le : ∀ (xs : List REvent), evn xs ≤ szEvents xs + 3 * xs.length
  | [] => by simp [evn]
  | x :: r => by have := evn_le r; simp only [evn, szEvents, szEvent, List.length_cons]; omega
theorem lit_le : ∀ {xs : List REvent}, ∀ y ∈ xs, y.lit.length ≤ szEvents xs
  | [], y, hy => by simp at hy
  | x :: r, y, hy => by
    simp only [szEvents, szEvent]
    rcases List.mem_cons.1 hy with rfl | hy
    · omega
    · have := lit_le y hy; omega
theorem callV_ev (x : RWorld) (kind A C : Int) (lit : List Int) : (callV x kind A C lit).2.lit.length ≤ lit.length ∧ (callV x kind A C lit).1.trace = x.trace := by
  unfold callV
  split
  · exact ⟨Nat.le_refl _, rfl⟩
  split
  · exact ⟨Nat.zero_le _, rfl⟩
  split
  · refine ⟨Nat.zero_le _, ?_⟩
    unfold drawV
    split
    · rfl
    · split <;> rfl
  split
  · exact ⟨Nat.zero_le _, rfl⟩
  · exact ⟨Nat.zero_le _, rfl⟩
/-- The world behind a call: not much greater than the one ahead of it. -/
theorem forV_sz (x : RWorld) (kind A C : Int) (lit : List Int) (hs : szWorld x ≤ 1048576) : szWorld (forV x kind A C lit).1 ≤ 1048700 ∧ markN (forV x kind A C lit).1 ≤ 4194304 ∧ ∀ y ∈ (forV x kind A C lit).1.trace, y.lit.length ≤ 1048576 := by
  unfold forV
  split
  · rename_i h
    simp only [forOk, takV, Bool.and_eq_true, decide_eq_true_eq] at h
    obtain ⟨-, ⟨⟨⟨h1, -⟩, -⟩, h2⟩, h3⟩ := h
    have hf := wok_facts h1
    have cl := callV_len x kind A C lit
    have ce := callV_ev x kind A C lit
    have el := evn_le x.trace
    unfold szWorld at hs
    rw [szEntrys_eq] at hs
    have e1 : szEvents (x.trace ++ [(callV x kind A C lit).2]) ≤ szEvents x.trace + 65 := by rw [szEvents_app]; simp only [szEvents, szEvent]; omega
    have e2 : evn (x.trace ++ [(callV x kind A C lit).2]) ≤ evn x.trace + 68 := by rw [evn_app]; simp only [evn]; omega
    refine ⟨?_, ?_, ?_⟩
    · show (callV x kind A C lit).1.draws.length + szEntrys (callV x kind A C lit).1.store + szEvents ((callV x kind A C lit).1.trace ++ [(callV x kind A C lit).2]) ≤ _
      rw [szEntrys_eq, ce.2]; omega
    · show (callV x kind A C lit).1.draws.length + 2 * (callV x kind A C lit).1.store.length + evn ((callV x kind A C lit).1.trace ++ [(callV x kind A C lit).2]) ≤ _
      rw [ce.2]; omega
    · show ∀ y ∈ (callV x kind A C lit).1.trace ++ [(callV x kind A C lit).2], _
      rw [ce.2]
      intro y hy
      rcases List.mem_append.1 hy with hy | hy
      · have := lit_le y hy; omega
      · simp only [List.mem_cons, List.not_mem_nil, or_false] at hy; subst hy; omega
  · exact ⟨by simp [szWorld, szEntrys, szEvents], by simp [markN, evn], fun y hy => by simp at hy⟩
end Go.Proofs.Ytccnninmkfhejaa.By
