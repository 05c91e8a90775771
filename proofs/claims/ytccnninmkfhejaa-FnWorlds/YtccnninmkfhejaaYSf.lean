/-
  spec.Foreign by its contract. No statement is proved here.
-/
import Derived.Test.YtccnninmkfhejaaYLc
import Derived.Test.YtccnninmkfhejaaWV
namespace Go.Proofs.Ytccnninmkfhejaa.By
open Go.RowKit
set_option linter.unusedVariables false
set_option linter.unusedSimpArgs false

theorem putV_len (xs : List REntry) (A C : Int) : (putV xs A C).length ≤ xs.length + 1 := by
  have h := fndK_le xs A
  unfold putV putK
  split
  · simp; omega
  · split
    · simp; omega
    · omega
theorem callV_len (x : RWorld) (kind A C : Int) (lit : List Int) : (callV x kind A C lit).1.draws.length ≤ x.draws.length ∧ (callV x kind A C lit).1.store.length ≤ x.store.length + 1 := by
  unfold callV
  split
  · exact ⟨Nat.le_refl _, Nat.le_succ _⟩
  split
  · exact ⟨Nat.le_refl _, Nat.le_succ _⟩
  split
  · unfold drawV
    split
    · exact ⟨Nat.le_refl _, Nat.le_succ _⟩
    · rename_i hx
      split
      · rw [hx]; exact ⟨Nat.le_succ _, Nat.le_succ _⟩
      · exact ⟨Nat.le_refl _, Nat.le_succ _⟩
  split
  · exact ⟨Nat.le_refl _, Nat.le_succ _⟩
  · exact ⟨Nat.le_refl _, putV_len _ _ _⟩
theorem evo_lit {u : World} {hi : Nat} : ∀ {xs : List REvent} {vs : List Value} {lo : Nat}, EvO u hi xs vs lo → ∀ y ∈ xs, y.lit.length ≤ 1048576
  | [], _, _, _, y, hy => by simp at hy
  | x :: r, vs, lo, ⟨a, l, c, mid, vs', e, ⟨ho, hb, hl⟩, hm, hlm, hr⟩, y, hy => by
    rcases List.mem_cons.1 hy with rfl | hy
    · have := ho.1; rw [vB_len] at this; omega
    · exact evo_lit hr y hy
theorem inEvent_lit {w wp : World} : ∀ {xs : List REvent} {b o : Nat}, szEvents xs ≤ 1048576 → ∀ y ∈ xs, y.lit.length ≤ 1048576
  | [], _, _, _, y, hy => by simp at hy
  | x :: r, b, o, h, y, hy => by
    simp only [szEvents, szEvent] at h
    rcases List.mem_cons.1 hy with rfl | hy
    · omega
    · exact inEvent_lit (w := w) (wp := wp) (b := b) (o := o) (by omega) y hy

set_option maxRecDepth 8000 in
set_option maxHeartbeats 8000000 in
theorem specForeignT (x : RWorld) (kind A C : Int) (lit : List Int) (a1 : Option Addr) (l1 c1 : Nat) (a2 : Option Addr) (l2 c2 : Nat) (a3 : Option Addr) (l3 c3 : Nat) (a : Option Addr) (l c : Nat) (w : World) (h : RdWorld w x a1 l1 a2 l2 a3 l3) (hl : RdB w a l lit) (hs : szWorld x ≤ 1048576) :
    Calls Try.prog 12 #[.agg #[.int .i64 x.ticks, .slice a1 l1 c1, .slice a2 l2 c2, .slice a3 l3 c3], .int .i64 kind, .int .i64 A, .int .i64 C, .slice a l c] w fun e u => ∃ d1 m1 k1 d2 m2 k2 d3 m3 k3 vs hi, e = .returned (.tuple #[.agg #[.int .i64 (forV x kind A C lit).1.ticks, .slice d1 m1 k1, .slice d2 m2 k2, .slice d3 m3 k3], .int .i64 (forV x kind A C lit).2.1, .bool (forV x kind A C lit).2.2]) ∧ OwW u w.heap.size (forV x kind A C lit).1 d1 m1 d2 m2 k2 d3 m3 k3 vs hi ∧ w.grownBy u none := by
  obtain ⟨r0, r1, rsz⟩ := alloc2_blocks w (.cells #[.int .i64 x.ticks, .slice a1 l1 c1, .slice a2 l2 c2, .slice a3 l3 c3] 27) (.cells #[.int .i64 0, .slice none 0 0, .slice none 0 0, .slice none 0 0] 27)
  have g0 := grown_alloc (grown_alloc (World.grownBy.refl w none) (.cells #[.int .i64 x.ticks, .slice a1 l1 c1, .slice a2 l2 c2, .slice a3 l3 c3] 27)) (.cells #[.int .i64 0, .slice none 0 0, .slice none 0 0, .slice none 0 0] 27)
  have HR : Hid (RdWorld w x a1 l1 a2 l2 a3 l3 ∧ RdB w a l lit ∧ szWorld x ≤ 1048576) := ⟨h, hl, hs⟩
  have hnl := hl.2.2
  have hll := hl.1.1
  have e3 := h.2.2.1
  have b3 := h.2.2.2.1
  have L0 : Hid _ := And.intro g0 (And.intro r0 r1)
  have q := (blkWorld r0).1
  obtain ⟨q0, q1, q2, q3⟩ := q
  have CW : Hid _ := specWorldOkT x a1 l1 c1 a2 l2 c2 a3 l3 c3 _ (h.none g0)
  clear h hl hs g0 r0 r1 rsz
  go_enter Try.func12, Try.ntmps12
  go_upto_region 1 with fail
  generalize (w.alloc (.cells #[.int .i64 x.ticks, .slice a1 l1 c1, .slice a2 l2 c2, .slice a3 l3 c3] 27)).alloc (.cells #[.int .i64 0, .slice none 0 0, .slice none 0 0, .slice none 0 0] 27) = W0 at *
  have EO : Hid (forOk x kind A C lit = (decide (0 ≤ kind ∧ kind ≤ 4) && (wokV x && isW A && isW C && decide (l ≤ 64) && decide (l3 < 20000)))) := by show _ = _; rw [← e3, ← hll]; rfl
  go_cut [48] (fun s wx => s = .bool (!(forOk x kind A C lit)) ∧ Hid (W0.grownBy wx none))
  case first =>
    go_wp2_with fail
    refine Calls.mono CW.out ?_
    rintro e v ⟨rfl, hg⟩
    have G : Hid (W0.grownBy v none) := hg
    have q3v := hg.cell q3 (by simp)
    clear hg CW q0 q1 q2 q3
    simp only []
    cases hw : wokV x with
    | false =>
      have E2 : Hid (forOk x kind A C lit = false) := by show _ = _; rw [EO.out]; simp [hw]
      go_wp2
      go_meet
      case rel => exact ⟨by rw [E2.out]; first | rfl | simp [hw], G.out⟩
    | true =>
    by_cases hk0 : kind < 0
    · have hk0' : ¬ (0 ≤ kind ∧ kind ≤ 4) := by omega
      have E2 : Hid (forOk x kind A C lit = false) := by show _ = _; rw [EO.out]; simp [hk0']
      go_wp2
      go_meet
      case rel => exact ⟨by rw [E2.out]; first | rfl | simp [hk0'], G.out⟩
    by_cases hk4 : 4 < kind
    · have hk0' : ¬ (0 ≤ kind ∧ kind ≤ 4) := by omega
      have E2 : Hid (forOk x kind A C lit = false) := by show _ = _; rw [EO.out]; simp [hk0']
      go_wp2
      go_meet
      case rel => exact ⟨by rw [E2.out]; first | rfl | simp [hk0'], G.out⟩
    have hkk : 0 ≤ kind ∧ kind ≤ 4 := by omega
    go_wp2_with fail
    refine Calls.mono (specWrapT A v) ?_
    rintro e v' ⟨rfl, rfl⟩
    simp only []
    by_cases hA : wd A = A
    rotate_left
    · have hA' : isW A = false := by simp [isW, hA]
      have nA : (A != wd A) = true := by simp; omega
      have nA2 : (A == wd A) = false := by simp; omega
      have E2 : Hid (forOk x kind A C lit = false) := by show _ = _; rw [EO.out]; simp [hA']
      go_wp2
      go_meet
      case rel => exact ⟨by rw [E2.out]; first | rfl | simp [hA'], G.out⟩
    have hA' : isW A = true := by simp [isW, hA]
    rw [hA]
    go_wp2_with fail
    refine Calls.mono (specWrapT C v') ?_
    rintro e v ⟨rfl, rfl⟩
    simp only []
    by_cases hC : wd C = C
    rotate_left
    · have hC' : isW C = false := by simp [isW, hC]
      have nC : (C != wd C) = true := by simp; omega
      have nC2 : (C == wd C) = false := by simp; omega
      have E2 : Hid (forOk x kind A C lit = false) := by show _ = _; rw [EO.out]; simp [hC']
      go_wp2
      go_meet
      case rel => exact ⟨by rw [E2.out]; first | rfl | simp [hC'], G.out⟩
    have hC' : isW C = true := by simp [isW, hC]
    rw [hC]
    by_cases h64 : l ≤ 64
    rotate_left
    · have h64' : 64 < l := by omega
      have E2 : Hid (forOk x kind A C lit = false) := by show _ = _; rw [EO.out]; simp [h64]
      go_wp2
      go_meet
      case rel => exact ⟨by rw [E2.out]; first | rfl | simp [h64], G.out⟩
    by_cases h20 : l3 < 20000
    rotate_left
    · have h20' : (20000 : Int) ≤ (l3 : Int) := by omega
      have E2 : Hid (forOk x kind A C lit = false) := by show _ = _; rw [EO.out]; simp [h20]
      go_wp2
      go_meet
      case rel => exact ⟨by rw [E2.out]; first | rfl | simp [h20], G.out⟩
    have h20' : ¬ (20000 : Int) ≤ (l3 : Int) := by omega
    have E2 : Hid (forOk x kind A C lit = true) := by show _ = _; rw [EO.out]; simp [hw, hkk, hA', hC', h64, h20]
    go_wp2
    go_meet
    case rel => exact ⟨by rw [E2.out]; first | rfl | (simp [h20]; omega), G.out⟩
  case rest =>
  obtain ⟨rfl, HG⟩ := hcut
  obtain ⟨g0, r0, r1⟩ := L0.out
  replace r0 := (HG.out.block _ (lt_of_block r0) (by simp)).trans r0
  replace r1 := (HG.out.block _ (lt_of_block r1) (by simp)).trans r1
  have gu := grown_trans g0 HG.out
  clear g0 L0 HG CW q0 q1 q2 q3
  obtain ⟨⟨z0, z1, z2, z3⟩, hfz⟩ := blkWorld r1
  have fz0 := hfz 0
  have fz1 := hfz 1
  have fz2 := hfz 2
  have fz3 := hfz 3
  clear hfz
  cases hb : forOk x kind A C lit with
  | false =>
    have EV : Hid (forV x kind A C lit = (⟨0, [], [], []⟩, 0, false)) := by show _ = _; simp [forV, hb]
    obtain ⟨mf, kf⟩ := fillWorld (.int .i64 0) (.slice none 0 0) (.slice none 0 0) (.slice none 0 0) r1
    have FQ : Hid _ := And.intro mf (grown_into gu kf (by omega))
    clear gu r0 r1 mf kf EO hb
    simp only [Bool.not_false]
    go_wp2
    (try simp only [Exit.inBlock, Exit.then])
    refine bodyPost_ret (results_cell3Y (P := Try.prog) Try.results12 _ _ _ _ _ _ _ rfl FQ.out.1 Try.underlying27 rfl (by kernel_rfl)) rfl ?_
    rw [EV.out]
    exact ⟨none, 0, 0, none, 0, 0, none, 0, 0, [], w.heap.size, rfl, ow_zero FQ.out.2.size, FQ.out.2⟩
  | true =>
    have EV : Hid (forV x kind A C lit = (evApp (callV x kind A C lit).1 (callV x kind A C lit).2, (callV x kind A C lit).2.res, true)) := by show _ = _; simp [forV, hb]
    rw [EO.out] at hb
    simp only [Bool.and_eq_true, decide_eq_true_eq] at hb
    obtain ⟨hk4, ⟨⟨⟨hwk, -⟩, -⟩, h64⟩, h20⟩ := hb
    have hf := wok_facts hwk
    have he1 := HR.out.1.1.1.1
    have he2 := HR.out.1.2.1.1
    have hl1 : l1 ≤ 200 := by have := hf.2.2.2.1; omega
    have hl2 : l2 ≤ 20 := by have := hf.2.2.2.2.1; omega
    have hsz : szEvents x.trace ≤ 1048576 := by have := HR.out.2.2; unfold szWorld at this; omega
    have CC : Hid _ := copyWT x a1 l1 c1 a2 l2 c2 a3 l3 c3 wc (HR.out.1.none gu) (by omega) (by omega) (by omega) (inEvent_lit (w := w) (wp := w) (b := 0) (o := 0) hsz)
    obtain ⟨q0, q1, q2, q3⟩ := (blkWorld r0).1
    have hW : Hid (wokV x = true) := hwk
    have L1 : Hid _ := And.intro gu r1
    have hww : w.heap.size + 1 < wc.heap.size := lt_of_block r1
    clear r0 gu EO hwk hf hsz z0 z1 z2 z3 fz0 fz1 fz2 fz3 r1
    simp only [Bool.not_true]
    go_wp2_with fail
    refine Calls.mono CC.out ?_
    rintro e u ⟨d1, k1, d2, k2, d3, k3, vs, hi, rfl, OW, hg, hk1, hk2⟩
    have ga := World.grownBy_alloc u (.cells #[.int .i64 x.ticks, .slice d1 l1 k1, .slice d2 l2 k2, .slice d3 l3 k3] 27) none
    have bq := heap_alloc_new u (.cells #[.int .i64 x.ticks, .slice d1 l1 k1, .slice d2 l2 k2, .slice d3 l3 k3] 27)
    have MM : Mine (u.alloc (.cells #[.int .i64 x.ticks, .slice d1 l1 k1, .slice d2 l2 k2, .slice d3 l3 k3] 27)) wc.heap.size u.heap.size x d1 l1 k1 d2 l2 k2 d3 l3 k3 vs hi := And.intro bq (ow_none OW ga)
    have gz := grown_trans (grown_trans L1.out.1 hg) ga
    have r1 := ((grown_trans hg ga).block _ (lt_of_block L1.out.2) (by simp)).trans L1.out.2
    have LC : Hid _ := lcallT x wc.heap.size u.heap.size kind A C lit a l c d1 l1 k1 d2 l2 k2 d3 l3 k3 vs hi _ MM (Nat.le_trans hg.size ga.size) hg.size hW.out (HR.out.2.1.none gz) h64 hk4 ⟨hk1, hk2⟩ hl2 (by omega)
    have L2 : Hid _ := And.intro gz r1
    have hwu := hg.size
    clear ga bq MM gz r1 L1 OW hg CC q0 q1 q2 q3
    simp only []
    go_wp2_with fail
    refine Calls.mono LC.out ?_
    rintro e y ⟨rfl, ⟨e1, m1, j1, e2, m2, j2, e3', m3, j3, us, hi', M⟩, bl⟩
    obtain ⟨gz, r1⟩ := L2.out
    replace r1 := (bl.block (w.heap.size + 1) (by omega)).trans r1
    have gy : w.grownBy y none := ⟨bl.os.trans gz.os, bl.tape.trans gz.tape, bl.output.trans gz.output, Nat.le_trans gz.size bl.size, fun i hi _ => (bl.block i (by omega)).trans (gz.block i hi (by simp))⟩
    have cl := callV_len x kind A C lit
    have ct := callV_trace x kind A C lit
    have n1 : (evApp (callV x kind A C lit).1 (callV x kind A C lit).2).draws.length = m1 := M.2.1.1
    have n2 : (evApp (callV x kind A C lit).1 (callV x kind A C lit).2).store.length = m2 := by have := M.2.2.1.1; rw [vE_len] at this; omega
    have n3 : (evApp (callV x kind A C lit).1 (callV x kind A C lit).2).trace.length = m3 := by have := M.2.2.2.1.1; rw [M.2.2.2.2.1.len] at this; omega
    have n4 : (evApp (callV x kind A C lit).1 (callV x kind A C lit).2).trace.length = l3 + 1 := by simp only [evApp, List.length_append, List.length_cons, List.length_nil, ct]; omega
    have p1 : m1 ≤ 1048576 := by rw [← n1]; show (callV x kind A C lit).1.draws.length ≤ _; omega
    have p2 : m2 ≤ 1048576 := by rw [← n2]; show (callV x kind A C lit).1.store.length ≤ _; omega
    have p3 : m3 ≤ 1048576 := by omega
    have CC : Hid _ := copyWT _ e1 m1 j1 e2 m2 j2 e3' m3 j3 y ⟨M.2.1.rd.le CLe.unhidz, (own_slE M.2.2.1 (by omega)).le CLe.unhidz, (own_slV M.2.2.2.1 M.2.2.2.2.1 (by omega)).le CLe.unhidz⟩ p1 p2 p3 (evo_lit M.2.2.2.2.1)
    obtain ⟨q0, q1, q2, q3⟩ := (blkWorld M.1).1
    have L3 : Hid _ := And.intro gy r1
    clear n1 n2 n3 n4 cl ct gz r1 gy M bl LC L2 hwu
    simp only []
    go_wp2_with fail
    refine Calls.mono CC.out ?_
    rintro e z ⟨f1, o1, f2, o2, f3, o3, ws, hi2, rfl, OW, hg, -, -⟩
    obtain ⟨gy, r1⟩ := L3.out
    replace r1 := (hg.block _ (lt_of_block r1) (by simp)).trans r1
    obtain ⟨⟨z0, z1, z2, z3⟩, hfz⟩ := blkWorld r1
    have fz0 := hfz 0
    have fz1 := hfz 1
    have fz2 := hfz 2
    have fz3 := hfz 3
    obtain ⟨mf, kf⟩ := fillWorld (.int .i64 (evApp (callV x kind A C lit).1 (callV x kind A C lit).2).ticks) (.slice f1 m1 o1) (.slice f2 m2 o2) (.slice f3 m3 o3) r1
    have FQ : Hid _ := And.intro mf (And.intro (ow_low (ow_kept OW kf r1) (B' := w.heap.size) (by have := gy.size; omega)) (grown_into (grown_trans gy hg) kf (by omega)))
    clear mf kf OW hg gy r1 hfz L3 CC q0 q1 q2 q3
    simp only []
    go_wp2
    (try simp only [Exit.inBlock, Exit.then])
    refine bodyPost_ret (results_cell3Y (P := Try.prog) Try.results12 _ _ _ _ _ _ _ rfl FQ.out.1 Try.underlying27 rfl (by kernel_rfl)) rfl ?_
    rw [EV.out]
    exact ⟨f1, m1, o1, f2, m2, o2, f3, m3, o3, ws, hi2, rfl, FQ.out.2.1, FQ.out.2.2⟩
end Go.Proofs.Ytccnninmkfhejaa.By
