/-
  impl.Foreign by its contract. No statement is proved here.
-/
import Derived.Test.YtccnninmkfhejaaYCa
namespace Go.Proofs.Ytccnninmkfhejaa.By
open Go.RowKit
set_option linter.unusedVariables false
set_option linter.unusedSimpArgs false


set_option maxRecDepth 8000 in
set_option maxHeartbeats 8000000 in
theorem implForeignT (x : RWorld) (kind A C : Int) (lit : List Int) (a1 : Option Addr) (l1 c1 : Nat) (a2 : Option Addr) (l2 c2 : Nat) (a3 : Option Addr) (l3 c3 : Nat) (a : Option Addr) (l c : Nat) (w : World) (h : RdWorld w x a1 l1 a2 l2 a3 l3) (hl : RdB w a l lit) (hk : I64x kind) (hs : szWorld x ≤ 1048576) :
    Calls Try.prog 6 #[.agg #[.int .i64 x.ticks, .slice a1 l1 c1, .slice a2 l2 c2, .slice a3 l3 c3], .int .i64 kind, .int .i64 A, .int .i64 C, .slice a l c] w fun e u => ∃ d1 m1 k1 d2 m2 k2 d3 m3 k3 vs hi, e = .returned (.tuple #[.agg #[.int .i64 (forV x kind A C lit).1.ticks, .slice d1 m1 k1, .slice d2 m2 k2, .slice d3 m3 k3], .int .i64 (forV x kind A C lit).2.1, .bool (forV x kind A C lit).2.2]) ∧ OwW u w.heap.size (forV x kind A C lit).1 d1 m1 d2 m2 k2 d3 m3 k3 vs hi ∧ w.grownBy u none := by
  obtain ⟨r0, r1, rsz⟩ := alloc2_blocks w (.cells #[.int .i64 x.ticks, .slice a1 l1 c1, .slice a2 l2 c2, .slice a3 l3 c3] 27) (.cells #[.int .i64 0, .slice none 0 0, .slice none 0 0, .slice none 0 0] 27)
  have g0 := grown_alloc (grown_alloc (World.grownBy.refl w none) (.cells #[.int .i64 x.ticks, .slice a1 l1 c1, .slice a2 l2 c2, .slice a3 l3 c3] 27)) (.cells #[.int .i64 0, .slice none 0 0, .slice none 0 0, .slice none 0 0] 27)
  have HR : Hid (RdWorld w x a1 l1 a2 l2 a3 l3 ∧ RdB w a l lit ∧ szWorld x ≤ 1048576) := ⟨h, hl, hs⟩
  have hnl := hl.2.2
  have hll := hl.1.1
  have L0 : Hid _ := And.intro g0 (And.intro r0 (And.intro r1 rsz))
  have CT : Hid _ := takesT x w.heap.size A C a l c a1 l1 c1 a2 l2 c2 a3 l3 c3 _ hnl (h.none g0) (blkWorld r0).1
  clear h hl hs g0 r0 r1 rsz
  go_enter Try.func6, Try.ntmps6
  go_wp2_with fail
  refine Calls.mono CT.out ?_
  rintro e v ⟨rfl, hg⟩
  obtain ⟨gu, r0, r1, rsz⟩ := L0.out
  replace r0 := (hg.block _ (lt_of_block r0) (by simp)).trans r0
  replace r1 := (hg.block _ (lt_of_block r1) (by simp)).trans r1
  replace gu := grown_trans gu hg
  clear L0 hg CT
  obtain ⟨⟨z0, z1, z2, z3⟩, hfz⟩ := blkWorld r1
  have fz0 := hfz 0
  have fz1 := hfz 1
  have fz2 := hfz 2
  have fz3 := hfz 3
  cases ht : tk4V x A C l with
  | false =>
    have EV : Hid (forV x kind A C lit = (⟨0, [], [], []⟩, 0, false)) := by
      show _ = _
      have : forOk x kind A C lit = false := by simp only [forOk, takV_eq, hll, ht, Bool.and_false, Bool.false_and]
      simp [forV, this]
    obtain ⟨mf, kf⟩ := fillWorld (.int .i64 0) (.slice none 0 0) (.slice none 0 0) (.slice none 0 0) r1
    have FQ : Hid _ := And.intro mf (grown_into gu kf (by omega))
    clear gu r0 r1 rsz mf kf hfz
    simp only []
    go_wp2
    (try simp only [Exit.inBlock, Exit.then])
    refine bodyPost_ret (results_cell3Y (P := Try.prog) Try.results6 _ _ _ _ _ _ _ rfl FQ.out.1 Try.underlying27 rfl (by kernel_rfl)) rfl ?_
    rw [EV.out]
    exact ⟨none, 0, 0, none, 0, 0, none, 0, 0, [], w.heap.size, rfl, ow_zero FQ.out.2.size, FQ.out.2⟩
  | true =>
    have EW : Hid (wokV x = true ∧ l ≤ 64) := by
      simp only [tk4V, Bool.and_eq_true, decide_eq_true_eq] at ht
      exact ⟨ht.1.1.1, ht.2⟩
    have EK : Hid (forOk x kind A C lit = calOk x kind) := by
      show _ = _
      simp only [forOk, takV_eq, hll, ht, Bool.true_and, calOk]
    have CO : Hid _ := ownT x w.heap.size a1 l1 c1 a2 l2 c2 a3 l3 c3 v (HR.out.1.none gu) (blkWorld r0).1 HR.out.2.2
    have L2 : Hid _ := And.intro gu (And.intro r1 rsz)
    clear gu r0 r1 rsz hfz z0 z1 z2 z3 fz0 fz1 fz2 fz3
    simp only []
    go_wp2_with fail
    refine Calls.mono CO.out ?_
    rintro e z ⟨d1, k1, d2, k2, d3, k3, vs, hi, rfl, hg, ho1, ho2, ho3, hev, hhi⟩
    obtain ⟨gu, r1, rsz⟩ := L2.out
    replace r1 := (hg.block _ (lt_of_block r1) (by simp)).trans r1
    replace gu := grown_trans gu hg
    have hvB : w.heap.size + 2 ≤ v.heap.size := by have := lt_of_block L2.out.2.1; omega
    have ga := World.grownBy_alloc z (.cells #[.int .i64 x.ticks, .slice d1 l1 k1, .slice d2 l2 k2, .slice d3 l3 k3] 27) none
    have bq := heap_alloc_new z (.cells #[.int .i64 x.ticks, .slice d1 l1 k1, .slice d2 l2 k2, .slice d3 l3 k3] 27)
    have hk1 : l1 ≤ k1 ∧ k1 ≤ 9223372036854775807 := by
      rcases ho1.2 with ⟨e, h0⟩ | ⟨g, cap, cur, e, hb, hh, hnc, hm, hs, ht⟩
      · cases e; omega
      · cases e; unfold maxLen at hm; omega
    have b1 : l1 ≤ 9223372036854775807 := by omega
    have MM : Mine (z.alloc (.cells #[.int .i64 x.ticks, .slice d1 l1 k1, .slice d2 l2 k2, .slice d3 l3 k3] 27)) v.heap.size z.heap.size x d1 l1 k1 d2 l2 k2 d3 l3 k3 vs hi :=
      ⟨bq, OwI0.of (ho1.kept ga (Classical.em _)) b1, ho2.kept ga (Classical.em _), ho3.kept ga (Classical.em _), hev.none ga, Nat.le_trans hhi ga.size⟩
    have gz := grown_trans gu ga
    have CC : Hid _ := callT x v.heap.size z.heap.size kind A C lit a l c d1 l1 k1 d2 l2 k2 d3 l3 k3 vs hi _ MM (Nat.le_trans hg.size ga.size) hg.size hk1 EW.out.1 (HR.out.2.1.none gz) EW.out.2 hk
    have hzv := hg.size
    have L3 : Hid _ := And.intro gz (And.intro ((ga.block _ (lt_of_block r1) (by simp)).trans r1) (And.intro rsz (World.size_alloc z (.cells #[.int .i64 x.ticks, .slice d1 l1 k1, .slice d2 l2 k2, .slice d3 l3 k3] 27))))
    clear L2 gu r1 rsz hg ho1 ho2 ho3 hev hhi ga bq MM gz CO
    simp only []
    go_wp2_with fail
    refine Calls.mono CC.out ?_
    rintro e y hR
    rcases hR with ⟨hc, rfl, hg⟩ | ⟨hc, rfl, ⟨e1, m1, j1, e2, m2, j2, e3, m3, j3, us, hi', M⟩, hbel⟩
    · obtain ⟨gz, r1, -, -⟩ := L3.out
      replace r1 := (hg.block _ (lt_of_block r1) (by simp)).trans r1
      replace gz := grown_trans gz hg
      have EV : Hid (forV x kind A C lit = (⟨0, [], [], []⟩, 0, false)) := by
        show _ = _
        have : forOk x kind A C lit = false := by rw [EK.out, hc]
        simp [forV, this]
      obtain ⟨⟨z0, z1, z2, z3⟩, hfz⟩ := blkWorld r1
      have fz0 := hfz 0
      have fz1 := hfz 1
      have fz2 := hfz 2
      have fz3 := hfz 3
      obtain ⟨mf, kf⟩ := fillWorld (.int .i64 0) (.slice none 0 0) (.slice none 0 0) (.slice none 0 0) r1
      have FQ : Hid _ := And.intro mf (grown_into gz kf (by omega))
      clear gz r1 mf kf hfz L3 CC EK EW hg
      simp only []
      go_wp2
      (try simp only [Exit.inBlock, Exit.then])
      refine bodyPost_ret (results_cell3Y (P := Try.prog) Try.results6 _ _ _ _ _ _ _ rfl FQ.out.1 Try.underlying27 rfl (by kernel_rfl)) rfl ?_
      rw [EV.out]
      exact ⟨none, 0, 0, none, 0, 0, none, 0, 0, [], w.heap.size, rfl, ow_zero FQ.out.2.size, FQ.out.2⟩
    · obtain ⟨gz, r1, rsz, rsa⟩ := L3.out
      have EV : Hid (forV x kind A C lit = (evApp (callV x kind A C lit).1 (callV x kind A C lit).2, (callV x kind A C lit).2.res, true)) := by
        show _ = _
        have : forOk x kind A C lit = true := by rw [EK.out, hc]
        simp [forV, this]
      replace r1 := (hbel.block (w.heap.size + 1) (by omega)).trans r1
      have gy : w.grownBy y none := ⟨hbel.os.trans gz.os, hbel.tape.trans gz.tape, hbel.output.trans gz.output, Nat.le_trans gz.size hbel.size, fun i hi _ => (hbel.block i (by omega)).trans (gz.block i hi (by simp))⟩
      generalize evApp (callV x kind A C lit).1 (callV x kind A C lit).2 = X at *
      generalize (callV x kind A C lit).2.res = R at *
      obtain ⟨⟨z0, z1, z2, z3⟩, hfz⟩ := blkWorld M.1
      obtain ⟨⟨x0, x1, x2, x3⟩, hfx⟩ := blkWorld r1
      have fx0 := hfx 0
      have fx1 := hfx 1
      have fx2 := hfx 2
      have fx3 := hfx 3
      have nr : w.heap.size + 1 ≠ z.heap.size := by omega
      obtain ⟨mf, kf⟩ := fillWorld (.int .i64 X.ticks) (.slice e1 m1 j1) (.slice e2 m2 j2) (.slice e3 m3 j3) r1
      have OW : OwW y v.heap.size X e1 m1 e2 m2 j2 e3 m3 j3 us hi' := M.2
      have F7 : Hid _ := And.intro mf (And.intro (grown_into gy kf (by omega)) (ow_low (ow_kept OW kf r1) (B' := w.heap.size) (by omega)))
      clear gz r1 rsz rsa mf kf OW M gy hfz hfx L3 CC EK EW hbel
      simp only []
      go_wp2
      (try simp only [Exit.inBlock, Exit.then])
      refine bodyPost_ret (results_cell3Y (P := Try.prog) Try.results6 _ _ _ _ _ _ _ rfl F7.out.1 Try.underlying27 rfl (by kernel_rfl)) rfl ?_
      rw [EV.out]
      exact ⟨e1, m1, j1, e2, m2, j2, e3, m3, j3, _, _, rfl, F7.out.2.2, F7.out.2.1⟩
end Go.Proofs.Ytccnninmkfhejaa.By
