/-
  The contracts of the specification's Alloc, for this seat's proofs. No statement is proved here.
-/
import Derived.Test.YtonmcndedbmbfabDoorHAlloc
import Derived.Test.YtonmcndedbmbfabDoorHCopy
namespace Go.Proofs.YtonmcndedbmbfabDoor.By
open Go.RowKit
set_option linter.unusedVariables false

set_option maxHeartbeats 2000000 in
theorem sallocNo (p : Nat) (half low next k : Int) (w : World) (c1 : w.cell? ⟨p, 1, none⟩ = some (.int .i64 half)) (c2 : w.cell? ⟨p, 2, none⟩ = some (.int .i64 low)) (c3 : w.cell? ⟨p, 3, none⟩ = some (.int .i64 next)) (b0 : 0 ≤ half) (b1 : half ≤ 4096) (b2 : 0 ≤ low) (b3 : low ≤ 4096) (b4 : 0 ≤ next) (b5 : next ≤ 8192)
    (h : refused half low next k) :
    Calls Tryd.prog 21 #[.pointer (some ⟨p, 0, none⟩), .int .i64 k] w fun e w' => e = .returned (.tuple #[.int .i64 0, .bool false]) ∧ ∃ q, w' = w.drewN q := by
  by_cases k1 : k < 1
  · clear h
    go_enter Tryd.func21, Tryd.ntmps21
    go_wp2
    go_quiet (fail)
    go_wp2
    go_ret2
    exact ⟨rfl, _, rfl⟩
  have q1 : decide (k < 1) = false := by simpa using k1
  by_cases k2 : 64 < k
  · clear h
    go_enter Tryd.func21, Tryd.ntmps21
    go_wp2
    go_quiet (fail)
    go_wp2
    go_ret2
    exact ⟨rfl, _, rfl⟩
  have q2 : decide (64 < k) = false := by simpa using k2
  have k3 : low + half - next < k := by rcases h with h | h | h <;> omega
  have e1 : IntKind.i64.wrap (low + half) = low + half := IntWalk.i64_in _ (by omega)
  have e2 : IntKind.i64.wrap (low + half - next) = low + half - next := IntWalk.i64_in _ (by omega)
  have q3 : decide (low + half - next < k) = true := by simpa using k3
  clear h
  go_enter Tryd.func21, Tryd.ntmps21
  go_wp2
  go_quiet (fail)
  go_wp2
  go_ret2
  exact ⟨rfl, _, rfl⟩

set_option maxHeartbeats 2000000 in
theorem sallocYes (p n m c d g off nx kk : Nat) (b : Option Addr) (half low : Int) (ws : List Int) (w : World)
    (hp : w.heap[p]? = some (.cells #[.slice (some ⟨g, off, none⟩) n c, .int .i64 half, .int .i64 low, .int .i64 (nx : Int), .slice b m d] 29 (0, 0)))
    (hr : RowAt w 3 g off ws) (hl : ws.length = n) (hc : n ≤ c) (hgp : g ≠ p) (b0 : 0 ≤ half) (b1 : half ≤ 4096) (b2 : 0 ≤ low) (b3 : low ≤ 4096) (b5 : nx ≤ 8192) (hn : n ≤ 8192) (hk1 : 1 ≤ kk) (hk2 : kk ≤ 64) (hk3 : (kk : Int) ≤ low + half - nx) (hfit : nx + kk ≤ n) :
    Calls Tryd.prog 21 #[.pointer (some ⟨p, 0, none⟩), .int .i64 (kk : Int)] w fun e w' => e = .returned (.tuple #[.int .i64 (nx : Int), .bool true]) ∧ w'.heap[p]? = some (.cells #[.slice (some ⟨g, off, none⟩) n c, .int .i64 half, .int .i64 low, .int .i64 ((nx : Int) + (kk : Int)), .slice b m d] 29 (0, 0)) ∧ RowAt w' 3 g off (zeroAt ws nx kk) ∧ ∃ w1, w.grownBy w1 (some g) ∧ w1.grownBy w' (some p) := by
  obtain ⟨⟨v0, v1, v2, v3, v4⟩, -⟩ := five hp
  have HP : Hid _ := And.intro hp hr
  have q1 : decide ((kk : Int) < 1) = false := by simp; omega
  have q2 : decide (64 < (kk : Int)) = false := by simp; omega
  have e1 : IntKind.i64.wrap (low + half) = low + half := IntWalk.i64_in _ (by omega)
  have e2 : IntKind.i64.wrap (low + half - (nx : Int)) = low + half - (nx : Int) := IntWalk.i64_in _ (by omega)
  have q3 : decide (low + half - (nx : Int) < (kk : Int)) = false := by simp; omega
  clear hp hr
  go_enter Tryd.func21, Tryd.ntmps21
  go_wp2
  go_quiet (fail)
  clear q1 q2 e1 e2 q3
  go_wp2
  obtain ⟨hp, hr⟩ := HP.out
  have gd := grown_drewN w nq none
  have hp := (gd.block p (lt_of_block hp) (by simp)).trans hp
  have hr := hr.kept gd (by simp)
  have G0 : w.grownBy (w.drewN nq) (some g) := grown_drewN w nq _
  clear v0 v1 v2 v3 v4 HP
  generalize w.drewN nq = u at *
  go_loopw [7] (fun i wr => ∃ k : Nat, k ≤ kk ∧ i = .int .i64 k ∧ u.grownBy wr (some g) ∧ RowAt wr 3 g off (zeroAt ws nx k)) (fun i _ => kk - (intOf i).toNat)
  case atStart => exact ⟨0, Nat.zero_le _, rfl, World.grownBy.refl _ _, hr⟩
  case round =>
    obtain ⟨k, hk, rfl, hg, hrow⟩ := hrel
    have hpw := (hg.block p (lt_of_block hp) (by simp; omega)).trans hp
    obtain ⟨⟨v0, v1, v2, v3, v4⟩, f0, f1, f2, f3, f4⟩ := five hpw
    by_cases hlt : k < kk
    · have hco := hrow.cell (nx + k) (by rw [zeroAt_len]; omega)
      have hfr := hrow.free (off + (nx + k))
      have hst := hrow.store (nx + k) 0
      rw [← zeroAt_snoc] at hst
      have HR : Hid (RowAt (wr.setCell ⟨g, off + (nx + k), none⟩ (.int .i64 0)) 3 g off (zeroAt ws nx (k + 1))) := hst
      have HG : Hid (u.grownBy (wr.setCell ⟨g, off + (nx + k), none⟩ (.int .i64 0)) (some g)) := grown_trans hg (grown_setCell _ _ _ _)
      obtain ⟨old, hold⟩ : ∃ x, wr.cell? ⟨g, off + (nx + k), none⟩ = some (.int .i64 x) := ⟨_, hco⟩
      have i1 : (nx : Int) + (k : Int) < (n : Int) := by omega
      have i2 : ((nx : Int) + (k : Int)).toNat = nx + k := by omega
      clear hst hrow hco hpw hp hr hg
      go_wp2
      go_roundw
      case rel => exact ⟨k + 1, by omega, by go_num, HG.out, HR.out⟩
      case measure => simp [intOf]; omega
    · obtain rfl : k = kk := by omega
      have kg := grown_setCell wr p 3 (.int .i64 ((nx : Int) + (k : Int)))
      have hp' := heap_setCell_same wr p 3 _ 29 (.int .i64 ((nx : Int) + (k : Int))) hpw
      have FIN : Hid _ := And.intro hp' (And.intro (hrow.kept kg (by simp; omega)) (And.intro (grown_trans G0 hg) kg))
      clear hp' kg hpw hp hr hg hrow
      go_wp2
      go_ret2
      obtain ⟨z1, z2, z3, z4⟩ := FIN.out
      exact ⟨rfl, z1, z2, _, z3, z4⟩
set_option maxHeartbeats 2000000 in
theorem specAlloc0 (n m c d : Nat) (a b : Option Addr) (half low next k : Int) (w : World) (hok : okB half n low next m = false) :
    Calls Tryd.prog 7 #[.agg #[.slice a n c, .int .i64 half, .int .i64 low, .int .i64 next, .slice b m d], .int .i64 k] w fun e w' => e = .returned (.tuple #[.agg #[.slice none 0 0, .int .i64 0, .int .i64 0, .int .i64 0, .slice none 0 0], .int .i64 0, .bool false]) ∧ w.grownBy w' none := by
  have g0 := grown_alloc (grown_alloc (World.grownBy.refl w none) (.cells #[.slice a n c, .int .i64 half, .int .i64 low, .int .i64 next, .slice b m d] 29)) (.cells #[.slice none 0 0, .int .i64 0, .int .i64 0, .int .i64 0, .slice none 0 0] 29)
  have O := specOk n m c d a b half low next ((w.alloc (.cells #[.slice a n c, .int .i64 half, .int .i64 low, .int .i64 next, .slice b m d] 29)).alloc (.cells #[.slice none 0 0, .int .i64 0, .int .i64 0, .int .i64 0, .slice none 0 0] 29))
  rw [hok] at O
  obtain ⟨-, b1, bs⟩ := alloc2_blocks w (.cells #[.slice a n c, .int .i64 half, .int .i64 low, .int .i64 next, .slice b m d] 29) (.cells #[.slice none 0 0, .int .i64 0, .int .i64 0, .int .i64 0, .slice none 0 0] 29)
  have H0 : Hid _ := And.intro g0 (And.intro b1 bs)
  clear hok g0 b1 bs
  go_enter Tryd.func7, Tryd.ntmps7
  go_wp2_with fail
  refine O.mono ?_
  rintro e w' ⟨rfl, hg⟩
  obtain ⟨g0, b1, bs⟩ := H0.out
  have G1 := grown_trans g0 hg
  have b1 := (hg.block _ (by rw [bs]; omega) (by simp)).trans b1
  clear O H0 g0 hg bs
  generalize hp4 : w.heap.size + 1 = p4 at *
  obtain ⟨d1, k5⟩ := fill5 (.slice none 0 0) (.int .i64 0) (.int .i64 0) (.int .i64 0) (.slice none 0 0) b1
  obtain ⟨⟨x0, x1, x2, x3, x4⟩, f0, f1, f2, f3, f4⟩ := five b1
  have FIN : Hid _ := And.intro (grown_into G1 k5 (by omega)) d1
  clear G1 b1 d1 k5
  simp only []
  go_wp2
  (try simp only [Exit.inBlock, Exit.then])
  obtain ⟨z1, z2⟩ := FIN.out
  refine bodyPost_ret (results_cell3 (P := Tryd.prog) Tryd.results7 _ _ p4 _ _ _ _ rfl z2 Tryd.underlying29 rfl (by kernel_rfl)) rfl ?_
  exact ⟨rfl, z1⟩

set_option maxHeartbeats 2000000 in
theorem specAlloc1 (n m c d : Nat) (a b : Option Addr) (half low next k : Int) (ws ls : List Int) (w : World) (hok : okB half n low next m = true) (hk : refused half low next k) (h1 : ReadsI w a n ws) (h2 : ReadsI w b (m * 3) ls) (ha : a = none → c = 0) (hb : b = none → d = 0) :
    Calls Tryd.prog 7 #[.agg #[.slice a n c, .int .i64 half, .int .i64 low, .int .i64 next, .slice b m d], .int .i64 k] w fun e w' => ∃ a' b' c' d' g g', e = .returned (.tuple #[.agg #[.slice a' n c', .int .i64 half, .int .i64 low, .int .i64 next, .slice b' m d'], .int .i64 0, .bool false]) ∧ w.grownBy w' none ∧ w.heap.size ≤ g ∧ w.heap.size ≤ g' ∧ (n = 0 ∨ m = 0 ∨ g ≠ g') ∧ OwnI w' 3 g a' n ws ∧ OwnI w' 65 g' b' (m * 3) ls := by
  obtain ⟨k1, k2, k3, k4, k5, k6, k7⟩ := okB_out hok
  have g0 := grown_alloc (grown_alloc (World.grownBy.refl w none) (.cells #[.slice a n c, .int .i64 half, .int .i64 low, .int .i64 next, .slice b m d] 29)) (.cells #[.slice none 0 0, .int .i64 0, .int .i64 0, .int .i64 0, .slice none 0 0] 29)
  have O := specOk n m c d a b half low next ((w.alloc (.cells #[.slice a n c, .int .i64 half, .int .i64 low, .int .i64 next, .slice b m d] 29)).alloc (.cells #[.slice none 0 0, .int .i64 0, .int .i64 0, .int .i64 0, .slice none 0 0] 29))
  rw [hok] at O
  obtain ⟨bb, bz, bs⟩ := alloc2_blocks w (.cells #[.slice a n c, .int .i64 half, .int .i64 low, .int .i64 next, .slice b m d] 29) (.cells #[.slice none 0 0, .int .i64 0, .int .i64 0, .int .i64 0, .slice none 0 0] 29)
  have H0 : Hid _ := And.intro bb (And.intro bz (And.intro bs (And.intro g0 (And.intro h1 h2))))
  have HK : Hid _ := And.intro hk (And.intro k5 (And.intro k6 k7))
  clear hok bb bz bs g0 h1 h2 hk k5 k6 k7
  go_enter Tryd.func7, Tryd.ntmps7
  go_wp2_with fail
  refine O.mono ?_
  rintro e w' ⟨rfl, hg⟩
  clear O
  obtain ⟨bb0, bz0, bs, g0, h1, h2⟩ := H0.out
  have bb := (hg.block _ (by rw [bs]; omega) (by simp)).trans bb0
  have bz := (hg.block _ (by rw [bs]; omega) (by simp)).trans bz0
  have G0 := grown_trans g0 hg
  have s0 := hg.size
  rw [bs] at s0
  clear H0 g0 hg bs bb0 bz0
  obtain ⟨⟨x0, x1, x2, x3, x4⟩, -⟩ := five bb
  have W0 : Hid _ := And.intro bz (And.intro G0 (And.intro h1 (And.intro h2 s0)))
  clear bb bz G0 h1 h2 s0
  generalize hp4 : w.heap.size + 1 = p4 at *
  generalize hp2 : w.heap.size = p2 at *
  simp only []
  go_wp2_with fail
  obtain ⟨bz, G0, h1, h2, s0⟩ := W0.out
  refine (copyT n m c d a b half low next ws ls w' (h1.none G0) (h2.none G0) ha hb (by omega) (by omega)).mono ?_
  rintro e w1 ⟨a', b', c', d', g, g', rfl, hg1, l1, l2, l3, o1, o2', l4⟩
  have o2 := o2'.own
  clear x0 x1 x2 x3 x4
  have hg'lt := o2.lt
  have bz1 := (hg1.block _ (by omega) (by simp)).trans bz
  have G1 := grown_trans G0 hg1
  have s1 := hg1.size
  have ga := World.grownBy_alloc w1 (.cells #[.slice a' n c', .int .i64 half, .int .i64 low, .int .i64 next, .slice b' m d'] 29) none
  have ba := heap_alloc_new w1 (.cells #[.slice a' n c', .int .i64 half, .int .i64 low, .int .i64 next, .slice b' m d'] 29)
  have W1 : Hid _ := And.intro (grown_trans G1 ga) (And.intro ((ga.block _ (by omega) (by simp)).trans bz1) (And.intro ba (And.intro (o1.kept ga (by simp)) (And.intro (o2.kept ga (by simp)) (And.intro (show n = 0 ∨ m = 0 ∨ g ≠ g' by omega) (And.intro (show p2 ≤ g by omega) (And.intro (show p2 ≤ g' by omega) (And.intro (show p4 < w1.heap.size by omega) (And.intro (show p4 < g by omega) (And.intro (show p4 < g' by omega) (And.intro hg'lt l4)))))))))))
  clear W0 bz G0 h1 h2 s0 hg1 l1 l2 l3 o1 o2' o2 l4 bz1 G1 s1 ga ba hg'lt
  simp only []
  go_wp2_with fail
  obtain ⟨G1, b4, b7, o1, o2, l3, l1, l2, l7, l8, l9, hg'lt, l4⟩ := W1.out
  obtain ⟨hk, k5, k6, k7⟩ := HK.out
  obtain ⟨⟨x0, x1, x2, x3, x4⟩, -⟩ := five b7
  refine (sallocNo w1.heap.size half low next k _ x1 x2 x3 (by omega) (by omega) (by omega) (by omega) (by omega) (by omega) hk).mono ?_
  rintro e w2 ⟨rfl, q2, rfl⟩
  have dq := grown_drewN (w1.alloc (.cells #[.slice a' n c', .int .i64 half, .int .i64 low, .int .i64 next, .slice b' m d'] 29)) q2 none
  have sz : (w1.alloc (.cells #[.slice a' n c', .int .i64 half, .int .i64 low, .int .i64 next, .slice b' m d'] 29)).heap.size = w1.heap.size + 1 := by simp
  have b4 := (dq.block _ (by rw [sz]; omega) (by simp)).trans b4
  have b7 := (dq.block _ (by rw [sz]; omega) (by simp)).trans b7
  have o1 := o1.kept dq (by simp)
  have o2 := o2.kept dq (by simp)
  have G2 := grown_trans G1 dq
  clear x0 x1 x2 x3 x4 sz W1 HK hk k5 k6 k7 G1 dq
  generalize (w1.alloc (.cells #[.slice a' n c', .int .i64 half, .int .i64 low, .int .i64 next, .slice b' m d'] 29)).drewN q2 = u at *
  generalize e7 : w1.heap.size = p7 at *
  obtain ⟨d4, kg⟩ := fill5 (.slice a' n c') (.int .i64 half) (.int .i64 low) (.int .i64 next) (.slice b' m d') b4
  have FIN : Hid _ := And.intro (grown_into G2 kg (by omega)) (And.intro (o1.kept kg (by simp; omega)) (And.intro (o2.kept kg (by simp; omega)) (And.intro l3 (And.intro l1 l2))))
  have D4 : Hid _ := d4
  have n47 : p4 ≠ p7 := by omega
  obtain ⟨⟨x0, x1, x2, x3, x4⟩, -⟩ := five b7
  obtain ⟨⟨y0, y1, y2, y3, y4⟩, f0, f1, f2, f3, f4⟩ := five b4
  clear b4 b7 o1 o2 G2 d4 kg l3 l1 l2 l7 l8 l9
  simp only []
  go_wp2
  (try simp only [Exit.inBlock, Exit.then])
  refine bodyPost_ret (results_cell3 (P := Tryd.prog) Tryd.results7 _ _ p4 _ _ _ _ rfl D4.out Tryd.underlying29 rfl (by kernel_rfl)) rfl ?_
  obtain ⟨z1, z2, z3, z4, z5, z6⟩ := FIN.out
  exact ⟨_, b', c', d', g, g', rfl, z1, by omega, by omega, z4, z2, z3⟩

set_option maxHeartbeats 2000000 in
theorem specAlloc2 (n m c d nx kk : Nat) (a b : Option Addr) (half low : Int) (ws ls : List Int) (w : World) (hok : okB half n low (nx : Int) m = true) (hk : ¬ refused half low (nx : Int) (kk : Int)) (h1 : ReadsI w a n ws) (h2 : ReadsI w b (m * 3) ls) (ha : a = none → c = 0) (hb : b = none → d = 0) :
    Calls Tryd.prog 7 #[.agg #[.slice a n c, .int .i64 half, .int .i64 low, .int .i64 (nx : Int), .slice b m d], .int .i64 (kk : Int)] w fun e w' => ∃ a' b' c' d' g g', e = .returned (.tuple #[.agg #[.slice a' n c', .int .i64 half, .int .i64 low, .int .i64 ((nx : Int) + (kk : Int)), .slice b' m d'], .int .i64 (nx : Int), .bool true]) ∧ w.grownBy w' none ∧ w.heap.size ≤ g ∧ w.heap.size ≤ g' ∧ (n = 0 ∨ m = 0 ∨ g ≠ g') ∧ OwnI w' 3 g a' n (zeroAt ws nx kk) ∧ OwnI w' 65 g' b' (m * 3) ls := by
  obtain ⟨k1, k2, k3, k4, k5, k6, k7⟩ := okB_out hok
  have hk' : 1 ≤ kk ∧ kk ≤ 64 ∧ (kk : Int) ≤ low + half - nx := by unfold refused at hk; omega
  obtain ⟨q1, q2, q3⟩ := hk'
  have g0 := grown_alloc (grown_alloc (World.grownBy.refl w none) (.cells #[.slice a n c, .int .i64 half, .int .i64 low, .int .i64 (nx : Int), .slice b m d] 29)) (.cells #[.slice none 0 0, .int .i64 0, .int .i64 0, .int .i64 0, .slice none 0 0] 29)
  have O := specOk n m c d a b half low (nx : Int) ((w.alloc (.cells #[.slice a n c, .int .i64 half, .int .i64 low, .int .i64 (nx : Int), .slice b m d] 29)).alloc (.cells #[.slice none 0 0, .int .i64 0, .int .i64 0, .int .i64 0, .slice none 0 0] 29))
  rw [hok] at O
  obtain ⟨bb, bz, bs⟩ := alloc2_blocks w (.cells #[.slice a n c, .int .i64 half, .int .i64 low, .int .i64 (nx : Int), .slice b m d] 29) (.cells #[.slice none 0 0, .int .i64 0, .int .i64 0, .int .i64 0, .slice none 0 0] 29)
  have H0 : Hid _ := And.intro bb (And.intro bz (And.intro bs (And.intro g0 (And.intro h1 h2))))
  have HK : Hid _ := And.intro hk (And.intro k5 (And.intro k6 k7))
  clear hok bb bz bs g0 h1 h2 hk k5 k6 k7
  go_enter Tryd.func7, Tryd.ntmps7
  go_wp2_with fail
  refine O.mono ?_
  rintro e w' ⟨rfl, hg⟩
  clear O
  obtain ⟨bb0, bz0, bs, g0, h1, h2⟩ := H0.out
  have bb := (hg.block _ (by rw [bs]; omega) (by simp)).trans bb0
  have bz := (hg.block _ (by rw [bs]; omega) (by simp)).trans bz0
  have G0 := grown_trans g0 hg
  have s0 := hg.size
  rw [bs] at s0
  clear H0 g0 hg bs bb0 bz0
  obtain ⟨⟨x0, x1, x2, x3, x4⟩, -⟩ := five bb
  have W0 : Hid _ := And.intro bz (And.intro G0 (And.intro h1 (And.intro h2 s0)))
  clear bb bz G0 h1 h2 s0
  generalize hp4 : w.heap.size + 1 = p4 at *
  generalize hp2 : w.heap.size = p2 at *
  simp only []
  go_wp2_with fail
  obtain ⟨bz, G0, h1, h2, s0⟩ := W0.out
  refine (copyT n m c d a b half low (nx : Int) ws ls w' (h1.none G0) (h2.none G0) ha hb (by omega) (by omega)).mono ?_
  rintro e w1 ⟨a', b', c', d', g, g', rfl, hg1, l1, l2, l3, o1, o2', l4⟩
  have o2 := o2'.own
  clear x0 x1 x2 x3 x4
  obtain ⟨off, rfl, hrow⟩ : ∃ off, a' = some ⟨g, off, none⟩ ∧ RowAt w1 3 g off ws := by
    rcases o1.2 with h0 | h0
    · omega
    · exact h0
  have hglt := hrow.lt
  have hwl := o1.1
  have hg'lt := o2.lt
  have bz1 := (hg1.block _ (by omega) (by simp)).trans bz
  have G1 := grown_trans G0 hg1
  have s1 := hg1.size
  have ga := World.grownBy_alloc w1 (.cells #[.slice (some ⟨g, off, none⟩) n c', .int .i64 half, .int .i64 low, .int .i64 (nx : Int), .slice b' m d'] 29) none
  have ba := heap_alloc_new w1 (.cells #[.slice (some ⟨g, off, none⟩) n c', .int .i64 half, .int .i64 low, .int .i64 (nx : Int), .slice b' m d'] 29)
  have W1 : Hid _ := And.intro (grown_trans G1 ga) (And.intro ((ga.block _ (by omega) (by simp)).trans bz1) (And.intro ba (And.intro (hrow.kept ga (by simp)) (And.intro (o2.kept ga (by simp)) (And.intro (show n = 0 ∨ m = 0 ∨ g ≠ g' by omega) (And.intro (show p2 ≤ g by omega) (And.intro (show p2 ≤ g' by omega) (And.intro (show p4 < w1.heap.size by omega) (And.intro (show p4 < g by omega) (And.intro (show p4 < g' by omega) (And.intro hg'lt l4)))))))))))
  clear W0 bz G0 h1 h2 s0 hg1 l1 l2 l3 o1 o2' o2 l4 bz1 G1 s1 ga ba hg'lt hrow
  simp only []
  go_wp2_with fail
  obtain ⟨G1, b4, b7, hrow, o2, l3, l1, l2, l7, l8, l9, hg'lt, l4⟩ := W1.out
  obtain ⟨hk, k5, k6, k7⟩ := HK.out
  refine (sallocYes w1.heap.size n m c' d' g off nx kk b' half low ws _ b7 hrow hwl l4 (by omega) (by omega) (by omega) (by omega) (by omega) (by omega) (by omega) q1 q2 q3 (by omega)).mono ?_
  rintro e w2 ⟨rfl, b7', r2, wa, ka, kb⟩
  have sz : (w1.alloc (.cells #[.slice (some ⟨g, off, none⟩) n c', .int .i64 half, .int .i64 low, .int .i64 (nx : Int), .slice b' m d'] 29)).heap.size = w1.heap.size + 1 := by simp
  have sk := ka.size
  have b4' := (kb.block _ (by rw [sz] at sk; omega) (by simp; omega)).trans ((ka.block _ (by rw [sz]; omega) (by simp; omega)).trans b4)
  have o2 := o2.keep2 ka kb (by omega)
  have o1 : OwnI w2 3 g (some ⟨g, off, none⟩) n (zeroAt ws nx kk) := ⟨by rw [zeroAt_len]; exact hwl, .inr ⟨off, rfl, r2⟩⟩
  have G2 := grown_into (grown_into G1 ka (by omega)) kb (by omega)
  clear sz sk W1 HK hk k5 k6 k7 G1 ka kb hrow r2 b4 b7
  have b4 := b4'
  have b7 := b7'
  clear b4' b7'
  generalize w2 = u at *
  generalize e7 : w1.heap.size = p7 at *
  generalize hnx : (nx : Int) + (kk : Int) = nk at *
  obtain ⟨d4, kg⟩ := fill5 (.slice (some ⟨g, off, none⟩) n c') (.int .i64 half) (.int .i64 low) (.int .i64 nk) (.slice b' m d') b4
  have FIN : Hid _ := And.intro (grown_into G2 kg (by omega)) (And.intro (o1.kept kg (by simp; omega)) (And.intro (o2.kept kg (by simp; omega)) (And.intro l3 (And.intro l1 l2))))
  have D4 : Hid _ := d4
  have n47 : p4 ≠ p7 := by omega
  obtain ⟨⟨x0, x1, x2, x3, x4⟩, -⟩ := five b7
  obtain ⟨⟨y0, y1, y2, y3, y4⟩, f0, f1, f2, f3, f4⟩ := five b4
  clear b4 b7 o1 o2 G2 d4 kg l3 l1 l2 l7 l8 l9
  simp only []
  go_wp2
  (try simp only [Exit.inBlock, Exit.then])
  refine bodyPost_ret (results_cell3 (P := Tryd.prog) Tryd.results7 _ _ p4 _ _ _ _ rfl D4.out Tryd.underlying29 rfl (by kernel_rfl)) rfl ?_
  obtain ⟨z1, z2, z3, z4, z5, z6⟩ := FIN.out
  subst hnx
  exact ⟨_, b', c', d', g, g', rfl, z1, by omega, by omega, z4, z2, z3⟩

end Go.Proofs.YtonmcndedbmbfabDoor.By
