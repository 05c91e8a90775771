/-
  The contract of Alloc, the program's, once more, with what it says of a nil log. No statement is proved here.
-/
import Derived.Test.YtonmcndedbmbfaaDoorHAlloc
namespace Go.Proofs.YtonmcndedbmbfaaDoor.By
open Go.RowKit
set_option linter.unusedVariables false

theorem LogI.nb {w : World} {t : TypeId} {g m d : Nat} {b : Option Addr} {ls : List Int} (h : LogI w t g b m d ls) : b = none → d = 0 := fun e => by
  rcases h.2 with ⟨_, _, r⟩ | ⟨off, cur, r, _⟩
  · exact r
  · rw [e] at r; cases r

set_option maxHeartbeats 2000000 in
theorem implAlloc2n (n m c d nx kk : Nat) (a b : Option Addr) (half low : Int) (ws ls : List Int) (er : Addr) (w : World) (hok : okB half n low (nx : Int) m = true) (hk : ¬ refused half low (nx : Int) (kk : Int)) (h1 : ReadsI w a n ws) (h2 : ReadsI w b (m * 3) ls) (ha : a = none → c = 0) (hb : b = none → d = 0)
    (he : w.cell? ⟨0, 0, none⟩ = some (.iface 97 (.pointer (some er)))) :
    Calls Tryd.prog 7 #[.agg #[.slice a n c, .int .i64 half, .int .i64 low, .int .i64 (nx : Int), .slice b m d], .int .i64 (kk : Int)] w fun e w' => ∃ a' b' c' d' g g', e = .returned (.tuple #[.agg #[.slice a' n c', .int .i64 half, .int .i64 low, .int .i64 ((nx : Int) + (kk : Int)), .slice b' m d'], .int .i64 (nx : Int), .bool true]) ∧ w.grownBy w' none ∧ w.heap.size ≤ g ∧ w.heap.size ≤ g' ∧ (n = 0 ∨ m = 0 ∨ g ≠ g') ∧ OwnI w' 3 g a' n (zeroAt ws nx kk) ∧ OwnI w' 59 g' b' (m * 3) ls ∧ (b' = none → d' = 0) := by
  have O := okT w.heap.size n m c d a b half low (nx : Int)
  obtain ⟨k1, k2, k3, k4, k5, k6, k7⟩ := okB_out hok
  simp only [hok] at O
  have hk' : 1 ≤ kk ∧ kk ≤ 64 ∧ (kk : Int) ≤ low + half - nx := by unfold refused at hk; omega
  obtain ⟨q1, q2, q3⟩ := hk'
  have hlt0 : 0 < w.heap.size := block_lt_of_cell he
  obtain ⟨bb, bz, bs⟩ := alloc2_blocks w (.cells #[.slice a n c, .int .i64 half, .int .i64 low, .int .i64 (nx : Int), .slice b m d] 26) (.cells #[.slice none 0 0, .int .i64 0, .int .i64 0, .int .i64 0, .slice none 0 0] 26)
  have g0 := grown_alloc (grown_alloc (World.grownBy.refl w none) (.cells #[.slice a n c, .int .i64 half, .int .i64 low, .int .i64 (nx : Int), .slice b m d] 26)) (.cells #[.slice none 0 0, .int .i64 0, .int .i64 0, .int .i64 0, .slice none 0 0] 26)
  have H0 : Hid _ := And.intro bb (And.intro bz (And.intro bs (And.intro g0 (And.intro h1 (And.intro h2 he)))))
  have HK : Hid _ := And.intro hk (And.intro k5 (And.intro k6 k7))
  clear hok bb bz bs g0 h1 h2 he hk k5 k6 k7
  go_enter Tryd.func7, Tryd.ntmps7
  go_wp2_with fail
  refine (O _ (by simp) (by simp) (by simp) (by simp) (by simp)).mono ?_
  rintro e w' ⟨rfl, q, rfl⟩
  clear O
  simp only []
  go_wp2_with fail
  obtain ⟨bb, bz, bs, g0, h1, h2, he⟩ := H0.out
  have gq := grown_qN g0 q
  have dq := grown_drewN (((w.alloc (.cells #[.slice a n c, .int .i64 half, .int .i64 low, .int .i64 (nx : Int), .slice b m d] 26)).alloc (.cells #[.slice none 0 0, .int .i64 0, .int .i64 0, .int .i64 0, .slice none 0 0] 26))) q none
  refine (ownL w.heap.size n m c d a b half low (nx : Int) ws ls _ ((dq.block _ (by rw [bs]; omega) (by simp)).trans bb) (h1.none gq) (h2.none gq) ha hb (by omega) (by omega)).mono ?_
  rintro e w1 ⟨a', b', c', d', g, g', rfl, hg1, l1, l2, l30, o1, o2L, l4⟩
  have l5 := o2L.le
  have nbN : Hid (b' = none → d' = 0) := o2L.nb
  have o2 := o2L.own
  have l3 : n = 0 ∨ m = 0 ∨ g ≠ g' := by omega
  clear o2L l30
  obtain ⟨off, rfl, hrow⟩ : ∃ off, a' = some ⟨g, off, none⟩ ∧ RowAt w1 3 g off ws := by
    rcases o1.2 with h0 | h0
    · omega
    · exact h0
  have hglt := hrow.lt
  have hg'lt := o2.lt
  have hwl := o1.1
  have dqs := dq.size
  have bz1 := (hg1.block _ (by rw [bs] at dqs; omega) (by simp)).trans ((dq.block _ (by rw [bs]; omega) (by simp)).trans bz)
  have G1 := grown_trans gq hg1
  have s1 := hg1.size
  rw [bs] at dqs
  have ga := World.grownBy_alloc w1 (.cells #[.slice (some ⟨g, off, none⟩) n c', .int .i64 half, .int .i64 low, .int .i64 (nx : Int), .slice b' m d'] 26) none
  have ba := heap_alloc_new w1 (.cells #[.slice (some ⟨g, off, none⟩) n c', .int .i64 half, .int .i64 low, .int .i64 (nx : Int), .slice b' m d'] 26)
  have W1 : Hid _ := And.intro (grown_trans G1 ga) (And.intro ((ga.block _ (by omega) (by simp)).trans bz1) (And.intro ba (And.intro (hrow.kept ga (by simp)) (And.intro (o2.kept ga (by simp)) (And.intro ((grown_trans G1 ga).cell he (by simp)) (And.intro l3 (And.intro (show w.heap.size ≤ g by omega) (And.intro (show w.heap.size ≤ g' by omega) (And.intro (show w.heap.size + 1 < w1.heap.size by omega) (And.intro (show w.heap.size + 1 < g by omega) (And.intro (show w.heap.size + 1 < g' by omega) (And.intro hglt (And.intro hg'lt (And.intro hwl l4))))))))))))))
  clear H0 bb bz bs g0 h1 h2 he gq dq hg1 l1 l2 l3 o1 o2 l4 l5 hrow hglt hg'lt hwl dqs bz1 G1 s1 ga ba
  generalize e4 : w.heap.size + 1 = p4 at *
  simp only []
  go_wp2_with fail
  obtain ⟨G1, b4, b7, hrow, o2, he, l3, l1, l2, l7, l8, l9, hglt, hg'lt, hwl, l4⟩ := W1.out
  obtain ⟨hk, k5, k6, k7⟩ := HK.out
  refine (takeYes w1.heap.size n m c' d' g off nx kk b' half low ws _ b7 hrow hwl l4 (by omega) (by omega) (by omega) (by omega) (by omega) (by omega) (by omega) q1 q2 q3 (by omega)).mono ?_
  rintro e w2 ⟨rfl, b7, r2, wa, ka, kb⟩
  have sz : (w1.alloc (.cells #[.slice (some ⟨g, off, none⟩) n c', .int .i64 half, .int .i64 low, .int .i64 (nx : Int), .slice b' m d'] 26)).heap.size = w1.heap.size + 1 := by simp
  have sk := ka.size
  have b4 := (kb.block _ (by rw [sz] at sk; omega) (by simp; omega)).trans ((ka.block _ (by rw [sz]; omega) (by simp; omega)).trans b4)
  have he := kb.cell (ka.cell he (by simp; omega)) (by simp; omega)
  have o2 := o2.keep2 ka kb (by omega)
  have o1 : OwnI w2 3 g (some ⟨g, off, none⟩) n (zeroAt ws nx kk) := ⟨by rw [zeroAt_len]; exact hwl, .inr ⟨off, rfl, r2⟩⟩
  have G2 := grown_into (grown_into G1 ka (by omega)) kb (by omega)
  clear sz sk W1 HK hk k5 k6 k7 G1 ka kb hrow r2
  generalize w2 = u at *
  generalize e7 : w1.heap.size = p7 at *
  generalize hnx : (nx : Int) + (kk : Int) = nk at *
  obtain ⟨d4, kg⟩ := fill5 (.slice (some ⟨g, off, none⟩) n c') (.int .i64 half) (.int .i64 low) (.int .i64 nk) (.slice b' m d') b4
  have ud := grown_drew (World.grownBy.refl (((((u.setCell ⟨p4, 0, none⟩ (.slice (some ⟨g, off, none⟩) n c')).setCell ⟨p4, 1, none⟩ (.int .i64 half)).setCell ⟨p4, 2, none⟩ (.int .i64 low)).setCell ⟨p4, 3, none⟩ (.int .i64 nk)).setCell ⟨p4, 4, none⟩ (.slice b' m d')) none)
  have FIN : Hid _ := And.intro (grown_trans (grown_into G2 kg (by omega)) ud) (And.intro ((o1.kept kg (by simp; omega)).kept ud (by simp)) (And.intro ((o2.kept kg (by simp; omega)).kept ud (by simp)) (And.intro l3 (And.intro l1 l2))))
  have D4 : Hid _ := (ud.block p4 (lt_of_block d4) (by simp)).trans d4
  have n47 : p4 ≠ p7 := by omega
  obtain ⟨⟨x0, x1, x2, x3, x4⟩, -⟩ := five b7
  obtain ⟨⟨y0, y1, y2, y3, y4⟩, f0, f1, f2, f3, f4⟩ := five b4
  clear b4 b7 o1 o2 G2 ud d4 kg l3 l1 l2 l7 l8 l9
  simp only []
  go_wp2
  go_region_with (first | (go_at_call 24; refine (isNil er _).mono ?_; rintro e w' ⟨rfl, rfl⟩; simp only []))
  all_goals go_wp2
  all_goals (try simp only [Exit.inBlock, Exit.then])
  all_goals (simp only [Act.put, List.setIfInBounds_toArray, List.set_cons_succ, List.set_cons_zero, List.getElem_toArray, List.getElem_cons_succ, List.getElem_cons_zero])
  all_goals (refine bodyPost_ret (results_cell3 (P := Tryd.prog) Tryd.results7 _ _ p4 _ _ _ _ rfl D4.out Tryd.underlying26 rfl (by kernel_rfl)) rfl ?_)
  all_goals (obtain ⟨z1, z2, z3, z4, z5, z6⟩ := FIN.out)
  all_goals subst hnx
  all_goals exact ⟨_, b', c', d', g, g', rfl, z1, z5, z6, z4, z2, z3, nbN.out⟩
end Go.Proofs.YtonmcndedbmbfaaDoor.By
