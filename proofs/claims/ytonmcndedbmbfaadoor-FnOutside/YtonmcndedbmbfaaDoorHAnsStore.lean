/-
  Store, the program's and the specification's, by contracts, for this seat's proofs. No statement is proved here.
-/
import Derived.Test.YtonmcndedbmbfaaDoorHLs
import Derived.Test.YtonmcndedbmbfaaDoorHAns
namespace Go.Proofs.YtonmcndedbmbfaaDoor.By
open Go.RowKit
set_option linter.unusedVariables false
set_option linter.unusedSimpArgs false

theorem LogI.pickStore {w : World} {t : TypeId} {g m d : Nat} {b : Option Addr} {ls : List Int} (h : LogI w t g b m d ls) (r B : Nat) (Pn : Prop) (hB : B ≤ g) (hBs : B ≤ w.heap.size) (hr : Pn ∨ r ≠ g) (hrs : r < w.heap.size) : ∃ g', LogI w t g' b m d ls ∧ B ≤ g' ∧ (Pn ∨ r ≠ g') ∧ g' ≠ w.heap.size := by
  obtain ⟨hl, h⟩ := h
  rcases h with h | ⟨off, cur, hb, hc, q⟩
  · exact ⟨w.heap.size + 1, ⟨hl, .inl h⟩, by omega, .inr (by omega), by omega⟩
  · exact ⟨g, ⟨hl, .inr ⟨off, cur, hb, hc, q⟩⟩, hB, hr, by have := lt_of_block hc; omega⟩

theorem results_cell2 {P : Program} {fn : Func} {p u : Tmp} {ty : TypeId} (h : fn.results = #[.cell p ty, .tmp u]) (tmps : Array Value) (w : World) (g : Nat) (t : TypeId) (cs : Array Value) (fr : Nat × Nat) (d : TypeDesc)
    (hp : tmps.getD p undef = .pointer (some ⟨g, 0, none⟩)) (hg : w.heap[g]? = some (.cells cs t fr))
    (hu : P.underlying ty = some d) (hd : (match d with | .struct _ | .array _ _ => true | _ => false) = true) (hi : (P.info? ty).map (·.size) = some cs.size) :
    (results fn tmps).run P w = .ok (.tuple #[.agg cs, tmps.getD u undef]) w := by
  have hp' : tmps[p]?.getD undef = .pointer (some ⟨g, 0, none⟩) := by simpa using hp
  simp [results, h, hp', asAddr, run_loadVar_row w g t ty cs fr d hg hu hd hi]

set_option maxHeartbeats 2000000 in
theorem implStore0 (n m c d : Nat) (a b : Option Addr) (half low next t o x : Int) (w : World) (hok : okB half n low next m = false) :
    Calls Tryd.prog 12 #[.agg #[.slice a n c, .int .i64 half, .int .i64 low, .int .i64 next, .slice b m d], .int .i64 t, .int .i64 o, .int .i64 x] w fun e w' => e = .returned (.tuple #[.agg #[.slice none 0 0, .int .i64 0, .int .i64 0, .int .i64 0, .slice none 0 0], .bool false]) ∧ w.grownBy w' none := by
  have O := okT w.heap.size n m c d a b half low next
  simp only [hok] at O
  clear hok
  go_enter Tryd.func12, Tryd.ntmps12
  go_wp2_with fail
  refine (O _ (by simp) (by simp) (by simp) (by simp) (by simp)).mono ?_
  rintro e w' ⟨rfl, q, rfl⟩
  clear O
  simp only []
  go_wp2
  go_returns
  exact ⟨rfl, grown_own (grown_own (grown_own (grown_own (grown_own (grown_qN (grown_alloc (grown_alloc (World.grownBy.refl w none) _) _) q) _ (by omega) _ _) _ (by omega) _ _) _ (by omega) _ _) _ (by omega) _ _) _ (by omega) _ _⟩

set_option maxHeartbeats 2000000 in
theorem implStore1 (n m c d : Nat) (a b : Option Addr) (half low next t o x : Int) (ws ls : List Int) (er : Addr) (w : World) (hok : okB half n low next m = true) (hk : inB low next t o = false) (h1 : ReadsI w a n ws) (h2 : ReadsI w b (m * 3) ls) (ha : a = none → c = 0) (hb : b = none → d = 0)
    (he : w.cell? ⟨1, 0, none⟩ = some (.iface 97 (.pointer (some er)))) :
    Calls Tryd.prog 12 #[.agg #[.slice a n c, .int .i64 half, .int .i64 low, .int .i64 next, .slice b m d], .int .i64 t, .int .i64 o, .int .i64 x] w fun e w' => ∃ a' b' c' d' g g', e = .returned (.tuple #[.agg #[.slice a' n c', .int .i64 half, .int .i64 low, .int .i64 next, .slice b' m d'], .bool false]) ∧ w.grownBy w' none ∧ w.heap.size ≤ g ∧ w.heap.size ≤ g' ∧ (n = 0 ∨ m = 0 ∨ g ≠ g') ∧ OwnI w' 3 g a' n ws ∧ OwnI w' 59 g' b' (m * 3) ls := by
  obtain ⟨k1, k2, k3, k4, k5, k6, k7⟩ := okB_out hok
  have O := okT w.heap.size n m c d a b half low next
  simp only [hok] at O
  have hlt0 : 1 < w.heap.size := block_lt_of_cell he
  obtain ⟨bb, bz, bs⟩ := alloc2_blocks w (.cells #[.slice a n c, .int .i64 half, .int .i64 low, .int .i64 next, .slice b m d] 26) (.cells #[.slice none 0 0, .int .i64 0, .int .i64 0, .int .i64 0, .slice none 0 0] 26)
  have g0 := grown_alloc (grown_alloc (World.grownBy.refl w none) (.cells #[.slice a n c, .int .i64 half, .int .i64 low, .int .i64 next, .slice b m d] 26)) (.cells #[.slice none 0 0, .int .i64 0, .int .i64 0, .int .i64 0, .slice none 0 0] 26)
  have H0 : Hid _ := And.intro bb (And.intro bz (And.intro bs (And.intro g0 (And.intro h1 (And.intro h2 he)))))
  have HK : Hid _ := And.intro hk (And.intro k5 (And.intro k6 k7))
  clear hok bb bz bs g0 h1 h2 he hk k5 k6 k7
  go_enter Tryd.func12, Tryd.ntmps12
  go_wp2_with fail
  refine (O _ (by simp) (by simp) (by simp) (by simp) (by simp)).mono ?_
  rintro e w' ⟨rfl, q, rfl⟩
  clear O
  simp only []
  go_wp2_with fail
  obtain ⟨bb0, bz0, bs, g0, h1, h2, he⟩ := H0.out
  have hg := grown_drewN ((w.alloc (.cells #[.slice a n c, .int .i64 half, .int .i64 low, .int .i64 next, .slice b m d] 26)).alloc (.cells #[.slice none 0 0, .int .i64 0, .int .i64 0, .int .i64 0, .slice none 0 0] 26)) q none
  have bb := (hg.block _ (by rw [bs]; omega) (by simp)).trans bb0
  have bz := (hg.block _ (by rw [bs]; omega) (by simp)).trans bz0
  have G0 := grown_trans g0 hg
  have s0 := hg.size
  rw [bs] at s0
  clear H0 g0 hg bs bb0 bz0
  generalize ((w.alloc (.cells #[.slice a n c, .int .i64 half, .int .i64 low, .int .i64 next, .slice b m d] 26)).alloc (.cells #[.slice none 0 0, .int .i64 0, .int .i64 0, .int .i64 0, .slice none 0 0] 26)).drewN q = w' at *
  generalize hp4 : w.heap.size + 1 = p4 at *
  generalize hp2 : w.heap.size = p2 at *
  refine (ownL p2 n m c d a b half low next ws ls w' bb (h1.none G0) (h2.none G0) ha hb (by omega) (by omega)).mono ?_
  rintro e w1 ⟨a', b', c', d', g, g', rfl, hg1, l1, l2, l3, o1, o2, l4⟩
  clear bb
  have bz1 := (hg1.block _ (by omega) (by simp)).trans bz
  have G1 := grown_trans G0 hg1
  have s1 := hg1.size
  have ga := World.grownBy_alloc w1 (.cells #[.slice a' n c', .int .i64 half, .int .i64 low, .int .i64 next, .slice b' m d'] 26) none
  have ba := heap_alloc_new w1 (.cells #[.slice a' n c', .int .i64 half, .int .i64 low, .int .i64 next, .slice b' m d'] 26)
  have W1 : Hid _ := And.intro (grown_trans G1 ga) (And.intro ((ga.block _ (by omega) (by simp)).trans bz1) (And.intro ba (And.intro (o1.kept ga (by simp)) (And.intro (o2.kept ga (by simp)) (And.intro ((grown_trans G1 ga).cell he (by simp)) (And.intro (show n = 0 ∨ g ≠ g' by omega) (And.intro (show p2 ≤ g by omega) (And.intro (show p2 ≤ g' by omega) (And.intro (show p4 < w1.heap.size by omega) (And.intro (show p4 < g by omega) (And.intro (show p4 < g' by omega) (show (w1.alloc (.cells #[.slice a' n c', .int .i64 half, .int .i64 low, .int .i64 next, .slice b' m d'] 26)).heap.size = w1.heap.size + 1 by simp))))))))))))
  clear bz G0 h1 h2 s0 hg1 l1 l2 l3 o1 o2 l4 bz1 G1 s1 ga ba he
  simp only []
  go_wp2_with fail
  obtain ⟨G1, b4, b7, o1, o2, he, l3, l1, l2, l7, l8, l9, sz⟩ := W1.out
  obtain ⟨hk, k5, k6, k7⟩ := HK.out
  obtain ⟨⟨x0, x1, x2, x3, x4⟩, -⟩ := five b7
  refine (storeNo w1.heap.size low next t o x er _ x2 x3 (by omega) (by omega) he hk).mono ?_
  rintro e w2 ⟨rfl, q2, rfl⟩
  have dq := grown_drewN (w1.alloc (.cells #[.slice a' n c', .int .i64 half, .int .i64 low, .int .i64 next, .slice b' m d'] 26)) q2 none
  have b4' := (dq.block _ (by rw [sz]; omega) (by simp)).trans b4
  have b7' := (dq.block _ (by rw [sz]; omega) (by simp)).trans b7
  have he' := dq.cell he (by simp)
  have o1' := o1.kept dq (by simp)
  have o2' := (o2.kept dq (by simp)).own
  have G2 := grown_trans G1 dq
  clear x0 x1 x2 x3 x4 W1 HK hk k5 k6 k7 G1 dq b4 b7 he o1 o2 sz
  generalize (w1.alloc (.cells #[.slice a' n c', .int .i64 half, .int .i64 low, .int .i64 next, .slice b' m d'] 26)).drewN q2 = u at *
  have nd3 : n = 0 ∨ m = 0 ∨ g ≠ g' := by omega
  generalize e7 : w1.heap.size = p7 at *
  obtain ⟨d4, kg⟩ := fill5 (.slice a' n c') (.int .i64 half) (.int .i64 low) (.int .i64 next) (.slice b' m d') b4'
  have ud := grown_drew (World.grownBy.refl (((((u.setCell ⟨p4, 0, none⟩ (.slice a' n c')).setCell ⟨p4, 1, none⟩ (.int .i64 half)).setCell ⟨p4, 2, none⟩ (.int .i64 low)).setCell ⟨p4, 3, none⟩ (.int .i64 next)).setCell ⟨p4, 4, none⟩ (.slice b' m d')) none)
  have FIN : Hid _ := And.intro (grown_trans (grown_into G2 kg (by omega)) ud) (And.intro ((o1'.kept kg (by simp; omega)).kept ud (by simp)) (And.intro ((o2'.kept kg (by simp; omega)).kept ud (by simp)) nd3))
  have D4 : Hid _ := (ud.block p4 (lt_of_block d4) (by simp)).trans d4
  have n47 : p4 ≠ p7 := by omega
  have NN : Hid (p2 ≤ g ∧ p2 ≤ g') := ⟨by omega, by omega⟩
  obtain ⟨⟨x0, x1, x2, x3, x4⟩, -⟩ := five b7'
  obtain ⟨⟨y0, y1, y2, y3, y4⟩, f0, f1, f2, f3, f4⟩ := five b4'
  clear b4' b7' o1' o2' G2 d4 kg l3 l1 l2 l7 l8 l9 nd3 ud
  simp only []
  go_wp2
  go_region_with (first | (go_at_call 24; refine (isSame er _).mono ?_; rintro e w' ⟨rfl, rfl⟩; simp only []))
  all_goals go_wp2
  all_goals (try simp only [Exit.inBlock, Exit.then])
  all_goals (simp only [Act.put, List.setIfInBounds_toArray, List.set_cons_succ, List.set_cons_zero, List.getElem_toArray, List.getElem_cons_succ, List.getElem_cons_zero])
  all_goals (refine bodyPost_ret (results_cell2 (P := Tryd.prog) Tryd.results12 _ _ p4 _ _ _ _ rfl D4.out Tryd.underlying26 rfl (by kernel_rfl)) rfl ?_)
  all_goals (obtain ⟨z1, z2, z3, z4⟩ := FIN.out)
  all_goals exact ⟨_, b', c', d', g, g', rfl, z1, by have := NN.out.1; omega, by have := NN.out.2; omega, z4, z2, z3⟩

set_option maxHeartbeats 2000000 in
theorem implStore2 (n m c d t o : Nat) (a b : Option Addr) (half low next x : Int) (ws ls : List Int) (er : Addr) (w : World) (hok : okB half n low next m = true) (hk : inB low next t o = true) (h1 : ReadsI w a n ws) (h2 : ReadsI w b (m * 3) ls) (ha : a = none → c = 0) (hb : b = none → d = 0)
    (he : w.cell? ⟨1, 0, none⟩ = some (.iface 97 (.pointer (some er)))) :
    Calls Tryd.prog 12 #[.agg #[.slice a n c, .int .i64 half, .int .i64 low, .int .i64 next, .slice b m d], .int .i64 (t : Int), .int .i64 (o : Int), .int .i64 x] w fun e w' => ∃ a' b' c' d' g g', e = .returned (.tuple #[.agg #[.slice a' n c', .int .i64 half, .int .i64 low, .int .i64 next, .slice b' (pushM m) d'], .bool true]) ∧ w.grownBy w' none ∧ w.heap.size ≤ g ∧ w.heap.size ≤ g' ∧ (n = 0 ∨ (pushM m) = 0 ∨ g ≠ g') ∧ OwnI w' 3 g a' n (ws.set (t + o) x) ∧ OwnI w' 59 g' b' ((pushM m) * 3) (pushL m ls ((t : Int) + (o : Int)) low next) := by
  obtain ⟨k1, k2, k3, k4, k5, k6, k7⟩ := okB_out hok
  have O := okT w.heap.size n m c d a b half low next
  simp only [hok] at O
  have hlt0 : 1 < w.heap.size := block_lt_of_cell he
  obtain ⟨bb, bz, bs⟩ := alloc2_blocks w (.cells #[.slice a n c, .int .i64 half, .int .i64 low, .int .i64 next, .slice b m d] 26) (.cells #[.slice none 0 0, .int .i64 0, .int .i64 0, .int .i64 0, .slice none 0 0] 26)
  have g0 := grown_alloc (grown_alloc (World.grownBy.refl w none) (.cells #[.slice a n c, .int .i64 half, .int .i64 low, .int .i64 next, .slice b m d] 26)) (.cells #[.slice none 0 0, .int .i64 0, .int .i64 0, .int .i64 0, .slice none 0 0] 26)
  have H0 : Hid _ := And.intro bb (And.intro bz (And.intro bs (And.intro g0 (And.intro h1 (And.intro h2 he)))))
  have HK : Hid _ := And.intro hk (And.intro k5 (And.intro k6 k7))
  clear hok bb bz bs g0 h1 h2 he hk k5 k6 k7
  go_enter Tryd.func12, Tryd.ntmps12
  go_wp2_with fail
  refine (O _ (by simp) (by simp) (by simp) (by simp) (by simp)).mono ?_
  rintro e w' ⟨rfl, q, rfl⟩
  clear O
  simp only []
  go_wp2_with fail
  obtain ⟨bb0, bz0, bs, g0, h1, h2, he⟩ := H0.out
  have hg := grown_drewN ((w.alloc (.cells #[.slice a n c, .int .i64 half, .int .i64 low, .int .i64 next, .slice b m d] 26)).alloc (.cells #[.slice none 0 0, .int .i64 0, .int .i64 0, .int .i64 0, .slice none 0 0] 26)) q none
  have bb := (hg.block _ (by rw [bs]; omega) (by simp)).trans bb0
  have bz := (hg.block _ (by rw [bs]; omega) (by simp)).trans bz0
  have G0 := grown_trans g0 hg
  have s0 := hg.size
  rw [bs] at s0
  clear H0 g0 hg bs bb0 bz0
  generalize ((w.alloc (.cells #[.slice a n c, .int .i64 half, .int .i64 low, .int .i64 next, .slice b m d] 26)).alloc (.cells #[.slice none 0 0, .int .i64 0, .int .i64 0, .int .i64 0, .slice none 0 0] 26)).drewN q = w' at *
  generalize hp4 : w.heap.size + 1 = p4 at *
  generalize hp2 : w.heap.size = p2 at *
  refine (ownL p2 n m c d a b half low next ws ls w' bb (h1.none G0) (h2.none G0) ha hb (by omega) (by omega)).mono ?_
  rintro e w1 ⟨a', b', c', d', g, g', rfl, hg1, l1, l2, l3, o1, o2, l4⟩
  clear bb
  obtain ⟨off, rfl, hrow⟩ : ∃ off, a' = some ⟨g, off, none⟩ ∧ RowAt w1 3 g off ws := by
    rcases o1.2 with h0 | h0
    · omega
    · exact h0
  have hglt := hrow.lt
  have hwl := o1.1
  obtain ⟨gn, o2n, l2n, l3n, l5⟩ := o2.pickStore g _ (n = 0) l2 hg1.size l3 hglt
  clear o2 l2 l3
  clear g'
  rename Nat => g'
  have o2 := o2n
  have l2 := l2n
  have l3 := l3n
  clear o2n l2n l3n
  have bz1 := (hg1.block _ (by omega) (by simp)).trans bz
  have G1 := grown_trans G0 hg1
  have s1 := hg1.size
  have ga := World.grownBy_alloc w1 (.cells #[.slice (some ⟨g, off, none⟩) n c', .int .i64 half, .int .i64 low, .int .i64 next, .slice b' m d'] 26) none
  have ba := heap_alloc_new w1 (.cells #[.slice (some ⟨g, off, none⟩) n c', .int .i64 half, .int .i64 low, .int .i64 next, .slice b' m d'] 26)
  have W1 : Hid _ := And.intro (grown_trans G1 ga) (And.intro ((ga.block _ (by omega) (by simp)).trans bz1) (And.intro ba (And.intro (hrow.kept ga (by simp)) (And.intro (o2.kept ga (by simp)) (And.intro ((grown_trans G1 ga).cell he (by simp)) (And.intro (show n = 0 ∨ g ≠ g' by omega) (And.intro (show p2 ≤ g by omega) (And.intro (show p2 ≤ g' by omega) (And.intro (show p4 < w1.heap.size by omega) (And.intro (show p4 < g by omega) (And.intro (show p4 < g' by omega) (show (w1.alloc (.cells #[.slice (some ⟨g, off, none⟩) n c', .int .i64 half, .int .i64 low, .int .i64 next, .slice b' m d'] 26)).heap.size = w1.heap.size + 1 by simp))))))))))))
  have N1 : Hid (g < w1.heap.size ∧ ws.length = n ∧ g' ≠ w1.heap.size) := ⟨hglt, hwl, l5⟩
  clear bz G0 h1 h2 s0 hg1 l1 l2 l3 o1 o2 l4 bz1 G1 s1 ga ba he hrow hglt hwl l5
  simp only []
  go_wp2_with fail
  obtain ⟨G1, b4, b7, hrow, o2, he, l3, l1, l2, l7, l8, l9, sz⟩ := W1.out
  obtain ⟨hk, k5, k6, k7⟩ := HK.out
  obtain ⟨hglt, hwl, hg'lt⟩ := N1.out
  obtain ⟨kk1, kk2, kk3, kk4⟩ := inB_out hk
  refine (storeYes w1.heap.size n m c' d' g g' off t o b' half low next x ws ls _ b7 o2 hrow hwl (by omega) (by omega) (by omega) (by omega) (by omega) (by omega) hk (by omega)).mono ?_
  rintro e w2 ⟨rfl, b'', d'', g'', b7', o2'', r2, hg2, wm, T, km⟩
  have sT := T.1
  have b4' := (km.block p4 (by omega) (by simp; omega)).trans ((T.2.2.2.2 p4 (by omega) (by omega) (by omega)).trans b4)
  have he' := km.cell (T.cell he (by show 1 ≠ _; omega) (by show 1 ≠ _; omega)) (by simp; omega)
  have G2 := grown_into (T.grown G1 (by omega) (by omega)) km (by omega)
  have o1' : OwnI w2 3 g (some ⟨g, off, none⟩) n (ws.set (t + o) x) := ⟨by rw [List.length_set]; exact hwl, .inr ⟨off, rfl, r2⟩⟩
  have o2' := o2''.own
  have nd3 : n = 0 ∨ pushM m = 0 ∨ g ≠ g'' := by omega
  have nd4 : p2 ≤ g'' := by omega
  have nd5 : p4 < g'' := by omega
  clear W1 N1 HK hk k5 k6 k7 G1 T km hrow r2 b4 b7 he o2 o2'' sz kk1 kk2 kk3 kk4 sT
  generalize w2 = u at *
  generalize hpm : pushM m = pm at *
  generalize e7 : w1.heap.size = p7 at *
  obtain ⟨d4, kg⟩ := fill5 (.slice (some ⟨g, off, none⟩) n c') (.int .i64 half) (.int .i64 low) (.int .i64 next) (.slice b'' pm d'') b4'
  have ud := grown_drew (World.grownBy.refl (((((u.setCell ⟨p4, 0, none⟩ (.slice (some ⟨g, off, none⟩) n c')).setCell ⟨p4, 1, none⟩ (.int .i64 half)).setCell ⟨p4, 2, none⟩ (.int .i64 low)).setCell ⟨p4, 3, none⟩ (.int .i64 next)).setCell ⟨p4, 4, none⟩ (.slice b'' pm d'')) none)
  have FIN : Hid _ := And.intro (grown_trans (grown_into G2 kg (by omega)) ud) (And.intro ((o1'.kept kg (by simp; omega)).kept ud (by simp)) (And.intro ((o2'.kept kg (by simp; omega)).kept ud (by simp)) nd3))
  have D4 : Hid _ := (ud.block p4 (lt_of_block d4) (by simp)).trans d4
  have n47 : p4 ≠ p7 := by omega
  have NN : Hid (p2 ≤ g ∧ p2 ≤ g'') := ⟨by omega, by omega⟩
  obtain ⟨⟨x0, x1, x2, x3, x4⟩, -⟩ := five b7'
  obtain ⟨⟨y0, y1, y2, y3, y4⟩, f0, f1, f2, f3, f4⟩ := five b4'
  clear b4' b7' o1' o2' G2 d4 kg l3 l1 l2 l7 l8 l9 nd3 ud nd4 nd5
  simp only []
  go_wp2
  go_region_with (first | (go_at_call 24; refine (isNil er _).mono ?_; rintro e w' ⟨rfl, rfl⟩; simp only []))
  all_goals go_wp2
  all_goals (try simp only [Exit.inBlock, Exit.then])
  all_goals (simp only [Act.put, List.setIfInBounds_toArray, List.set_cons_succ, List.set_cons_zero, List.getElem_toArray, List.getElem_cons_succ, List.getElem_cons_zero])
  all_goals (refine bodyPost_ret (results_cell2 (P := Tryd.prog) Tryd.results12 _ _ p4 _ _ _ _ rfl D4.out Tryd.underlying26 rfl (by kernel_rfl)) rfl ?_)
  all_goals (obtain ⟨z1, z2, z3, z4⟩ := FIN.out)
  all_goals subst hpm
  all_goals exact ⟨_, b'', c', d'', g, g'', rfl, z1, by have := NN.out.1; omega, by have := NN.out.2; omega, z4, z2, z3⟩

end Go.Proofs.YtonmcndedbmbfaaDoor.By
