/-
  The contracts of load and store and of the specification's l2in, l2load, l2store, for this seat's proofs. No statement is proved here.
-/
import Derived.Test.YtonmcndedbmbfaaDoorHTouch
namespace Go.Proofs.YtonmcndedbmbfaaDoor.By
open Go.RowKit
set_option linter.unusedVariables false
set_option linter.unusedSimpArgs false

set_option maxHeartbeats 2000000 in
theorem loadNo (p : Nat) (low next t o : Int) (er : Addr) (w : World) (c2 : w.cell? ⟨p, 2, none⟩ = some (.int .i64 low)) (c3 : w.cell? ⟨p, 3, none⟩ = some (.int .i64 next)) (b2 : 0 ≤ low) (b5 : next ≤ 8192)
    (he : w.cell? ⟨1, 0, none⟩ = some (.iface 97 (.pointer (some er)))) (h : inB low next t o = false) :
    Calls Tryd.prog 27 #[.pointer (some ⟨p, 0, none⟩), .int .i64 t, .int .i64 o] w fun e w' => e = .returned (.tuple #[.int .i64 0, .iface 97 (.pointer (some er))]) ∧ ∃ q, w' = w.drewN q := by
  have H : Hid _ := touchNo p low next t o er w c2 c3 b2 b5 he h
  clear c2 c3 he h
  go_enter Tryd.func27, Tryd.ntmps27
  go_wp2_with fail
  refine Calls.mono H.out ?_
  rintro e u ⟨rfl, q, rfl⟩
  clear H
  simp only []
  go_wp2
  go_ret2
  exact ⟨rfl, q, rfl⟩

set_option maxHeartbeats 2000000 in
theorem storeNo (p : Nat) (low next t o x : Int) (er : Addr) (w : World) (c2 : w.cell? ⟨p, 2, none⟩ = some (.int .i64 low)) (c3 : w.cell? ⟨p, 3, none⟩ = some (.int .i64 next)) (b2 : 0 ≤ low) (b5 : next ≤ 8192)
    (he : w.cell? ⟨1, 0, none⟩ = some (.iface 97 (.pointer (some er)))) (h : inB low next t o = false) :
    Calls Tryd.prog 26 #[.pointer (some ⟨p, 0, none⟩), .int .i64 t, .int .i64 o, .int .i64 x] w fun e w' => e = .returned (.iface 97 (.pointer (some er))) ∧ ∃ q, w' = w.drewN q := by
  have H : Hid _ := touchNo p low next t o er w c2 c3 b2 b5 he h
  clear c2 c3 he h
  go_enter Tryd.func26, Tryd.ntmps26
  go_wp2_with fail
  refine Calls.mono H.out ?_
  rintro e u ⟨rfl, q, rfl⟩
  clear H
  simp only []
  go_wp2
  go_ret
  exact ⟨rfl, q, rfl⟩

set_option maxHeartbeats 2000000 in
theorem loadYes (p n m c d g g' off t o : Nat) (b : Option Addr) (half low next : Int) (ws ls : List Int) (w : World) (hp : w.heap[p]? = some (.cells #[.slice (some ⟨g, off, none⟩) n c, .int .i64 half, .int .i64 low, .int .i64 next, .slice b m d] 26 (0, 0))) (hl : LogI w 59 g' b m d ls) (hr : RowAt w 3 g off ws) (hwl : ws.length = n) (hm : m ≤ 4000) (hgp : g' ≠ p) (hg1 : g ≠ p) (hg2 : g ≠ g')
    (b2 : 0 ≤ low) (b5 : next ≤ 8192) (h : inB low next t o = true) (hn : t + o < n) :
    Calls Tryd.prog 27 #[.pointer (some ⟨p, 0, none⟩), .int .i64 (t : Int), .int .i64 (o : Int)] w fun e w' => e = .returned (.tuple #[.int .i64 (ws.getD (t + o) 0), .nilIface]) ∧ ∃ b' d' g'', w'.heap[p]? = some (.cells #[.slice (some ⟨g, off, none⟩) n c, .int .i64 half, .int .i64 low, .int .i64 next, .slice b' (pushM m) d'] 26 (0, 0)) ∧ LogI w' 59 g'' b' (pushM m) d' (pushL m ls ((t : Int) + (o : Int)) low next) ∧ RowAt w' 3 g off ws ∧ (g'' = g' ∨ w.heap.size ≤ g'') ∧ Turns w w' p g' := by
  have H : Hid _ := touchYes p n m c d g g' off t o b half low next ls w hp hl hm hgp b2 b5 h hn
  have HR : Hid _ := hr
  clear hp hl hr h
  go_enter Tryd.func27, Tryd.ntmps27
  go_wp2_with fail
  refine Calls.mono H.out ?_
  rintro e u ⟨rfl, b', d', g'', hp', hl', hg'', T⟩
  have hr := T.row HR.out hg1 hg2
  have cl := hr.cell (t + o) (by omega)
  have FIN : Hid _ := And.intro hp' (And.intro hl' (And.intro hr (And.intro hg'' T)))
  obtain ⟨v, hv⟩ : ∃ v, ws.getD (t + o) 0 = v := ⟨_, rfl⟩
  rw [hv] at cl
  have HV : Hid _ := hv
  clear H HR hp' hl' hr hg'' T hv
  simp only []
  go_wp2
  go_ret2
  exact ⟨by rw [HV.out]; rfl, b', d', g'', FIN.out⟩

set_option maxHeartbeats 2000000 in
theorem storeYes (p n m c d g g' off t o : Nat) (b : Option Addr) (half low next x : Int) (ws ls : List Int) (w : World) (hp : w.heap[p]? = some (.cells #[.slice (some ⟨g, off, none⟩) n c, .int .i64 half, .int .i64 low, .int .i64 next, .slice b m d] 26 (0, 0))) (hl : LogI w 59 g' b m d ls) (hr : RowAt w 3 g off ws) (hwl : ws.length = n) (hm : m ≤ 4000) (hgp : g' ≠ p) (hg1 : g ≠ p) (hg2 : g ≠ g')
    (b2 : 0 ≤ low) (b5 : next ≤ 8192) (h : inB low next t o = true) (hn : t + o < n) :
    Calls Tryd.prog 26 #[.pointer (some ⟨p, 0, none⟩), .int .i64 (t : Int), .int .i64 (o : Int), .int .i64 x] w fun e w' => e = .returned .nilIface ∧ ∃ b' d' g'', w'.heap[p]? = some (.cells #[.slice (some ⟨g, off, none⟩) n c, .int .i64 half, .int .i64 low, .int .i64 next, .slice b' (pushM m) d'] 26 (0, 0)) ∧ LogI w' 59 g'' b' (pushM m) d' (pushL m ls ((t : Int) + (o : Int)) low next) ∧ RowAt w' 3 g off (ws.set (t + o) x) ∧ (g'' = g' ∨ w.heap.size ≤ g'') ∧ ∃ w1, Turns w w1 p g' ∧ w1.grownBy w' (some g) := by
  have H : Hid _ := touchYes p n m c d g g' off t o b half low next ls w hp hl hm hgp b2 b5 h hn
  have HR : Hid _ := And.intro hr (show g < w.heap.size ∧ p < w.heap.size from ⟨hr.lt, lt_of_block hp⟩)
  clear hp hl hr h
  go_enter Tryd.func26, Tryd.ntmps26
  go_wp2_with fail
  refine Calls.mono H.out ?_
  rintro e u ⟨rfl, b', d', g'', hp', hl', hg'', T⟩
  obtain ⟨hr0, lt1, lt2⟩ := HR.out
  have hr := T.row hr0 hg1 hg2
  have cl := hr.cell (t + o) (by omega)
  have fr := hr.free (off + (t + o))
  have kg := grown_setCell u g (off + (t + o)) (.int .i64 x)
  have FIN : Hid _ := And.intro ((kg.block p (lt_of_block hp') (by simp; omega)).trans hp') (And.intro (hl'.kept kg (by simp; omega)) (And.intro (hr.store (t + o) x) (And.intro hg'' (And.intro T kg))))
  obtain ⟨v, hv⟩ : ∃ v, ws.getD (t + o) 0 = v := ⟨_, rfl⟩
  rw [hv] at cl
  clear H HR hp' hl' hr hr0 hg'' T kg lt1 lt2 hv
  simp only []
  go_wp2
  go_ret
  obtain ⟨y1, y2, y3, y4, y5, y6⟩ := FIN.out
  exact ⟨rfl, b', d', g'', y1, y2, y3, y4, u, y5, y6⟩

set_option maxHeartbeats 2000000 in
theorem linT (p : Nat) (low next t o : Int) (w : World) (c2 : w.cell? ⟨p, 2, none⟩ = some (.int .i64 low)) (c3 : w.cell? ⟨p, 3, none⟩ = some (.int .i64 next)) (b2 : 0 ≤ low) (b5 : next ≤ 8192) :
    Calls Tryd.prog 46 #[.pointer (some ⟨p, 0, none⟩), .int .i64 t, .int .i64 o] w fun e w' => e = .returned (.bool (inB low next t o)) ∧ w' = w := by
  by_cases k1 : low ≤ t
  rotate_left
  · have E : inB low next t o = false := by simp [inB, k1]
    rw [E]; clear E
    have q1 : t < low := by omega
    clear k1
    go_enter Tryd.func46, Tryd.ntmps46
    go_wp2
    go_ret
    exact ⟨by first | rfl | (simp; omega), rfl⟩
  by_cases k2 : t < next
  rotate_left
  · have E : inB low next t o = false := by simp [inB, k2]
    rw [E]; clear E
    have q2 : next ≤ t := by omega
    clear k2
    go_enter Tryd.func46, Tryd.ntmps46
    go_wp2
    go_ret
    exact ⟨by first | rfl | (simp; omega), rfl⟩
  by_cases k3 : 0 ≤ o
  rotate_left
  · have E : inB low next t o = false := by simp [inB, k3]
    rw [E]; clear E
    have q3 : o < 0 := by omega
    clear k3
    go_enter Tryd.func46, Tryd.ntmps46
    go_wp2
    go_ret
    exact ⟨by first | rfl | (simp; omega), rfl⟩
  have E : inB low next t o = decide (o < next - t) := by simp [inB, k1, k2, k3]
  rw [E]; clear E
  have e1 : IntKind.i64.wrap (next - t) = next - t := IntWalk.i64_in _ (by omega)
  go_enter Tryd.func46, Tryd.ntmps46
  go_wp2
  go_ret
  exact ⟨by first | rfl | simp, rfl⟩

set_option maxHeartbeats 2000000 in
theorem sstoreNo (p : Nat) (low next t o x : Int) (w : World) (c2 : w.cell? ⟨p, 2, none⟩ = some (.int .i64 low)) (c3 : w.cell? ⟨p, 3, none⟩ = some (.int .i64 next)) (b2 : 0 ≤ low) (b5 : next ≤ 8192) (h : inB low next t o = false) :
    Calls Tryd.prog 35 #[.pointer (some ⟨p, 0, none⟩), .int .i64 t, .int .i64 o, .int .i64 x] w fun e w' => e = .returned (.bool false) ∧ w' = w := by
  have H := linT p low next t o w c2 c3 b2 b5
  rw [h] at H
  have H : Hid _ := H
  clear c2 c3 h
  go_enter Tryd.func35, Tryd.ntmps35
  go_wp2_with fail
  refine Calls.mono H.out ?_
  rintro e u ⟨rfl, rfl⟩
  clear H
  simp only []
  go_wp2
  go_ret
  exact ⟨rfl, rfl⟩

set_option maxHeartbeats 2000000 in
theorem sstoreYes (p n m c d g g' off t o : Nat) (b : Option Addr) (half low next x : Int) (ws ls : List Int) (w : World) (hp : w.heap[p]? = some (.cells #[.slice (some ⟨g, off, none⟩) n c, .int .i64 half, .int .i64 low, .int .i64 next, .slice b m d] 26 (0, 0))) (hl : LogI w 59 g' b m d ls) (hr : RowAt w 3 g off ws) (hwl : ws.length = n) (hm : m ≤ 4000) (hgp : g' ≠ p) (hg1 : g ≠ p) (hg2 : g ≠ g')
    (b2 : 0 ≤ low) (b5 : next ≤ 8192) (h : inB low next t o = true) (hn : t + o < n) :
    Calls Tryd.prog 35 #[.pointer (some ⟨p, 0, none⟩), .int .i64 (t : Int), .int .i64 (o : Int), .int .i64 x] w fun e w' => e = .returned (.bool true) ∧ ∃ b' d' g'', w'.heap[p]? = some (.cells #[.slice (some ⟨g, off, none⟩) n c, .int .i64 half, .int .i64 low, .int .i64 next, .slice b' (pushM m) d'] 26 (0, 0)) ∧ LogI w' 59 g'' b' (pushM m) d' (pushL m ls ((t : Int) + (o : Int)) low next) ∧ RowAt w' 3 g off (ws.set (t + o) x) ∧ (g'' = g' ∨ w.heap.size ≤ g'') ∧ ∃ w1, Turns w w1 p g' ∧ w1.grownBy w' (some g) := by
  obtain ⟨⟨v0, v1, v2, v3, v4⟩, -⟩ := five hp
  have H1 := linT p low next t o w v2 v3 b2 b5
  rw [h] at H1
  have H1 : Hid _ := H1
  obtain ⟨k1, k2, k3, k4⟩ := inB_out h
  have H2 : Hid _ := slogT p n m c d g' (some ⟨g, off, none⟩) b half low next ((t : Int) + (o : Int)) ls w hp hl hm hgp
  have HR : Hid _ := hr
  clear hp hl hr h v0 v1 v2 v3 v4
  go_enter Tryd.func35, Tryd.ntmps35
  go_wp2_with fail
  refine Calls.mono H1.out ?_
  rintro e u0 ⟨rfl, rfl⟩
  clear H1
  simp only []
  go_wp2_with fail
  refine Calls.mono H2.out ?_
  rintro e u ⟨rfl, b', d', g'', hp', hl', hg'', T⟩
  have hr := T.row HR.out hg1 hg2
  have cl := hr.cell (t + o) (by omega)
  have fr := hr.free (off + (t + o))
  have kg := grown_setCell u g (off + (t + o)) (.int .i64 x)
  have ltg := RowAt.lt HR.out
  have FIN : Hid _ := And.intro ((kg.block p (lt_of_block hp') (by simp; omega)).trans hp') (And.intro (hl'.kept kg (by simp; omega)) (And.intro (hr.store (t + o) x) (And.intro hg'' (And.intro T kg))))
  obtain ⟨⟨v0, v1, v2, v3, v4⟩, -⟩ := five hp'
  obtain ⟨v, hv⟩ : ∃ v, ws.getD (t + o) 0 = v := ⟨_, rfl⟩
  rw [hv] at cl
  have i1 : (t : Int) + (o : Int) < (n : Int) := by omega
  have i2 : ((t : Int) + (o : Int)).toNat = t + o := by omega
  clear H2 HR hp' hl' hr hg'' T hv kg ltg
  simp only []
  go_wp2
  go_ret
  obtain ⟨y1, y2, y3, y4, y5, y6⟩ := FIN.out
  exact ⟨rfl, b', d', g'', y1, y2, y3, y4, u, y5, y6⟩
end Go.Proofs.YtonmcndedbmbfaaDoor.By
