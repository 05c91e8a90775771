/-
  Contracts of LogInside, the program's and the specification's, for this seat's proofs. No statement is proved here.
-/
import Derived.Test.YtonmcndedbmbfaaDoorHRoom
namespace Go.Proofs.YtonmcndedbmbfaaDoor.By
open Go.RowKit
set_option linter.unusedVariables false

/-- Whether an access (x, y, z) strays from a heap of that half. -/
def strayB (half x y z : Int) : Bool := !(decide (y = 0) || decide (y = half)) || decide (y + half < z) || decide (x < y) || decide (z ≤ x)
/-- Whether of the first m accesses none strays. -/
def insideB (half : Int) (ls : List Int) (m : Nat) : Bool := (List.range m).all fun k => !strayB half (ls.getD (k * 3) 0) (ls.getD (k * 3 + 1) 0) (ls.getD (k * 3 + 2) 0)
theorem insideB_true {half : Int} {ls : List Int} {m : Nat} (h : ∀ k, k < m → strayB half (ls.getD (k * 3) 0) (ls.getD (k * 3 + 1) 0) (ls.getD (k * 3 + 2) 0) = false) : insideB half ls m = true := by
  simp only [insideB, List.all_eq_true, List.mem_range]
  intro k hk; rw [h k hk]; rfl
theorem insideB_false {half : Int} {ls : List Int} {m : Nat} (k : Nat) (hk : k < m) (h : strayB half (ls.getD (k * 3) 0) (ls.getD (k * 3 + 1) 0) (ls.getD (k * 3 + 2) 0) = true) : insideB half ls m = false := by
  cases e : insideB half ls m with
  | false => rfl
  | true =>
    simp only [insideB, List.all_eq_true, List.mem_range] at e
    have := e k hk
    rw [h] at this; cases this

set_option maxHeartbeats 1000000 in
theorem straysT (p : Nat) (half x y z : Int) (w : World) (hp : p < w.heap.size) (c1 : w.cell? ⟨p, 1, none⟩ = some (.int .i64 half)) (h0 : 0 ≤ half) (h1 : half ≤ 4096) :
    Calls Tryd.prog 31 #[.pointer (some ⟨p, 0, none⟩), .agg #[.int .i64 x, .int .i64 y, .int .i64 z]] w fun e w' => e = .returned (.bool (strayB half x y z)) ∧ w.grownBy w' none := by
  have c1' : ∀ (o : Obj), (w.alloc o).cell? ⟨p, 1, none⟩ = some (.int .i64 half) := fun o => by rw [World.cell?_alloc_past o p 1 hp]; exact c1
  by_cases a1 : y = 0 ∨ y = half
  rotate_left
  · have E : Hid (strayB half x y z = true) := by
      show strayB half x y z = true
      simp only [not_or] at a1; simp [strayB, a1.1, a1.2]
    have HI := isLowT p half y
    have hI : (decide (y = 0) || decide (y = half)) = false := by simp only [not_or] at a1; simp [a1.1, a1.2]
    simp only [hI] at HI
    clear hI a1
    go_enter Tryd.func31, Tryd.ntmps31
    go_wp2
    go_quiet (first | (go_at_call 37; refine Calls.quiet_of_same (HI _ ?_); simp [c1']; done) | (go_at_call 37; refine Calls.quiet_of_same (HI _ ?_); simpa using c1' _))
    go_wp2
    go_ret
    exact ⟨by rw [E.out]; rfl, grown_qN (World.grownBy_alloc _ _ _) _⟩
  have HI := isLowT p half y
  have hI : (decide (y = 0) || decide (y = half)) = true := by simpa using a1
  simp only [hI] at HI
  have hy : 0 ≤ y ∧ y ≤ 4096 := by omega
  obtain ⟨y0, y1⟩ := hy
  have hw : IntKind.i64.wrap (y + half) = y + half := IntWalk.i64_in _ (by omega)
  have EE : strayB half x y z = (decide (y + half < z) || decide (x < y) || decide (z ≤ x)) := by
    simp only [strayB, hI]; simp
  have EH : Hid (strayB half x y z = (decide (y + half < z) || decide (x < y) || decide (z ≤ x))) := EE
  clear hI a1 EE
  by_cases a2 : y + half < z
  · have E : Hid (strayB half x y z = true) := by
      show strayB half x y z = true
      rw [EH.out]; simp [a2]
    go_enter Tryd.func31, Tryd.ntmps31
    go_wp2
    go_quiet (first | (go_at_call 37; refine Calls.quiet_of_same (HI _ ?_); simp [c1']; done) | (go_at_call 37; refine Calls.quiet_of_same (HI _ ?_); simpa using c1' _))
    go_wp2
    go_ret
    exact ⟨by rw [E.out]; rfl, grown_qN (World.grownBy_alloc _ _ _) _⟩
  have k2 : decide (y + half < z) = false := by simp; omega
  have N2 : Hid (¬ y + half < z) := a2
  clear a2
  by_cases a3 : x < y
  · have E : Hid (strayB half x y z = true) := by
      show strayB half x y z = true
      rw [EH.out]; simp [a3]
    go_enter Tryd.func31, Tryd.ntmps31
    go_wp2
    go_quiet (first | (go_at_call 37; refine Calls.quiet_of_same (HI _ ?_); simp [c1']; done) | (go_at_call 37; refine Calls.quiet_of_same (HI _ ?_); simpa using c1' _))
    go_wp2
    go_ret
    exact ⟨by rw [E.out]; rfl, grown_qN (World.grownBy_alloc _ _ _) _⟩
  have k3 : decide (x < y) = false := by simp; omega
  have N3 : Hid (¬ x < y) := a3
  clear a3
  by_cases a4 : z ≤ x
  · have E : Hid (strayB half x y z = true) := by
      show strayB half x y z = true
      rw [EH.out]; simp [a4]
    go_enter Tryd.func31, Tryd.ntmps31
    go_wp2
    go_quiet (first | (go_at_call 37; refine Calls.quiet_of_same (HI _ ?_); simp [c1']; done) | (go_at_call 37; refine Calls.quiet_of_same (HI _ ?_); simpa using c1' _))
    go_wp2
    go_ret
    exact ⟨by rw [E.out]; rfl, grown_qN (World.grownBy_alloc _ _ _) _⟩
  · have E : Hid (strayB half x y z = false) := by
      show strayB half x y z = false
      rw [EH.out]; simp only [k2, k3]; simp [a4]
    have k4 : decide (z ≤ x) = false := by simp; omega
    clear a4
    go_enter Tryd.func31, Tryd.ntmps31
    go_wp2
    go_quiet (first | (go_at_call 37; refine Calls.quiet_of_same (HI _ ?_); simp [c1']; done) | (go_at_call 37; refine Calls.quiet_of_same (HI _ ?_); simpa using c1' _))
    go_wp2
    go_ret
    exact ⟨by rw [E.out]; rfl, grown_qN (World.grownBy_alloc _ _ _) _⟩

set_option maxHeartbeats 2000000 in
theorem indexT (p m d : Nat) (b : Option Addr) (half : Int) (ls : List Int) (w : World) (h2 : ReadsI w b (m * 3) ls) (hm : m ≤ 1048576) (hp : p < w.heap.size) (c1 : w.cell? ⟨p, 1, none⟩ = some (.int .i64 half)) (h0 : 0 ≤ half) (h1 : half ≤ 4096) :
    Calls Tryd.prog 44 #[.slice b m d, .func (Fn.func 31) #[.pointer (some ⟨p, 0, none⟩)] #[]] w fun e w' => ∃ i : Int, e = .returned (.int .i64 i) ∧ decide (0 ≤ i) = (!insideB half ls m) ∧ w.grownBy w' none := by
  obtain ⟨hl, h2⟩ := h2
  by_cases hm0 : m = 0
  · subst hm0
    clear h2
    go_enter Tryd.func44, Tryd.ntmps44
    go_wp2
    refine wp_loop_rounds 1 ?_
    rw [rounds_succ]
    go_wp2
    go_ret
    exact ⟨-1, rfl, by simp [insideB], World.grownBy.refl _ _⟩
  rcases h2 with h2 | ⟨b, off, rfl, hc⟩
  · exact absurd h2 (by omega)
  go_enter Tryd.func44, Tryd.ntmps44
  go_wp2
  go_loopw [8] (fun v wr => ∃ k : Nat, k ≤ m ∧ v = .int .i64 k ∧ w.grownBy wr none ∧ ∀ j, j < k → strayB half (ls.getD (j * 3) 0) (ls.getD (j * 3 + 1) 0) (ls.getD (j * 3 + 2) 0) = false) (fun v _ => m - (intOf v).toNat)
  case atStart => exact ⟨0, Nat.zero_le _, rfl, World.grownBy.refl _ _, fun j hj => by omega⟩
  case round =>
    obtain ⟨k, hk, rfl, hg, hall⟩ := hrel
    by_cases hlt : k < m
    · obtain ⟨x0, x1, x2⟩ := threeC hc k hlt
      have x0 := hg.cell x0 (by simp)
      have x1 := hg.cell x1 (by simp)
      have x2 := hg.cell x2 (by simp)
      have HC : Hid _ := And.intro hg (And.intro hall (And.intro (hg.cell c1 (by simp)) (Nat.lt_of_lt_of_le hp hg.size)))
      have HL : Hid (ls.length = m * 3) := hl
      have HK : Hid (∀ i, i < m * 3 → w.cell? ⟨b, off + i, none⟩ = some (.int .i64 (ls.getD i 0))) := hc
      clear hg hall hc hl c1 hp
      have hx : strayB half (ls.getD (k * 3) 0) (ls.getD (k * 3 + 1) 0) (ls.getD (k * 3 + 2) 0) = true ∨ strayB half (ls.getD (k * 3) 0) (ls.getD (k * 3 + 1) 0) (ls.getD (k * 3 + 2) 0) = false := by
        cases strayB half (ls.getD (k * 3) 0) (ls.getD (k * 3 + 1) 0) (ls.getD (k * 3 + 2) 0) <;> simp
      rcases hx with hx | hx
      · have HF : Hid (insideB half ls m = false) := insideB_false k hlt hx
        have S := straysT p half (ls.getD (k * 3) 0) (ls.getD (k * 3 + 1) 0) (ls.getD (k * 3 + 2) 0) wr HC.out.2.2.2 HC.out.2.2.1 h0 h1
        rw [hx] at S
        have HS : Hid _ := S
        clear S hx
        generalize ls.getD (k * 3) 0 = q0 at *
        generalize ls.getD (k * 3 + 1) 0 = q1 at *
        generalize ls.getD (k * 3 + 2) 0 = q2 at *
        go_wp2_with fail
        refine Calls.mono HS.out ?_
        rintro e w1 ⟨rfl, hg1⟩
        have FIN : Hid (w.grownBy w1 none) := grown_trans HC.out.1 hg1
        clear hg1 HS
        simp only []
        go_wp2
        go_ret
        exact ⟨k, rfl, by rw [HF.out]; simp, FIN.out⟩
      · have HA : Hid (∀ j, j < k + 1 → strayB half (ls.getD (j * 3) 0) (ls.getD (j * 3 + 1) 0) (ls.getD (j * 3 + 2) 0) = false) := by
          intro j hj
          by_cases e : j = k
          · subst e; exact hx
          · exact HC.out.2.1 j (by omega)
        have S := straysT p half (ls.getD (k * 3) 0) (ls.getD (k * 3 + 1) 0) (ls.getD (k * 3 + 2) 0) wr HC.out.2.2.2 HC.out.2.2.1 h0 h1
        rw [hx] at S
        have HS : Hid _ := S
        clear S hx
        generalize ls.getD (k * 3) 0 = q0 at *
        generalize ls.getD (k * 3 + 1) 0 = q1 at *
        generalize ls.getD (k * 3 + 2) 0 = q2 at *
        go_wp2_with fail
        refine Calls.mono HS.out ?_
        rintro e w1 ⟨rfl, hg1⟩
        have FIN : Hid (w.grownBy w1 none) := grown_trans HC.out.1 hg1
        clear hg1 HS
        simp only []
        go_wp2
        go_roundw
        case rel => exact ⟨k + 1, by omega, by go_num, FIN.out, HA.out⟩
        case measure => simp [intOf]; omega
    · obtain rfl : k = m := by omega
      have HF : Hid (insideB half ls k = true) := insideB_true hall
      clear hall
      go_wp2
      go_ret
      exact ⟨-1, rfl, by rw [HF.out]; simp, hg⟩

set_option maxHeartbeats 1000000 in
theorem containsT (p m d : Nat) (b : Option Addr) (half : Int) (ls : List Int) (w : World) (h2 : ReadsI w b (m * 3) ls) (hm : m ≤ 1048576) (hp : p < w.heap.size) (c1 : w.cell? ⟨p, 1, none⟩ = some (.int .i64 half)) (h0 : 0 ≤ half) (h1 : half ≤ 4096) :
    Calls Tryd.prog 30 #[.slice b m d, .func (Fn.func 31) #[.pointer (some ⟨p, 0, none⟩)] #[]] w fun e w' => e = .returned (.bool (!insideB half ls m)) ∧ w.grownBy w' none := by
  have I := indexT p m d b half ls w h2 hm hp c1 h0 h1
  have HI : Hid _ := I
  clear I h2 c1 hp
  go_enter Tryd.func30, Tryd.ntmps30
  go_wp2_with fail
  refine Calls.mono HI.out ?_
  rintro e w1 ⟨i, rfl, hd, hg⟩
  have HD : Hid (decide (0 ≤ i) = (!insideB half ls m)) := hd
  clear HI hd
  simp only []
  go_wp2
  go_ret
  exact ⟨by rw [← HD.out]; rfl, hg⟩

set_option maxHeartbeats 1000000 in
theorem implLog (n m c d : Nat) (a b : Option Addr) (half low next : Int) (ls : List Int) (w : World) (h2 : ReadsI w b (m * 3) ls) :
    Calls Tryd.prog 17 #[.agg #[.slice a n c, .int .i64 half, .int .i64 low, .int .i64 next, .slice b m d]] w fun e w' => e = .returned (.bool (okB half n low next m && insideB half ls m)) ∧ w.grownBy w' none := by
  have O := okT w.heap.size n m c d a b half low next
  by_cases hok : okB half n low next m = true
  · obtain ⟨k1, k2, k3, k4, k5, k6, k7⟩ := okB_out hok
    simp only [hok] at O
    rw [hok, Bool.true_and]
    have H2 : Hid (ReadsI w b (m * 3) ls) := h2
    clear h2 hok k3 k5 k6 k7
    go_enter Tryd.func17, Tryd.ntmps17
    go_wp2_with fail
    refine (O _ (by simp) (by simp) (by simp) (by simp) (by simp)).mono ?_
    rintro e w' ⟨rfl, q, rfl⟩
    clear O
    simp only []
    go_wp2_with fail
    refine (containsT w.heap.size m d b half ls _ (H2.out.none (grown_qN (World.grownBy_alloc _ _ _) q)) (by omega) (by simp) (by simp) (by omega) (by omega)).mono ?_
    rintro e w1 ⟨rfl, hg⟩
    have FIN : Hid (w.grownBy w1 none) := grown_trans (grown_qN (World.grownBy_alloc _ _ _) q) hg
    clear hg H2
    simp only []
    go_wp2
    go_ret
    exact ⟨by simp, FIN.out⟩
  · have hok' : okB half n low next m = false := by simpa using hok
    simp only [hok'] at O
    rw [hok', Bool.false_and]
    clear h2 hok hok'
    go_enter Tryd.func17, Tryd.ntmps17
    go_wp2_with fail
    refine (O _ (by simp) (by simp) (by simp) (by simp) (by simp)).mono ?_
    rintro e w' ⟨rfl, q, rfl⟩
    clear O
    simp only []
    go_wp2
    go_ret
    exact ⟨rfl, grown_qN (World.grownBy_alloc _ _ _) q⟩

/-- What the specification asks of an access, in its own words. -/
theorem stray_spec (half x y z : Int) (h0 : 16 ≤ half) : strayB half x y z = (decide (x < y) || decide (z ≤ x) || decide (y < 0) || decide (2 * half < z) || (decide (y ≠ 0) && decide (y ≠ half)) || decide (y + half < z)) := by
  rw [Bool.eq_iff_iff]
  simp only [strayB, Bool.or_eq_true, Bool.and_eq_true, Bool.not_eq_true', Bool.or_eq_false_iff, decide_eq_true_eq, decide_eq_false_iff_not]
  omega

set_option maxHeartbeats 4000000 in
theorem specLog (n m c d : Nat) (a b : Option Addr) (half low next : Int) (ls : List Int) (w : World) (h2 : ReadsI w b (m * 3) ls) :
    Calls Tryd.prog 16 #[.agg #[.slice a n c, .int .i64 half, .int .i64 low, .int .i64 next, .slice b m d]] w fun e w' => e = .returned (.bool (okB half n low next m && insideB half ls m)) ∧ w.grownBy w' none := by
  have O := specOk n m c d a b half low next
  have ga := World.grownBy_alloc w (.cells #[.slice a n c, .int .i64 half, .int .i64 low, .int .i64 next, .slice b m d] 26) none
  have ba := heap_alloc_new w (.cells #[.slice a n c, .int .i64 half, .int .i64 low, .int .i64 next, .slice b m d] 26)
  have sa : w.heap.size < (w.alloc (.cells #[.slice a n c, .int .i64 half, .int .i64 low, .int .i64 next, .slice b m d] 26)).heap.size := by simp
  have F : Hid _ := And.intro ga (And.intro ba sa)
  clear ga ba sa
  by_cases hok : okB half n low next m = true
  rotate_left
  · have hok' : okB half n low next m = false := by simpa using hok
    simp only [hok'] at O
    rw [hok', Bool.false_and]
    clear h2 hok hok'
    go_enter Tryd.func16, Tryd.ntmps16
    go_wp2_with fail
    refine (O _).mono ?_
    rintro e w1 ⟨rfl, hg⟩
    have FIN : Hid (w.grownBy w1 none) := grown_trans F.out.1 hg
    clear O hg F
    simp only []
    go_wp2
    go_ret
    exact ⟨rfl, FIN.out⟩
  obtain ⟨k1, k2, k3, k4, k5, k6, k7⟩ := okB_out hok
  simp only [hok] at O
  rw [hok, Bool.true_and]
  obtain ⟨hl, h2⟩ := h2
  clear hok k3 k5 k6 k7
  go_enter Tryd.func16, Tryd.ntmps16
  go_wp2_with fail
  refine (O _).mono ?_
  rintro e w1 ⟨rfl, hg⟩
  have G1 := grown_trans F.out.1 hg
  have b1 := (hg.block _ F.out.2.2 (by simp)).trans F.out.2.1
  have s1 : w.heap.size < w1.heap.size := Nat.lt_of_lt_of_le F.out.2.2 hg.size
  generalize w.heap.size = p at *
  have HB : Hid _ := And.intro G1 (And.intro b1 s1)
  obtain ⟨⟨x0, x1, x2, x3, x4⟩, -⟩ := five b1
  clear O hg F G1 b1 s1
  simp only []
  by_cases hm0 : m = 0
  · subst hm0
    go_wp2
    refine wp_loop_rounds 1 ?_
    rw [rounds_succ]
    go_wp2
    go_ret
    exact ⟨by simp [insideB], HB.out.1⟩
  rcases h2 with h2 | ⟨b, off, rfl, hc⟩
  · exact absurd h2 (by omega)
  clear x0 x1 x2 x3
  go_wp2
  go_loopw [3] (fun v wr => ∃ k : Nat, k ≤ m ∧ v = .int .i64 k ∧ w1.grownBy wr none ∧ ∀ j, j < k → strayB half (ls.getD (j * 3) 0) (ls.getD (j * 3 + 1) 0) (ls.getD (j * 3 + 2) 0) = false) (fun v _ => m - (intOf v).toNat)
  case atStart => exact ⟨0, Nat.zero_le _, rfl, World.grownBy.refl _ _, fun j hj => by omega⟩
  case round =>
    obtain ⟨k, hk, rfl, hg, hall⟩ := hrel
    obtain ⟨G1, b1, s1⟩ := HB.out
    have br := (hg.block _ s1 (by simp)).trans b1
    have hpr : p < wr.heap.size := Nat.lt_of_lt_of_le s1 hg.size
    obtain ⟨⟨-, y1, -, -, y4⟩, -⟩ := five br
    clear x4 b1 s1 br
    have HG : Hid _ := And.intro (grown_trans G1 hg) (And.intro hg hall)
    by_cases hlt : k < m
    · obtain ⟨z0, z1, z2⟩ := threeC hc k hlt
      have z0 := (grown_trans G1 hg).cell z0 (by simp)
      have z1 := (grown_trans G1 hg).cell z1 (by simp)
      have z2 := (grown_trans G1 hg).cell z2 (by simp)
      have HS : strayB half (ls.getD (k * 3) 0) (ls.getD (k * 3 + 1) 0) (ls.getD (k * 3 + 2) 0) = true → insideB half ls m = false := insideB_false k hlt
      have HN : strayB half (ls.getD (k * 3) 0) (ls.getD (k * 3 + 1) 0) (ls.getD (k * 3 + 2) 0) = false → ∀ j, j < k + 1 → strayB half (ls.getD (j * 3) 0) (ls.getD (j * 3 + 1) 0) (ls.getD (j * 3 + 2) 0) = false := by
        intro hx j hj
        by_cases e : j = k
        · subst e; exact hx
        · exact hall j (by omega)
      rw [stray_spec _ _ _ _ k1] at HS HN
      have HS' : Hid _ := HS
      have HN' : Hid _ := HN
      clear HS HN hg hall G1 hc hl
      generalize ls.getD (k * 3) 0 = x at *
      generalize ls.getD (k * 3 + 1) 0 = y at *
      generalize ls.getD (k * 3 + 2) 0 = z at *
      by_cases a1 : x < y
      · have E : Hid (insideB half ls m = false) := HS'.out (by simp [a1])
        clear HS' HN'
        go_wp2
        go_ret
        exact ⟨by rw [E.out]; rfl, grown_alloc HG.out.1 _⟩
      by_cases a2 : z ≤ x
      · have E : Hid (insideB half ls m = false) := HS'.out (by simp [a2])
        clear HS' HN'
        go_wp2
        go_ret
        exact ⟨by rw [E.out]; rfl, grown_alloc HG.out.1 _⟩
      by_cases a3 : y < 0
      · have E : Hid (insideB half ls m = false) := HS'.out (by simp [a3])
        clear HS' HN'
        go_wp2
        go_ret
        exact ⟨by rw [E.out]; rfl, grown_alloc HG.out.1 _⟩
      by_cases a4 : 2 * half < z
      · have E : Hid (insideB half ls m = false) := HS'.out (by simp [a4])
        clear HS' HN'
        go_wp2
        go_ret
        exact ⟨by rw [E.out]; rfl, grown_alloc HG.out.1 _⟩
      by_cases a5 : y = 0
      · have hh : ¬ half < z ∨ half < z := by omega
        subst a5
        by_cases a6 : half < z
        · have E : Hid (insideB half ls m = false) := HS'.out (by simp [a6])
          clear HS' HN' hh
          go_wp2
          go_ret
          exact ⟨by rw [E.out]; rfl, grown_alloc HG.out.1 _⟩
        · have E : Hid _ := HN'.out (by simp [a1, a2, a4, a6])
          clear HS' HN' hh
          go_wp2
          go_roundw
          case rel => exact ⟨k + 1, by omega, by go_num, grown_alloc HG.out.2.1 _, E.out⟩
          case measure => simp [intOf]; omega
      by_cases a6 : y = half
      · subst a6
        by_cases a7 : y + y < z
        · exfalso; omega
        · have E : Hid _ := HN'.out (by simp [a1, a2, a3, a4, a7])
          clear HS' HN'
          go_wp2
          go_roundw
          case rel => exact ⟨k + 1, by omega, by go_num, grown_alloc HG.out.2.1 _, E.out⟩
          case measure => simp [intOf]; omega
      · have E : Hid (insideB half ls m = false) := HS'.out (by simp [a5, a6])
        clear HS' HN'
        go_wp2
        go_ret
        exact ⟨by rw [E.out]; rfl, grown_alloc HG.out.1 _⟩
    · obtain rfl : k = m := by omega
      have HF : Hid (insideB half ls k = true) := insideB_true hall
      clear hall hg hc
      go_wp2
      go_ret
      exact ⟨by rw [HF.out]; rfl, HG.out.1⟩
end Go.Proofs.YtonmcndedbmbfaaDoor.By
