/-
  The walk of the law FnExactGetText, for bytes that read as ys. The statement is proved in the text that imports this one.
-/
import Derived.Test.YtjlehmpdfpefdagGetT
namespace Go.Proofs.Ytjlehmpdfpefdag.By
open Go.RowKit
set_option linter.unusedVariables false

theorem markNil (w : World) : Calls Try.prog 11 #[.slice none 0 0, .int .i64 1] w fun e w' => e = .returned (.int .i64 1) ∧ w' = w := by
  go_enter Try.func11, Try.ntmps11
  go_wp2
  refine wp_loop_rounds 1 ?_
  rw [rounds_succ]
  go_wp2
  go_ret
  exact ⟨rfl, rfl⟩
theorem heldNil (w : World) : Calls Try.prog 12 #[.slice none 0 0, .int .i64 1] w fun e w' => e = .returned (.int .i64 1) ∧ w' = w := by
  go_enter Try.func12, Try.ntmps12
  go_wp2
  refine wp_loop_rounds 1 ?_
  rw [rounds_succ]
  go_wp2
  go_ret
  exact ⟨rfl, rfl⟩
theorem eqNil (w : World) : Calls Try.prog 10 #[.slice none 0 0, .slice none 0 0] w fun e w' => e = .returned (.bool true) ∧ w' = w := by
  go_enter Try.func10, Try.ntmps10
  go_wp2
  refine wp_loop_rounds 1 ?_
  rw [rounds_succ]
  go_wp2
  go_ret
  exact ⟨rfl, rfl⟩

set_option maxHeartbeats 1000000 in
theorem lawGetTextN (a0 : Option Addr) (n cap : Nat) (ys : List Int) (p : Int) (w : World) (hr : Reads w a0 n ys) (hn : n ≤ 1048576) (hlen : ys.length = n)
    (HS' : Hid (∀ g w, Row w g n ys → Calls Try.prog 17 #[.slice (some ⟨g, 0, none⟩) n n, .int .i64 p] w fun e w' => e = .returned (.tuple #[.slice none 0 0, .int .i64 (-1)]) ∧ w.grownBy w' none))
    (HI' : Hid (∀ g w, Row w g n ys → Calls Try.prog 18 #[.slice (some ⟨g, 0, none⟩) n n, .int .i64 p] w fun e w' => e = .returned (.tuple #[.slice none 0 0, .int .i64 (-1)]) ∧ w.grownBy w' none)) :
    Calls Try.prog 6 #[.slice a0 n cap, .int .i64 p] w fun e w' => e = .returned (.bool true) ∧ Below w.heap.size w w' := by
  go_enter Try.func6, Try.ntmps6
  go_wp2_with fail
  refine (toB a0 n cap ys w hr hn).mono ?_
  rintro e w1 ⟨b1, rfl, hg1, hb1, hrow1⟩
  go_wp2_with fail
  refine (HS'.out _ _ hrow1).mono ?_
  rintro e w2 ⟨rfl, hg2⟩
  have hG2 := grown_trans hg1 hg2
  have hr2 := hr.none hG2
  clear hg1 hg2 hb1 hrow1 HS'
  go_wp2_with fail
  refine (toB a0 n cap ys w2 hr2 hn).mono ?_
  rintro e w3 ⟨gx, rfl, hg3, hb3, hrowx⟩
  go_wp2_with fail
  refine (HI'.out _ _ hrowx).mono ?_
  rintro e w4 ⟨rfl, hg4⟩
  have hbx : w.heap.size ≤ gx := Nat.le_trans hG2.size hb3
  have hrowx4 := hrowx.kept hg4 (by simp)
  have hG4 := grown_trans (grown_trans hG2 hg3) hg4
  have hr4 := hr.none hG4
  clear hG2 hg3 hg4 hb3 hrowx hr2
  go_wp2_with fail
  refine (eqNil w4).mono ?_
  rintro e w5 ⟨rfl, rfl⟩
  go_wp2_with fail
  refine (toB a0 n cap ys w5 hr4 hn).mono ?_
  rintro e w6 ⟨g6, rfl, hg6, hb6, hrow6⟩
  have hrowx6 := hrowx4.kept hg6 (by simp)
  go_wp2_with fail
  refine (eqT _ _ n n n ys w6 (hrowx6.reads' hlen) (hrow6.reads' hlen) (by omega)).mono ?_
  rintro e w7 ⟨rfl, hq7⟩
  have hg7 := quiet hq7
  have hrowx7 := hrowx6.kept hg7 (by simp)
  have hG7 := grown_trans (grown_trans hG4 hg6) hg7
  have hB7 : Below w.heap.size w w7 := (Below.refl _ _).grown hG7 (Nat.le_refl _) (by simp)
  clear hq7 hg7 hg6 hb6 hrow6 hrowx6 hrowx4 hG4 hG7 hr4
  go_wp2_with fail
  refine (markT gx n n ys 1 w7 hrowx7 hlen (by omega) (by omega) (by omega)).mono ?_
  rintro e w8 ⟨rfl, hg8, hs8, hrow8⟩
  have hB8 : Below w.heap.size w w8 := hB7.grown hg8 hB7.size (by intro k hk; cases hk; exact hbx)
  clear hs8 hg8 hB7 hrowx7 hrow8
  go_wp2_with fail
  refine (eqNil w8).mono ?_
  rintro e w9 ⟨rfl, rfl⟩
  go_wp2_with fail
  refine (markNil w9).mono ?_
  rintro e w10 ⟨rfl, rfl⟩
  go_wp2_with fail
  refine (heldNil w10).mono ?_
  rintro e w11 ⟨rfl, rfl⟩
  have hr11 := hr.below hB8
  go_wp2_with fail
  refine (toB a0 n cap ys w11 hr11 hn).mono ?_
  rintro e w12 ⟨g12, rfl, hg12, hb12, hrow12⟩
  go_wp2_with fail
  refine (HI'.out _ _ hrow12).mono ?_
  rintro e w13 ⟨rfl, hg13⟩
  have hB13 : Below w.heap.size w w13 := hB8.grown (grown_trans hg12 hg13) hB8.size (by simp)
  clear hg12 hg13 hb12 hrow12 hr11 hB8
  go_wp2_with fail
  refine (eqNil w13).mono ?_
  rintro e w14 ⟨rfl, rfl⟩
  go_wp2_with fail
  refine (heldNil w14).mono ?_
  rintro e w15 ⟨rfl, rfl⟩
  go_wp2
  go_ret
  exact ⟨rfl, hB13⟩

set_option maxHeartbeats 1000000 in
theorem lawGetTextS (a0 : Option Addr) (n cap : Nat) (ys L : List Int) (l : Nat) (y p : Int) (w : World) (hr : Reads w a0 n ys) (hn : n ≤ 1048576) (hlen : ys.length = n) (hLl : L.length = l) (hlb : l ≤ 1048576)
    (HS' : Hid (∀ g w, Row w g n ys → Calls Try.prog 17 #[.slice (some ⟨g, 0, none⟩) n n, .int .i64 p] w fun e w' => ∃ g' cp, e = .returned (.tuple #[.slice (some ⟨g', 0, none⟩) l cp, .int .i64 y]) ∧ w.grownBy w' none ∧ w.heap.size ≤ g' ∧ Row w' g' cp L))
    (HI' : Hid (∀ g w, Row w g n ys → Calls Try.prog 18 #[.slice (some ⟨g, 0, none⟩) n n, .int .i64 p] w fun e w' => ∃ g' cp, e = .returned (.tuple #[.slice (some ⟨g', 0, none⟩) l cp, .int .i64 y]) ∧ w.grownBy w' none ∧ w.heap.size ≤ g' ∧ Row w' g' cp L)) :
    Calls Try.prog 6 #[.slice a0 n cap, .int .i64 p] w fun e w' => e = .returned (.bool true) ∧ Below w.heap.size w w' := by
  go_enter Try.func6, Try.ntmps6
  go_wp2_with fail
  refine (toB a0 n cap ys w hr hn).mono ?_
  rintro e w1 ⟨b1, rfl, hg1, hb1, hrow1⟩
  go_wp2_with fail
  refine (HS'.out _ _ hrow1).mono ?_
  rintro e w2 ⟨gw, cw, rfl, hg2, hb2, hroww⟩
  have hG2 := grown_trans hg1 hg2
  have hr2 := hr.none hG2
  clear hg1 hg2 hb1 hb2 hrow1 HS'
  go_wp2_with fail
  refine (toB a0 n cap ys w2 hr2 hn).mono ?_
  rintro e w3 ⟨gx, rfl, hg3, hb3, hrowx⟩
  go_wp2_with fail
  refine (HI'.out _ _ hrowx).mono ?_
  rintro e w4 ⟨gg, cg, rfl, hg4, hb4, hrowg⟩
  have hbx : w.heap.size ≤ gx := Nat.le_trans hG2.size hb3
  have hne1 : gw < gx := Nat.lt_of_lt_of_le hroww.lt hb3
  have hne2 : gx < gg := Nat.lt_of_lt_of_le hrowx.lt hb4
  have hrowx4 := hrowx.kept hg4 (by simp)
  have hroww4 := (hroww.kept hg3 (by simp)).kept hg4 (by simp)
  have hG4 := grown_trans (grown_trans hG2 hg3) hg4
  have hB4 : Below w.heap.size w w4 := (Below.refl _ _).grown hG4 (Nat.le_refl _) (by simp)
  clear hG2 hg3 hg4 hb3 hb4 hrowx hroww hr2 hG4
  go_wp2_with fail
  refine (eqT _ _ l cg cw L w4 (hrowg.reads' hLl) (hroww4.reads' hLl) (by omega)).mono ?_
  rintro e w5 ⟨rfl, hq5⟩
  have hg5 := quiet hq5
  have hB5 := hB4.grown hg5 hB4.size (by simp)
  have hr5 := hr.below hB5
  clear hq5
  go_wp2_with fail
  refine (toB a0 n cap ys w5 hr5 hn).mono ?_
  rintro e w6 ⟨g6, rfl, hg6, hb6, hrow6⟩
  have hgA := grown_trans hg5 hg6
  have hrowx6 := hrowx4.kept hgA (by simp)
  clear hB5 hr5 hb6 hg5 hg6
  go_wp2_with fail
  refine (eqT _ _ n n n ys w6 (hrowx6.reads' hlen) (hrow6.reads' hlen) (by omega)).mono ?_
  rintro e w7 ⟨rfl, hq7⟩
  have hgB := grown_trans hgA (quiet hq7)
  have hrowx7 := hrowx4.kept hgB (by simp)
  have hroww7 := hroww4.kept hgB (by simp)
  have hrowg7 := hrowg.kept hgB (by simp)
  have hB7 : Below w.heap.size w w7 := hB4.grown hgB hB4.size (by simp)
  clear hq7 hgA hgB hrow6 hrowx6 hrowx4 hroww4 hrowg hB4
  go_wp2_with fail
  refine (markT gx n n ys 1 w7 hrowx7 hlen (by omega) (by omega) (by omega)).mono ?_
  rintro e w8 ⟨rfl, hg8, hs8, hrow8⟩
  have hroww8 := hroww7.kept hg8 (by simp; omega)
  have hrowg8 := hrowg7.kept hg8 (by simp; omega)
  have hB8 : Below w.heap.size w w8 := hB7.grown hg8 hB7.size (by intro k hk; cases hk; exact hbx)
  clear hs8 hg8 hB7 hrowx7 hroww7 hrowg7 hrow8
  go_wp2_with fail
  refine (eqT _ _ l cg cw L w8 (hrowg8.reads' hLl) (hroww8.reads' hLl) (by omega)).mono ?_
  rintro e w9 ⟨rfl, hq9⟩
  have hg9 := quiet hq9
  have hroww9 := hroww8.kept hg9 (by simp)
  have hrowg9 := hrowg8.kept hg9 (by simp)
  have hB9 : Below w.heap.size w w9 := hB8.grown hg9 hB8.size (by simp)
  clear hq9 hg9 hroww8 hrowg8 hB8
  go_wp2_with fail
  refine (markT gg l cg L 1 w9 hrowg9 hLl (by omega) (by omega) (by omega)).mono ?_
  rintro e w10 ⟨rfl, hg10, hs10, hrow10⟩
  have hroww10 := hroww9.kept hg10 (by simp; omega)
  have hB10 : Below w.heap.size w w10 := hB9.grown hg10 hB9.size (by intro k hk; cases hk; omega)
  clear hs10 hg10 hB9 hroww9 hrowg9
  go_wp2_with fail
  refine (heldT _ l cg 1 w10 (hrow10.reads' (marks_len _ _)) (by omega) (by omega) (by omega)).mono ?_
  rintro e w11 ⟨rfl, hq11⟩
  have hg11 := quiet hq11
  have hroww11 := hroww10.kept hg11 (by simp)
  have hrow11 := hrow10.kept hg11 (by simp)
  have hB11 : Below w.heap.size w w11 := hB10.grown hg11 hB10.size (by simp)
  have hr11 := hr.below hB11
  clear hq11 hg11 hroww10 hrow10 hB10
  go_wp2_with fail
  refine (toB a0 n cap ys w11 hr11 hn).mono ?_
  rintro e w12 ⟨g12, rfl, hg12, hb12, hrow12⟩
  go_wp2_with fail
  refine (HI'.out _ _ hrow12).mono ?_
  rintro e w13 ⟨gh, ch, rfl, hg13, hb13, hrowh⟩
  have hgC := grown_trans hg12 hg13
  have hroww13 := hroww11.kept hgC (by simp)
  have hrow13 := hrow11.kept hgC (by simp)
  have hB13 : Below w.heap.size w w13 := hB11.grown hgC hB11.size (by simp)
  clear hg12 hg13 hgC hb12 hb13 hrow12 hroww11 hrow11 hB11 hr11
  go_wp2_with fail
  refine (eqT _ _ l ch cw L w13 (hrowh.reads' hLl) (hroww13.reads' hLl) (by omega)).mono ?_
  rintro e w14 ⟨rfl, hq14⟩
  have hg14 := quiet hq14
  have hrow14 := hrow13.kept hg14 (by simp)
  have hB14 : Below w.heap.size w w14 := hB13.grown hg14 hB13.size (by simp)
  clear hq14 hg14 hrow13 hroww13 hrowh hB13
  go_wp2_with fail
  refine (heldT _ l cg 1 w14 (hrow14.reads' (marks_len _ _)) (by omega) (by omega) (by omega)).mono ?_
  rintro e w15 ⟨rfl, hq15⟩
  go_wp2
  go_ret
  exact ⟨rfl, hB14.grown (quiet hq15) hB14.size (by simp)⟩

set_option maxHeartbeats 1000000 in
theorem lawGetText (a0 : Option Addr) (n cap : Nat) (ys : List Int) (p : Int) (w : World) (hr : Reads w a0 n ys) (hb : Byt ys) (hp : p ≤ 9223372036854775807) :
    Calls Try.prog 6 #[.slice a0 n cap, .int .i64 p] w fun e w' => e = .returned (.bool true) ∧ Below w.heap.size w w' := by
  by_cases hbig : 1048576 < n
  · clear hr hb
    go_enter Try.func6, Try.ntmps6
    go_wp2
    go_ret
    exact ⟨rfl, Below.refl _ _⟩
  have hn : n ≤ 1048576 := by omega
  have hlen : ys.length = n := hr.1
  have HS := fun g w (h : Row w g n ys) => specGetT g n ys p w h hlen hb hn hp
  have HI := fun g w (h : Row w g n ys) => implGetT g n ys p w h hlen hb hn hp
  cases hT : getText ys p with
  | none =>
    rw [hT] at HS HI
    refine lawGetTextN a0 n cap ys p w hr hn hlen ?_ ?_
    · exact fun g w h => (HS g w h).mono fun e w' ⟨v, x, he, hg, hv, hx⟩ => ⟨by rw [he, hv, hx], hg⟩
    · exact fun g w h => (HI g w h).mono fun e w' ⟨v, x, he, hg, hv, hx⟩ => ⟨by rw [he, hv, hx], hg⟩
  | some o =>
    obtain ⟨ts, y⟩ := o
    rw [hT] at HS HI
    have hl : ts.length ≤ 1048576 := by
      unfold getText at hT
      split at hT
      · cases hT
      · rename_i hh
        injection hT with hT
        injection hT with h1 h2
        have := List.length_take_le ((getNum ys p).1.toNat) (ys.drop (getNum ys p).2.toNat)
        rw [h1] at this
        omega
    refine lawGetTextS a0 n cap ys ts ts.length y p w hr hn hlen rfl hl ?_ ?_
    · exact fun g w h => (HS g w h).mono fun e w' ⟨v, x, he, hg, g', cp, hv, hx, hle, hrow⟩ => ⟨g', cp, by rw [he, hv, hx], hg, hle, hrow⟩
    · exact fun g w h => (HI g w h).mono fun e w' ⟨v, x, he, hg, g', cp, hv, hx, hle, hrow⟩ => ⟨g', cp, by rw [he, hv, hx], hg, hle, hrow⟩
end Go.Proofs.Ytjlehmpdfpefdag.By
