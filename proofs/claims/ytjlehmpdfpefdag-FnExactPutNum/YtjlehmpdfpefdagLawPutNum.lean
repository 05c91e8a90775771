/-
  The walk of the law FnExactPutNum, for bytes that read as ys. The statement is proved in the text that imports this one.
-/
import Derived.Test.YtjlehmpdfpefdagPutJ
import Derived.Test.YtjlehmpdfpefdagPutS
namespace Go.Proofs.Ytjlehmpdfpefdag.By
open Go.RowKit
set_option linter.unusedVariables false

theorem Row.readsL {w : World} {g cap n : Nat} {zs : List Int} (h : Row w g cap zs) (hn : zs.length = n) : Reads w (some ⟨g, 0, none⟩) n zs := h.reads' hn

set_option maxHeartbeats 4000000 in
theorem lawPutNum (a0 : Option Addr) (n cap : Nat) (ys : List Int) (N : Int) (w : World) (hr : Reads w a0 n ys) :
    Calls Try.prog 3 #[.slice a0 n cap, .int .i64 N] w fun e w' => e = .returned (.bool true) ∧ Below w.heap.size w w' := by
  by_cases hbig : 1048576 < n
  · clear hr
    go_enter Try.func3, Try.ntmps3
    go_wp2
    go_ret
    exact ⟨rfl, Below.refl _ _⟩
  have hn : n ≤ 1048576 := by omega
  have hlen : ys.length = n := hr.1
  have HS := fun g cap w (h : Row w g cap ys) => specPut g n cap ys N w h hlen (by omega)
  have HI := fun g w (h : Row w g n ys) => implPut (some ⟨g, 0, none⟩) n n ys N w (h.readsL hlen) (by omega)
  obtain ⟨L, hL⟩ : ∃ L, L = ys ++ numB N := ⟨_, rfl⟩
  obtain ⟨l, hl⟩ : ∃ l, l = n + (numB N).length := ⟨_, rfl⟩
  have hLl : L.length = l := by rw [hL, hl, List.length_append, hlen]
  have hlb : l ≤ 1048576 + 5 := by have := numB_len N; omega
  rw [← hL, ← hl] at HS HI
  clear hL hl hbig
  have HS' : Hid (∀ g cap w, Row w g cap ys → Calls Try.prog 7 #[.slice (some ⟨g, 0, none⟩) n cap, .int .i64 N] w fun e w' => ∃ g' cp, e = .returned (.slice (some ⟨g', 0, none⟩) l cp) ∧ w.grownBy w' none ∧ w.heap.size ≤ g' ∧ Row w' g' cp L) := HS
  have HI' : Hid (∀ g w, Row w g n ys → Calls Try.prog 9 #[.slice (some ⟨g, 0, none⟩) n n, .int .i64 N] w fun e w' => ∃ g', e = .returned (.slice (some ⟨g', 0, none⟩) l l) ∧ w.grownBy w' none ∧ w.heap.size ≤ g' ∧ Row w' g' l L) := HI
  clear HS HI
  go_enter Try.func3, Try.ntmps3
  go_wp2_with (go_at_call 8; go_must (refine (toB a0 n cap ys w hr hn).mono ?_); rintro e w1 ⟨b1, rfl, hg1, hb1, hrow1⟩)
  refine (HS'.out _ _ _ hrow1).mono ?_
  rintro e w2 ⟨gw, cw, rfl, hg2, hb2, hroww⟩
  have hr2 := (hr.none hg1).none hg2
  go_wp2_with (go_at_call 8; go_must (refine (toB a0 n cap ys w2 hr2 hn).mono ?_); rintro e w3 ⟨gx, rfl, hg3, hb3, hrowx⟩)
  refine (HI'.out _ _ hrowx).mono ?_
  rintro e w4 ⟨gg, rfl, hg4, hb4, hrowg⟩
  have hroww4 := (hroww.kept hg3 (by simp)).kept hg4 (by simp)
  have hrowx4 := hrowx.kept hg4 (by simp)
  have hr4 := (hr2.none hg3).none hg4
  have hne1 : gw < gx := Nat.lt_of_lt_of_le hroww.lt hb3
  have hne2 : gx < gg := Nat.lt_of_lt_of_le hrowx.lt hb4
  have hgA := grown_trans (grown_trans (grown_trans hg1 hg2) hg3) hg4
  have hbx : w.heap.size ≤ gx := Nat.le_trans (grown_trans hg1 hg2).size hb3
  have hB4 : Below w.heap.size w w4 := (Below.refl _ _).grown hgA (Nat.le_refl _) (by simp)
  clear hg1 hg2 hg3 hg4 hb1 hb2 hb3 hb4 hrow1 hroww hrowx hr2 HS' hgA
  go_wp2_with (go_at_call 10; go_must (refine (eqT _ _ l l cw L w4 (hrowg.readsL hLl) (hroww4.readsL hLl) (by omega)).mono ?_); rintro e w5 ⟨rfl, hq5⟩)
  have hg5 := quiet hq5
  have hr5 := hr4.none hg5
  clear hq5
  go_wp2_with (go_at_call 8; go_must (refine (toB a0 n cap ys w5 hr5 hn).mono ?_); rintro e w6 ⟨g6, rfl, hg6, hb6, hrow6⟩)
  have hgA := grown_trans hg5 hg6
  have hrowx6 := hrowx4.kept hgA (by simp)
  refine (eqT _ _ n n n ys w6 (hrowx6.readsL hlen) (hrow6.readsL hlen) (by omega)).mono ?_
  rintro e w7 ⟨rfl, hq7⟩
  have hgB := grown_trans hgA (quiet hq7)
  have hrowx7 := hrowx4.kept hgB (by simp)
  have hroww7 := hroww4.kept hgB (by simp)
  have hrowg7 := hrowg.kept hgB (by simp)
  have hr7 := hr4
  have hB7 : Below w.heap.size w w7 := hB4.grown hgB hB4.size (by simp)
  clear hq7 hgA hgB hg5 hg6 hb6 hrow6 hrowx6 hr5 hr4 hrowx4 hroww4 hrowg hB4 hr7
  go_wp2_with (go_at_call 11; go_must (refine (markT gx n n ys 1 w7 hrowx7 hlen (by omega) (by omega) (by omega)).mono ?_); rintro e w8 ⟨rfl, hg8, hs8, hrow8⟩)
  have hroww8 := hroww7.kept hg8 (by simp; omega)
  have hrowg8 := hrowg7.kept hg8 (by simp; omega)
  have hB8 : Below w.heap.size w w8 := hB7.grown hg8 hB7.size (by intro k hk; cases hk; exact hbx)
  clear hs8 hg8 hB7 hrowx7 hroww7 hrowg7 hrow8
  refine (eqT _ _ l l cw L w8 (hrowg8.readsL hLl) (hroww8.readsL hLl) (by omega)).mono ?_
  rintro e w9 ⟨rfl, hq9⟩
  have hg9 := quiet hq9
  have hroww9 := hroww8.kept hg9 (by simp)
  have hrowg9 := hrowg8.kept hg9 (by simp)
  have hB9 : Below w.heap.size w w9 := hB8.grown hg9 hB8.size (by simp)
  clear hq9 hg9 hroww8 hrowg8 hB8
  go_wp2_with (go_at_call 11; go_must (refine (markT gg l l L 1 w9 hrowg9 hLl (by omega) (by omega) (by omega)).mono ?_); rintro e w10 ⟨rfl, hg10, hs10, hrow10⟩)
  have hroww10 := hroww9.kept hg10 (by simp; omega)
  have hB10 : Below w.heap.size w w10 := hB9.grown hg10 hB9.size (by intro k hk; cases hk; omega)
  clear hs10 hg10 hB9 hroww9 hrowg9
  go_wp2_with (go_at_call 12; go_must (refine (heldT _ l l 1 w10 (hrow10.readsL (marks_len _ _)) (by omega) (by omega) (by omega)).mono ?_); rintro e w11 ⟨rfl, hq11⟩)
  have hg11 := quiet hq11
  have hroww11 := hroww10.kept hg11 (by simp)
  have hrow11 := hrow10.kept hg11 (by simp)
  have hB11 : Below w.heap.size w w11 := hB10.grown hg11 hB10.size (by simp)
  have hr11 := hr.below hB11
  clear hq11 hg11 hroww10 hrow10 hB10
  go_wp2_with (go_at_call 8; go_must (refine (toB a0 n cap ys w11 hr11 hn).mono ?_); rintro e w12 ⟨g12, rfl, hg12, hb12, hrow12⟩)
  refine (HI'.out _ _ hrow12).mono ?_
  rintro e w13 ⟨gh, rfl, hg13, hb13, hrowh⟩
  have hgC := grown_trans hg12 hg13
  have hroww13 := hroww11.kept hgC (by simp)
  have hrow13 := hrow11.kept hgC (by simp)
  have hB13 : Below w.heap.size w w13 := hB11.grown hgC hB11.size (by simp)
  clear hg12 hg13 hgC hb12 hb13 hrow12 hroww11 hrow11 hB11 hr11
  go_wp2_with (go_at_call 10; go_must (refine (eqT _ _ l l cw L w13 (hrowh.readsL hLl) (hroww13.readsL hLl) (by omega)).mono ?_); rintro e w14 ⟨rfl, hq14⟩)
  have hg14 := quiet hq14
  have hrow14 := hrow13.kept hg14 (by simp)
  have hB14 : Below w.heap.size w w14 := hB13.grown hg14 hB13.size (by simp)
  clear hq14 hg14 hrow13 hroww13 hrowh hB13
  go_wp2_with (go_at_call 12; go_must (refine (heldT _ l l 1 w14 (hrow14.readsL (marks_len _ _)) (by omega) (by omega) (by omega)).mono ?_); rintro e w15 ⟨rfl, hq15⟩)
  go_ret
  exact ⟨rfl, hB14.grown (quiet hq15) hB14.size (by simp)⟩
end Go.Proofs.Ytjlehmpdfpefdag.By
