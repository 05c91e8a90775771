/-
  The walk of the law FnExactPutText, for bytes that read as ys and a text that reads as ts. The statement is proved in the text that imports this one.
-/
import Derived.Test.YtjlehmpdfpefdagTxt
namespace Go.Proofs.Ytjlehmpdfpefdag.By
open Go.RowKit
set_option linter.unusedVariables false

theorem textB_len (ts : List Int) : (textB ts).length ≤ 45 := by
  by_cases h : 40 < ts.length
  · rw [textB_long h]; simp
  · rw [textB_fits h, List.length_append]; have := numB_len (ts.length : Int); omega

set_option maxHeartbeats 1000000 in
theorem lawPutText (a0 a1 : Option Addr) (n cap n1 cap1 : Nat) (ys ts : List Int) (w : World) (hr : Reads w a0 n ys) (ht : Reads w a1 n1 ts) :
    Calls Try.prog 5 #[.slice a0 n cap, .slice a1 n1 cap1] w fun e w' => e = .returned (.bool true) ∧ Below w.heap.size w w' := by
  by_cases hbig : 1048576 < n
  · clear hr ht
    go_enter Try.func5, Try.ntmps5
    go_wp2
    go_ret
    exact ⟨rfl, Below.refl _ _⟩
  by_cases hbig1 : 1048576 < n1
  · clear hr ht
    go_enter Try.func5, Try.ntmps5
    go_wp2
    go_ret
    exact ⟨rfl, Below.refl _ _⟩
  have hn : n ≤ 1048576 := by omega
  have hn1 : n1 ≤ 1048576 := by omega
  have hlen : ys.length = n := hr.1
  have hlen1 : ts.length = n1 := ht.1
  have HS := fun g g1 cap cap1 w (h : Row w g cap ys) (h1 : Row w g1 cap1 ts) => specTxt g g1 n n1 cap cap1 ys ts w h hlen h1 hlen1 hn hn1
  have HI := fun g g1 w (h : Row w g n ys) (h1 : Row w g1 n1 ts) => implTxt (some ⟨g, 0, none⟩) (some ⟨g1, 0, none⟩) n n1 n n1 ys ts w (h.reads' hlen) (h1.reads' hlen1) hn hn1
  obtain ⟨L, hL⟩ : ∃ L, L = ys ++ textB ts := ⟨_, rfl⟩
  obtain ⟨l, hl⟩ : ∃ l, l = n + (textB ts).length := ⟨_, rfl⟩
  have hLl : L.length = l := by rw [hL, hl, List.length_append, hlen]
  have hlb : l ≤ 1048576 + 45 := by have := textB_len ts; omega
  rw [← hL, ← hl] at HS HI
  clear hL hl hbig hbig1
  have HS' : Hid (∀ g g1 cap cap1 w, Row w g cap ys → Row w g1 cap1 ts → Calls Try.prog 15 #[.slice (some ⟨g, 0, none⟩) n cap, .slice (some ⟨g1, 0, none⟩) n1 cap1] w fun e w' => ∃ g' cp, e = .returned (.slice (some ⟨g', 0, none⟩) l cp) ∧ w.grownBy w' none ∧ w.heap.size ≤ g' ∧ Row w' g' cp L) := HS
  have HI' : Hid (∀ g g1 w, Row w g n ys → Row w g1 n1 ts → Calls Try.prog 16 #[.slice (some ⟨g, 0, none⟩) n n, .slice (some ⟨g1, 0, none⟩) n1 n1] w fun e w' => ∃ g', e = .returned (.slice (some ⟨g', 0, none⟩) l l) ∧ w.grownBy w' none ∧ w.heap.size ≤ g' ∧ Row w' g' l L) := HI
  clear HS HI
  go_enter Try.func5, Try.ntmps5
  go_wp2_with fail
  refine (toB a0 n cap ys w hr hn).mono ?_
  rintro e w1 ⟨b1, rfl, hg1, hb1, hrow1⟩
  have ht1 := ht.none hg1
  go_wp2_with fail
  refine (toB a1 n1 cap1 ts w1 ht1 hn1).mono ?_
  rintro e w2 ⟨b2, rfl, hg2, hb2, hrow2⟩
  have hrow1' := hrow1.kept hg2 (by simp)
  go_wp2_with fail
  refine (HS'.out _ _ _ _ _ hrow1' hrow2).mono ?_
  rintro e w3 ⟨gw, cw, rfl, hg3, hb3, hroww⟩
  have hG3 := grown_trans (grown_trans hg1 hg2) hg3
  have hr3 := hr.none hG3
  clear hg1 hg2 hg3 hb1 hb2 hb3 hrow1 hrow1' hrow2 ht1
  go_wp2_with fail
  refine (toB a0 n cap ys w3 hr3 hn).mono ?_
  rintro e w4 ⟨gx, rfl, hg4, hb4, hrowx⟩
  have hne1 : gw < gx := Nat.lt_of_lt_of_le hroww.lt hb4
  have hbx : w.heap.size ≤ gx := Nat.le_trans hG3.size hb4
  have hG4 := grown_trans hG3 hg4
  have ht4 := ht.none hG4
  go_wp2_with fail
  refine (toB a1 n1 cap1 ts w4 ht4 hn1).mono ?_
  rintro e w5 ⟨gt, rfl, hg5, hb5, hrowt⟩
  have hne2 : gx < gt := Nat.lt_of_lt_of_le hrowx.lt hb5
  have hrowx5 := hrowx.kept hg5 (by simp)
  have hG5 := grown_trans hG4 hg5
  have hroww5 := (hroww.kept hg4 (by simp)).kept hg5 (by simp)
  clear hG3 hG4 hg4 hg5 hb4 hb5 hrowx hroww hr3 ht4 HS'
  go_wp2_with fail
  refine (HI'.out _ _ _ hrowx5 hrowt).mono ?_
  rintro e w6 ⟨gg, rfl, hg6, hb6, hrowg⟩
  have hne3 : gt < gg := Nat.lt_of_lt_of_le hrowt.lt hb6
  have hroww6 := hroww5.kept hg6 (by simp)
  have hrowx6 := hrowx5.kept hg6 (by simp)
  have hrowt6 := hrowt.kept hg6 (by simp)
  have hG6 := grown_trans hG5 hg6
  have hB6 : Below w.heap.size w w6 := (Below.refl _ _).grown hG6 (Nat.le_refl _) (by simp)
  clear hG5 hG6 hg6 hb6 hroww5 hrowx5 hrowt
  go_wp2_with fail
  refine (eqT _ _ l l cw L w6 (hrowg.reads' hLl) (hroww6.reads' hLl) (by omega)).mono ?_
  rintro e w7 ⟨rfl, hq7⟩
  have hg7 := quiet hq7
  have hB7 := hB6.grown hg7 hB6.size (by simp)
  have hr7 := hr.below hB7
  clear hq7
  go_wp2_with fail
  refine (toB a0 n cap ys w7 hr7 hn).mono ?_
  rintro e w8 ⟨g8, rfl, hg8, hb8, hrow8⟩
  have hgA := grown_trans hg7 hg8
  have hrowx8 := hrowx6.kept hgA (by simp)
  clear hb8 hg7 hr7 hB7
  go_wp2_with fail
  refine (eqT _ _ n n n ys w8 (hrowx8.reads' hlen) (hrow8.reads' hlen) (by omega)).mono ?_
  rintro e w9 ⟨rfl, hq9⟩
  have hgB := grown_trans hgA (quiet hq9)
  have hB9 := hB6.grown hgB hB6.size (by simp)
  have ht9 := ht.below hB9
  clear hq9 hgA hrow8 hrowx8 hg8
  go_wp2_with fail
  refine (toB a1 n1 cap1 ts w9 ht9 hn1).mono ?_
  rintro e w10 ⟨g10, rfl, hg10, hb10, hrow10⟩
  have hgC := grown_trans hgB hg10
  have hrowt10 := hrowt6.kept hgC (by simp)
  clear hb10 hgB hg10 ht9 hB9
  go_wp2_with fail
  refine (eqT _ _ n1 n1 n1 ts w10 (hrowt10.reads' hlen1) (hrow10.reads' hlen1) (by omega)).mono ?_
  rintro e w11 ⟨rfl, hq11⟩
  have hgD := grown_trans hgC (quiet hq11)
  have hrowx11 := hrowx6.kept hgD (by simp)
  have hrowt11 := hrowt6.kept hgD (by simp)
  have hroww11 := hroww6.kept hgD (by simp)
  have hrowg11 := hrowg.kept hgD (by simp)
  have hB11 := hB6.grown hgD hB6.size (by simp)
  clear hq11 hgC hgD hrowx6 hrowt6 hroww6 hrowg hB6 hrow10 hrowt10
  go_wp2_with fail
  refine (markT gx n n ys 1 w11 hrowx11 hlen (by omega) (by omega) (by omega)).mono ?_
  rintro e w12 ⟨rfl, hg12, hs12, hrow12⟩
  have hrowt12 := hrowt11.kept hg12 (by simp; omega)
  have hroww12 := hroww11.kept hg12 (by simp; omega)
  have hrowg12 := hrowg11.kept hg12 (by simp; omega)
  have hB12 : Below w.heap.size w w12 := hB11.grown hg12 hB11.size (by intro k hk; cases hk; exact hbx)
  clear hs12 hg12 hrow12 hrowx11 hrowt11 hroww11 hrowg11 hB11
  go_wp2_with fail
  refine (markT gt n1 n1 ts (1 + (n : Int)) w12 hrowt12 hlen1 (by omega) (by omega) (by omega)).mono ?_
  rintro e w13 ⟨rfl, hg13, hs13, hrow13⟩
  have hroww13 := hroww12.kept hg13 (by simp; omega)
  have hrowg13 := hrowg12.kept hg13 (by simp; omega)
  have hB13 : Below w.heap.size w w13 := hB12.grown hg13 hB12.size (by intro k hk; cases hk; omega)
  clear hs13 hg13 hrow13 hrowt12 hroww12 hrowg12 hB12
  go_wp2_with fail
  refine (eqT _ _ l l cw L w13 (hrowg13.reads' hLl) (hroww13.reads' hLl) (by omega)).mono ?_
  rintro e w14 ⟨rfl, hq14⟩
  have hg14 := quiet hq14
  have hroww14 := hroww13.kept hg14 (by simp)
  have hrowg14 := hrowg13.kept hg14 (by simp)
  have hB14 : Below w.heap.size w w14 := hB13.grown hg14 hB13.size (by simp)
  clear hq14 hg14 hroww13 hrowg13 hB13
  go_wp2_with fail
  refine (markT gg l l L 1 w14 hrowg14 hLl (by omega) (by omega) (by omega)).mono ?_
  rintro e w15 ⟨rfl, hg15, hs15, hrow15⟩
  have hroww15 := hroww14.kept hg15 (by simp; omega)
  have hB15 : Below w.heap.size w w15 := hB14.grown hg15 hB14.size (by intro k hk; cases hk; omega)
  clear hs15 hg15 hB14 hroww14 hrowg14
  go_wp2_with fail
  refine (heldT _ l l 1 w15 (hrow15.reads' (marks_len _ _)) (by omega) (by omega) (by omega)).mono ?_
  rintro e w16 ⟨rfl, hq16⟩
  have hg16 := quiet hq16
  have hroww16 := hroww15.kept hg16 (by simp)
  have hrow16 := hrow15.kept hg16 (by simp)
  have hB16 : Below w.heap.size w w16 := hB15.grown hg16 hB15.size (by simp)
  have hr16 := hr.below hB16
  clear hq16 hg16 hroww15 hrow15 hB15
  go_wp2_with fail
  refine (toB a0 n cap ys w16 hr16 hn).mono ?_
  rintro e w17 ⟨g17, rfl, hg17, hb17, hrow17⟩
  have ht17 := (ht.below hB16).none hg17
  go_wp2_with fail
  refine (toB a1 n1 cap1 ts w17 ht17 hn1).mono ?_
  rintro e w18 ⟨g18, rfl, hg18, hb18, hrow18⟩
  have hrow17' := hrow17.kept hg18 (by simp)
  clear ht17 hr16
  go_wp2_with fail
  refine (HI'.out _ _ _ hrow17' hrow18).mono ?_
  rintro e w19 ⟨gh, rfl, hg19, hb19, hrowh⟩
  have hgE := grown_trans (grown_trans hg17 hg18) hg19
  have hroww19 := hroww16.kept hgE (by simp)
  have hrow19 := hrow16.kept hgE (by simp)
  have hB19 : Below w.heap.size w w19 := hB16.grown hgE hB16.size (by simp)
  clear hg17 hg18 hg19 hgE hb17 hb18 hb19 hrow17 hrow17' hrow18 hroww16 hrow16 hB16
  go_wp2_with fail
  refine (eqT _ _ l l cw L w19 (hrowh.reads' hLl) (hroww19.reads' hLl) (by omega)).mono ?_
  rintro e w20 ⟨rfl, hq20⟩
  have hg20 := quiet hq20
  have hrow20 := hrow19.kept hg20 (by simp)
  have hB20 : Below w.heap.size w w20 := hB19.grown hg20 hB19.size (by simp)
  clear hq20 hg20 hrow19 hroww19 hrowh hB19
  go_wp2_with fail
  refine (heldT _ l l 1 w20 (hrow20.reads' (marks_len _ _)) (by omega) (by omega) (by omega)).mono ?_
  rintro e w21 ⟨rfl, hq21⟩
  go_wp2
  go_ret
  exact ⟨rfl, hB20.grown (quiet hq21) hB20.size (by simp)⟩
end Go.Proofs.Ytjlehmpdfpefdag.By
