/-
  PutText, the landed one, answers the bytes and behind them those of the text. No statement is proved here.
-/
import Derived.Test.YtonmcndedbmbfaaPutJ
import Derived.Test.YtonmcndedbmbfaaPutS
import Derived.Test.YtonmcndedbmbfaaTxtMath
namespace Go.Proofs.Ytonmcndedbmbfaa.By
open Go.RowKit
set_option linter.unusedVariables false

set_option maxHeartbeats 2000000 in
theorem implTxt (a a' : Option Addr) (n m cap cap' : Nat) (zs ts : List Int) (w : World) (h : Reads w a n zs) (h' : Reads w a' m ts) (hn : n ≤ 1048576) (hm : m ≤ 1048576) :
    Calls Try.prog 8 #[.slice a n cap, .slice a' m cap'] w fun e w' => ∃ g, e = .returned (.slice (some ⟨g, 0, none⟩) (n + (textB ts).length) (n + (textB ts).length)) ∧ w.grownBy w' none ∧ w.heap.size ≤ g ∧ Row w' g (n + (textB ts).length) (zs ++ textB ts) := by
  have hl' := h'.1
  by_cases hlong : 40 < m
  · rw [textB_long (by omega)]
    have hJ := joinedT a none n 0 cap 0 zs [] w h (reads_nil w) (by omega) (by omega)
    clear h h' hl'
    go_enter Try.func8, Try.ntmps8
    go_wp2_with fail
    refine hJ.mono ?_
    rintro e w1 ⟨g, rfl, hg, hlt, hrow⟩
    clear hJ
    go_wp2
    go_ret
    exact ⟨g, rfl, hg, hlt, hrow⟩
  · rw [textB_fits (by omega), hl']
    obtain ⟨L, hL⟩ : ∃ L, L = numB (m : Int) := ⟨_, rfl⟩
    have hLl : L.length ≤ 5 := by rw [hL]; exact numB_len _
    have hP := implPut a n cap zs (m : Int) w h (by omega)
    rw [← hL] at hP ⊢
    have HE : Hid (n + (L ++ ts).length = n + L.length + m) := by show _ = _; rw [List.length_append, hl']; omega
    clear hL hl'
    generalize hl : n + L.length = l at *
    have hlb : l ≤ 1048581 := by omega
    go_enter Try.func8, Try.ntmps8
    go_wp2_with fail
    refine hP.mono ?_
    rintro e w1 ⟨g1, rfl, hg1, hb1, hrow1⟩
    clear hP
    have hr1 : Reads w1 (some ⟨g1, 0, none⟩) l (zs ++ L) := hrow1.reads' (by have := h.1; rw [List.length_append]; omega)
    have hJ := joinedT (some ⟨g1, 0, none⟩) a' l m l cap' (zs ++ L) ts w1 hr1 (h'.none hg1) (by omega) (by omega)
    clear hl hr1
    go_wp2_with fail
    refine hJ.mono ?_
    rintro e w2 ⟨g2, rfl, hg2, hb2, hrow2⟩
    clear hJ
    go_wp2
    go_ret
    rw [HE.out, ← List.append_assoc]
    exact ⟨g2, rfl, grown_trans hg1 hg2, Nat.le_trans hg1.size hb2, hrow2⟩

end Go.Proofs.Ytonmcndedbmbfaa.By
