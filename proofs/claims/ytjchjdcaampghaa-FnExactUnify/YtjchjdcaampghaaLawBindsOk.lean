/-
  The walk of the exact law of BindsOk. No statement is proved here.
-/
import Derived.Test.YtjchjdcaampghaaUI
import Derived.Test.YtjchjdcaampghaaUH
import Derived.Test.YtjchjdcaampghaaUC
namespace Go.Proofs.Ytjchjdcaampghaa.By
open Go.RowKit
set_option linter.unusedVariables false
set_option linter.unusedSimpArgs false

theorem SlOB.cap {w : World} {t s : TypeId} {f : B} {a : Option Addr} {l c : Nat} {bs : List Nat} (h : SlOB w t s a l c f bs) : l ≤ c := h.2.2.1

set_option maxRecDepth 8000 in
set_option maxHeartbeats 1000000 in
theorem lawBindsOk (f : B) (a : Option Addr) (l c : Nat) (w : World) (h : SlB w a l f) :
    Calls Try.prog 5 #[.slice a l c] w fun e u => e = .returned (.bool true) ∧ w.grownBy u none := by
  have HS : Hid (∀ u, w.grownBy u none → SlB u a l f) := fun u hu => h.none hu
  have C0 : Hid _ := szBs f a l c 1048576 w h (by omega) (by omega)
  clear h
  go_enter Try.func5, Try.ntmps5
  go_wp2_with fail
  refine Calls.mono C0.out ?_
  rintro e w1 ⟨rfl, hg⟩
  have G1 : Hid (w.grownBy w1 none) := hg
  clear C0 hg
  simp only []
  by_cases hs : ¬ ((f.size : Int) ≤ 1048576)
  · have e1 : szVB f 1048576 = -1 := if_neg hs
    rw [e1]
    clear e1
    go_wp2
    go_ret
    exact ⟨rfl, G1.out⟩
  have hs := Decidable.not_not.1 hs
  have e1 : szVB f 1048576 = 1048576 - f.size := if_pos hs
  rw [e1]
  clear e1
  have hs' : f.size ≤ 1048576 := by omega
  have hneg : ¬ (1048576 - (f.size : Int) < 0) := by omega
  have C1 : Hid _ := toBs f a l c w1 hs' (HS.out _ G1.out)
  go_wp2_with fail
  refine Calls.mono C1.out ?_
  rintro e w2 ⟨a2, c2, bs2, rfl, hg, hn⟩
  have G2 : Hid (w.grownBy w2 none ∧ NewB w1 w2 26 33 a2 l c2 f bs2) := ⟨grown_trans G1.out hg, hn⟩
  clear C1 hg hn G1
  simp only []
  go_wp2_with fail
  refine Calls.mono (specBindsOkT f a2 l c2 w2 G2.out.2.1.reads G2.out.2.1.cap) ?_
  rintro e w3 ⟨rfl, hg⟩
  have G3 : Hid (w.grownBy w3 none) := grown_trans G2.out.1 hg
  clear hg G2
  have C3 : Hid _ := toBs f a l c w3 hs' (HS.out _ G3.out)
  simp only []
  go_wp2_with fail
  refine Calls.mono C3.out ?_
  rintro e w4 ⟨a4, c4, bs4, rfl, hg, hn⟩
  have G4 : Hid (w.grownBy w4 none ∧ NewB w3 w4 26 33 a4 l c4 f bs4) := ⟨grown_trans G3.out hg, hn⟩
  clear C3 hg hn G3
  have C4 : Hid _ := implBindsOkT f a4 l c4 w4 G4.out.2.1.typed
  simp only []
  go_wp2_with fail
  refine Calls.mono C4.out ?_
  rintro e w5 ⟨rfl, hg⟩
  have G5 : Hid (w.grownBy w5 none ∧ SlB w5 a4 l f) := ⟨grown_trans G4.out.1 hg, G4.out.2.1.reads.none hg⟩
  clear C4 hg G4
  have C5 : Hid _ := toBs f a l c w5 hs' (HS.out _ G5.out.1)
  generalize bindsV f = tb at *
  simp only []
  have htb : (tb != tb) = false := by cases tb <;> rfl
  go_wp2_with fail
  refine Calls.mono C5.out ?_
  rintro e w6 ⟨a6, c6, bs6, rfl, hg, hn⟩
  have G6 : Hid (w.grownBy w6 none ∧ SlB w6 a4 l f ∧ SlB w6 a6 l f) := ⟨grown_trans G5.out.1 hg, G5.out.2.none hg, hn.1.reads⟩
  clear C5 hg hn G5
  simp only []
  go_wp2_with fail
  refine Calls.mono (eqBs f a4 a6 l c4 c6 w6 G6.out.2.1 G6.out.2.2) ?_
  rintro e w7 ⟨rfl, hg⟩
  have G7 : Hid (w.grownBy w7 none) := grown_trans G6.out.1 hg
  clear hg G6
  simp only []
  go_wp2
  go_ret
  exact ⟨rfl, G7.out⟩
end Go.Proofs.Ytjchjdcaampghaa.By
