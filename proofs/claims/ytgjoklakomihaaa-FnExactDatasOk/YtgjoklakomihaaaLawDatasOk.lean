/-
  The walk of the exact law of DatasOk. No statement is proved here.
-/
import Derived.Test.YtgjoklakomihaaaEM
import Derived.Test.YtgjoklakomihaaaEH
import Derived.Test.YtgjoklakomihaaaED
import Derived.Test.YtgjoklakomihaaaEZ
namespace Go.Proofs.Ytgjoklakomihaaa.By
open Go.RowKit
set_option linter.unusedVariables false
set_option linter.unusedSimpArgs false

set_option maxRecDepth 8000 in
set_option maxHeartbeats 1000000 in
theorem lawDatasOk (f : List Da) (a : Option Addr) (l c : Nat) (w : World) (h : SlDa w a l f) :
    Calls Try.prog 3 #[.slice a l c] w fun e u => e = .returned (.bool true) ∧ w.grownBy u none := by
  have HS : Hid (∀ u, w.grownBy u none → SlDa u a l f) := fun u hu => h.none hu
  have C0 : Hid _ := szDasT f a l c 1048576 w h (by omega) (by omega)
  clear h
  go_enter Try.func3, Try.ntmps3
  go_wp2_with fail
  refine Calls.mono C0.out ?_
  rintro e w1 ⟨hz, hg⟩
  have G1 : Hid (w.grownBy w1 none) := hg
  clear C0 hg
  obtain ⟨r, he, hr⟩ := hz
  subst he
  simp only []
  rcases hr with ⟨rfl, hlt⟩ | ⟨h0, hsum⟩
  · go_wp2
    go_ret
    exact ⟨rfl, G1.out⟩
  have hs' : szDas f ≤ 1048576 := by omega
  have hneg : ¬ r < 0 := by omega
  have C1 : Hid _ := toDasT f a l c w1 (HS.out _ G1.out) hs'
  go_wp2_with fail
  refine Calls.mono C1.out ?_
  rintro e w2 ⟨a2, c2, rfl, hg, hn, hc2⟩
  have G2 : Hid (w.grownBy w2 none ∧ SlDa w2 a2 l f) := ⟨grown_trans G1.out hg, hn.le CLe.unhide⟩
  clear C1 hg hn G1
  simp only []
  go_wp2_with fail
  refine Calls.mono (specDatasT f a2 l c2 w2 G2.out.2 hc2) ?_
  rintro e w3 ⟨rfl, hg⟩
  have G3 : Hid (w.grownBy w3 none) := grown_trans G2.out.1 hg
  clear hg G2
  have C3 : Hid _ := toDasT f a l c w3 (HS.out _ G3.out) hs'
  rw [specV_eq f]
  simp only []
  go_wp2_with fail
  refine Calls.mono C3.out ?_
  rintro e w4 ⟨a4, c4, rfl, hg, hn, hc4⟩
  have G4 : Hid (w.grownBy w4 none ∧ SlDa w4 a4 l f) := ⟨grown_trans G3.out hg, hn.le CLe.unhide⟩
  clear C3 hg hn G3
  have C4 : Hid _ := implDatasT f a4 l c4 w4 G4.out.2 hc4 hs'
  simp only []
  go_wp2_with fail
  refine Calls.mono C4.out ?_
  rintro e w5 ⟨rfl, hg⟩
  have G5 : Hid (w.grownBy w5 none ∧ SlDa w5 a4 l f) := ⟨grown_trans G4.out.1 hg, G4.out.2.none hg⟩
  clear C4 hg G4
  have C5 : Hid _ := toDasT f a l c w5 (HS.out _ G5.out.1) hs'
  generalize implV f = tb at *
  simp only []
  have htb : (tb != tb) = false := by cases tb <;> rfl
  go_wp2_with fail
  refine Calls.mono C5.out ?_
  rintro e w6 ⟨a6, c6, rfl, hg, hn, hc6⟩
  have G6 : Hid (w.grownBy w6 none ∧ SlDa w6 a4 l f ∧ SlDa w6 a6 l f) := ⟨grown_trans G5.out.1 hg, G5.out.2.none hg, hn.le CLe.unhide⟩
  clear C5 hg hn G5
  simp only []
  go_wp2_with fail
  refine Calls.mono (eqDasT f a4 a6 l c4 c6 w6 G6.out.2.1 G6.out.2.2 hs') ?_
  rintro e w7 ⟨rfl, hg⟩
  have G7 : Hid (w.grownBy w7 none) := grown_trans G6.out.1 hg
  clear hg G6
  simp only []
  go_wp2
  go_ret
  exact ⟨rfl, G7.out⟩
end Go.Proofs.Ytgjoklakomihaaa.By
