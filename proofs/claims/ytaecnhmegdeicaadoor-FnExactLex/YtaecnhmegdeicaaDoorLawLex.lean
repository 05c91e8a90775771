/-
  The walk of laws.FnExactLex. No statement is proved here.
-/
import Derived.Test.YtaecnhmegdeicaaDoorXQ
namespace Go.Proofs.YtaecnhmegdeicaaDoor.By
open Go.RowKit
set_option linter.unusedVariables false
set_option linter.unusedSimpArgs false

set_option maxRecDepth 8000 in
set_option maxHeartbeats 8000000 in
theorem lawLex (a0 : Option Addr) (n cap : Nat) (zs : List Int) (hz : Byt zs) (w : World) (hr : Reads w a0 n zs) (hE : EnvX w) :
    Calls Tryd.prog 3 #[.slice a0 n cap] w fun e u => e = .returned (.bool true) ∧ w.grownBy u none := by
  by_cases hs : n ≤ 1048576
  rotate_left
  · have hs' : (1048576 : Int) < n := by omega
    clear hr hE
    go_enter Tryd.func3, Tryd.ntmps3
    go_wp2
    go_ret
    exact ⟨rfl, World.grownBy.refl _ _⟩
  have hs' : ¬ ((1048576 : Int) < n) := by omega
  have hlen := hr.1
  have HD : Hid (Reads w a0 n zs ∧ EnvX w) := ⟨hr, hE⟩
  have C1 : Hid _ := toB a0 n cap zs w hr hs
  have CI : Hid (∀ (g : Nat) (u : World), Row u g n zs → w.grownBy u none → _) := fun g u h5 h6 => implLexA g 0 n n zs u hlen hz (fun i hi => by rw [Nat.zero_add]; exact h5.cell i (by rw [hlen]; exact hi)) (Nat.le_refl _) (hE.none h6)
  have CS : Hid (∀ (g : Nat) (u : World), Row u g n zs → w.grownBy u none → _) := fun g u h5 h6 => specLexA g 0 n n zs u hlen hz (fun i hi => by rw [Nat.zero_add]; exact h5.cell i (by rw [hlen]; exact hi)) (Nat.le_refl _) (hE.none h6)
  have htk := lexV_tkn zs
  generalize lexV zs = RR at *
  obtain ⟨xs, q⟩ := RR
  simp only [] at CI CS htk
  have hxl : xs.length ≤ 16000 := by have := tkn_ge xs; omega
  have hsz : szTokens xs ≤ 1048576 := by have := sz_tkn xs; omega
  have htx : Hid (∀ y ∈ xs, y.text.length ≤ 1048576) := fun y hy => by have := txt_tkn xs y hy; omega
  clear hr hE
  go_enter Tryd.func3, Tryd.ntmps3
  go_wp2_with fail
  refine Calls.mono C1.out ?_
  rintro e w1 ⟨g1, rfl, hg, hb1, hrow1⟩
  have L1 : Hid (w.grownBy w1 none ∧ Row w1 g1 n zs) := ⟨hg, hrow1⟩
  clear hg hb1 hrow1 C1
  simp only []
  go_wp2_with fail
  refine Calls.mono (CS.out _ w1 L1.out.2 L1.out.1) ?_
  rintro e w2 ⟨aw, lw, cw, vsw, rfl, hg, h1, h2⟩
  obtain ⟨B1, hB1⟩ : ∃ B1, B1 = w1.heap.size := ⟨_, rfl⟩
  have L2 : Hid (w.grownBy w2 none ∧ TkS w2 B1 w2.heap.size aw lw cw xs) := ⟨grown_trans L1.out.1 hg, by rw [hB1]; exact TkS.of h1 h2⟩
  clear L1 hg h1 h2 CS hB1
  simp only []
  go_wp2_with fail
  refine Calls.mono (toB a0 n cap zs w2 (HD.out.1.none L2.out.1) hs) ?_
  rintro e w3 ⟨gx, rfl, hg, hb3, hrow3⟩
  obtain ⟨H1, hH1⟩ : ∃ H1, H1 = w2.heap.size := ⟨_, rfl⟩
  have L3 : Hid (w.grownBy w3 none ∧ TkS w3 B1 H1 aw lw cw xs ∧ Row w3 gx n zs ∧ (H1 ≤ gx ∧ w.heap.size ≤ gx)) := ⟨grown_trans L2.out.1 hg, by rw [hH1]; exact L2.out.2.none hg, hrow3, by omega, by have := L2.out.1.size; omega⟩
  clear L2 hg hb3 hrow3 hH1
  simp only []
  go_wp2_with fail
  refine Calls.mono (CI.out _ w3 L3.out.2.2.1 L3.out.1) ?_
  rintro e w4 ⟨ag, lg, cg, vsg, rfl, hg, h1, h2⟩
  obtain ⟨B3, hB3⟩ : ∃ B3, B3 = w3.heap.size := ⟨_, rfl⟩
  obtain ⟨H3, hH3⟩ : ∃ H3, H3 = w4.heap.size := ⟨_, rfl⟩
  have L4 : Hid (w.grownBy w4 none ∧ TkS w4 B1 H1 aw lw cw xs ∧ Row w4 gx n zs ∧ (H1 ≤ gx ∧ w.heap.size ≤ gx) ∧ gx < B3 ∧ (w.heap.size ≤ B3 ∧ B3 ≤ w4.heap.size) ∧ TkS w4 B3 H3 ag lg cg xs) := ⟨grown_trans L3.out.1 hg, L3.out.2.1.none hg, L3.out.2.2.1.kept hg (by simp), L3.out.2.2.2, by rw [hB3]; exact L3.out.2.2.1.lt, ⟨by rw [hB3]; exact L3.out.1.size, by rw [hB3]; exact hg.size⟩, by rw [hB3, hH3]; exact TkS.of h1 h2⟩
  clear L3 hg h1 h2 hB3 hH3
  simp only []
  have elw : lw = lg := L4.out.2.1.len.symm.trans L4.out.2.2.2.2.2.2.len
  subst elw
  go_wp2_with fail
  refine Calls.mono (eqTokensT xs ag aw lw cg cw w4 (L4.out.2.2.2.2.2.2.sl (by omega)) (L4.out.2.1.sl (by omega)) hsz) ?_
  rintro e w5 ⟨rfl, hg⟩
  have L5 : Hid (w.grownBy w5 none ∧ TkS w5 B1 H1 aw lw cw xs ∧ Row w5 gx n zs ∧ (H1 ≤ gx ∧ w.heap.size ≤ gx) ∧ gx < B3 ∧ (w.heap.size ≤ B3 ∧ B3 ≤ w5.heap.size) ∧ TkS w5 B3 H3 ag lw cg xs) := ⟨grown_trans L4.out.1 hg, L4.out.2.1.none hg, L4.out.2.2.1.kept hg (by simp), L4.out.2.2.2.1, L4.out.2.2.2.2.1, ⟨L4.out.2.2.2.2.2.1.1, Nat.le_trans L4.out.2.2.2.2.2.1.2 hg.size⟩, L4.out.2.2.2.2.2.2.none hg⟩
  clear L4 hg
  simp only []
  go_wp2_with fail
  refine Calls.mono (toB a0 n cap zs w5 (HD.out.1.none L5.out.1) hs) ?_
  rintro e w6 ⟨g6, rfl, hg, hb6, hrow6⟩
  have L6 : Hid ((w.grownBy w6 none ∧ TkS w6 B1 H1 aw lw cw xs ∧ Row w6 gx n zs ∧ (H1 ≤ gx ∧ w.heap.size ≤ gx) ∧ gx < B3 ∧ (w.heap.size ≤ B3 ∧ B3 ≤ w6.heap.size) ∧ TkS w6 B3 H3 ag lw cg xs) ∧ Row w6 g6 n zs) := ⟨⟨grown_trans L5.out.1 hg, L5.out.2.1.none hg, L5.out.2.2.1.kept hg (by simp), L5.out.2.2.2.1, L5.out.2.2.2.2.1, ⟨L5.out.2.2.2.2.2.1.1, Nat.le_trans L5.out.2.2.2.2.2.1.2 hg.size⟩, L5.out.2.2.2.2.2.2.none hg⟩, hrow6⟩
  clear L5 hg hb6 hrow6
  simp only []
  go_wp2_with fail
  refine Calls.mono (eqT _ _ n n n zs w6 (L6.out.1.2.2.1.reads' hlen) (L6.out.2.reads' hlen) (by omega)) ?_
  rintro e w7 ⟨rfl, hq7⟩
  have hg := quiet hq7
  have L7 : Hid (w.grownBy w7 none ∧ TkS w7 B1 H1 aw lw cw xs ∧ Row w7 gx n zs ∧ (H1 ≤ gx ∧ w.heap.size ≤ gx) ∧ gx < B3 ∧ (w.heap.size ≤ B3 ∧ B3 ≤ w7.heap.size) ∧ TkS w7 B3 H3 ag lw cg xs) := ⟨grown_trans L6.out.1.1 hg, L6.out.1.2.1.none hg, L6.out.1.2.2.1.kept hg (by simp), L6.out.1.2.2.2.1, L6.out.1.2.2.2.2.1, ⟨L6.out.1.2.2.2.2.2.1.1, Nat.le_trans L6.out.1.2.2.2.2.2.1.2 hg.size⟩, L6.out.1.2.2.2.2.2.2.none hg⟩
  clear L6 hg hq7
  simp only []
  go_wp2_with fail
  refine Calls.mono (markT gx n n zs 1 w7 L7.out.2.2.1 hlen (by omega) (by omega) (by omega)) ?_
  rintro e w8 ⟨rfl, hg, -, -⟩
  have L8 : Hid (w.grownBy w8 none ∧ TkS w8 B1 H1 aw lw cw xs ∧ H1 ≤ B3 ∧ (w.heap.size ≤ B3 ∧ B3 ≤ w8.heap.size) ∧ TkS w8 B3 H3 ag lw cg xs) := ⟨grown_into L7.out.1 hg L7.out.2.2.2.1.2, L7.out.2.1.far hg (.inr L7.out.2.2.2.1.1), by have := L7.out.2.2.2.1.1; have := L7.out.2.2.2.2.1; omega, ⟨L7.out.2.2.2.2.2.1.1, Nat.le_trans L7.out.2.2.2.2.2.1.2 hg.size⟩, L7.out.2.2.2.2.2.2.far hg (.inl L7.out.2.2.2.2.1)⟩
  clear L7 hg
  simp only []
  have hk1 : decide ((1 : Int) + n < 0) = false := by simp; omega
  go_wp2_with fail
  refine Calls.mono (eqTokensT xs ag aw lw cg cw w8 (L8.out.2.2.2.2.sl (by omega)) (L8.out.2.1.sl (by omega)) hsz) ?_
  rintro e w9 ⟨rfl, hg⟩
  have L9 : Hid (w.grownBy w9 none ∧ TkS w9 B1 H1 aw lw cw xs ∧ H1 ≤ B3 ∧ (w.heap.size ≤ B3 ∧ B3 ≤ w9.heap.size) ∧ TkS w9 B3 H3 ag lw cg xs) := ⟨grown_trans L8.out.1 hg, L8.out.2.1.none hg, L8.out.2.2.1, ⟨L8.out.2.2.2.1.1, Nat.le_trans L8.out.2.2.2.1.2 hg.size⟩, L8.out.2.2.2.2.none hg⟩
  clear L8 hg hk1
  simp only []
  obtain ⟨vsm, om, tm, -⟩ := L9.out.2.2.2.2
  have CM : Hid _ := markTs xs ag lw cg B3 B3 H3 vsm 1 w9 om tm (Nat.le_refl _) L9.out.2.2.2.1.2 (by omega) (by decide) (by decide)
  clear om tm
  go_wp2_with fail
  refine Calls.mono CM.out ?_
  rintro e v1 ⟨rfl, ⟨us, om, tm⟩, hb, -⟩
  have L10 : Hid (w.grownBy v1 none ∧ TkS v1 B1 H1 aw lw cw xs ∧ TkS v1 B3 H3 ag lw cg (mkT 1 xs)) := ⟨grown_bel L9.out.1 L9.out.2.2.2.1.1 hb, L9.out.2.1.bel hb L9.out.2.2.1, us, om, tm, by
    obtain ⟨-, -, -, h3⟩ := L9.out.2.2.2.2
    exact h3⟩
  clear L9 CM om tm hb
  simp only []
  have hml : (mkT 1 xs).length ≤ 1048576 := by rw [mkT_len]; omega
  go_wp2_with fail
  refine Calls.mono (heldTs xs ag lw cg 1 v1 (L10.out.2.2.sl hml) (by omega) htx.out (by decide) (by decide)) ?_
  rintro e v2 ⟨rfl, hg⟩
  have L11 : Hid (w.grownBy v2 none ∧ TkS v2 B1 H1 aw lw cw xs ∧ TkS v2 B3 H3 ag lw cg (mkT 1 xs)) := ⟨grown_trans L10.out.1 hg, L10.out.2.1.none hg, L10.out.2.2.none hg⟩
  clear L10 hg
  simp only []
  have hq1' : ¬ ((1 : Int) + tkn xs < 0) := by omega
  go_wp2_with fail
  refine Calls.mono (toB a0 n cap zs v2 (HD.out.1.none L11.out.1) hs) ?_
  rintro e v3 ⟨g3, rfl, hg, hb6, hrow6⟩
  have L12 : Hid ((w.grownBy v3 none ∧ TkS v3 B1 H1 aw lw cw xs ∧ TkS v3 B3 H3 ag lw cg (mkT 1 xs)) ∧ Row v3 g3 n zs) := ⟨⟨grown_trans L11.out.1 hg, L11.out.2.1.none hg, L11.out.2.2.none hg⟩, hrow6⟩
  clear L11 hg hb6 hrow6
  simp only []
  go_wp2_with fail
  refine Calls.mono (CI.out _ v3 L12.out.2 L12.out.1.1) ?_
  rintro e v4 ⟨ah, lh, ch, vsh, rfl, hg, h1, h2⟩
  obtain ⟨B4, hB4⟩ : ∃ B4, B4 = v3.heap.size := ⟨_, rfl⟩
  obtain ⟨H4, hH4⟩ : ∃ H4, H4 = v4.heap.size := ⟨_, rfl⟩
  have L13 : Hid ((w.grownBy v4 none ∧ TkS v4 B1 H1 aw lw cw xs ∧ TkS v4 B3 H3 ag lw cg (mkT 1 xs)) ∧ TkS v4 B4 H4 ah lh ch xs) := ⟨⟨grown_trans L12.out.1.1 hg, L12.out.1.2.1.none hg, L12.out.1.2.2.none hg⟩, by rw [hB4, hH4]; exact TkS.of h1 h2⟩
  clear L12 hg h1 h2 hB4 hH4 CI
  simp only []
  have elh : lw = lh := L13.out.1.2.1.len.symm.trans L13.out.2.len
  subst elh
  go_wp2_with fail
  refine Calls.mono (eqTokensT xs ah aw lw ch cw v4 (L13.out.2.sl (by omega)) (L13.out.1.2.1.sl (by omega)) hsz) ?_
  rintro e v5 ⟨rfl, hg⟩
  have L14 : Hid (w.grownBy v5 none ∧ TkS v5 B3 H3 ag lw cg (mkT 1 xs)) := ⟨grown_trans L13.out.1.1 hg, L13.out.1.2.2.none hg⟩
  clear L13 hg
  simp only []
  go_wp2_with fail
  refine Calls.mono (heldTs xs ag lw cg 1 v5 (L14.out.2.sl hml) (by omega) htx.out (by decide) (by decide)) ?_
  rintro e v6 ⟨rfl, hg⟩
  have L15 : Hid (w.grownBy v6 none) := grown_trans L14.out.1 hg
  clear L14 hg
  simp only []
  go_wp2
  go_ret
  exact ⟨rfl, L15.out⟩
end Go.Proofs.YtaecnhmegdeicaaDoor.By
