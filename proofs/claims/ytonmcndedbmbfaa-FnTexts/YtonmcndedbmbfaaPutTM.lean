/-
  The specification's PutText over slices of our own, and an append of zeros, for this seat's proofs. No statement is proved here.
-/
import Derived.Test.YtonmcndedbmbfaaDrawT1
import Derived.Test.YtonmcndedbmbfaaTxtMath
import Derived.Lib.AppendZerosOnto
namespace Go.Proofs.Ytonmcndedbmbfaa.By
open Go.RowKit
set_option linter.unusedVariables false
set_option linter.unusedSimpArgs false

theorem run_appM {w : World} {B B2 : Nat} {v : Value} {zs : List Int} {n : Nat} (ty : TypeId) (hown : w.ownsRow B 5 1 v n (vals zs)) (v2 : Value) (ts : List Int) (h2 : Mine w B2 v2 ts) (hn : n + ts.length ≤ 1000) (hB : B ≤ w.heap.size) :
    ∃ v' w', (Builtin.append_ #[22, 22] ty #[v, v2]).run Try.prog w = .ok v' w' ∧ w'.ownsRow B 5 1 v' (n + ts.length) (vals (zs ++ ts)) ∧ w.grownBy w' v.ownBlock ∧ (v ≠ .slice none 0 0 → v' ≠ .slice none 0 0) := by
  obtain ⟨i0, hi, hz0, hz1, hz2⟩ := info_parts info5
  rcases h2.shape with ⟨rfl, rfl⟩ | ⟨g, cp, rfl, _, hrow, _⟩
  · exact ⟨v, w, run_append_owned_none (P := Try.prog) (w := w) B 22 ty 5 i0 1 Try.underlying22 hi v n _ hown, by simpa using hown, World.grownBy.refl _ _, id⟩
  · have hnews : ∀ j u, (vals ts)[j]? = some u → w.cell? ((⟨g, 0, none⟩ : Addr).add j) = some u := vals_get (n := ts.length) rfl (fun i hi => by have := hrow.cell i (by omega); simpa using this)
    obtain ⟨v', w', h1, h2', h3, h4⟩ := run_append_own (P := Try.prog) w B 22 ty 5 i0 (.int .u8 0) 1 1 Try.underlying22 hi hz0 hz1 hz2 rfl (by decide) v n (vals zs) hown ⟨g, 0, none⟩ ts.length cp (vals ts) (by simp [vals]) hnews (vals_one ts) (by simp [maxLen]; omega) (by omega) hB
    exact ⟨v', w', h1, by rw [← vals_app]; exact h2', h3, fun hv e => hv (h4.1 e).1⟩

set_option maxHeartbeats 2000000 in
theorem specPutTextM (w : World) (B B2 : Nat) (v v2 : Value) (ys ts : List Int) (h : Mine w B v ys) (h2 : Mine w B2 v2 ts) (hy : ys.length ≤ 500) (ht : ts.length ≤ 40) :
    Calls Try.prog 30 #[v, v2] w fun e w' => ∃ g cp, e = .returned (.slice (some ⟨g, 0, none⟩) (ys.length + (textB ts).length) cp) ∧ w.grownBy w' none ∧ w.heap.size ≤ g ∧ Row w' g cp (ys ++ textB ts) ∧ cp ≤ maxLen := by
  obtain ⟨a1, c1, rfl⟩ := h.form
  obtain ⟨a2, c2, rfl⟩ := h2.form
  have hP := putMine w B (.slice a1 ys.length c1) ys (ts.length : Int) h (by omega)
  have hL := numB_len (ts.length : Int)
  have hT : textB ts = numB (ts.length : Int) ++ ts := textB_fits (by omega)
  generalize numB (ts.length : Int) = L at *
  have HT : Hid (textB ts = L ++ ts) := hT
  have H2 : Hid (Mine w B2 (.slice a2 ts.length c2) ts) := h2
  have HP : Hid _ := hP
  have hnot : ¬ (40 < (ts.length : Int)) := by omega
  clear h h2 hP hT
  generalize hk : ts.length = k at *
  generalize hj : ys.length = j at *
  have HKJ : Hid (ts.length = k ∧ ys.length = j) := ⟨hk, hj⟩
  clear hk hj
  go_enter Try.func30, Try.ntmps30
  go_wp2_with fail
  refine Calls.mono HP.out ?_
  rintro e w1 ⟨g, cp, rfl, hg1, hb1, hrow1, hcp⟩
  have hlen : (ys ++ L).length = j + L.length := by rw [List.length_append, HKJ.out.2]
  have hown := own_row hrow1 hlen hb1 hcp
  have m2 : Mine w1 B2 (.slice a2 k c2) ts := by
    have := H2.out
    exact ⟨this.1.kept hg1 (by by_cases h : (Value.slice a2 k c2).ownBlock = none <;> simp [h]), this.2⟩
  obtain ⟨v', w2, hrun, ho2, hg2, hnn⟩ := run_appM 22 hown (.slice a2 k c2) ts m2 (by have := HKJ.out.1; omega) hg1.size
  have HA : Hid _ := hrun
  have FIN : Hid (w2.ownsRow w.heap.size 5 1 v' (j + L.length + ts.length) (vals (ys ++ L ++ ts)) ∧ w.grownBy w2 none ∧ v' ≠ .slice none 0 0) := ⟨ho2, by
    refine ⟨hg2.os.trans hg1.os, hg2.tape.trans hg1.tape, hg2.output.trans hg1.output, Nat.le_trans hg1.size hg2.size, fun i hi _ => (hg2.block i (Nat.lt_of_lt_of_le hi hg1.size) ?_).trans (hg1.block i hi (by simp))⟩
    simp [Value.ownBlock]; omega, hnn (by simp)⟩
  clear HP H2 hg1 hb1 hrow1 hcp hlen hown m2 hrun ho2 hg2 hnn
  simp only []
  go_wp2_with (at_builtin; go_must (refine Lib.wpList_append_run _ rfl (.tmp 14) (.tmp 15) 22 22 rfl _ _ rfl rfl _ _ HA.out ?_))
  clear HA
  go_wp2
  go_ret
  obtain ⟨ho, hg, hnn⟩ := FIN.out
  obtain ⟨g', cp', rfl, hB', hrow', hlen', hcp'⟩ := row_own ho hnn
  refine ⟨g', cp', ?_, hg, hB', by rw [HT.out, ← List.append_assoc]; exact hrow', hcp'⟩
  have e1 : j + L.length + ts.length = j + (textB ts).length := by rw [HT.out, List.length_append]; omega
  rw [← e1]; rfl
end Go.Proofs.Ytonmcndedbmbfaa.By
