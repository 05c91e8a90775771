/-
  The specification's PutNum behind no bytes. No statement is proved here.
-/
import Derived.Test.YtonmcndedbmbfaaPutS
import Derived.Laws.AppendOwnNone
namespace Go.Proofs.Ytonmcndedbmbfaa.By
open Go.RowKit
set_option linter.unusedVariables false

set_option maxHeartbeats 2000000 in
theorem specPutNil (N : Int) (w : World) :
    Calls Try.prog 31 #[.slice none 0 0, .int .i64 N] w fun e w' => ∃ g cp, e = .returned (.slice (some ⟨g, 0, none⟩) ((numB N).length) cp) ∧ w.grownBy w' none ∧ w.heap.size ≤ g ∧ Row w' g cp (numB N) ∧ cp ≤ maxLen := by
  obtain ⟨i0, hi, hz0, hz1, hz2⟩ := info_parts info5
  have HO : Hid ((w.alloc (.cells #[] 5)).ownsRow w.heap.size 5 1 (.slice (some ⟨w.heap.size, 0, none⟩) 0 0) 0 []) := World.ownsRow_made w #[] 0 (Nat.le_refl _) (Nat.zero_le _) rfl
  have HB0 : Hid (Below w.heap.size w (w.alloc (.cells #[] 5))) := (Below.refl _ _).alloc (Nat.le_refl _) _
  have fin : ∀ (v : Value) (w' : World) (m : Nat), w'.ownsRow w.heap.size 5 1 v m (vals (numB N)) → v ≠ .slice none 0 0 → Below w.heap.size w w' → m = (numB N).length →
      ∃ g cp, Ending.returned v = .returned (.slice (some ⟨g, 0, none⟩) ((numB N).length) cp) ∧ w.grownBy w' none ∧ w.heap.size ≤ g ∧ Row w' g cp (numB N) ∧ cp ≤ maxLen := by
    intro v w' m ho hv hb hm
    obtain ⟨g, cp, rfl, hB, hrow, hlen, hcp⟩ := row_own ho hv
    exact ⟨g, cp, by rw [hm], grown_of_below hb, hB, hrow, hcp⟩
  have FIN : Hid (∀ (v : Value) (w' : World) (m : Nat), w'.ownsRow w.heap.size 5 1 v m (vals (numB N)) → v ≠ .slice none 0 0 → Below w.heap.size w w' → m = (numB N).length →
      ∃ g cp, Ending.returned v = .returned (.slice (some ⟨g, 0, none⟩) ((numB N).length) cp) ∧ w.grownBy w' none ∧ w.heap.size ≤ g ∧ Row w' g cp (numB N) ∧ cp ≤ maxLen) := fin
  clear fin
  by_cases hN : N < 0 ∨ 2147483647 < N
  · have HE : Hid (numB N = []) := numB_out hN
    rcases hN with hN | hN
    all_goals
      go_enter Try.func31, Try.ntmps31
      go_wp2_with (at_builtin; go_must (refine wpList_append_own_none rfl (.tmp 6) (.tmp 7) 22 rfl w.heap.size 5 i0 1 Try.underlying22 hi (.slice (some ⟨w.heap.size, 0, none⟩) 0 0) 0 [] rfl HO.out rfl ?_))
      go_ret
      refine FIN.out _ _ 0 ?_ ?_ HB0.out ?_
      · rw [HE.out]; exact HO.out
      · intro e; injection e with h1; cases h1
      · rw [HE.out]; rfl
  · have h0 : 0 ≤ N := by omega
    have h1 : N ≤ 2147483647 := by omega
    have HE : Hid (numB N = putB N.toNat) := numB_in h0 h1
    clear hN
    go_enter Try.func31, Try.ntmps31
    go_wp2_with (at_builtin; go_must (refine wpList_append_own_none rfl (.tmp 6) (.tmp 7) 22 rfl w.heap.size 5 i0 1 Try.underlying22 hi (.slice (some ⟨w.heap.size, 0, none⟩) 0 0) 0 [] rfl HO.out rfl ?_))
    have HOW1 : Hid ((w.alloc (.cells #[] 5)).ownsRow w.heap.size 5 1 (.slice (some ⟨w.heap.size, 0, none⟩) 0 0) (0 + ([] : List Int).length) (vals ([] ++ []))) := HO.out
    have HNE1 : Hid (Value.slice (some ⟨w.heap.size, 0, none⟩) 0 0 ≠ .slice none 0 0) := by intro e; injection e with h1; cases h1
    go_loopw [1, 5] (fun v o wr => ∃ (m : Int) (pre : List Int), v = .int .i64 m ∧ 0 ≤ m ∧ m ≤ 2147483647 ∧ Hid (wr.ownsRow w.heap.size 5 1 o (0 + pre.length) (vals ([] ++ pre))) ∧ Hid (o ≠ .slice none 0 0) ∧ Hid (Below w.heap.size w wr) ∧ Hid (pre ++ putB m.toNat = numB N)) (fun v _ _ => (intOf v).toNat)
    case atStart => exact ⟨N, [], rfl, h0, h1, HOW1, HNE1, HB0, HE.out.symm⟩
    case round =>
      clear HOW1 HNE1 HE
      obtain ⟨m, pre, rfl, hm0, hm1, HOW, HNE, HB, HP⟩ := hrel
      have hpl : pre.length ≤ 5 := by
        have e := congrArg List.length HP.out
        have := numB_len N
        rw [List.length_append] at e; omega
      have hbs := HB.out.size
      have E1 : Hid (0 + pre.length + 1 ≤ maxLen) := by show _ ≤ _; unfold maxLen; omega
      have E2 : Hid ((0 + pre.length + 1) * 1 ≤ 140737488355328) := by show _ ≤ _; omega
      have E3 : ∀ o, Hid (w.heap.size ≤ (wr.alloc o).heap.size) := by intro o; show _ ≤ _; simp; omega
      by_cases hgt : 127 < m
      · have HP2 : Hid ((pre ++ [128 + m % 128]) ++ putB (m / 128).toNat = numB N) := by
          show _ = _
          have e := HP.out
          rw [putI_more (by omega)] at e
          rw [← e, List.append_assoc, List.singleton_append, Int.add_comm 128 (m % 128)]
        go_wp2_with (at_builtin; go_must (refine wpList_append_own _ rfl (.tmp 18) (.tmp 23) 22 rfl w.heap.size 5 i0 (.int .u8 0) 1 1 Try.underlying22 hi hz0 hz1 hz2 rfl (by decide) u5 (0 + pre.length) (vals ([] ++ pre)) rfl (HOW.out.alloc _) ⟨wr.heap.size, 0, none⟩ 1 1 [.int .u8 (128 + m % 128)] rfl rfl (cell_one_new _ _ _) (by simp [Value.oneCell']) E1.out E2.out (E3 _).out ?_); intro v2 w2 hown2 hgrow2 hnil2)
        have OW2 : Hid (w2.ownsRow w.heap.size 5 1 v2 (0 + (pre ++ [128 + m % 128]).length) (vals ([] ++ (pre ++ [128 + m % 128])))) := by
          show w2.ownsRow _ _ _ _ _ _
          have e := own_step hown2
          rw [List.append_assoc] at e
          have e2 : 0 + (pre ++ [128 + m % 128]).length = 0 + pre.length + 1 := by simp
          rw [e2]; exact e
        have NE2 : Hid (v2 ≠ .slice none 0 0) := fun e => HNE.out (hnil2.1 e).1
        have B2 : Hid (Below w.heap.size w w2) := (HB.out.alloc hbs _).grown hgrow2 (by simp; omega) (own_lt HOW.out)
        clear hown2 hgrow2 hnil2
        go_roundw
        case rel => exact ⟨m / 128, pre ++ [128 + m % 128], rfl, by omega, by omega, OW2, NE2, B2, HP2⟩
        case measure => simp [intOf]; omega
      · have HP2 : Hid (pre ++ [m] = numB N) := by
          show _ = _
          have e := HP.out
          rw [putI hm0 (by omega)] at e
          exact e
        go_wp2_with (at_builtin; go_must (refine wpList_append_own _ rfl (.tmp 27) (.tmp 30) 22 rfl w.heap.size 5 i0 (.int .u8 0) 1 1 Try.underlying22 hi hz0 hz1 hz2 rfl (by decide) u5 (0 + pre.length) (vals ([] ++ pre)) rfl (HOW.out.alloc _) ⟨wr.heap.size, 0, none⟩ 1 1 [.int .u8 m] rfl rfl (cell_one_new _ _ _) (by simp [Value.oneCell']) E1.out E2.out (E3 _).out ?_); intro v2 w2 hown2 hgrow2 hnil2)
        go_ret
        refine FIN.out v2 w2 (0 + pre.length + 1) ?_ ?_ ?_ ?_
        · have e := own_step hown2
          rw [List.append_assoc, HP2.out] at e; exact e
        · exact fun e => HNE.out (hnil2.1 e).1
        · exact (HB.out.alloc hbs _).grown hgrow2 (by simp; omega) (own_lt HOW.out)
        · have e := congrArg List.length HP2.out
          simp at e; omega
end Go.Proofs.Ytonmcndedbmbfaa.By
