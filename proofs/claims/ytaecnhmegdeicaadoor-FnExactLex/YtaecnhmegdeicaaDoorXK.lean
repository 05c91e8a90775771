/-
  The document's side of pieces: digits, ticks, whole numbers. No statement is proved here.
-/
import Derived.Test.YtaecnhmegdeicaaDoorXJ
import Derived.Test.YtaecnhmegdeicaaDoorNI0
namespace Go.Proofs.YtaecnhmegdeicaaDoor.By
open Go.RowKit
set_option linter.unusedVariables false
set_option linter.unusedSimpArgs false

theorem digT (z : Int) (w : World) : Calls Tryd.prog 20 #[.int .u8 z] w fun e u => e = .returned (.bool (digZ z)) ∧ u = w := by
  by_cases h1 : 48 ≤ z
  · by_cases h2 : z ≤ 57
    · go_enter Tryd.func20, Tryd.ntmps20
      go_wp2
      go_ret
      exact ⟨by simp [digZ, h1, h2], rfl⟩
    · go_enter Tryd.func20, Tryd.ntmps20
      go_wp2
      go_ret
      exact ⟨by simp [digZ, h1, h2], rfl⟩
  · go_enter Tryd.func20, Tryd.ntmps20
    go_wp2
    go_ret
    exact ⟨by simp [digZ, h1]; intro h5; omega, rfl⟩

theorem tickT (b o l c : Nat) (zs : List Int) (w : World) (hz0 : zs.length = l) (hcs : ∀ i, i < l → w.cell? ⟨b, o + i, none⟩ = some (.int .u8 (zs.getD i 0))) :
    Calls Tryd.prog 16 #[.slice (some ⟨b, o, none⟩) l c] w fun e u => e = .returned (.bool (varWV zs)) ∧ w.grownBy u none := by
  by_cases hl : l = 2
  · subst hl
    have c0 : w.cell? ⟨b, o, none⟩ = some (.int .u8 (zs.getD 0 0)) := hcs 0 (by omega)
    have c1 : w.cell? ⟨b, o + 1, none⟩ = some (.int .u8 (zs.getD 1 0)) := hcs 1 (by omega)
    have E : Hid (varWV zs = (decide (zs.getD 0 0 = 39) && digZ (zs.getD 1 0))) := by show _ = _; unfold varWV digZ; simp [hz0, Bool.and_assoc]
    clear hcs hz0
    generalize zs.getD 0 0 = x at *
    generalize zs.getD 1 0 = y at *
    have CD : Hid _ := digT y w
    by_cases h1 : x = 39
    · go_enter Tryd.func16, Tryd.ntmps16
      go_wp2_with fail
      refine Calls.mono CD.out ?_
      rintro e u ⟨rfl, rfl⟩
      clear CD
      go_wp2_with fail
      go_ret
      exact ⟨by rw [E.out]; simp [h1], World.grownBy.refl _ _⟩
    · go_enter Tryd.func16, Tryd.ntmps16
      go_wp2_with fail
      go_ret
      exact ⟨by rw [E.out]; simp [h1], World.grownBy.refl _ _⟩
  · have hl2 : ¬ (l : Int) = 2 := by omega
    have E : Hid (varWV zs = false) := by show _ = _; unfold varWV; simp [hz0, hl]
    clear hcs hz0
    go_enter Tryd.func16, Tryd.ntmps16
    go_wp2_with fail
    go_ret
    exact ⟨by rw [E.out]; rfl, World.grownBy.refl _ _⟩

theorem dg_neg {zs : List Int} (h : zs.getD 0 0 = 45) (hl : 1 ≤ zs.length) : negZ zs = true ∧ dgZ zs = zs.drop 1 := by
  cases zs with
  | nil => simp at hl
  | cons z r =>
    have hz : z = 45 := h
    subst hz
    exact ⟨rfl, rfl⟩
theorem dg_pos {zs : List Int} (h : ¬ zs.getD 0 0 = 45) (hl : 1 ≤ zs.length) : negZ zs = false ∧ dgZ zs = zs.drop 0 := by
  cases zs with
  | nil => simp at hl
  | cons z r =>
    have hz : ¬ z = 45 := h
    have hn : negZ (z :: r) = false := by simp [negZ, hz]
    exact ⟨hn, by simp [dgZ, hn]⟩
theorem head_drop (zs : List Int) (i : Nat) (h : i < zs.length) : (zs.drop i).head? = some (zs.getD i 0) := by
  rw [List.head?_drop, List.getD_eq_getElem?_getD, List.getElem?_eq_getElem h]; rfl
theorem whole_bad {zs : List Int} {i : Nat} (hd : dgZ zs = zs.drop i) (h : zs.length - i < 1 ∨ 10 < zs.length - i ∨ (zs.getD i 0 = 48 ∧ i < zs.length ∧ 1 < zs.length)) : wholeZ zs = none := by
  unfold wholeZ
  rw [hd, if_pos]
  rw [List.length_drop]
  rcases h with h | h | ⟨h1, h2, h3⟩
  · exact .inl h
  · exact .inr (.inl h)
  · exact .inr (.inr ⟨by rw [head_drop zs i h2, h1], h3⟩)
theorem whole_good {zs : List Int} {i : Nat} (hd : dgZ zs = zs.drop i) (h1 : ¬ zs.length - i < 1) (h2 : ¬ 10 < zs.length - i) (h3 : ¬ (zs.getD i 0 = 48 ∧ 1 < zs.length)) :
    wholeZ zs = match intR (zs.drop i) 0 with
      | none => none
      | some n => if wholeV (if negZ zs = true then -n else n) = true then some (if negZ zs = true then -n else n) else none := by
  have hc : ¬ ((zs.drop i).length < 1 ∨ 10 < (zs.drop i).length ∨ ((zs.drop i).head? = some 48 ∧ 1 < zs.length)) := by
    rw [List.length_drop, head_drop zs i (by omega)]
    rintro (h | h | ⟨h, h'⟩)
    · exact h1 h
    · exact h2 h
    · exact h3 ⟨by simpa using h, h'⟩
  unfold wholeZ
  rw [hd, if_neg hc]
  cases intR (zs.drop i) 0 <;> rfl


set_option maxRecDepth 8000 in
set_option maxHeartbeats 4000000 in
theorem intT (b o l c : Nat) (zs : List Int) (w : World) (hz0 : zs.length = l) (hby : Byt zs) (hl1 : 1 ≤ l) (hl : l ≤ 100000) (hcs : ∀ i, i < l → w.cell? ⟨b, o + i, none⟩ = some (.int .u8 (zs.getD i 0))) :
    Calls Tryd.prog 13 #[.slice (some ⟨b, o, none⟩) l c] w fun e u => (∃ n : Int, e = .returned (.tuple #[.int .i64 n, .bool (wholeZ zs).isSome]) ∧ ∀ m, wholeZ zs = some m → m = n) ∧ u = w := by
  have HH : Hid (zs.length = l ∧ Byt zs ∧ ∀ i, i < l → w.cell? ⟨b, o + i, none⟩ = some (.int .u8 (zs.getD i 0))) := ⟨hz0, hby, hcs⟩
  have c0 : w.cell? ⟨b, o, none⟩ = some (.int .u8 (zs.getD 0 0)) := hcs 0 (by omega)
  clear hz0 hby hcs
  obtain ⟨z, hz⟩ : ∃ z, zs.getD 0 0 = z := ⟨_, rfl⟩
  rw [hz] at c0
  have hl0 : (0 : Int) < l := by omega
  by_cases hneg : z = 45
  · subst hneg
    obtain ⟨hng, hdg⟩ := dg_neg hz (by rw [HH.out.1]; exact hl1)
    by_cases hl2 : l = 1
    · have HV : Hid (wholeZ zs = none) := whole_bad hdg (.inl (by rw [HH.out.1]; omega))
      subst hl2
      clear hz hng hdg
      go_enter Tryd.func13, Tryd.ntmps13
      go_wp2_with fail
      go_ret2
      exact ⟨⟨0, by rw [HV.out]; rfl, fun m hm => by rw [HV.out] at hm; cases hm⟩, rfl⟩
    have hl3 : ¬ (l : Int) - 1 < 1 := by omega
    by_cases hl4 : 10 < l - 1
    · have HV : Hid (wholeZ zs = none) := whole_bad hdg (.inr (.inl (by rw [HH.out.1]; exact hl4)))
      have hl5 : (10 : Int) < (l : Int) - 1 := by omega
      clear hz hng hdg hl4
      go_enter Tryd.func13, Tryd.ntmps13
      go_wp2_with fail
      go_ret2
      exact ⟨⟨0, by rw [HV.out]; rfl, fun m hm => by rw [HV.out] at hm; cases hm⟩, rfl⟩
    have hl5 : ¬ (10 : Int) < (l : Int) - 1 := by omega
    have c1 : w.cell? ⟨b, o + 1, none⟩ = some (.int .u8 (zs.getD 1 0)) := HH.out.2.2 1 (by omega)
    obtain ⟨y, hy⟩ : ∃ y, zs.getD 1 0 = y := ⟨_, rfl⟩
    rw [hy] at c1
    have hl6 : (1 : Int) < l := by omega
    by_cases hy48 : y = 48
    · have HV : Hid (wholeZ zs = none) := whole_bad hdg (.inr (.inr ⟨by rw [hy, hy48], by rw [HH.out.1]; omega, by rw [HH.out.1]; omega⟩))
      subst hy48
      clear hz hng hdg hy hl4
      go_enter Tryd.func13, Tryd.ntmps13
      go_wp2_with fail
      go_ret2
      exact ⟨⟨0, by rw [HV.out]; rfl, fun m hm => by rw [HV.out] at hm; cases hm⟩, rfl⟩
    have HW : Hid _ := whole_good hdg (by rw [HH.out.1]; omega) (by rw [HH.out.1]; exact hl4) (by rw [hy]; exact fun h => hy48 h.1)
    have hl7 : l ≤ 11 := by omega
    clear hz hdg hy hl4
    go_enter Tryd.func13, Tryd.ntmps13
    go_wp2_with fail
    go_loopw [5, 6] (fun n5 i6 wr => ∃ (k : Nat) (n : Int), 1 ≤ k ∧ k ≤ l ∧ n5 = .int .i64 n ∧ i6 = .int .i64 k ∧ wr = w ∧ 0 ≤ n ∧ n < 10000000000 ∧ Hid (n < 10 ^ (k - 1) ∧ intR (zs.drop 1) 0 = intR (zs.drop k) n)) (fun _ i6 _ => l - (intOf i6).toNat)
    case atStart => exact ⟨1, 0, Nat.le_refl _, by omega, rfl, rfl, rfl, by omega, by omega, by simp, rfl⟩
    case round =>
      obtain ⟨k, n, hk0, hk, rfl, rfl, rfl, hn0, hn1, HI⟩ := hrel
      by_cases hkl : k < l
      · have hc := HH.out.2.2 k hkl
        have hb := byt_get HH.out.2.1 k
        rw [← List.getD_eq_getElem?_getD] at hb
        have hdr : zs.drop k = zs.getD k 0 :: zs.drop (k + 1) := by
          have hkz : k < zs.length := by rw [HH.out.1]; exact hkl
          rw [List.drop_eq_getElem_cons hkz, List.getD_eq_getElem?_getD, List.getElem?_eq_getElem hkz]; rfl
        obtain ⟨d, hd⟩ : ∃ d, zs.getD k 0 = d := ⟨_, rfl⟩
        rw [hd] at hc hb hdr
        have CD : Hid _ := digT d wr
        have HR : Hid (intR (zs.drop 1) 0 = if digZ d = true then intR (zs.drop (k + 1)) (n * 10 + (d - 48)) else none) := by
          show _ = _
          rw [HI.out.2, hdr]; rfl
        clear hdr hd
        rcases bool_ex (digZ d) with hg | hg
        · have hg2 : 48 ≤ d ∧ d ≤ 57 := by simpa [digZ] using hg
          obtain ⟨hd0, hd1⟩ := hg2
          have HN : Hid (n * 10 + (d - 48) < 10 ^ (k + 1 - 1) ∧ intR (zs.drop 1) 0 = intR (zs.drop (k + 1)) (n * 10 + (d - 48))) := ⟨by
            have h0 := HI.out.1
            rw [show k + 1 - 1 = (k - 1) + 1 by omega, Int.pow_succ]
            omega, by rw [HR.out, if_pos hg]⟩
          have hn2 : n * 10 + (d - 48) < 10000000000 := by
            have h0 := HN.out.1
            have h1 : (10 : Nat) ^ (k + 1 - 1) ≤ 10 ^ 10 := Nat.pow_le_pow_right (by decide) (by omega)
            have h2 : ((10 : Int) ^ (k + 1 - 1)) ≤ 10 ^ 10 := by exact_mod_cast h1
            omega
          rw [hg] at CD
          clear hg HI HR
          go_wp2_with fail
          refine Calls.mono CD.out ?_
          rintro e u ⟨rfl, rfl⟩
          clear CD
          go_wp2_with fail
          go_roundw
          case rel => exact ⟨k + 1, n * 10 + (d - 48), by omega, by omega, by go_num, by go_num, trivial, by omega, hn2, HN⟩
          case measure => simp [intOf]; omega
        · have HV : Hid (wholeZ zs = none) := by show _ = _; rw [HW.out, HR.out, if_neg (by rw [hg]; decide)]
          rw [hg] at CD
          clear hg HI HR
          go_wp2_with fail
          refine Calls.mono CD.out ?_
          rintro e u ⟨rfl, rfl⟩
          clear CD
          go_wp2_with fail
          go_ret2
          exact ⟨⟨0, by rw [HV.out]; rfl, fun m hm => by rw [HV.out] at hm; cases hm⟩, rfl⟩
      · have hkk : k = l := by omega
        have HV : Hid (wholeZ zs = if wholeV (-n) = true then some (-n) else none) := by
          show _ = _
          rw [HW.out, HI.out.2, hkk, List.drop_of_length_le (by rw [HH.out.1]; exact Nat.le_refl _)]
          simp only [intR, hng, if_true]
          try rfl
        have CO : Hid _ := l5intOkT (-n) wr
        clear HI hkk
        go_wp2_with fail
        refine Calls.mono CO.out ?_
        rintro e u ⟨rfl, rfl⟩
        clear CO
        rcases bool_ex (wholeV (-n)) with hw | hw
        · have HV2 : Hid (wholeZ zs = some (-n)) := by show _ = _; rw [HV.out, if_pos hw]
          rw [hw]
          clear hw HV
          go_wp2_with fail
          go_ret2
          exact ⟨⟨-n, by rw [HV2.out]; rfl, fun m hm => by rw [HV2.out] at hm; cases hm; rfl⟩, rfl⟩
        · have HV2 : Hid (wholeZ zs = none) := by show _ = _; rw [HV.out, if_neg (by rw [hw]; decide)]
          rw [hw]
          clear hw HV
          go_wp2_with fail
          go_ret2
          exact ⟨⟨-n, by rw [HV2.out]; rfl, fun m hm => by rw [HV2.out] at hm; cases hm⟩, rfl⟩
  · obtain ⟨hng, hdg⟩ := dg_pos (by rw [hz]; exact hneg) (by rw [HH.out.1]; exact hl1)
    by_cases hl4 : 10 < l
    · have HV : Hid (wholeZ zs = none) := whole_bad hdg (.inr (.inl (by rw [HH.out.1]; exact hl4)))
      have hl5 : (10 : Int) < (l : Int) := by omega
      clear hz hng hdg hl4
      go_enter Tryd.func13, Tryd.ntmps13
      go_wp2_with fail
      go_ret2
      exact ⟨⟨0, by rw [HV.out]; rfl, fun m hm => by rw [HV.out] at hm; cases hm⟩, rfl⟩
    have hl5 : ¬ (10 : Int) < (l : Int) := by omega
    by_cases hy48 : z = 48 ∧ 1 < l
    · have HV : Hid (wholeZ zs = none) := whole_bad hdg (.inr (.inr ⟨by rw [hz, hy48.1], by rw [HH.out.1]; omega, by rw [HH.out.1]; exact hy48.2⟩))
      obtain ⟨rfl, h1⟩ := hy48
      have hl6 : (1 : Int) < l := by omega
      clear hz hng hdg hl4
      go_enter Tryd.func13, Tryd.ntmps13
      go_wp2_with fail
      go_ret2
      exact ⟨⟨0, by rw [HV.out]; rfl, fun m hm => by rw [HV.out] at hm; cases hm⟩, rfl⟩
    have HW : Hid _ := whole_good hdg (by rw [HH.out.1]; omega) (by rw [HH.out.1]; exact hl4) (by rw [hz, HH.out.1]; exact hy48)
    have hl7 : l ≤ 10 := by omega
    clear hdg
    by_cases hz48 : z = 48
    · have hl6 : l = 1 := by omega
      subst hl6 hz48
      clear hz hl4 hy48
      go_enter Tryd.func13, Tryd.ntmps13
      go_wp2_with fail
      go_loopw [5, 6] (fun n5 i6 wr => ∃ (k : Nat) (n : Int), 0 ≤ k ∧ k ≤ 1 ∧ n5 = .int .i64 n ∧ i6 = .int .i64 k ∧ wr = w ∧ 0 ≤ n ∧ n < 10000000000 ∧ Hid (n < 10 ^ (k - 0) ∧ intR (zs.drop 0) 0 = intR (zs.drop k) n)) (fun _ i6 _ => 1 - (intOf i6).toNat)
      case atStart => exact ⟨0, 0, Nat.le_refl _, by omega, rfl, rfl, rfl, by omega, by omega, by simp, rfl⟩
      case round =>
        obtain ⟨k, n, hk0, hk, rfl, rfl, rfl, hn0, hn1, HI⟩ := hrel
        by_cases hkl : k < 1
        · have hc := HH.out.2.2 k hkl
          have hb := byt_get HH.out.2.1 k
          rw [← List.getD_eq_getElem?_getD] at hb
          have hdr : zs.drop k = zs.getD k 0 :: zs.drop (k + 1) := by
            have hkz : k < zs.length := by rw [HH.out.1]; exact hkl
            rw [List.drop_eq_getElem_cons hkz, List.getD_eq_getElem?_getD, List.getElem?_eq_getElem hkz]; rfl
          obtain ⟨d, hd⟩ : ∃ d, zs.getD k 0 = d := ⟨_, rfl⟩
          rw [hd] at hc hb hdr
          have CD : Hid _ := digT d wr
          have HR : Hid (intR (zs.drop 0) 0 = if digZ d = true then intR (zs.drop (k + 1)) (n * 10 + (d - 48)) else none) := by
            show _ = _
            rw [HI.out.2, hdr]; rfl
          clear hdr hd
          rcases bool_ex (digZ d) with hg | hg
          · have hg2 : 48 ≤ d ∧ d ≤ 57 := by simpa [digZ] using hg
            obtain ⟨hd0, hd1⟩ := hg2
            have HN : Hid (n * 10 + (d - 48) < 10 ^ (k + 1 - 0) ∧ intR (zs.drop 0) 0 = intR (zs.drop (k + 1)) (n * 10 + (d - 48))) := ⟨by
              have h0 := HI.out.1
              rw [show k + 1 - 0 = (k - 0) + 1 by omega, Int.pow_succ]
              omega, by rw [HR.out, if_pos hg]⟩
            have hn2 : n * 10 + (d - 48) < 10000000000 := by
              have h0 := HN.out.1
              have h1 : (10 : Nat) ^ (k + 1 - 0) ≤ 10 ^ 10 := Nat.pow_le_pow_right (by decide) (by omega)
              have h2 : ((10 : Int) ^ (k + 1 - 0)) ≤ 10 ^ 10 := by exact_mod_cast h1
              omega
            rw [hg] at CD
            clear hg HI HR
            go_wp2_with fail
            refine Calls.mono CD.out ?_
            rintro e u ⟨rfl, rfl⟩
            clear CD
            go_wp2_with fail
            go_roundw
            case rel => exact ⟨k + 1, n * 10 + (d - 48), by omega, by omega, by go_num, by go_num, trivial, by omega, hn2, HN⟩
            case measure => simp [intOf]; omega
          · have HV : Hid (wholeZ zs = none) := by show _ = _; rw [HW.out, HR.out, if_neg (by rw [hg]; decide)]
            rw [hg] at CD
            clear hg HI HR
            go_wp2_with fail
            refine Calls.mono CD.out ?_
            rintro e u ⟨rfl, rfl⟩
            clear CD
            go_wp2_with fail
            go_ret2
            exact ⟨⟨0, by rw [HV.out]; rfl, fun m hm => by rw [HV.out] at hm; cases hm⟩, rfl⟩
        · have hkk : k = 1 := by omega
          have HV : Hid (wholeZ zs = if wholeV (n) = true then some (n) else none) := by
            show _ = _
            rw [HW.out, HI.out.2, hkk, List.drop_of_length_le (by rw [HH.out.1]; exact Nat.le_refl _)]
            simp only [intR, hng, Bool.false_eq_true, if_false]
            try rfl
          have CO : Hid _ := l5intOkT (n) wr
          clear HI hkk
          go_wp2_with fail
          refine Calls.mono CO.out ?_
          rintro e u ⟨rfl, rfl⟩
          clear CO
          rcases bool_ex (wholeV (n)) with hw | hw
          · have HV2 : Hid (wholeZ zs = some (n)) := by show _ = _; rw [HV.out, if_pos hw]
            rw [hw]
            clear hw HV
            go_wp2_with fail
            go_ret2
            exact ⟨⟨n, by rw [HV2.out]; rfl, fun m hm => by rw [HV2.out] at hm; cases hm; rfl⟩, rfl⟩
          · have HV2 : Hid (wholeZ zs = none) := by show _ = _; rw [HV.out, if_neg (by rw [hw]; decide)]
            rw [hw]
            clear hw HV
            go_wp2_with fail
            go_ret2
            exact ⟨⟨n, by rw [HV2.out]; rfl, fun m hm => by rw [HV2.out] at hm; cases hm⟩, rfl⟩
    clear hz hl4 hy48
    go_enter Tryd.func13, Tryd.ntmps13
    go_wp2_with fail
    go_loopw [5, 6] (fun n5 i6 wr => ∃ (k : Nat) (n : Int), 0 ≤ k ∧ k ≤ l ∧ n5 = .int .i64 n ∧ i6 = .int .i64 k ∧ wr = w ∧ 0 ≤ n ∧ n < 10000000000 ∧ Hid (n < 10 ^ (k - 0) ∧ intR (zs.drop 0) 0 = intR (zs.drop k) n)) (fun _ i6 _ => l - (intOf i6).toNat)
    case atStart => exact ⟨0, 0, Nat.le_refl _, by omega, rfl, rfl, rfl, by omega, by omega, by simp, rfl⟩
    case round =>
      obtain ⟨k, n, hk0, hk, rfl, rfl, rfl, hn0, hn1, HI⟩ := hrel
      by_cases hkl : k < l
      · have hc := HH.out.2.2 k hkl
        have hb := byt_get HH.out.2.1 k
        rw [← List.getD_eq_getElem?_getD] at hb
        have hdr : zs.drop k = zs.getD k 0 :: zs.drop (k + 1) := by
          have hkz : k < zs.length := by rw [HH.out.1]; exact hkl
          rw [List.drop_eq_getElem_cons hkz, List.getD_eq_getElem?_getD, List.getElem?_eq_getElem hkz]; rfl
        obtain ⟨d, hd⟩ : ∃ d, zs.getD k 0 = d := ⟨_, rfl⟩
        rw [hd] at hc hb hdr
        have CD : Hid _ := digT d wr
        have HR : Hid (intR (zs.drop 0) 0 = if digZ d = true then intR (zs.drop (k + 1)) (n * 10 + (d - 48)) else none) := by
          show _ = _
          rw [HI.out.2, hdr]; rfl
        clear hdr hd
        rcases bool_ex (digZ d) with hg | hg
        · have hg2 : 48 ≤ d ∧ d ≤ 57 := by simpa [digZ] using hg
          obtain ⟨hd0, hd1⟩ := hg2
          have HN : Hid (n * 10 + (d - 48) < 10 ^ (k + 1 - 0) ∧ intR (zs.drop 0) 0 = intR (zs.drop (k + 1)) (n * 10 + (d - 48))) := ⟨by
            have h0 := HI.out.1
            rw [show k + 1 - 0 = (k - 0) + 1 by omega, Int.pow_succ]
            omega, by rw [HR.out, if_pos hg]⟩
          have hn2 : n * 10 + (d - 48) < 10000000000 := by
            have h0 := HN.out.1
            have h1 : (10 : Nat) ^ (k + 1 - 0) ≤ 10 ^ 10 := Nat.pow_le_pow_right (by decide) (by omega)
            have h2 : ((10 : Int) ^ (k + 1 - 0)) ≤ 10 ^ 10 := by exact_mod_cast h1
            omega
          rw [hg] at CD
          clear hg HI HR
          go_wp2_with fail
          refine Calls.mono CD.out ?_
          rintro e u ⟨rfl, rfl⟩
          clear CD
          go_wp2_with fail
          go_roundw
          case rel => exact ⟨k + 1, n * 10 + (d - 48), by omega, by omega, by go_num, by go_num, trivial, by omega, hn2, HN⟩
          case measure => simp [intOf]; omega
        · have HV : Hid (wholeZ zs = none) := by show _ = _; rw [HW.out, HR.out, if_neg (by rw [hg]; decide)]
          rw [hg] at CD
          clear hg HI HR
          go_wp2_with fail
          refine Calls.mono CD.out ?_
          rintro e u ⟨rfl, rfl⟩
          clear CD
          go_wp2_with fail
          go_ret2
          exact ⟨⟨0, by rw [HV.out]; rfl, fun m hm => by rw [HV.out] at hm; cases hm⟩, rfl⟩
      · have hkk : k = l := by omega
        have HV : Hid (wholeZ zs = if wholeV (n) = true then some (n) else none) := by
          show _ = _
          rw [HW.out, HI.out.2, hkk, List.drop_of_length_le (by rw [HH.out.1]; exact Nat.le_refl _)]
          simp only [intR, hng, Bool.false_eq_true, if_false]
          try rfl
        have CO : Hid _ := l5intOkT (n) wr
        clear HI hkk
        go_wp2_with fail
        refine Calls.mono CO.out ?_
        rintro e u ⟨rfl, rfl⟩
        clear CO
        rcases bool_ex (wholeV (n)) with hw | hw
        · have HV2 : Hid (wholeZ zs = some (n)) := by show _ = _; rw [HV.out, if_pos hw]
          rw [hw]
          clear hw HV
          go_wp2_with fail
          go_ret2
          exact ⟨⟨n, by rw [HV2.out]; rfl, fun m hm => by rw [HV2.out] at hm; cases hm; rfl⟩, rfl⟩
        · have HV2 : Hid (wholeZ zs = none) := by show _ = _; rw [HV.out, if_neg (by rw [hw]; decide)]
          rw [hw]
          clear hw HV
          go_wp2_with fail
          go_ret2
          exact ⟨⟨n, by rw [HV2.out]; rfl, fun m hm => by rw [HV2.out] at hm; cases hm⟩, rfl⟩
end Go.Proofs.YtaecnhmegdeicaaDoor.By
