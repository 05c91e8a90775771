/-
  unicode/utf8.decodeRuneSlow by what the first byte says. No statement is proved here.
-/
import Derived.Test.YtaecnhmegdeicaaDoorXU
namespace Go.Proofs.YtaecnhmegdeicaaDoor.By
open Go.RowKit
set_option linter.unusedVariables false
set_option linter.unusedSimpArgs false

set_option maxRecDepth 8000 in
set_option maxHeartbeats 8000000 in
theorem slow_a (b o : Nat) (l c : Nat) (zs : List Int) (w : World) (hz0 : zs.length = l) (hl : 1 ≤ l) (hby : Byt zs) (hcs : ∀ i, i < l → w.cell? ⟨b, o + i, none⟩ = some (.int .u8 (zs.getD i 0))) (n : Nat) (hn : zs.getD 0 0 = n) (h0 : 194 ≤ n) (h1 : n ≤ 223) (hT : w.cell? ⟨1, n, none⟩ = some (.int .u8 2)) (ha0 : w.cell? ⟨2, 0, none⟩ = some (.int .u8 128)) (ha1 : w.cell? ⟨2, 1, none⟩ = some (.int .u8 191)) :
    Calls Tryd.prog 48 #[.slice (some ⟨b, o, none⟩) l c] w fun e u => drOut w zs e u := by
  have HZ : Hid (RuneK zs 65533 1) := runeK1 (by omega) (by omega)
  have c0 := hcs 0 (by omega)
  rw [hn, Nat.add_zero] at c0
  have HC : Hid (zs.length = l ∧ Byt zs ∧ (∀ i, i < l → w.cell? ⟨b, o + i, none⟩ = some (.int .u8 (zs.getD i 0))) ∧ zs.getD 0 0 = n) := ⟨hz0, hby, hcs, hn⟩
  have ga := World.grownBy_alloc w (.cells #[.int .u8 128, .int .u8 191] 73) none
  have GA : Hid (w.grownBy (w.alloc (.cells #[.int .u8 128, .int .u8 191] 73)) none) := ga
  clear hz0 hby hcs hn
  by_cases hl2 : l < 2
  · clear ga
    go_enter Tryd.func48, Tryd.ntmps48
    go_wp2
    go_ret2
    exact ⟨⟨65533, 1, rfl, HZ.out⟩, GA.out⟩
  obtain ⟨z1, hz1⟩ : ∃ z1, zs.getD 1 0 = z1 := ⟨_, rfl⟩
  have c1 := HC.out.2.2.1 1 (by omega)
  have b1 := byt_get HC.out.2.1 1
  rw [← List.getD_eq_getElem?_getD, hz1] at b1
  rw [hz1] at c1
  have c1' := ga.cell c1 (by simp)
  by_cases hb1 : z1 < 128 ∨ 191 < z1
  · clear ga hz1
    go_enter Tryd.func48, Tryd.ntmps48
    rcases hb1 with hb1 | hb1
    · go_wp2
      go_ret2
      exact ⟨⟨65533, 1, rfl, HZ.out⟩, GA.out⟩
    · have hb2 : ¬ z1 < 128 := by omega
      go_wp2
      go_ret2
      exact ⟨⟨65533, 1, rfl, HZ.out⟩, GA.out⟩
  have hb2 : ¬ z1 < 128 := by omega
  have hb3 : ¬ 191 < z1 := by omega
  clear hb1
  have HW : Hid (∀ i, i < 2 → 128 ≤ zs.getD i 0) := fun i hi => by
    have hn := HC.out.2.2.2
    rcases (by omega : i = 0 ∨ i = 1) with rfl | rfl
    · rw [hn]; omega
    · rw [hz1]; omega
  have HBB : Hid ((0 ≤ z1 ∧ z1 ≤ 255) ∧ 2 ≤ l) := ⟨b1, by omega⟩
  have HLO : Hid (128 ≤ z1 ∧ z1 ≤ 191) := ⟨by omega, by omega⟩
  clear ga hz1
  go_enter Tryd.func48, Tryd.ntmps48
  go_wp2
  go_ret2
  have hlo := HLO.out
  have hb9 := HBB.out
  have hzl := HC.out.1
  exact ⟨⟨_, _, rfl, ⟨2, rfl, by omega, by omega, HW.out, by omega, by omega⟩⟩, GA.out⟩

set_option maxRecDepth 8000 in
set_option maxHeartbeats 8000000 in
theorem slow_b (b o : Nat) (l c : Nat) (zs : List Int) (w : World) (hz0 : zs.length = l) (hl : 1 ≤ l) (hby : Byt zs) (hcs : ∀ i, i < l → w.cell? ⟨b, o + i, none⟩ = some (.int .u8 (zs.getD i 0))) (n : Nat) (hn : zs.getD 0 0 = n) (h0 : 224 ≤ n) (h1 : n ≤ 224) (hT : w.cell? ⟨1, n, none⟩ = some (.int .u8 19)) (ha0 : w.cell? ⟨2, 2, none⟩ = some (.int .u8 160)) (ha1 : w.cell? ⟨2, 3, none⟩ = some (.int .u8 191)) :
    Calls Tryd.prog 48 #[.slice (some ⟨b, o, none⟩) l c] w fun e u => drOut w zs e u := by
  have HZ : Hid (RuneK zs 65533 1) := runeK1 (by omega) (by omega)
  have c0 := hcs 0 (by omega)
  rw [hn, Nat.add_zero] at c0
  have HC : Hid (zs.length = l ∧ Byt zs ∧ (∀ i, i < l → w.cell? ⟨b, o + i, none⟩ = some (.int .u8 (zs.getD i 0))) ∧ zs.getD 0 0 = n) := ⟨hz0, hby, hcs, hn⟩
  have ga := World.grownBy_alloc w (.cells #[.int .u8 160, .int .u8 191] 73) none
  have GA : Hid (w.grownBy (w.alloc (.cells #[.int .u8 160, .int .u8 191] 73)) none) := ga
  clear hz0 hby hcs hn
  by_cases hl2 : l < 3
  · clear ga
    go_enter Tryd.func48, Tryd.ntmps48
    go_wp2
    go_ret2
    exact ⟨⟨65533, 1, rfl, HZ.out⟩, GA.out⟩
  obtain ⟨z1, hz1⟩ : ∃ z1, zs.getD 1 0 = z1 := ⟨_, rfl⟩
  have c1 := HC.out.2.2.1 1 (by omega)
  have b1 := byt_get HC.out.2.1 1
  rw [← List.getD_eq_getElem?_getD, hz1] at b1
  rw [hz1] at c1
  have c1' := ga.cell c1 (by simp)
  by_cases hb1 : z1 < 160 ∨ 191 < z1
  · clear ga hz1
    go_enter Tryd.func48, Tryd.ntmps48
    rcases hb1 with hb1 | hb1
    · go_wp2
      go_ret2
      exact ⟨⟨65533, 1, rfl, HZ.out⟩, GA.out⟩
    · have hb2 : ¬ z1 < 160 := by omega
      go_wp2
      go_ret2
      exact ⟨⟨65533, 1, rfl, HZ.out⟩, GA.out⟩
  have hb2 : ¬ z1 < 160 := by omega
  have hb3 : ¬ 191 < z1 := by omega
  clear hb1
  obtain ⟨z2, hz2⟩ : ∃ z2, zs.getD 2 0 = z2 := ⟨_, rfl⟩
  have c2 := HC.out.2.2.1 2 (by omega)
  have b2 := byt_get HC.out.2.1 2
  rw [← List.getD_eq_getElem?_getD, hz2] at b2
  rw [hz2] at c2
  have c2' := ga.cell c2 (by simp)
  by_cases hd1 : z2 < 128 ∨ 191 < z2
  · clear ga hz1 hz2
    go_enter Tryd.func48, Tryd.ntmps48
    rcases hd1 with hd1 | hd1
    · go_wp2
      go_ret2
      exact ⟨⟨65533, 1, rfl, HZ.out⟩, GA.out⟩
    · have hd2 : ¬ z2 < 128 := by omega
      go_wp2
      go_ret2
      exact ⟨⟨65533, 1, rfl, HZ.out⟩, GA.out⟩
  have hd2 : ¬ z2 < 128 := by omega
  have hd3 : ¬ 191 < z2 := by omega
  clear hd1
  have HW : Hid (∀ i, i < 3 → 128 ≤ zs.getD i 0) := fun i hi => by
    have hn := HC.out.2.2.2
    rcases (by omega : i = 0 ∨ i = 1 ∨ i = 2) with rfl | rfl | rfl
    · rw [hn]; omega
    · rw [hz1]; omega
    · rw [hz2]; omega
  have HBB : Hid ((0 ≤ z1 ∧ z1 ≤ 255) ∧ (0 ≤ z2 ∧ z2 ≤ 255) ∧ 3 ≤ l) := ⟨b1, b2, by omega⟩
  have HLO : Hid (160 ≤ z1 ∧ z1 ≤ 191) := ⟨by omega, by omega⟩
  clear ga hz1 hz2
  go_enter Tryd.func48, Tryd.ntmps48
  go_wp2
  go_ret2
  have hlo := HLO.out
  have hb9 := HBB.out
  have hzl := HC.out.1
  exact ⟨⟨_, _, rfl, ⟨3, rfl, by omega, by omega, HW.out, by omega, by omega⟩⟩, GA.out⟩

set_option maxRecDepth 8000 in
set_option maxHeartbeats 8000000 in
theorem slow_c (b o : Nat) (l c : Nat) (zs : List Int) (w : World) (hz0 : zs.length = l) (hl : 1 ≤ l) (hby : Byt zs) (hcs : ∀ i, i < l → w.cell? ⟨b, o + i, none⟩ = some (.int .u8 (zs.getD i 0))) (n : Nat) (hn : zs.getD 0 0 = n) (h0 : 225 ≤ n) (h1 : n ≤ 239) (hT : w.cell? ⟨1, n, none⟩ = some (.int .u8 3)) (ha0 : w.cell? ⟨2, 0, none⟩ = some (.int .u8 128)) (ha1 : w.cell? ⟨2, 1, none⟩ = some (.int .u8 191)) :
    Calls Tryd.prog 48 #[.slice (some ⟨b, o, none⟩) l c] w fun e u => drOut w zs e u := by
  have HZ : Hid (RuneK zs 65533 1) := runeK1 (by omega) (by omega)
  have c0 := hcs 0 (by omega)
  rw [hn, Nat.add_zero] at c0
  have HC : Hid (zs.length = l ∧ Byt zs ∧ (∀ i, i < l → w.cell? ⟨b, o + i, none⟩ = some (.int .u8 (zs.getD i 0))) ∧ zs.getD 0 0 = n) := ⟨hz0, hby, hcs, hn⟩
  have ga := World.grownBy_alloc w (.cells #[.int .u8 128, .int .u8 191] 73) none
  have GA : Hid (w.grownBy (w.alloc (.cells #[.int .u8 128, .int .u8 191] 73)) none) := ga
  clear hz0 hby hcs hn
  by_cases hl2 : l < 3
  · clear ga
    go_enter Tryd.func48, Tryd.ntmps48
    go_wp2
    go_ret2
    exact ⟨⟨65533, 1, rfl, HZ.out⟩, GA.out⟩
  obtain ⟨z1, hz1⟩ : ∃ z1, zs.getD 1 0 = z1 := ⟨_, rfl⟩
  have c1 := HC.out.2.2.1 1 (by omega)
  have b1 := byt_get HC.out.2.1 1
  rw [← List.getD_eq_getElem?_getD, hz1] at b1
  rw [hz1] at c1
  have c1' := ga.cell c1 (by simp)
  by_cases hb1 : z1 < 128 ∨ 191 < z1
  · clear ga hz1
    go_enter Tryd.func48, Tryd.ntmps48
    rcases hb1 with hb1 | hb1
    · go_wp2
      go_ret2
      exact ⟨⟨65533, 1, rfl, HZ.out⟩, GA.out⟩
    · have hb2 : ¬ z1 < 128 := by omega
      go_wp2
      go_ret2
      exact ⟨⟨65533, 1, rfl, HZ.out⟩, GA.out⟩
  have hb2 : ¬ z1 < 128 := by omega
  have hb3 : ¬ 191 < z1 := by omega
  clear hb1
  obtain ⟨z2, hz2⟩ : ∃ z2, zs.getD 2 0 = z2 := ⟨_, rfl⟩
  have c2 := HC.out.2.2.1 2 (by omega)
  have b2 := byt_get HC.out.2.1 2
  rw [← List.getD_eq_getElem?_getD, hz2] at b2
  rw [hz2] at c2
  have c2' := ga.cell c2 (by simp)
  by_cases hd1 : z2 < 128 ∨ 191 < z2
  · clear ga hz1 hz2
    go_enter Tryd.func48, Tryd.ntmps48
    rcases hd1 with hd1 | hd1
    · go_wp2
      go_ret2
      exact ⟨⟨65533, 1, rfl, HZ.out⟩, GA.out⟩
    · have hd2 : ¬ z2 < 128 := by omega
      go_wp2
      go_ret2
      exact ⟨⟨65533, 1, rfl, HZ.out⟩, GA.out⟩
  have hd2 : ¬ z2 < 128 := by omega
  have hd3 : ¬ 191 < z2 := by omega
  clear hd1
  have HW : Hid (∀ i, i < 3 → 128 ≤ zs.getD i 0) := fun i hi => by
    have hn := HC.out.2.2.2
    rcases (by omega : i = 0 ∨ i = 1 ∨ i = 2) with rfl | rfl | rfl
    · rw [hn]; omega
    · rw [hz1]; omega
    · rw [hz2]; omega
  have HBB : Hid ((0 ≤ z1 ∧ z1 ≤ 255) ∧ (0 ≤ z2 ∧ z2 ≤ 255) ∧ 3 ≤ l) := ⟨b1, b2, by omega⟩
  have HLO : Hid (128 ≤ z1 ∧ z1 ≤ 191) := ⟨by omega, by omega⟩
  clear ga hz1 hz2
  go_enter Tryd.func48, Tryd.ntmps48
  go_wp2
  go_ret2
  have hlo := HLO.out
  have hb9 := HBB.out
  have hzl := HC.out.1
  exact ⟨⟨_, _, rfl, ⟨3, rfl, by omega, by omega, HW.out, by omega, by omega⟩⟩, GA.out⟩

set_option maxRecDepth 8000 in
set_option maxHeartbeats 8000000 in
theorem slow_d (b o : Nat) (l c : Nat) (zs : List Int) (w : World) (hz0 : zs.length = l) (hl : 1 ≤ l) (hby : Byt zs) (hcs : ∀ i, i < l → w.cell? ⟨b, o + i, none⟩ = some (.int .u8 (zs.getD i 0))) (n : Nat) (hn : zs.getD 0 0 = n) (h0 : 237 ≤ n) (h1 : n ≤ 237) (hT : w.cell? ⟨1, n, none⟩ = some (.int .u8 35)) (ha0 : w.cell? ⟨2, 4, none⟩ = some (.int .u8 128)) (ha1 : w.cell? ⟨2, 5, none⟩ = some (.int .u8 159)) :
    Calls Tryd.prog 48 #[.slice (some ⟨b, o, none⟩) l c] w fun e u => drOut w zs e u := by
  have HZ : Hid (RuneK zs 65533 1) := runeK1 (by omega) (by omega)
  have c0 := hcs 0 (by omega)
  rw [hn, Nat.add_zero] at c0
  have HC : Hid (zs.length = l ∧ Byt zs ∧ (∀ i, i < l → w.cell? ⟨b, o + i, none⟩ = some (.int .u8 (zs.getD i 0))) ∧ zs.getD 0 0 = n) := ⟨hz0, hby, hcs, hn⟩
  have ga := World.grownBy_alloc w (.cells #[.int .u8 128, .int .u8 159] 73) none
  have GA : Hid (w.grownBy (w.alloc (.cells #[.int .u8 128, .int .u8 159] 73)) none) := ga
  clear hz0 hby hcs hn
  by_cases hl2 : l < 3
  · clear ga
    go_enter Tryd.func48, Tryd.ntmps48
    go_wp2
    go_ret2
    exact ⟨⟨65533, 1, rfl, HZ.out⟩, GA.out⟩
  obtain ⟨z1, hz1⟩ : ∃ z1, zs.getD 1 0 = z1 := ⟨_, rfl⟩
  have c1 := HC.out.2.2.1 1 (by omega)
  have b1 := byt_get HC.out.2.1 1
  rw [← List.getD_eq_getElem?_getD, hz1] at b1
  rw [hz1] at c1
  have c1' := ga.cell c1 (by simp)
  by_cases hb1 : z1 < 128 ∨ 159 < z1
  · clear ga hz1
    go_enter Tryd.func48, Tryd.ntmps48
    rcases hb1 with hb1 | hb1
    · go_wp2
      go_ret2
      exact ⟨⟨65533, 1, rfl, HZ.out⟩, GA.out⟩
    · have hb2 : ¬ z1 < 128 := by omega
      go_wp2
      go_ret2
      exact ⟨⟨65533, 1, rfl, HZ.out⟩, GA.out⟩
  have hb2 : ¬ z1 < 128 := by omega
  have hb3 : ¬ 159 < z1 := by omega
  clear hb1
  obtain ⟨z2, hz2⟩ : ∃ z2, zs.getD 2 0 = z2 := ⟨_, rfl⟩
  have c2 := HC.out.2.2.1 2 (by omega)
  have b2 := byt_get HC.out.2.1 2
  rw [← List.getD_eq_getElem?_getD, hz2] at b2
  rw [hz2] at c2
  have c2' := ga.cell c2 (by simp)
  by_cases hd1 : z2 < 128 ∨ 191 < z2
  · clear ga hz1 hz2
    go_enter Tryd.func48, Tryd.ntmps48
    rcases hd1 with hd1 | hd1
    · go_wp2
      go_ret2
      exact ⟨⟨65533, 1, rfl, HZ.out⟩, GA.out⟩
    · have hd2 : ¬ z2 < 128 := by omega
      go_wp2
      go_ret2
      exact ⟨⟨65533, 1, rfl, HZ.out⟩, GA.out⟩
  have hd2 : ¬ z2 < 128 := by omega
  have hd3 : ¬ 191 < z2 := by omega
  clear hd1
  have HW : Hid (∀ i, i < 3 → 128 ≤ zs.getD i 0) := fun i hi => by
    have hn := HC.out.2.2.2
    rcases (by omega : i = 0 ∨ i = 1 ∨ i = 2) with rfl | rfl | rfl
    · rw [hn]; omega
    · rw [hz1]; omega
    · rw [hz2]; omega
  have HBB : Hid ((0 ≤ z1 ∧ z1 ≤ 255) ∧ (0 ≤ z2 ∧ z2 ≤ 255) ∧ 3 ≤ l) := ⟨b1, b2, by omega⟩
  have HLO : Hid (128 ≤ z1 ∧ z1 ≤ 159) := ⟨by omega, by omega⟩
  clear ga hz1 hz2
  go_enter Tryd.func48, Tryd.ntmps48
  go_wp2
  go_ret2
  have hlo := HLO.out
  have hb9 := HBB.out
  have hzl := HC.out.1
  exact ⟨⟨_, _, rfl, ⟨3, rfl, by omega, by omega, HW.out, by omega, by omega⟩⟩, GA.out⟩

set_option maxRecDepth 8000 in
set_option maxHeartbeats 8000000 in
theorem slow_e (b o : Nat) (l c : Nat) (zs : List Int) (w : World) (hz0 : zs.length = l) (hl : 1 ≤ l) (hby : Byt zs) (hcs : ∀ i, i < l → w.cell? ⟨b, o + i, none⟩ = some (.int .u8 (zs.getD i 0))) (n : Nat) (hn : zs.getD 0 0 = n) (h0 : 240 ≤ n) (h1 : n ≤ 240) (hT : w.cell? ⟨1, n, none⟩ = some (.int .u8 52)) (ha0 : w.cell? ⟨2, 6, none⟩ = some (.int .u8 144)) (ha1 : w.cell? ⟨2, 7, none⟩ = some (.int .u8 191)) :
    Calls Tryd.prog 48 #[.slice (some ⟨b, o, none⟩) l c] w fun e u => drOut w zs e u := by
  have HZ : Hid (RuneK zs 65533 1) := runeK1 (by omega) (by omega)
  have c0 := hcs 0 (by omega)
  rw [hn, Nat.add_zero] at c0
  have HC : Hid (zs.length = l ∧ Byt zs ∧ (∀ i, i < l → w.cell? ⟨b, o + i, none⟩ = some (.int .u8 (zs.getD i 0))) ∧ zs.getD 0 0 = n) := ⟨hz0, hby, hcs, hn⟩
  have ga := World.grownBy_alloc w (.cells #[.int .u8 144, .int .u8 191] 73) none
  have GA : Hid (w.grownBy (w.alloc (.cells #[.int .u8 144, .int .u8 191] 73)) none) := ga
  clear hz0 hby hcs hn
  by_cases hl2 : l < 4
  · clear ga
    go_enter Tryd.func48, Tryd.ntmps48
    go_wp2
    go_ret2
    exact ⟨⟨65533, 1, rfl, HZ.out⟩, GA.out⟩
  obtain ⟨z1, hz1⟩ : ∃ z1, zs.getD 1 0 = z1 := ⟨_, rfl⟩
  have c1 := HC.out.2.2.1 1 (by omega)
  have b1 := byt_get HC.out.2.1 1
  rw [← List.getD_eq_getElem?_getD, hz1] at b1
  rw [hz1] at c1
  have c1' := ga.cell c1 (by simp)
  by_cases hb1 : z1 < 144 ∨ 191 < z1
  · clear ga hz1
    go_enter Tryd.func48, Tryd.ntmps48
    rcases hb1 with hb1 | hb1
    · go_wp2
      go_ret2
      exact ⟨⟨65533, 1, rfl, HZ.out⟩, GA.out⟩
    · have hb2 : ¬ z1 < 144 := by omega
      go_wp2
      go_ret2
      exact ⟨⟨65533, 1, rfl, HZ.out⟩, GA.out⟩
  have hb2 : ¬ z1 < 144 := by omega
  have hb3 : ¬ 191 < z1 := by omega
  clear hb1
  obtain ⟨z2, hz2⟩ : ∃ z2, zs.getD 2 0 = z2 := ⟨_, rfl⟩
  have c2 := HC.out.2.2.1 2 (by omega)
  have b2 := byt_get HC.out.2.1 2
  rw [← List.getD_eq_getElem?_getD, hz2] at b2
  rw [hz2] at c2
  have c2' := ga.cell c2 (by simp)
  by_cases hd1 : z2 < 128 ∨ 191 < z2
  · clear ga hz1 hz2
    go_enter Tryd.func48, Tryd.ntmps48
    rcases hd1 with hd1 | hd1
    · go_wp2
      go_ret2
      exact ⟨⟨65533, 1, rfl, HZ.out⟩, GA.out⟩
    · have hd2 : ¬ z2 < 128 := by omega
      go_wp2
      go_ret2
      exact ⟨⟨65533, 1, rfl, HZ.out⟩, GA.out⟩
  have hd2 : ¬ z2 < 128 := by omega
  have hd3 : ¬ 191 < z2 := by omega
  clear hd1
  obtain ⟨z3, hz3⟩ : ∃ z3, zs.getD 3 0 = z3 := ⟨_, rfl⟩
  have c3 := HC.out.2.2.1 3 (by omega)
  have b3 := byt_get HC.out.2.1 3
  rw [← List.getD_eq_getElem?_getD, hz3] at b3
  rw [hz3] at c3
  have c3' := ga.cell c3 (by simp)
  by_cases he1 : z3 < 128 ∨ 191 < z3
  · clear ga hz1 hz2 hz3
    go_enter Tryd.func48, Tryd.ntmps48
    rcases he1 with he1 | he1
    · go_wp2
      go_ret2
      exact ⟨⟨65533, 1, rfl, HZ.out⟩, GA.out⟩
    · have he2 : ¬ z3 < 128 := by omega
      go_wp2
      go_ret2
      exact ⟨⟨65533, 1, rfl, HZ.out⟩, GA.out⟩
  have he2 : ¬ z3 < 128 := by omega
  have he3 : ¬ 191 < z3 := by omega
  clear he1
  have HW : Hid (∀ i, i < 4 → 128 ≤ zs.getD i 0) := fun i hi => by
    have hn := HC.out.2.2.2
    rcases (by omega : i = 0 ∨ i = 1 ∨ i = 2 ∨ i = 3) with rfl | rfl | rfl | rfl
    · rw [hn]; omega
    · rw [hz1]; omega
    · rw [hz2]; omega
    · rw [hz3]; omega
  have HBB : Hid ((0 ≤ z1 ∧ z1 ≤ 255) ∧ (0 ≤ z2 ∧ z2 ≤ 255) ∧ (0 ≤ z3 ∧ z3 ≤ 255) ∧ 4 ≤ l) := ⟨b1, b2, b3, by omega⟩
  have HLO : Hid (144 ≤ z1 ∧ z1 ≤ 191) := ⟨by omega, by omega⟩
  clear ga hz1 hz2 hz3
  go_enter Tryd.func48, Tryd.ntmps48
  go_wp2
  go_ret2
  have hlo := HLO.out
  have hb9 := HBB.out
  have hzl := HC.out.1
  exact ⟨⟨_, _, rfl, ⟨4, rfl, by omega, by omega, HW.out, by omega, by omega⟩⟩, GA.out⟩

set_option maxRecDepth 8000 in
set_option maxHeartbeats 8000000 in
theorem slow_f (b o : Nat) (l c : Nat) (zs : List Int) (w : World) (hz0 : zs.length = l) (hl : 1 ≤ l) (hby : Byt zs) (hcs : ∀ i, i < l → w.cell? ⟨b, o + i, none⟩ = some (.int .u8 (zs.getD i 0))) (n : Nat) (hn : zs.getD 0 0 = n) (h0 : 241 ≤ n) (h1 : n ≤ 243) (hT : w.cell? ⟨1, n, none⟩ = some (.int .u8 4)) (ha0 : w.cell? ⟨2, 0, none⟩ = some (.int .u8 128)) (ha1 : w.cell? ⟨2, 1, none⟩ = some (.int .u8 191)) :
    Calls Tryd.prog 48 #[.slice (some ⟨b, o, none⟩) l c] w fun e u => drOut w zs e u := by
  have HZ : Hid (RuneK zs 65533 1) := runeK1 (by omega) (by omega)
  have c0 := hcs 0 (by omega)
  rw [hn, Nat.add_zero] at c0
  have HC : Hid (zs.length = l ∧ Byt zs ∧ (∀ i, i < l → w.cell? ⟨b, o + i, none⟩ = some (.int .u8 (zs.getD i 0))) ∧ zs.getD 0 0 = n) := ⟨hz0, hby, hcs, hn⟩
  have ga := World.grownBy_alloc w (.cells #[.int .u8 128, .int .u8 191] 73) none
  have GA : Hid (w.grownBy (w.alloc (.cells #[.int .u8 128, .int .u8 191] 73)) none) := ga
  clear hz0 hby hcs hn
  by_cases hl2 : l < 4
  · clear ga
    go_enter Tryd.func48, Tryd.ntmps48
    go_wp2
    go_ret2
    exact ⟨⟨65533, 1, rfl, HZ.out⟩, GA.out⟩
  obtain ⟨z1, hz1⟩ : ∃ z1, zs.getD 1 0 = z1 := ⟨_, rfl⟩
  have c1 := HC.out.2.2.1 1 (by omega)
  have b1 := byt_get HC.out.2.1 1
  rw [← List.getD_eq_getElem?_getD, hz1] at b1
  rw [hz1] at c1
  have c1' := ga.cell c1 (by simp)
  by_cases hb1 : z1 < 128 ∨ 191 < z1
  · clear ga hz1
    go_enter Tryd.func48, Tryd.ntmps48
    rcases hb1 with hb1 | hb1
    · go_wp2
      go_ret2
      exact ⟨⟨65533, 1, rfl, HZ.out⟩, GA.out⟩
    · have hb2 : ¬ z1 < 128 := by omega
      go_wp2
      go_ret2
      exact ⟨⟨65533, 1, rfl, HZ.out⟩, GA.out⟩
  have hb2 : ¬ z1 < 128 := by omega
  have hb3 : ¬ 191 < z1 := by omega
  clear hb1
  obtain ⟨z2, hz2⟩ : ∃ z2, zs.getD 2 0 = z2 := ⟨_, rfl⟩
  have c2 := HC.out.2.2.1 2 (by omega)
  have b2 := byt_get HC.out.2.1 2
  rw [← List.getD_eq_getElem?_getD, hz2] at b2
  rw [hz2] at c2
  have c2' := ga.cell c2 (by simp)
  by_cases hd1 : z2 < 128 ∨ 191 < z2
  · clear ga hz1 hz2
    go_enter Tryd.func48, Tryd.ntmps48
    rcases hd1 with hd1 | hd1
    · go_wp2
      go_ret2
      exact ⟨⟨65533, 1, rfl, HZ.out⟩, GA.out⟩
    · have hd2 : ¬ z2 < 128 := by omega
      go_wp2
      go_ret2
      exact ⟨⟨65533, 1, rfl, HZ.out⟩, GA.out⟩
  have hd2 : ¬ z2 < 128 := by omega
  have hd3 : ¬ 191 < z2 := by omega
  clear hd1
  obtain ⟨z3, hz3⟩ : ∃ z3, zs.getD 3 0 = z3 := ⟨_, rfl⟩
  have c3 := HC.out.2.2.1 3 (by omega)
  have b3 := byt_get HC.out.2.1 3
  rw [← List.getD_eq_getElem?_getD, hz3] at b3
  rw [hz3] at c3
  have c3' := ga.cell c3 (by simp)
  by_cases he1 : z3 < 128 ∨ 191 < z3
  · clear ga hz1 hz2 hz3
    go_enter Tryd.func48, Tryd.ntmps48
    rcases he1 with he1 | he1
    · go_wp2
      go_ret2
      exact ⟨⟨65533, 1, rfl, HZ.out⟩, GA.out⟩
    · have he2 : ¬ z3 < 128 := by omega
      go_wp2
      go_ret2
      exact ⟨⟨65533, 1, rfl, HZ.out⟩, GA.out⟩
  have he2 : ¬ z3 < 128 := by omega
  have he3 : ¬ 191 < z3 := by omega
  clear he1
  have HW : Hid (∀ i, i < 4 → 128 ≤ zs.getD i 0) := fun i hi => by
    have hn := HC.out.2.2.2
    rcases (by omega : i = 0 ∨ i = 1 ∨ i = 2 ∨ i = 3) with rfl | rfl | rfl | rfl
    · rw [hn]; omega
    · rw [hz1]; omega
    · rw [hz2]; omega
    · rw [hz3]; omega
  have HBB : Hid ((0 ≤ z1 ∧ z1 ≤ 255) ∧ (0 ≤ z2 ∧ z2 ≤ 255) ∧ (0 ≤ z3 ∧ z3 ≤ 255) ∧ 4 ≤ l) := ⟨b1, b2, b3, by omega⟩
  have HLO : Hid (128 ≤ z1 ∧ z1 ≤ 191) := ⟨by omega, by omega⟩
  clear ga hz1 hz2 hz3
  go_enter Tryd.func48, Tryd.ntmps48
  go_wp2
  go_ret2
  have hlo := HLO.out
  have hb9 := HBB.out
  have hzl := HC.out.1
  exact ⟨⟨_, _, rfl, ⟨4, rfl, by omega, by omega, HW.out, by omega, by omega⟩⟩, GA.out⟩

set_option maxRecDepth 8000 in
set_option maxHeartbeats 8000000 in
theorem slow_g (b o : Nat) (l c : Nat) (zs : List Int) (w : World) (hz0 : zs.length = l) (hl : 1 ≤ l) (hby : Byt zs) (hcs : ∀ i, i < l → w.cell? ⟨b, o + i, none⟩ = some (.int .u8 (zs.getD i 0))) (n : Nat) (hn : zs.getD 0 0 = n) (h0 : 244 ≤ n) (h1 : n ≤ 244) (hT : w.cell? ⟨1, n, none⟩ = some (.int .u8 68)) (ha0 : w.cell? ⟨2, 8, none⟩ = some (.int .u8 128)) (ha1 : w.cell? ⟨2, 9, none⟩ = some (.int .u8 143)) :
    Calls Tryd.prog 48 #[.slice (some ⟨b, o, none⟩) l c] w fun e u => drOut w zs e u := by
  have HZ : Hid (RuneK zs 65533 1) := runeK1 (by omega) (by omega)
  have c0 := hcs 0 (by omega)
  rw [hn, Nat.add_zero] at c0
  have HC : Hid (zs.length = l ∧ Byt zs ∧ (∀ i, i < l → w.cell? ⟨b, o + i, none⟩ = some (.int .u8 (zs.getD i 0))) ∧ zs.getD 0 0 = n) := ⟨hz0, hby, hcs, hn⟩
  have ga := World.grownBy_alloc w (.cells #[.int .u8 128, .int .u8 143] 73) none
  have GA : Hid (w.grownBy (w.alloc (.cells #[.int .u8 128, .int .u8 143] 73)) none) := ga
  clear hz0 hby hcs hn
  by_cases hl2 : l < 4
  · clear ga
    go_enter Tryd.func48, Tryd.ntmps48
    go_wp2
    go_ret2
    exact ⟨⟨65533, 1, rfl, HZ.out⟩, GA.out⟩
  obtain ⟨z1, hz1⟩ : ∃ z1, zs.getD 1 0 = z1 := ⟨_, rfl⟩
  have c1 := HC.out.2.2.1 1 (by omega)
  have b1 := byt_get HC.out.2.1 1
  rw [← List.getD_eq_getElem?_getD, hz1] at b1
  rw [hz1] at c1
  have c1' := ga.cell c1 (by simp)
  by_cases hb1 : z1 < 128 ∨ 143 < z1
  · clear ga hz1
    go_enter Tryd.func48, Tryd.ntmps48
    rcases hb1 with hb1 | hb1
    · go_wp2
      go_ret2
      exact ⟨⟨65533, 1, rfl, HZ.out⟩, GA.out⟩
    · have hb2 : ¬ z1 < 128 := by omega
      go_wp2
      go_ret2
      exact ⟨⟨65533, 1, rfl, HZ.out⟩, GA.out⟩
  have hb2 : ¬ z1 < 128 := by omega
  have hb3 : ¬ 143 < z1 := by omega
  clear hb1
  obtain ⟨z2, hz2⟩ : ∃ z2, zs.getD 2 0 = z2 := ⟨_, rfl⟩
  have c2 := HC.out.2.2.1 2 (by omega)
  have b2 := byt_get HC.out.2.1 2
  rw [← List.getD_eq_getElem?_getD, hz2] at b2
  rw [hz2] at c2
  have c2' := ga.cell c2 (by simp)
  by_cases hd1 : z2 < 128 ∨ 191 < z2
  · clear ga hz1 hz2
    go_enter Tryd.func48, Tryd.ntmps48
    rcases hd1 with hd1 | hd1
    · go_wp2
      go_ret2
      exact ⟨⟨65533, 1, rfl, HZ.out⟩, GA.out⟩
    · have hd2 : ¬ z2 < 128 := by omega
      go_wp2
      go_ret2
      exact ⟨⟨65533, 1, rfl, HZ.out⟩, GA.out⟩
  have hd2 : ¬ z2 < 128 := by omega
  have hd3 : ¬ 191 < z2 := by omega
  clear hd1
  obtain ⟨z3, hz3⟩ : ∃ z3, zs.getD 3 0 = z3 := ⟨_, rfl⟩
  have c3 := HC.out.2.2.1 3 (by omega)
  have b3 := byt_get HC.out.2.1 3
  rw [← List.getD_eq_getElem?_getD, hz3] at b3
  rw [hz3] at c3
  have c3' := ga.cell c3 (by simp)
  by_cases he1 : z3 < 128 ∨ 191 < z3
  · clear ga hz1 hz2 hz3
    go_enter Tryd.func48, Tryd.ntmps48
    rcases he1 with he1 | he1
    · go_wp2
      go_ret2
      exact ⟨⟨65533, 1, rfl, HZ.out⟩, GA.out⟩
    · have he2 : ¬ z3 < 128 := by omega
      go_wp2
      go_ret2
      exact ⟨⟨65533, 1, rfl, HZ.out⟩, GA.out⟩
  have he2 : ¬ z3 < 128 := by omega
  have he3 : ¬ 191 < z3 := by omega
  clear he1
  have HW : Hid (∀ i, i < 4 → 128 ≤ zs.getD i 0) := fun i hi => by
    have hn := HC.out.2.2.2
    rcases (by omega : i = 0 ∨ i = 1 ∨ i = 2 ∨ i = 3) with rfl | rfl | rfl | rfl
    · rw [hn]; omega
    · rw [hz1]; omega
    · rw [hz2]; omega
    · rw [hz3]; omega
  have HBB : Hid ((0 ≤ z1 ∧ z1 ≤ 255) ∧ (0 ≤ z2 ∧ z2 ≤ 255) ∧ (0 ≤ z3 ∧ z3 ≤ 255) ∧ 4 ≤ l) := ⟨b1, b2, b3, by omega⟩
  have HLO : Hid (128 ≤ z1 ∧ z1 ≤ 143) := ⟨by omega, by omega⟩
  clear ga hz1 hz2 hz3
  go_enter Tryd.func48, Tryd.ntmps48
  go_wp2
  go_ret2
  have hlo := HLO.out
  have hb9 := HBB.out
  have hzl := HC.out.1
  exact ⟨⟨_, _, rfl, ⟨4, rfl, by omega, by omega, HW.out, by omega, by omega⟩⟩, GA.out⟩

end Go.Proofs.YtaecnhmegdeicaaDoor.By
