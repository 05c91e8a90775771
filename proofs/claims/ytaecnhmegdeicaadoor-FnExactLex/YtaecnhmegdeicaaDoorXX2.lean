/-
  bytes.IndexAny in a short text. No statement is proved here.
-/
import Derived.Test.YtaecnhmegdeicaaDoorXX
namespace Go.Proofs.YtaecnhmegdeicaaDoor.By
open Go.RowKit
set_option linter.unusedVariables false
set_option linter.unusedSimpArgs false

theorem getD_drop (zs : List Int) (k i : Nat) : (zs.drop k).getD i 0 = zs.getD (k + i) 0 := by
  rw [List.getD_eq_getElem?_getD, List.getD_eq_getElem?_getD, List.getElem?_drop]


set_option maxRecDepth 100000 in
set_option maxHeartbeats 4000000 in
theorem ixanySmall (b o l c : Nat) (zs : List Int) (w : World) (hz0 : zs.length = l) (hl : 1 < l) (hmx : l ≤ 8) (hlc : l ≤ c) (hby : Byt zs) (hcs : ∀ i, i < l → w.cell? ⟨b, o + i, none⟩ = some (.int .u8 (zs.getD i 0))) (hT : TabU w) :
    Calls Tryd.prog 25 #[.slice (some ⟨b, o, none⟩) l c, .string sepS] w fun e u => e = .returned (.int .i64 (anyV zs)) ∧ w.grownBy u none := by
  have hne : sepS.toList.isEmpty = false := by decide +kernel
  have hsz := sepS_size
  have HZ : Hid (zs.length = l ∧ Byt zs) := ⟨hz0, hby⟩
  have HCS : Hid ((∀ i, i < l → w.cell? ⟨b, o + i, none⟩ = some (.int .u8 (zs.getD i 0))) ∧ TabU w) := ⟨hcs, hT⟩
  have CU : Hid _ := useSetT l false (by simpa using hmx) w
  have HA : Hid (∀ (j : Nat) (h : j < sepS.size), 0 ≤ (((sepS[j]'h).toNat : Nat) : Int) ∧ (((sepS[j]'h).toNat : Nat) : Int) < 128) := fun j h => sepS_at _ rfl j h
  have HX : Hid (∀ (z : Int) (w : World), (callFunc 30 #[.string sepS, .int .u8 z]).run Tryd.prog w = .ok (.value (.int .i64 (Lib.indexByte sepS.data.toList z.toNat.toUInt8))) w) := fun z w => ixByte sepS z w
  have HI : Hid (∀ z : Int, 0 ≤ z → z ≤ 255 → decide (0 ≤ Lib.indexByte sepS.data.toList z.toNat.toUInt8) = isSepZ z) := fun z h0 h1 => sep_index h0 h1
  have HR : Hid (∀ (r m : Int) (w : World) (h : 128 ≤ r) (hm : w.cell? ⟨0, 0, none⟩ = some (.int .i64 m)) (hs : ((Utf8.encode r).size : Int) ≤ m), (callFunc 36 #[.string sepS, .string (Utf8.encode r)]).run Tryd.prog w = .ok (.value (.int .i64 (-1))) w) := fun r m w => ixRuneS r m w
  generalize hL : sepS.data.toList = L at *
  clear hL
  generalize sepS = S at *
  have hl1 : ¬ (l : Int) = 1 := by omega
  clear hz0 hby hcs hT
  go_enter Tryd.func25, Tryd.ntmps25
  go_wp2_with fail
  refine Calls.mono CU.out ?_
  rintro e u ⟨rfl, rfl⟩
  clear CU
  go_wp2_with fail
  go_loopw [12] (fun i wr => ∃ k : Nat, k ≤ l ∧ Hid (k ≤ sepN zs) ∧ i = .int .i64 k ∧ Hid (u.grownBy wr none)) (fun i _ => l - (intOf i).toNat)
  case atStart => exact ⟨0, Nat.zero_le _, Nat.zero_le _, rfl, World.grownBy.refl _ _⟩
  case round =>
    obtain ⟨k, hk, HK, rfl, HW⟩ := hrel
    by_cases hlt : k < l
    · obtain ⟨z, hz⟩ : ∃ z, zs.getD k 0 = z := ⟨_, rfl⟩
      have hb := byt_get HZ.out.2 k
      rw [← List.getD_eq_getElem?_getD, hz] at hb
      have hb0 := hb.1
      have hb1 := hb.2
      have hc : wr.cell? ⟨b, o + k, none⟩ = some (.int .u8 z) := by
        have := HW.out.cell (HCS.out.1 k hlt) (by simp)
        rw [hz] at this
        exact this
      by_cases h128 : z < 128
      · have hx := fun w => HX.out z w
        have hi := HI.out z hb.1 hb.2
        generalize Lib.indexByte L z.toNat.toUInt8 = i at *
        by_cases hs : 0 ≤ i
        · have HV : Hid (anyV zs = k) := anyV_at (by rw [HZ.out.1]; exact hlt) HK.out (by rw [hz, ← hi]; simp [hs])
          clear hi hb hz
          go_wp2_with fail
          go_ret
          exact ⟨by rw [HV.out]; rfl, HW.out⟩
        · have HN : Hid (k + 1 ≤ sepN zs) := sepN_next zs k (by rw [HZ.out.1]; exact hlt) HK.out (by rw [hz, ← hi]; simp [hs])
          clear hi hb hz
          go_wp2_with fail
          go_roundw
          case rel => exact ⟨k + 1, by omega, HN, by go_num, HW⟩
          case measure => simp [intOf]; omega
      · have hln : (zs.drop k).length = l - k := by rw [List.length_drop, HZ.out.1]
        have CD : Hid _ := druneT b (o + k) (l - k) (c - k) (zs.drop k) wr hln (by omega) (fun x hx => HZ.out.2 x (List.mem_of_mem_drop hx)) (fun i hi => by
          rw [getD_drop, Nat.add_assoc]
          exact HW.out.cell (HCS.out.1 (k + i) (by omega)) (by simp)) (by rw [getD_drop, Nat.add_zero, hz]; omega) (HCS.out.2.none HW.out)
        clear hz hb hln
        go_wp2_with fail
        refine Calls.mono CD.out ?_
        rintro e v ⟨⟨r, n', rfl, n, rfl, hn1, hn2, hnb, hr, hn4⟩, hg⟩
        have HN : Hid (k + n ≤ sepN zs) := by
          rw [List.length_drop, HZ.out.1] at hn2
          exact sepN_skip zs k n (by rw [HZ.out.1]; omega) HK.out (fun i hi => by have := hnb i hi; rw [getD_drop] at this; exact sep_hi this)
        rw [List.length_drop, HZ.out.1] at hn2
        obtain ⟨m, hm⟩ := (HCS.out.2.none (grown_trans HW.out hg)).1
        have HW2 : Hid (u.grownBy v none) := grown_trans HW.out hg
        clear CD hg HW HK hc hnb hb0 hb1 h128
        obtain ⟨hr0, hr1⟩ := hr
        by_cases h65 : r = 65533
        · clear hm hn4
          subst h65
          go_wp2_with fail
          go_loopw [] (fun w' => ∃ j : Nat, w' = v.iter S j ∧ j ≤ 5) (fun w' => S.size - w'.iterPos v.heap.size)
          case atStart => exact ⟨0, rfl, Nat.zero_le _⟩
          case round =>
            obtain ⟨j, rfl, hj⟩ := hrel
            by_cases hp : j < S.size
            · obtain ⟨y, hy⟩ : ∃ y : Int, (((S[j]'hp).toNat : Nat) : Int) = y := ⟨_, rfl⟩
              have hy0 := HA.out j hp
              rw [hy] at hy0
              have hj5 : j < 5 := by omega
              have hye : ¬ 65533 = y := by omega
              have hnx : ∀ ty, (Instr.next (.pointer (some ⟨v.heap.size, 0, none⟩)) true ty).run Tryd.prog (v.iter S j) = .ok (.tuple #[.bool true, .int .i64 j, .int .i32 y]) (v.iter S (j + 1)) := fun ty => by
                rw [run_next_ascii v S j ty hp (by omega), hy]
              clear hy hp
              go_wp2_with fail
              go_roundw
              case rel => exact ⟨j + 1, rfl, by omega⟩
              case measure => simp [World.iterPos_iter]; omega
            · have hnx : ∀ ty, (Instr.next (.pointer (some ⟨v.heap.size, 0, none⟩)) true ty).run Tryd.prog (v.iter S j) = .ok (.tuple #[.bool false]) (v.iter S j) := fun ty => by
                rw [run_next_end v S j ty (by omega)]
              have GI : Hid (u.grownBy (v.iter S j) none) := grown_trans HW2.out (World.grownBy_alloc _ _ _)
              clear hp
              go_wp2_with fail
              go_roundw
              case rel => exact ⟨k + n, by omega, HN, by go_num, GI⟩
              case measure => simp [intOf]; omega
        · by_cases hmn : (n : Int) ≤ m
          · obtain ⟨e2, e4, e22, e3, -⟩ := enc_facts r hr0
            have hxs := HR.out r m v hr0 hm (by omega)
            have h5 : ¬ (5 : Int) = n := by omega
            clear e2 e4 e22 e3 hn4
            go_wp2_with fail
            go_roundw
            case rel => exact ⟨k + n, by omega, HN, by go_num, HW2⟩
            case measure => simp [intOf]; omega
          · have h5 : ¬ (5 : Int) = n := by omega
            clear hn4
            go_wp2_with fail
            go_loopw [] (fun w' => ∃ j : Nat, w' = v.iter S j ∧ j ≤ 5) (fun w' => S.size - w'.iterPos v.heap.size)
            case atStart => exact ⟨0, rfl, Nat.zero_le _⟩
            case round =>
              obtain ⟨j, rfl, hj⟩ := hrel
              by_cases hp : j < S.size
              · obtain ⟨y, hy⟩ : ∃ y : Int, (((S[j]'hp).toNat : Nat) : Int) = y := ⟨_, rfl⟩
                have hy0 := HA.out j hp
                rw [hy] at hy0
                have hj5 : j < 5 := by omega
                have hye : ¬ r = y := by omega
                have hnx : ∀ ty, (Instr.next (.pointer (some ⟨v.heap.size, 0, none⟩)) true ty).run Tryd.prog (v.iter S j) = .ok (.tuple #[.bool true, .int .i64 j, .int .i32 y]) (v.iter S (j + 1)) := fun ty => by
                  rw [run_next_ascii v S j ty hp (by omega), hy]
                clear hy hp
                go_wp2_with fail
                go_roundw
                case rel => exact ⟨j + 1, rfl, by omega⟩
                case measure => simp [World.iterPos_iter]; omega
              · have hnx : ∀ ty, (Instr.next (.pointer (some ⟨v.heap.size, 0, none⟩)) true ty).run Tryd.prog (v.iter S j) = .ok (.tuple #[.bool false]) (v.iter S j) := fun ty => by
                  rw [run_next_end v S j ty (by omega)]
                have GI : Hid (u.grownBy (v.iter S j) none) := grown_trans HW2.out (World.grownBy_alloc _ _ _)
                clear hp
                go_wp2_with fail
                go_roundw
                case rel => exact ⟨k + n, by omega, HN, by go_num, GI⟩
                case measure => simp [intOf]; omega
    · have HV : Hid (anyV zs = -1) := anyV_end (by have := HK.out; have := HZ.out.1; omega)
      go_wp2_with fail
      go_ret
      exact ⟨by rw [HV.out]; rfl, HW.out⟩

theorem anyV_one (z : Int) : anyV [z] = if isSepZ z then 0 else -1 := by
  unfold anyV sepN
  rw [List.takeWhile_cons]
  cases isSepZ z <;> rfl
theorem ixanyT (b o l c : Nat) (zs : List Int) (w : World) (hz0 : zs.length = l) (hl : 1 ≤ l) (hmx : l ≤ 100000) (hlc : l ≤ c) (hby : Byt zs) (hcs : ∀ i, i < l → w.cell? ⟨b, o + i, none⟩ = some (.int .u8 (zs.getD i 0))) (hT : TabU w) :
    Calls Tryd.prog 25 #[.slice (some ⟨b, o, none⟩) l c, .string sepS] w fun e u => e = .returned (.int .i64 (anyV zs)) ∧ w.grownBy u none := by
  by_cases h1 : l = 1
  · subst h1
    obtain ⟨z, rfl⟩ := List.length_eq_one_iff.1 hz0
    have hb := byt_get hby 0
    rw [anyV_one]
    exact ixany1 b o c z w (hcs 0 (by omega)) hb.1 hb.2
  · by_cases h8 : 8 < l
    · exact ixanyBig b o l c zs w hz0 h8 hmx hby hcs
    · exact ixanySmall b o l c zs w hz0 (by omega) (by omega) hlc hby hcs hT
end Go.Proofs.YtaecnhmegdeicaaDoor.By
