/-
  bytes.IndexAny at the bytes that end a piece. No statement is proved here.
-/
import Derived.Test.YtaecnhmegdeicaaDoorXW
namespace Go.Proofs.YtaecnhmegdeicaaDoor.By
open Go.RowKit
set_option linter.unusedVariables false
set_option linter.unusedSimpArgs false

/-- How many bytes stand ahead of the first that ends a piece. -/
def sepN (zs : List Int) : Nat := (zs.takeWhile fun z => !isSepZ z).length
def anyV (zs : List Int) : Int := if sepN zs = zs.length then -1 else sepN zs
theorem sepN_le (zs : List Int) : sepN zs ≤ zs.length := by
  induction zs with
  | nil => exact Nat.le_refl _
  | cons z r ih =>
    unfold sepN at *
    rw [List.takeWhile_cons]
    split
    · simp only [List.length_cons]; omega
    · simp
theorem sepN_at : ∀ (zs : List Int) (k : Nat), k < zs.length → k ≤ sepN zs → isSepZ (zs.getD k 0) = true → sepN zs = k
  | [], k, h, _, _ => by simp at h
  | z :: r, 0, _, _, h => by
    have : isSepZ z = true := h
    unfold sepN
    rw [List.takeWhile_cons]
    simp [this]
  | z :: r, k + 1, h, h1, h2 => by
    unfold sepN at *
    rw [List.takeWhile_cons] at *
    split at h1
    · next hz =>
      rw [if_pos hz]
      have := sepN_at r k (by simpa using h) (by simpa [sepN] using h1) (by simpa using h2)
      unfold sepN at this
      simp [this]
    · simp at h1
theorem sepN_next : ∀ (zs : List Int) (k : Nat), k < zs.length → k ≤ sepN zs → isSepZ (zs.getD k 0) = false → k + 1 ≤ sepN zs
  | [], k, h, _, _ => by simp at h
  | z :: r, 0, _, _, h => by
    have : isSepZ z = false := h
    unfold sepN
    rw [List.takeWhile_cons]
    simp [this]
  | z :: r, k + 1, h, h1, h2 => by
    unfold sepN at *
    rw [List.takeWhile_cons] at *
    split at h1
    · next hz =>
      rw [if_pos hz]
      have := sepN_next r k (by simpa using h) (by simpa [sepN] using h1) (by simpa using h2)
      unfold sepN at this
      simp only [List.length_cons]; omega
    · simp at h1
theorem sepN_skip (zs : List Int) (k n : Nat) (h : k + n ≤ zs.length) (h1 : k ≤ sepN zs) (h2 : ∀ i, i < n → isSepZ (zs.getD (k + i) 0) = false) : k + n ≤ sepN zs := by
  induction n with
  | zero => exact h1
  | succ n ih =>
    have := ih (by omega) (fun i hi => h2 i (by omega))
    exact sepN_next zs (k + n) (by omega) this (h2 n (by omega))
theorem sep_hi {z : Int} (h : 128 ≤ z) : isSepZ z = false := by
  unfold isSepZ
  have e1 : ¬ z = 32 := by omega
  have e2 : ¬ z = 10 := by omega
  have e3 : ¬ z = 40 := by omega
  have e4 : ¬ z = 41 := by omega
  have e5 : ¬ z = 34 := by omega
  simp [e1, e2, e3, e4, e5]
theorem anyV_at {zs : List Int} {k : Nat} (h : k < zs.length) (h1 : k ≤ sepN zs) (h2 : isSepZ (zs.getD k 0) = true) : anyV zs = k := by
  unfold anyV
  rw [sepN_at zs k h h1 h2, if_neg (by omega)]
theorem anyV_end {zs : List Int} (h : zs.length ≤ sepN zs) : anyV zs = -1 := by
  unfold anyV
  rw [if_pos (by have := sepN_le zs; omega)]
theorem sepS_size : sepS.size = 5 := rfl
theorem sepS_at0 : ∀ j : Fin 5, (sepS[j.val]'(by rw [sepS_size]; exact j.isLt)).toNat < 128 := by decide +kernel
theorem sepS_at (S : ByteArray) (hS : sepS = S) (j : Nat) (h : j < S.size) : 0 ≤ (((S[j]'h).toNat : Nat) : Int) ∧ (((S[j]'h).toNat : Nat) : Int) < 128 := by
  subst hS
  rw [sepS_size] at h
  have := sepS_at0 ⟨j, h⟩
  simp only at this
  omega

set_option maxRecDepth 8000 in
set_option maxHeartbeats 2000000 in
theorem ixany1 (b o c : Nat) (z : Int) (w : World) (hc0 : w.cell? ⟨b, o, none⟩ = some (.int .u8 z)) (h0 : 0 ≤ z) (h1 : z ≤ 255) :
    Calls Tryd.prog 25 #[.slice (some ⟨b, o, none⟩) (1 : Nat) c, .string sepS] w fun e u => e = .returned (.int .i64 (if isSepZ z then 0 else -1)) ∧ w.grownBy u none := by
  have hix := sep_index h0 h1
  have hne : sepS.toList.isEmpty = false := by decide +kernel
  by_cases hz : z < 128
  · have hz1 : ¬ (128 : Int) ≤ z := by omega
    have HIX : Hid (decide (0 ≤ Lib.indexByte sepS.data.toList z.toNat.toUInt8) = isSepZ z) := hix
    have ci : ∀ w, (callFunc 30 #[.string sepS, .int .u8 z]).run Tryd.prog w = .ok (.value (.int .i64 (Lib.indexByte sepS.data.toList z.toNat.toUInt8))) w := fun w => ixByte sepS z w
    clear hix
    generalize Lib.indexByte sepS.data.toList z.toNat.toUInt8 = i at *
    generalize sepS = S at *
    by_cases hi : 0 ≤ i
    · have hV : isSepZ z = true := by rw [← HIX.out]; simp [hi]
      rw [hV]
      clear HIX hV
      go_enter Tryd.func25, Tryd.ntmps25
      go_wp2_with fail
      go_ret
      exact ⟨rfl, World.grownBy.refl _ _⟩
    · have hV : isSepZ z = false := by rw [← HIX.out]; simp [hi]
      rw [hV]
      clear HIX hV
      go_enter Tryd.func25, Tryd.ntmps25
      go_wp2_with fail
      go_ret
      exact ⟨rfl, World.grownBy.refl _ _⟩
  · have hz1 : (128 : Int) ≤ z := by omega
    rw [sep_hi hz1]
    have hsz := sepS_size
    have HA : Hid (∀ (j : Nat) (h : j < sepS.size), 0 ≤ (((sepS[j]'h).toNat : Nat) : Int) ∧ (((sepS[j]'h).toNat : Nat) : Int) < 128) := fun j h => sepS_at _ rfl j h
    clear hix
    generalize sepS = S at *
    go_enter Tryd.func25, Tryd.ntmps25
    go_wp2_with fail
    go_loopw [5] (fun r w' => ∃ j : Nat, w' = w.iter S j ∧ j ≤ 5 ∧ ∃ x : Int, r = .int .i32 x) (fun _ w' => S.size - w'.iterPos w.heap.size)
    case atStart => exact ⟨0, rfl, Nat.zero_le _, z, rfl⟩
    case round =>
      obtain ⟨j, rfl, hj, x, rfl⟩ := hrel
      by_cases hp : j < S.size
      · obtain ⟨y, hy⟩ : ∃ y : Int, (((S[j]'hp).toNat : Nat) : Int) = y := ⟨_, rfl⟩
        have hy0 := HA.out j hp
        rw [hy] at hy0
        have hj5 : j < 5 := by omega
        have hye : ¬ y = 65533 := by omega
        have hnx : ∀ ty, (Instr.next (.pointer (some ⟨w.heap.size, 0, none⟩)) true ty).run Tryd.prog (w.iter S j) = .ok (.tuple #[.bool true, .int .i64 j, .int .i32 y]) (w.iter S (j + 1)) := fun ty => by
          rw [run_next_ascii w S j ty hp (by omega), hy]
        have GI : Hid (∀ q, w.grownBy (w.iter S q) none) := fun q => World.grownBy_alloc _ _ _
        clear hy hp
        go_wp2_with fail
        go_roundw
        case rel => exact ⟨j + 1, rfl, by omega, y, rfl⟩
        case measure => simp [World.iterPos_iter]; omega
      · have hnx : ∀ ty, (Instr.next (.pointer (some ⟨w.heap.size, 0, none⟩)) true ty).run Tryd.prog (w.iter S j) = .ok (.tuple #[.bool false]) (w.iter S j) := fun ty => by
          rw [run_next_end w S j ty (by omega)]
        have GI : Hid (∀ q, w.grownBy (w.iter S q) none) := fun q => World.grownBy_alloc _ _ _
        clear hp
        go_wp2_with fail
        go_ret
        exact ⟨rfl, GI.out _⟩

theorem grown_setRow (w : World) (g : Nat) (cs : Array Value) : w.grownBy (w.setRow g cs) (some g) :=
  ⟨rfl, rfl, rfl, by simp [World.setRow], fun k hk hne => setRow_other w g k cs (fun e => hne (by rw [e]))⟩
theorem useSetT (l : Nat) (v : Bool) (hv : decide (8 < l) = v) (w : World) : Calls Tryd.prog 32 #[.int .i64 l] w fun e u => e = .returned (.bool v) ∧ u = w := by
  cases v with
  | true =>
    have h : (8 : Int) < l := by have := of_decide_eq_true hv; omega
    clear hv
    go_enter Tryd.func32, Tryd.ntmps32
    go_wp2
    go_ret
    exact ⟨rfl, rfl⟩
  | false =>
    have h : ¬ (8 : Int) < l := by have := of_decide_eq_false hv; omega
    clear hv
    go_enter Tryd.func32, Tryd.ntmps32
    go_wp2
    go_ret
    exact ⟨rfl, rfl⟩

set_option maxRecDepth 100000 in
set_option maxHeartbeats 4000000 in
theorem ixanyBig (b o l c : Nat) (zs : List Int) (w : World) (hz0 : zs.length = l) (hl : 8 < l) (hmx : l ≤ 100000) (hby : Byt zs) (hcs : ∀ i, i < l → w.cell? ⟨b, o + i, none⟩ = some (.int .u8 (zs.getD i 0))) :
    Calls Tryd.prog 25 #[.slice (some ⟨b, o, none⟩) l c, .string sepS] w fun e u => e = .returned (.int .i64 (anyV zs)) ∧ w.grownBy u none := by
  have hne : sepS.toList.isEmpty = false := by decide +kernel
  have hsz := sepS_size
  have HZ : Hid (zs.length = l ∧ Byt zs) := ⟨hz0, hby⟩
  have HCS : Hid (∀ i, i < l → w.cell? ⟨b, o + i, none⟩ = some (.int .u8 (zs.getD i 0))) := hcs
  have CU : Hid _ := useSetT l true (by simpa using hl) w
  have HM : Hid (∀ w, Calls Tryd.prog 33 #[.string sepS] w fun e u => e = .returned (.tuple #[.agg (Lib.setCells sepS.data.toList), .bool true]) ∧ w.grownBy u none) := fun w => mksetT sepS w (by rw [sepS_size]; omega) (fun j x hx => by
    obtain ⟨hj, e⟩ := List.getElem?_eq_some_iff.1 hx
    have := (sepS_at sepS rfl j (by rw [sepS_size]; exact hj)).2
    have e2 : sepS[j]'(by rw [sepS_size]; exact hj) = x := e
    rw [e2] at this
    omega)
  have HS : Hid (∀ z : Int, 0 ≤ z → z ≤ 255 → (Lib.setCells sepS.data.toList)[z.toNat]? = some (.bool (isSepZ z))) := fun z h0 h1 => sep_in h0 h1
  have hone := Lib.setCells_one sepS.data.toList
  have hss : (Tryd.prog.info? 50).map (·.size) = some (Lib.setCells sepS.data.toList).size := by rw [Lib.setCells_size]; exact sizeSet
  have hzs := zeroSet
  generalize Lib.setCells sepS.data.toList = cs at *
  generalize sepS = S at *
  have hl1 : ¬ (l : Int) = 1 := by omega
  clear hz0 hby hcs
  go_enter Tryd.func25, Tryd.ntmps25
  go_wp2_with fail
  refine Calls.mono CU.out ?_
  rintro e u ⟨rfl, rfl⟩
  clear CU
  go_wp2_with fail
  have CM : Hid _ := HM.out u
  clear HM
  refine Calls.mono CM.out ?_
  rintro e w1 ⟨rfl, hg1⟩
  have G1 : Hid (u.grownBy w1 none) := hg1
  clear CM hg1
  have hoz : (Array.replicate 256 (Value.bool false)).size = cs.size := by
    have e := hss.symm.trans sizeSet
    have e2 : cs.size = 256 := Option.some.inj e
    rw [e2, Array.size_replicate]
  obtain ⟨old, hold⟩ : ∃ old, Array.replicate 256 (Value.bool false) = old := ⟨_, rfl⟩
  have F : Hid (((w1.alloc (.cells old 50)).setRow w1.heap.size cs).heap[w1.heap.size]? = some (Obj.cells cs 50 (0, 0)) ∧ w1.grownBy ((w1.alloc (.cells old 50)).setRow w1.heap.size cs) none) :=
    ⟨setRow_heap _ _ _ _ _ _ (heap_alloc_new w1 (.cells old 50)), grown_into (World.grownBy_alloc w1 _ _) (grown_setRow _ _ _) (Nat.le_refl _)⟩
  have B0 : Hid ((w1.alloc (.cells old 50)).heap[w1.heap.size]? = some (Obj.cells old 50 (0, 0))) := heap_alloc_new w1 (.cells old 50)
  have HSS : Hid ((Tryd.prog.info? 50).map (·.size) = some cs.size) := hss
  have HG : Hid (u.heap.size ≤ w1.heap.size) := G1.out.size
  rw [hold] at hzs hoz
  clear hss hold
  go_wp2_with (refine wpList_store_row rfl 50 _ _ rfl w1.heap.size cs rfl rfl 50 old B0.out HSS.out hoz hone ?_)
  have G2 := grown_trans G1.out F.out.2
  have F1 := F.out.1
  clear hzs hoz B0 HSS HG hone F G1
  generalize (w1.alloc (.cells old 50)).setRow w1.heap.size cs = W at *
  generalize w1.heap.size = g at *
  have FW : Hid (u.grownBy W none) := G2
  have HB : Hid (W.heap[g]? = some (Obj.cells cs 50 (0, 0))) := F1
  have HCW : Hid (∀ i, i < l → W.cell? ⟨b, o + i, none⟩ = some (.int .u8 (zs.getD i 0))) := fun i hi => G2.cell (HCS.out i hi) (by simp)
  clear G2 F1 HCS
  go_loopw [62] (fun i wr => ∃ k : Nat, k ≤ l ∧ Hid (k ≤ sepN zs) ∧ i = .int .i64 k ∧ wr = W) (fun i _ => l - (intOf i).toNat)
  case atStart => exact ⟨0, Nat.zero_le _, Nat.zero_le _, rfl, rfl⟩
  case round =>
    obtain ⟨k, hk, HK, rfl, rfl⟩ := hrel
    by_cases hlt : k < l
    · obtain ⟨z, hz⟩ : ∃ z, zs.getD k 0 = z := ⟨_, rfl⟩
      have hb := byt_get HZ.out.2 k
      rw [← List.getD_eq_getElem?_getD, hz] at hb
      have hc := HCW.out k hlt
      rw [hz] at hc
      have hsb := HS.out z hb.1 hb.2
      have CH : Hid _ := setHasT g z (isSepZ z) wr hb.1 hb.2 (by rw [cell_of_row wr g _ _ _ (0, 0) HB.out]; exact hsb)
      by_cases hs : isSepZ z = true
      · have HV : Hid (anyV zs = k) := anyV_at (by rw [HZ.out.1]; exact hlt) HK.out (by rw [hz]; exact hs)
        rw [hs] at CH
        clear hs hz hb hsb
        go_wp2_with fail
        refine Calls.mono CH.out ?_
        rintro e u2 ⟨rfl, rfl⟩
        clear CH
        go_wp2_with fail
        go_ret
        exact ⟨by rw [HV.out]; rfl, FW.out⟩
      · have hs2 : isSepZ z = false := Bool.eq_false_iff.mpr hs
        have HN : Hid (k + 1 ≤ sepN zs) := sepN_next zs k (by rw [HZ.out.1]; exact hlt) HK.out (by rw [hz]; exact hs2)
        rw [hs2] at CH
        clear hs hs2 hz hb hsb
        go_wp2_with fail
        refine Calls.mono CH.out ?_
        rintro e u2 ⟨rfl, rfl⟩
        clear CH
        go_wp2_with fail
        go_roundw
        case rel => exact ⟨k + 1, by omega, HN, by go_num, trivial⟩
        case measure => simp [intOf]; omega
    · have HV : Hid (anyV zs = -1) := anyV_end (by have := HK.out; have := HZ.out.1; omega)
      go_wp2_with fail
      go_ret
      exact ⟨by rw [HV.out]; rfl, FW.out⟩
end Go.Proofs.YtaecnhmegdeicaaDoor.By
