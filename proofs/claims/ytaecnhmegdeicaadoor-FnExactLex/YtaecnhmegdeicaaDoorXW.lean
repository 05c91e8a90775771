/-
  Searches in a short ASCII text: what they answer; DecodeRune. No statement is proved here.
-/
import Derived.Test.YtaecnhmegdeicaaDoorXU2
import Derived.Test.YtaecnhmegdeicaaDoorXV
import Derived.Lib.IndexEntry
import Derived.Lib.IndexBytes
import Derived.Lib.Strings
import Derived.Laws.Runes
namespace Go.Proofs.YtaecnhmegdeicaaDoor.By
open Go.RowKit
set_option linter.unusedVariables false
set_option linter.unusedSimpArgs false

/-- What ends a piece: a blank, a line's end, a bracket, a mark. -/
def isSepZ (z : Int) : Bool := decide (z = 32) || decide (z = 10) || decide (z = 40) || decide (z = 41) || decide (z = 34)
def sepS : ByteArray := { data := #[32, 10, 40, 41, 34] }
theorem sep_index {z : Int} (h0 : 0 ≤ z) (h1 : z ≤ 255) : decide (0 ≤ Lib.indexByte sepS.data.toList z.toNat.toUInt8) = isSepZ z :=
  fin_byt (P := fun z => decide (0 ≤ Lib.indexByte sepS.data.toList z.toNat.toUInt8) = isSepZ z) (by decide +kernel) h0 h1
theorem sep_in {z : Int} (h0 : 0 ≤ z) (h1 : z ≤ 255) : (Lib.setCells sepS.data.toList)[z.toNat]? = some (.bool (isSepZ z)) := by
  have e : z.toNat = (UInt8.ofNat z.toNat).toNat := by rw [UInt8.toNat_ofNat']; omega
  rw [e, Lib.setCells_at]
  congr 2
  exact fin_byt (P := fun z => sepS.data.toList.contains (UInt8.ofNat z.toNat) = isSepZ z) (by decide +kernel) h0 h1
theorem ixByte (s : ByteArray) (c : Int) (w : World) : (callFunc 30 #[.string s, .int .u8 c]).run Tryd.prog w = .ok (.value (.int .i64 (Lib.indexByte s.data.toList c.toNat.toUInt8))) w := by
  rw [run_callFunc_extern (P := Tryd.prog) (e := Extern.BytealgIndexByte.indexByte) Tryd.func30 (by kernel_rfl) (by kernel_rfl) (by kernel_rfl) (by kernel_rfl), Lib.run_indexByteString]
  rfl
/-- What a rune that is no ASCII is written as. -/
theorem enc_facts (r : Int) (h : 128 ≤ r) : 2 ≤ (Utf8.encode r).size ∧ (Utf8.encode r).size ≤ 4 ∧ (r < 2048 → (Utf8.encode r).size ≤ 2) ∧ (r < 65536 → (Utf8.encode r).size ≤ 3) ∧ ∃ b q, (Utf8.encode r).data.toList = b :: q ∧ 128 ≤ b.toNat := by
  obtain ⟨c, hc⟩ : ∃ c, (if Utf8.valid r then r.toNat else Utf8.runeError) = c := ⟨_, rfl⟩
  have hb : 128 ≤ c ∧ c ≤ 1114111 ∧ (r < 2048 → c < 2048) ∧ (r < 65536 → c < 65536) := by
    rw [validRune_eq] at hc
    by_cases hv : validRune r = true
    · rw [if_pos hv] at hc
      have hv2 := of_decide_eq_true (show decide _ = true from hv)
      omega
    · rw [if_neg hv] at hc
      have e : Utf8.runeError = 65533 := rfl
      have hv2 := of_decide_eq_false (show decide _ = false from Bool.eq_false_iff.mpr hv)
      omega
  unfold Utf8.encode
  simp only [hc]
  rw [if_neg (by omega)]
  split
  · exact ⟨Nat.le_refl _, by show 2 ≤ 4; omega, fun _ => Nat.le_refl _, fun _ => by show 2 ≤ 3; omega, _, _, rfl, by rw [UInt8.toNat_ofNat']; omega⟩
  · split
    · exact ⟨by show 2 ≤ 3; omega, by show 3 ≤ 4; omega, fun _ => by omega, fun _ => Nat.le_refl _, _, _, rfl, by rw [UInt8.toNat_ofNat']; omega⟩
    · exact ⟨by show 2 ≤ 4; omega, Nat.le_refl _, fun _ => by omega, fun _ => by omega, _, _, rfl, by rw [UInt8.toNat_ofNat']; omega⟩
theorem index_head : ∀ (l : List UInt8) (b : UInt8) (q : List UInt8), (∀ x ∈ l, x ≠ b) → Lib.index l (b :: q) = -1
  | [], b, q, _ => rfl
  | x :: r, b, q, h => by
    have h1 := h x (by simp)
    have h2 := index_head r b q (fun y hy => h y (by simp [hy]))
    have h3 : ((b :: q).isPrefixOf (x :: r)) = false := by simp [List.isPrefixOf, Ne.symm h1]
    simp only [Lib.index, h3, h2]
    rfl
theorem ixRuneS (r m : Int) (w : World) (h : 128 ≤ r) (hm : w.cell? ⟨0, 0, none⟩ = some (.int .i64 m)) (hs : ((Utf8.encode r).size : Int) ≤ m) : (callFunc 36 #[.string sepS, .string (Utf8.encode r)]).run Tryd.prog w = .ok (.value (.int .i64 (-1))) w := by
  obtain ⟨h2, h4, -, -, b, q, e, hb⟩ := enc_facts r h
  rw [run_callFunc_extern (P := Tryd.prog) (e := Extern.BytealgIndex.index) Tryd.func36 (by kernel_rfl) (by kernel_rfl) (by kernel_rfl) (by kernel_rfl), Lib.run_indexString sepS (Utf8.encode r) w 0 m (by kernel_rfl) hm h2 hs (by decide), e]
  rw [index_head _ b q (fun x hx => by
    have : x.toNat < 128 := by
      simp [sepS] at hx
      rcases hx with rfl | rfl | rfl | rfl | rfl <;> decide
    intro e2; rw [e2] at this; omega)]
  rfl
theorem fst_at {w : World} (hT : TabU w) {n : Nat} (h0 : 128 ≤ n) (h1 : n ≤ 255) : w.cell? ⟨1, n, none⟩ = some (.int .u8 (fstV n)) := hT.2.1 n h0 (by omega)

set_option maxRecDepth 8000 in
theorem slowT (b o : Nat) (l c : Nat) (zs : List Int) (w : World) (hz0 : zs.length = l) (hl : 1 ≤ l) (hby : Byt zs) (hcs : ∀ i, i < l → w.cell? ⟨b, o + i, none⟩ = some (.int .u8 (zs.getD i 0))) (h0 : 128 ≤ zs.getD 0 0) (hT : TabU w) :
    Calls Tryd.prog 48 #[.slice (some ⟨b, o, none⟩) l c] w fun e u => drOut w zs e u := by
  have hb := byt_get hby 0
  rw [← List.getD_eq_getElem?_getD] at hb
  obtain ⟨n, hn⟩ : ∃ n : Nat, zs.getD 0 0 = n := ⟨(zs.getD 0 0).toNat, by omega⟩
  have hf := fst_at hT (n := n) (by omega) (by omega)
  obtain ⟨-, -, a0, a1, a2, a3, a4, a5, a6, a7, a8, a9⟩ := hT
  have hc0 : w.cell? ⟨b, o, none⟩ = some (.int .u8 (n : Int)) := by have := hcs 0 (by omega); rw [hn] at this; exact this
  unfold fstV at hf
  split at hf
  · exact slow_xx b o l c zs w hz0 hl n hn (by omega) (by omega) hc0 n rfl hf
  split at hf
  · exact slow_a b o l c zs w hz0 hl hby hcs n hn (by omega) (by omega) hf a0 a1
  split at hf
  · exact slow_b b o l c zs w hz0 hl hby hcs n hn (by omega) (by omega) hf a2 a3
  split at hf
  · exact slow_d b o l c zs w hz0 hl hby hcs n hn (by omega) (by omega) hf a4 a5
  split at hf
  · exact slow_c b o l c zs w hz0 hl hby hcs n hn (by omega) (by omega) hf a0 a1
  split at hf
  · exact slow_e b o l c zs w hz0 hl hby hcs n hn (by omega) (by omega) hf a6 a7
  split at hf
  · exact slow_f b o l c zs w hz0 hl hby hcs n hn (by omega) (by omega) hf a0 a1
  split at hf
  · exact slow_g b o l c zs w hz0 hl hby hcs n hn (by omega) (by omega) hf a8 a9
  · exact slow_xx b o l c zs w hz0 hl n hn (by omega) (by omega) hc0 n rfl hf

set_option maxRecDepth 8000 in
set_option maxHeartbeats 2000000 in
theorem druneT (b o : Nat) (l c : Nat) (zs : List Int) (w : World) (hz0 : zs.length = l) (hl : 1 ≤ l) (hby : Byt zs) (hcs : ∀ i, i < l → w.cell? ⟨b, o + i, none⟩ = some (.int .u8 (zs.getD i 0))) (h0 : 128 ≤ zs.getD 0 0) (hT : TabU w) :
    Calls Tryd.prog 35 #[.slice (some ⟨b, o, none⟩) l c] w fun e u => drOut w zs e u := by
  have CS : Hid _ := slowT b o l c zs w hz0 hl hby hcs h0 hT
  have hc0 := hcs 0 (by omega)
  rw [Nat.add_zero] at hc0
  have hb := byt_get hby 0
  rw [← List.getD_eq_getElem?_getD] at hb
  generalize zs.getD 0 0 = z at *
  have hz : ¬ z < 128 := by omega
  clear hz0 hby hcs hT h0
  go_enter Tryd.func35, Tryd.ntmps35
  go_wp2
  refine wp_loop_rounds 1 ?_
  rw [rounds_succ]
  go_wp2_with fail
  refine Calls.mono CS.out ?_
  rintro e u ⟨⟨r, k, rfl, hk⟩, hg⟩
  have FQ : Hid (RuneK zs r k ∧ w.grownBy u none) := ⟨hk, hg⟩
  clear hk hg CS hc0
  go_wp2
  go_ret2
  exact ⟨⟨r, k, rfl, FQ.out.1⟩, FQ.out.2⟩
end Go.Proofs.YtaecnhmegdeicaaDoor.By
