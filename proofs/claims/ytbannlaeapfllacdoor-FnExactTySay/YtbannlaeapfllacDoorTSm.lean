/-
  The text of a tree, as bytes; the specification's decimals. No statement is proved here.
-/
import Derived.Test.YtbannlaeapfllacDoorTSb
import Derived.Lib.ItoaLen
namespace Go.Proofs.YtbannlaeapfllacDoor.By
open Go.RowKit
set_option linter.unusedVariables false
set_option linter.unusedSimpArgs false

def decB (n : Nat) : List Int := ofB (Lib.decDigits n)
theorem decB_small {n : Nat} (h : n < 10) : decB n = [48 + (n : Int)] := by
  unfold decB
  rw [Lib.decDigits, dif_pos h]
  simp [ofB, UInt8.toNat_ofNat]
  omega
theorem decB_great {n : Nat} (h : ¬ n < 10) : decB n = decB (n / 10) ++ [48 + ((n % 10 : Nat) : Int)] := by
  unfold decB
  rw [Lib.decDigits, dif_neg h, ofB_app]
  congr 1
  simp [ofB, UInt8.toNat_ofNat]
  omega
theorem decB_len : ∀ (m n : Nat), n < 10 ^ (m + 1) → (decB n).length ≤ m + 1 := by
  intro m
  induction m with
  | zero => intro n h; rw [decB_small (by omega)]; simp
  | succ m ih =>
    intro n h
    by_cases h10 : n < 10
    · rw [decB_small h10]; simp
    · rw [decB_great h10, List.length_append, List.length_singleton]
      have := ih (n / 10) (by rw [Nat.div_lt_iff_lt_mul (by decide)]; rw [Nat.pow_succ] at h; omega)
      omega

set_option maxRecDepth 8000 in
set_option maxHeartbeats 1000000 in
theorem l3tensT (m : Nat) : ∀ (n : Nat) (w : World), n < m → n < 1000000 →
    Calls Tryd.prog 26 #[.int .u64 n] w fun e u => ∃ a c, e = .returned (.slice a (decB n).length c) ∧ w.grownBy u none ∧ OwS w.heap.size u a (decB n).length c (decB n) := by
  induction m with
  | zero => intro n w h; exact absurd h (Nat.not_lt_zero _)
  | succ m ih =>
    intro n w hm hn
    by_cases h10 : n < 10
    · have E : Hid (decB n = [48 + (n : Int)]) := decB_small h10
      have h10' : (n : Int) < 10 := by omega
      have hw : IntKind.u8.wrap (48 + (n : Int)) = 48 + (n : Int) := IntWalk.u8_in _ (by omega)
      go_enter Tryd.func26, Tryd.ntmps26
      have FF : Hid (OwS w.heap.size (w.alloc (.cells #[.int .u8 (48 + (n : Int))] 5)) (some ⟨w.heap.size, 0, none⟩) 1 1 [48 + (n : Int)]) := ⟨⟨rfl, .inr ⟨_, _, _, rfl, Nat.le_refl _, heap_alloc_new w _, by omega, by decide, rfl, rfl⟩⟩, rfl⟩
      go_wp2
      go_ret
      exact ⟨_, _, by rw [E.out]; rfl, World.grownBy_alloc _ _ _, by rw [E.out]; exact FF.out⟩
    · have E : Hid (decB n = decB (n / 10) ++ [48 + ((n % 10 : Nat) : Int)]) := decB_great h10
      have h10' : ¬ (n : Int) < 10 := by omega
      have e0 : ((n / 10 : Nat) : Int) = (n : Int) / 10 := by omega
      have e1 : ((n % 10 : Nat) : Int) = (n : Int) % 10 := by omega
      have CC := ih (n / 10) w (by omega) (by omega)
      rw [e0] at CC
      have CH : Hid _ := CC
      rw [e1] at E
      obtain ⟨i0, hi, hz0, hz1, hz2⟩ := info_parts infoS
      have hlen : (decB (n / 10)).length ≤ 6 := decB_len 5 _ (by omega)
      have hw : IntKind.u8.wrap (48 + (n : Int) % 10) = 48 + (n : Int) % 10 := IntWalk.u8_in _ (by omega)
      generalize decB (n / 10) = ds at *
      clear CC e0 e1 ih
      go_enter Tryd.func26, Tryd.ntmps26
      go_wp2_with fail
      refine Calls.mono CH.out ?_
      rintro e u ⟨a, c, rfl, hg, hO⟩
      have ga := World.grownBy_alloc u (.cells #[.int .u8 (48 + (n : Int) % 10)] 5) none
      have S2 : Hid ((u.alloc (.cells #[.int .u8 (48 + (n : Int) % 10)] 5)).ownsRow w.heap.size 5 1 (.slice a ds.length c) ds.length (vals ds) ∧ Reads (u.alloc (.cells #[.int .u8 (48 + (n : Int) % 10)] 5)) (some ⟨u.heap.size, 0, none⟩) 1 [48 + (n : Int) % 10] ∧ w.grownBy (u.alloc (.cells #[.int .u8 (48 + (n : Int) % 10)] 5)) none) := ⟨hO.1.alloc _, readsOneB u _ 5, grown_trans hg ga⟩
      clear hg hO CH ga
      simp only []
      go_wp2_with (at_builtin; go_must (refine wpList_appB rfl _ _ 26 rfl w.heap.size i0 (.int .u8 0) Tryd.underlying26 hi hz0 hz1 hz2 rfl (.slice a ds.length c) ds.length ds rfl S2.out.1 (some ⟨u.heap.size, 0, none⟩) 1 1 [48 + (n : Int) % 10] rfl S2.out.2.1 (by simp) (by omega) S2.out.2.2.size ?_); intro v3 w3 o3 g3 n3)
      have o4 : w3.ownsRow w.heap.size 5 1 v3 (decB n).length (vals (decB n)) := by rw [E.out, List.length_append]; exact o3
      obtain ⟨-, a', c', hv, hO⟩ := ownsS o4
      subst hv
      have FF : Hid (w.grownBy w3 none ∧ OwS w.heap.size w3 a' (decB n).length c' (decB n)) := ⟨⟨g3.os.trans S2.out.2.2.os, g3.tape.trans S2.out.2.2.tape, g3.output.trans S2.out.2.2.output, Nat.le_trans S2.out.2.2.size g3.size, fun i hi _ => (g3.block i (Nat.lt_of_lt_of_le hi S2.out.2.2.size) (fun e => by have := (S2.out.1.lt i e.symm).1; omega)).trans (S2.out.2.2.block i hi (by simp))⟩, hO⟩
      clear o3 o4 g3 n3 hO S2
      go_ret
      exact ⟨a', c', rfl, FF.out⟩

set_option maxHeartbeats 1000000 in
theorem l3digitsT (n : Int) (w : World) (h0 : 0 ≤ n) (h1 : n < 1000000) :
    Calls Tryd.prog 22 #[.int .i64 n] w fun e u => ∃ a c, e = .returned (.slice a (decB n.toNat).length c) ∧ w.grownBy u none ∧ OwS w.heap.size u a (decB n.toNat).length c (decB n.toNat) := by
  obtain ⟨m, rfl⟩ : ∃ m : Nat, n = (m : Int) := ⟨n.toNat, by omega⟩
  have CC : Hid _ := l3tensT (m + 1) m w (by omega) (by omega)
  have hm : m < 1000000 := by omega
  rw [Int.toNat_natCast]
  clear h0 h1
  go_enter Tryd.func22, Tryd.ntmps22
  go_wp2_with fail
  refine Calls.mono CC.out ?_
  rintro e u ⟨a, c, rfl, hg, hO⟩
  have FF : Hid (w.grownBy u none ∧ OwS w.heap.size u a (decB m).length c (decB m)) := ⟨hg, hO⟩
  clear hg hO CC
  simp only []
  go_wp2
  go_ret
  exact ⟨a, c, rfl, FF.out⟩

theorem fits_rangeS {k n : Int} {l : Nat} (h : fitsB k n l = true) : 0 ≤ k ∧ k ≤ 7 := by
  by_cases h0 : 0 ≤ k ∧ k ≤ 7
  · exact h0
  · rw [fitsx (by omega) (by omega) (by omega) (by omega) (by omega) (by omega) (by omega) (by omega)] at h; cases h
/-- The word of a kind. -/
def wordB (k : Int) : List Int :=
  if k = 0 then [117, 110, 105, 116] else if k = 1 then [105, 110, 116] else if k = 2 then [116, 101, 120, 116] else if k = 3 then [112, 97, 105, 114] else if k = 4 then [102, 117, 110] else [114, 101, 102]
/-- What stands ahead of the parts, and whether they follow. -/
def headS (k n : Int) : List Int := if k = 6 then [40, 100, 97, 116, 97, 32] ++ decB n.toNat else if k = 7 then 39 :: decB n.toNat else if k ≤ 2 then wordB k else 40 :: wordB k
def bodyS (k n : Int) (s : List Int) : List Int := headS k n ++ (if 3 ≤ k ∧ k ≤ 6 then s ++ [41] else [])
/-- The texts of parts, each behind a blank. -/
def sayF : F → List Int
  | .nil => []
  | .cons k n d r => 32 :: bodyS k n (sayF d) ++ sayF r
def sayT (k n : Int) (d : F) : List Int := bodyS k n (sayF d)
/-- The number of a kind that has one. -/
theorem fits_num {k n : Int} {l : Nat} (h : fitsB k n l = true) : 0 ≤ n ∧ n ≤ 99999 ∧ (k = 6 → n ≤ 19) := by
  unfold fitsB at h
  split at h
  · simp only [Bool.and_eq_true, decide_eq_true_eq] at h; omega
  · split at h
    · simp only [Bool.and_eq_true, decide_eq_true_eq] at h; omega
    · split at h
      · simp only [Bool.and_eq_true, decide_eq_true_eq] at h; omega
      · split at h
        · simp only [Bool.and_eq_true, decide_eq_true_eq] at h; omega
        · split at h
          · simp only [Bool.and_eq_true, decide_eq_true_eq] at h; omega
          · cases h
theorem wordB_len (k : Int) : (wordB k).length ≤ 4 := by unfold wordB; (repeat' split) <;> simp
theorem headS_len {k n : Int} {l : Nat} (h : fitsB k n l = true) : (headS k n).length ≤ 8 := by
  have hn := fits_num h
  have hw := wordB_len k
  unfold headS
  split
  · rename_i e
    have := decB_len 1 n.toNat (by have := hn.2.2 e; omega)
    simp only [List.length_append, List.length_cons, List.length_nil]; omega
  · split
    · have := decB_len 4 n.toNat (by omega)
      simp only [List.length_cons]; omega
    · split
      · omega
      · simp only [List.length_cons]; omega
theorem bodyS_len {k n : Int} {l : Nat} (h : fitsB k n l = true) (s : List Int) : (bodyS k n s).length ≤ 9 + s.length := by
  have := headS_len h
  unfold bodyS
  rw [List.length_append]
  split
  · simp only [List.length_append, List.length_singleton]; omega
  · simp only [List.length_nil]; omega
theorem sayF_len (f : F) : ∀ p, okF f p = true → (sayF f).length ≤ 12 * f.size := by
  induction f with
  | nil => intro p _; simp [sayF]
  | cons k n d r ihd ihr =>
    intro p h
    simp only [okF, Bool.and_eq_true, decide_eq_true_eq] at h
    have h1 := ihd _ h.1.2
    have h2 := ihr _ h.2
    have h3 := bodyS_len h.1.1.2 (sayF d)
    have e : (F.cons k n d r).size = 1 + d.size + r.size := rfl
    rw [sayF, e]
    simp only [List.length_append, List.length_cons]
    omega
theorem sayT_len (k n : Int) (d : F) {l p : Nat} (h : fitsB k n l = true) (hd : okF d p = true) : (sayT k n d).length + 1 ≤ 12 * (1 + d.size) := by
  have h1 := sayF_len d p hd
  have h3 := bodyS_len h (sayF d)
  unfold sayT
  omega
end Go.Proofs.YtbannlaeapfllacDoor.By
