/-
  Words: the program's side by its contracts. No statement is proved here.
-/
import Derived.Test.YtaecnhmegdeicaaDoorEB
import Derived.Test.YtaecnhmegdeicaaDoorEEq
import Derived.Laws.BytesArg
import Derived.Laws.RangeAny
import Derived.Laws.RangeString
import Derived.Laws.Strings
import Derived.Laws.Strings2
import Derived.Laws.Strings3
import Derived.LoopTactic
namespace Go.Proofs.YtaecnhmegdeicaaDoor.By
open Go.RowKit
set_option linter.unusedVariables false
set_option linter.unusedSimpArgs false

/-- A small letter or a digit. -/
def lodB (z : Int) : Bool := (decide (97 ≤ z) && decide (z ≤ 122)) || (decide (48 ≤ z) && decide (z ≤ 57))
/-- What is left of a word from place j on is as it must be. -/
def wordR (lo hi : Int) (j : Nat) (R : List Int) : Bool :=
  if j = 0 then (match R with | [] => true | z :: r => (decide (lo ≤ z) && decide (z ≤ hi)) && r.all lodB) else R.all lodB
/-- A word: 1 to 8 bytes, the first in lo .. hi. -/
def wordV (lo hi : Int) (zs : List Int) : Bool := decide (1 ≤ zs.length) && decide (zs.length ≤ 8) && wordR lo hi 0 zs
theorem wordR_end (lo hi : Int) (j : Nat) : wordR lo hi j [] = true := by unfold wordR; split <;> rfl
theorem wordR_step (lo hi : Int) (j : Nat) (z : Int) (r : List Int) : wordR lo hi j (z :: r) = ((if j = 0 then decide (lo ≤ z) && decide (z ≤ hi) else lodB z) && wordR lo hi (j + 1) r) := by
  unfold wordR
  by_cases h : j = 0
  · simp [h]
  · simp [h]
theorem List.getElem?_drop_zero_of (zs : List Int) (j : Nat) : (zs.drop j)[0]? = zs[j]? := by simp
theorem str_size (zs : List Int) : (strOfNums zs).size = zs.length := strOfNums_size zs
theorem str_at {zs : List Int} (hz : Byt zs) {i : Nat} (h : i < (strOfNums zs).size) : (((strOfNums zs)[i]'h).toNat : Int) = zs.getD i 0 := by
  have hi : i < zs.length := by rw [strOfNums_size] at h; exact h
  have hb := hz zs[i] (List.getElem_mem hi)
  have e : (strOfNums zs)[i]'h = UInt8.ofNat (zs[i]).toNat := by
    show (strOfNums zs).data[i]'_ = _
    simp [strOfNums]
  rw [e, List.getD_eq_getElem?_getD, List.getElem?_eq_getElem hi]
  simp only [Option.getD_some]
  rw [UInt8.toNat_ofNat']
  omega
/-- 'string(b)' of bytes that are read. -/
theorem conv_run {w : World} {a : Option Addr} {n c : Nat} {zs : List Int} (h : Reads w a n zs) : (convert 22 9 (.slice a n c)).run Tryd.prog w = .ok (.string (strOfNums zs)) w := by
  obtain ⟨hl, h⟩ := h
  rcases h with rfl | ⟨b, o, rfl, hc⟩
  · obtain rfl : zs = [] := List.eq_nil_of_length_eq_zero hl
    cases a with
    | none =>
      have := run_convert_bytes_nil (P := Tryd.prog) w 22 5 Tryd.underlying22 Tryd.underlying5 0 c 9 Tryd.underlying9
      rw [this]; rfl
    | some x =>
      have hl0 : (loadCells x 0).run Tryd.prog w = .ok (([] : List Int).map (Value.int .u8)).toArray w := by
        have := run_loadCells_list (P := Tryd.prog) w x ([] : List Value) (fun j v hj => by simp at hj)
        simpa using this
      rw [run_convert_bytes_string w 22 9 5 _ 0 c Tryd.underlying22 Tryd.underlying5 Tryd.underlying9, run_bytesToString w x 0 c [] hl0]
      rfl
  · exact run_convert_bytes_arg (P := Tryd.prog) w 22 5 Tryd.underlying22 Tryd.underlying5 b o n c zs hl hc 9 Tryd.underlying9

set_option maxHeartbeats 2000000 in
set_option maxRecDepth 100000 in
theorem isWordT (a : Option Addr) (n c : Nat) (zs : List Int) (lo hi : Int) (w : World) (h : RdB w a n zs) (hlo : 0 ≤ lo) (hhi : hi ≤ 122) (hhi0 : 0 ≤ hi) (hlo1 : lo ≤ 122) :
    Calls Tryd.prog 52 #[.slice a n c, .int .i32 lo, .int .i32 hi] w fun e u => e = .returned (.bool (wordV lo hi zs)) ∧ w.grownBy u none := by
  have hl := h.1.1
  have hcv : (convert 22 9 (.slice a n c)).run Tryd.prog w = .ok (.string (strOfNums zs)) w := conv_run h.1
  have hz := h.2.1
  clear h
  by_cases hn : 1 ≤ n ∧ n ≤ 8
  rotate_left
  · have E : Hid (wordV lo hi zs = false) := by
      show _ = _
      unfold wordV
      rw [hl]
      by_cases h1 : 1 ≤ n
      · have : ¬ n ≤ 8 := fun h2 => hn ⟨h1, h2⟩
        simp [this]
      · simp [h1]
    by_cases h0 : n = 0
    · subst h0
      go_enter Tryd.func52, Tryd.ntmps52
      go_wp2
      go_ret
      exact ⟨by rw [E.out]; rfl, World.grownBy.refl _ _⟩
    · have h8 : (n : Int) > 8 := by omega
      have h00 : ¬ (n : Int) = 0 := by omega
      go_enter Tryd.func52, Tryd.ntmps52
      go_wp2
      go_ret
      exact ⟨by rw [E.out]; rfl, World.grownBy.refl _ _⟩
  obtain ⟨hn1, hn8⟩ := hn
  have E : Hid (wordV lo hi zs = wordR lo hi 0 zs) := by show _ = _; unfold wordV; simp [hl, hn1, hn8]
  have HZ : Hid (Byt zs ∧ zs.length = n) := ⟨hz, hl⟩
  have h00 : ¬ (n : Int) = 0 := by omega
  have h8 : ¬ (n : Int) > 8 := by omega
  have hsz := str_size zs
  rw [hl] at hsz
  generalize hS : strOfNums zs = S at *
  have HS : Hid (strOfNums zs = S) := hS
  clear hS hz hl
  go_enter Tryd.func52, Tryd.ntmps52
  go_wp2
  go_loopw [] (fun w' => ∃ (j : Nat) (R : List Int), w' = w.iter S j ∧ j ≤ n ∧ R.length + j = n ∧ Hid (zs.drop j = R ∧ wordR lo hi 0 zs = wordR lo hi j R)) (fun w' => S.size - w'.iterPos w.heap.size)
  case atStart => exact ⟨0, zs, rfl, Nat.zero_le _, by have := HZ.out.2; omega, rfl, rfl⟩
  case round =>
    obtain ⟨j, R, rfl, hj, hRl, HR⟩ := hrel
    by_cases hp : j < S.size
    · obtain ⟨z, R', rfl⟩ : ∃ z R', R = z :: R' := by
        cases R with
        | nil => simp at hRl; omega
        | cons z R' => exact ⟨z, R', rfl⟩
      have hjz : zs.getD j 0 = z := by
        have h1 := HR.out.1
        rw [List.getD_eq_getElem?_getD, ← By.List.getElem?_drop_zero_of zs j, h1]; rfl
      have hb := HZ.out.1
      obtain ⟨rho, k, hnx, hrho⟩ : ∃ (rho k : Nat), (∀ ty, (Instr.next (.pointer (some ⟨w.heap.size, 0, none⟩)) true ty).run Tryd.prog (w.iter S j) = .ok (.tuple #[.bool true, .int .i64 j, .int .i32 rho]) (w.iter S (j + k))) ∧ (((rho : Int) = z ∧ k = 1) ∨ (128 ≤ (rho : Int) ∧ 128 ≤ z ∧ (rho : Int) ≤ 2147483647)) := by
        have hz1 : (((S[j]'hp).toNat : Nat) : Int) = z := by
          have := HS.out
          subst this
          rw [str_at hb hp, hjz]
        by_cases ha : (S[j]'hp).toNat < 128
        · exact ⟨(S[j]'hp).toNat, 1, fun ty => run_next_ascii w S j ty hp ha, .inl ⟨hz1, rfl⟩⟩
        · refine ⟨(Utf8.decode S j).1, (Utf8.decode S j).2, fun ty => run_next_any w S j ty hp, .inr ⟨?_, by omega, ?_⟩⟩
          · have := (decode_high S j hp (by omega)).1; omega
          · have := decode_le S j; omega
      have HW : Hid (zs.drop (j + 1) = R' ∧ wordR lo hi 0 zs = ((if j = 0 then decide (lo ≤ z) && decide (z ≤ hi) else lodB z) && wordR lo hi (j + 1) R')) := ⟨by have := congrArg List.tail HR.out.1; simpa using this, by rw [HR.out.2, wordR_step]⟩
      have hjn : j < n := by omega
      have GI : Hid (∀ q, w.grownBy (w.iter S q) none) := fun q => World.grownBy_alloc _ _ _
      simp only [List.length_cons] at hRl
      generalize (rho : Int) = r at *
      clear HR hjz hb hp
      by_cases hj0 : j = 0
      · subst hj0
        by_cases c1 : lo ≤ r ∧ r ≤ hi
        · obtain ⟨c1, c2⟩ := c1
          obtain ⟨rfl, rfl⟩ : r = z ∧ k = 1 := by rcases hrho with h | h <;> omega
          have HV : Hid (wordR lo hi 0 zs = wordR lo hi 1 R') := by show _ = _; rw [HW.out.2]; simp [c1, c2]
          go_wp2
          go_roundw
          case rel => exact ⟨1, R', rfl, by omega, by omega, HW.out.1, HV.out⟩
          case measure => simp; omega
        · have HV : Hid (wordR lo hi 0 zs = false) := by
            show _ = _
            rw [HW.out.2]
            have : ¬ (lo ≤ z ∧ z ≤ hi) := by rcases hrho with h | h <;> omega
            simp only [if_pos rfl]
            by_cases q1 : lo ≤ z
            · have q2 : ¬ z ≤ hi := fun q => this ⟨q1, q⟩
              simp [q2]
            · simp [q1]
          by_cases q1 : lo ≤ r
          · have q2 : ¬ r ≤ hi := fun q => c1 ⟨q1, q⟩
            go_wp2
            go_ret
            exact ⟨by rw [E.out, HV.out]; rfl, GI.out _⟩
          · go_wp2
            go_ret
            exact ⟨by rw [E.out, HV.out]; rfl, GI.out _⟩
      · have hj1 : ¬ (j : Int) = 0 := by omega
        have hj2 : (j : Int) > 0 := by omega
        have hj3 : ((j : Int) == 0) = false := by simp; omega
        have hbad : lodB r = false → Hid (wordR lo hi 0 zs = false) := fun hr => by
          show _ = _
          rw [HW.out.2, if_neg hj0]
          have : lodB z = false := by
            rcases hrho with h | h
            · rw [← h.1]; exact hr
            · unfold lodB; simp; omega
          rw [this]; rfl
        have hgood : lodB r = true → (r = z ∧ k = 1) ∧ Hid (wordR lo hi 0 zs = wordR lo hi (j + 1) R') := fun hr => by
          have hh : r = z ∧ k = 1 := by
            rcases hrho with h | h
            · exact h
            · unfold lodB at hr; simp at hr; omega
          refine ⟨hh, ?_⟩
          show _ = _
          rw [HW.out.2, if_neg hj0, ← hh.1, hr]; rfl
        clear hrho
        by_cases c1 : 97 ≤ r
        · by_cases c2 : r ≤ 122
          · obtain ⟨⟨rfl, rfl⟩, HV⟩ := hgood (by unfold lodB; simp; omega)
            clear hgood hbad
            go_wp2
            go_roundw
            case rel => exact ⟨j + 1, R', rfl, by omega, by omega, HW.out.1, HV.out⟩
            case measure => simp; omega
          · have c3 : 48 ≤ r := by omega
            have c4 : ¬ r ≤ 57 := by omega
            have HV := hbad (by unfold lodB; simp; omega)
            clear hgood hbad
            go_wp2
            go_ret
            exact ⟨by rw [E.out, HV.out]; rfl, GI.out _⟩
        · by_cases c3 : 48 ≤ r
          · by_cases c4 : r ≤ 57
            · obtain ⟨⟨rfl, rfl⟩, HV⟩ := hgood (by unfold lodB; simp; omega)
              clear hgood hbad
              go_wp2
              go_roundw
              case rel => exact ⟨j + 1, R', rfl, by omega, by omega, HW.out.1, HV.out⟩
              case measure => simp; omega
            · have HV := hbad (by unfold lodB; simp; omega)
              clear hgood hbad
              go_wp2
              go_ret
              exact ⟨by rw [E.out, HV.out]; rfl, GI.out _⟩
          · have HV := hbad (by unfold lodB; simp; omega)
            clear hgood hbad
            go_wp2
            go_ret
            exact ⟨by rw [E.out, HV.out]; rfl, GI.out _⟩
    · have hnx : ∀ ty, (Instr.next (.pointer (some ⟨w.heap.size, 0, none⟩)) true ty).run Tryd.prog (w.iter S j) = _ := fun ty => run_next_end w S j ty hp
      obtain rfl : R = [] := List.eq_nil_of_length_eq_zero (by omega)
      have HV : Hid (wordR lo hi 0 zs = true ∧ w.grownBy (w.iter S j) none) := ⟨by rw [HR.out.2, wordR_end], World.grownBy_alloc _ _ _⟩
      clear HR
      go_wp2
      go_ret
      exact ⟨by rw [E.out, HV.out.1]; rfl, HV.out.2⟩

set_option maxHeartbeats 400000 in
theorem isSmallT (a : Option Addr) (n c : Nat) (zs : List Int) (w : World) (h : RdB w a n zs) :
    Calls Tryd.prog 38 #[.slice a n c] w fun e u => e = .returned (.bool (wordV 97 122 zs)) ∧ w.grownBy u none := by
  have C : Hid _ := isWordT a n c zs 97 122 w h (by omega) (by omega) (by omega) (by omega)
  clear h
  go_enter Tryd.func38, Tryd.ntmps38
  go_wp2_with fail
  refine Calls.mono C.out ?_
  rintro e u ⟨rfl, hg⟩
  clear C
  go_wp2
  go_ret
  exact ⟨rfl, hg⟩

set_option maxHeartbeats 400000 in
theorem isGreatT (a : Option Addr) (n c : Nat) (zs : List Int) (w : World) (h : RdB w a n zs) :
    Calls Tryd.prog 39 #[.slice a n c] w fun e u => e = .returned (.bool (wordV 65 90 zs)) ∧ w.grownBy u none := by
  have C : Hid _ := isWordT a n c zs 65 90 w h (by omega) (by omega) (by omega) (by omega)
  clear h
  go_enter Tryd.func39, Tryd.ntmps39
  go_wp2_with fail
  refine Calls.mono C.out ?_
  rintro e u ⟨rfl, hg⟩
  clear C
  go_wp2
  go_ret
  exact ⟨rfl, hg⟩
end Go.Proofs.YtaecnhmegdeicaaDoor.By
