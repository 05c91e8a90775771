/-
  Key words: lists and strings. No statement is proved here.
-/
import Derived.Test.YtaecnhmegdeicaaDoorEW
namespace Go.Proofs.YtaecnhmegdeicaaDoor.By
open Go.RowKit
set_option linter.unusedVariables false
set_option linter.unusedSimpArgs false

/-- The key words in a row, a blank behind each. -/
def kwL : List Int := [102, 110, 32, 108, 101, 116, 32, 114, 101, 99, 32, 105, 102, 32, 112, 97, 105, 114, 32, 102, 115, 116, 32, 115, 110, 100, 32, 114, 101, 102, 32, 114, 101, 97, 100, 32, 119, 114, 105, 116, 101, 32, 109, 97, 116, 99, 104, 32, 114, 97, 105, 115, 101, 32, 116, 114, 121, 32, 97, 100, 100, 32, 115, 117, 98, 32, 109, 117, 108, 32, 108, 101, 115, 115, 32, 115, 97, 109, 101, 32, 99, 97, 116, 32, 108, 101, 110, 32, 112, 114, 105, 110, 116, 32, 116, 105, 99, 107, 32, 100, 114, 97, 119, 32, 103, 101, 116, 32, 112, 117, 116, 32, 100, 97, 116, 97, 32, 117, 110, 105, 116, 32, 105, 110, 116, 32, 116, 101, 120, 116, 32, 102, 117, 110, 32]
/-- Whether zs is one of what stands ahead of a blank. -/
def scanK (zs : List Int) : List Int → List Int → Bool
  | [], _ => false
  | z :: r, cur => if z = 32 then (decide (cur = zs) || scanK zs r []) else scanK zs r (cur ++ [z])
/-- The key words. -/
def keysL : List (List Int) := [[102, 110], [108, 101, 116], [114, 101, 99], [105, 102], [112, 97, 105, 114], [102, 115, 116], [115, 110, 100], [114, 101, 102], [114, 101, 97, 100], [119, 114, 105, 116, 101], [109, 97, 116, 99, 104], [114, 97, 105, 115, 101], [116, 114, 121], [97, 100, 100], [115, 117, 98], [109, 117, 108], [108, 101, 115, 115], [115, 97, 109, 101], [99, 97, 116], [108, 101, 110], [112, 114, 105, 110, 116], [116, 105, 99, 107], [100, 114, 97, 119], [103, 101, 116], [112, 117, 116], [100, 97, 116, 97], [117, 110, 105, 116], [105, 110, 116], [116, 101, 120, 116], [102, 117, 110]]
def keyV (zs : List Int) : Bool := keysL.any fun k => decide (k = zs)
set_option maxRecDepth 100000 in
theorem scan_key (zs : List Int) : scanK zs kwL [] = keyV zs := by kernel_rfl
theorem kw_all : kwL.all (fun z => decide (0 ≤ z) && decide (z < 128)) = true := by kernel_rfl
theorem kw_ascii : ∀ z ∈ kwL, 0 ≤ z ∧ z < 128 := fun z hz => by have := List.all_eq_true.1 kw_all z hz; simpa using this
theorem kw_byt : Byt kwL := fun z hz => by have := kw_ascii z hz; omega
theorem keys_byt : ∀ k ∈ keysL, Byt k := by unfold keysL Byt; decide
theorem str_inj {xs ys : List Int} (hx : Byt xs) (hy : Byt ys) (h : strOfNums xs = strOfNums ys) : xs = ys := by
  have hl : xs.map (fun n => UInt8.ofNat n.toNat) = ys.map (fun n => UInt8.ofNat n.toNat) := by
    have := congrArg (fun s : ByteArray => s.data.toList) h
    simpa [strOfNums] using this
  clear h
  induction xs generalizing ys with
  | nil =>
    cases ys with
    | nil => rfl
    | cons y ys => simp at hl
  | cons x xs ih =>
    cases ys with
    | nil => simp at hl
    | cons y ys =>
      simp only [List.map_cons, List.cons.injEq] at hl
      have h1 := hx x (by simp)
      have h2 := hy y (by simp)
      have e := congrArg UInt8.toNat hl.1
      rw [UInt8.toNat_ofNat', UInt8.toNat_ofNat'] at e
      have : x = y := by omega
      rw [this, ih (fun z hz => hx z (List.mem_cons_of_mem _ hz)) (fun z hz => hy z (List.mem_cons_of_mem _ hz)) hl.2]
theorem str_eq {xs ys : List Int} (hx : Byt xs) (hy : Byt ys) : decide (strOfNums xs = strOfNums ys) = decide (xs = ys) := by
  by_cases h : xs = ys
  · simp [h]
  · have : ¬ strOfNums xs = strOfNums ys := fun e => h (str_inj hx hy e)
    simp [h, this]
theorem str_extract (xs : List Int) (a b : Nat) : (strOfNums xs).extract a b = strOfNums ((xs.drop a).take (b - a)) := by
  unfold strOfNums
  rw [ByteArray.extract_mk, List.map_take, List.map_drop]
theorem byt_part {xs : List Int} (h : Byt xs) (a b : Nat) : Byt ((xs.drop a).take b) := fun z hz => h z (List.mem_of_mem_drop (List.mem_of_mem_take hz))
end Go.Proofs.YtaecnhmegdeicaaDoor.By
