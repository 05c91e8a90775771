/-
  Two slices of bytes are compared. No statement is proved here.
-/
import Derived.Test.YtjchjdcaampghaaDoorSame
import Derived.Lib.Bytes
namespace Go.Proofs.YtjchjdcaampghaaDoor.By
open Go.RowKit
set_option linter.unusedVariables false

theorem bytes_inj : ∀ {zs zs' : List Int}, Byt zs → Byt zs' → Lib.bytesOf zs = Lib.bytesOf zs' → zs = zs' := by
  intro zs
  induction zs with
  | nil => intro zs' _ _ h; cases zs' with
    | nil => rfl
    | cons => simp [Lib.bytesOf] at h
  | cons x l ih =>
    intro zs' hz hz' h
    cases zs' with
    | nil => simp [Lib.bytesOf] at h
    | cons y l' =>
      simp only [Lib.bytesOf, List.map_cons, List.cons.injEq] at h
      have h1 := congrArg UInt8.toNat h.1
      have hx := hz x (by simp)
      have hy := hz' y (by simp)
      simp only [UInt8.toNat_ofNat'] at h1
      have e : x = y := by omega
      subst e
      rw [ih (fun z hm => hz z (by simp [hm])) (fun z hm => hz' z (by simp [hm])) h.2]
theorem bytes_eq {zs zs' : List Int} (hz : Byt zs) (hz' : Byt zs') : ((strOfNums zs).toList == (strOfNums zs').toList) = decide (zs = zs') := by
  rw [Lib.strOfNums_toList, Lib.strOfNums_toList]
  by_cases h : zs = zs'
  · subst h; simp
  · have : Lib.bytesOf zs ≠ Lib.bytesOf zs' := fun e => h (bytes_inj hz hz' e)
    simp [h, this]

set_option maxHeartbeats 400000 in
theorem sameG (a a' : Option Addr) (n n' cap cap' : Nat) (zs zs' : List Int) (w : World) (h : Reads w a n zs) (h' : Reads w a' n' zs') (hz : Byt zs) (hz' : Byt zs') (ha : Plain a) (ha' : Plain a') :
    Calls Tryd.prog 12 #[.slice a n cap, .slice a' n' cap'] w fun e w' => e = .returned (.bool (decide (zs = zs'))) ∧ w' = w := by
  have c1 := conv_run w a n cap zs h ha
  have c2 := conv_run w a' n' cap' zs' h' ha'
  have E : Hid _ := bytes_eq hz hz'
  clear h h' ha ha' hz hz'
  generalize decide (zs = zs') = t at *
  generalize strOfNums zs = s at *
  generalize strOfNums zs' = s' at *
  go_enter Tryd.func12, Tryd.ntmps12
  go_wp2
  go_ret
  exact ⟨by rw [← E.out]; rfl, rfl⟩
end Go.Proofs.YtjchjdcaampghaaDoor.By
