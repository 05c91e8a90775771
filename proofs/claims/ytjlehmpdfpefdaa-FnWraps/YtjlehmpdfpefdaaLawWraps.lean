/-
  The walk of the law FnWraps. The statement is proved in the text that imports this one.
-/
import Derived.Test.YtjlehmpdfpefdaaLawFolds
namespace Go.Proofs.Ytjlehmpdfpefdaa.By
open Go.RowKit
set_option linter.unusedVariables false

theorem i64_wrap (t : Int) : I64 (wrap64 t) := by unfold I64 wrap64; omega

set_option maxHeartbeats 1000000 in
theorem drawWrapT (a : Option Addr) (n cap : Nat) (zs : List Int) (w : World) (hr : Reads w a n zs) (hz : Byt zs) (hn : n ≤ 9223372036854775807) :
    Calls Try.prog 20 #[.slice a n cap] w fun e w' => ∃ x, e = .returned (.int .i64 x) ∧ I64 x ∧ w.grownBy w' none := by
  have hS := fun w1 g hc => signedT w w1 g a n cap zs hr hz hn hc
  have hO := fun w1 g hc => onceT w w1 g a n cap zs hr hz hn hc 3 (by omega) (by omega)
  have hB := fun w1 g hc => belowT w w1 g a n cap zs hr hz hn hc 64 (by omega) (by omega)
  have HS : Hid (∀ w1 g, Cur w w1 g a n cap → Calls Try.prog 33 #[.pointer (some ⟨g, 0, none⟩)] w1 fun e w' => ∃ x, e = .returned (.int .i64 x) ∧ I64 x ∧ Kept w w1 w' g a n cap) := hS
  have HO : Hid (∀ w1 g, Cur w w1 g a n cap → Calls Try.prog 28 #[.pointer (some ⟨g, 0, none⟩), .int .i64 3] w1 fun e w' => ∃ x : Bool, e = .returned (.bool x) ∧ Kept w w1 w' g a n cap) := hO
  have HB : Hid (∀ w1 g, Cur w w1 g a n cap → Calls Try.prog 31 #[.pointer (some ⟨g, 0, none⟩), .int .i64 64] w1 fun e w' => ∃ x, e = .returned (.int .i64 x) ∧ 0 ≤ x ∧ x < 64 ∧ Kept w w1 w' g a n cap) := hB
  have hN := newT a n cap zs w hr hz hn
  clear hS hO hB hr hz
  go_enter Try.func20, Try.ntmps20
  go_wp2_with fail
  refine hN.mono ?_
  rintro e w1 ⟨g, rfl, hc, hg⟩
  clear hN
  go_wp2_with fail
  refine (HO.out w1 g hc).mono ?_
  rintro e w2 ⟨x, rfl, hk⟩
  cases x with
  | true =>
    go_wp2_with fail
    refine (HS.out w2 g hk.1).mono ?_
    rintro e w3 ⟨s, rfl, hs, hk3⟩
    go_wp2_with fail
    refine (HB.out w3 g hk3.1).mono ?_
    rintro e w4 ⟨y, rfl, hy0, hy1, hk4⟩
    have HK : Hid (w.grownBy w4 none) := grown_below hk4.1.2.1
    clear hk hk3 hk4 hc hg HS HO HB hs
    go_wp2
    go_ret
    exact ⟨_, rfl, i64_wrap _, HK.out⟩
  | false =>
    go_wp2_with fail
    refine (HS.out w2 g hk.1).mono ?_
    rintro e w3 ⟨s, rfl, hs, hk3⟩
    go_wp2
    go_ret
    exact ⟨_, rfl, hs, grown_below hk3.1.2.1⟩

/-- A number brought to 63 bits. -/
def wd (n : Int) : Int := (n + 4611686018427387904) % 9223372036854775808 - 4611686018427387904
theorem wd_is (n : Int) : wrap64 (n * 2) / 2 = wd n := by unfold wrap64 wd; omega
theorem wd_lo (n : Int) : -4611686018427387904 ≤ wd n ∧ wd n ≤ 4611686018427387903 := by unfold wd; omega
theorem wd_mod (n : Int) : wd n % 9223372036854775808 = n % 9223372036854775808 := by unfold wd; omega
theorem wd_congr {s t : Int} (h : s % 9223372036854775808 = t % 9223372036854775808) : wd s = wd t := by unfold wd; omega
theorem wd_in {n : Int} (h : -4611686018427387904 ≤ n) (h' : n ≤ 4611686018427387903) : wd n = n := by unfold wd; omega
theorem wrap_mod (t : Int) : wrap64 t % 9223372036854775808 = t % 9223372036854775808 := by unfold wrap64; omega
theorem mul_mod {a b x y m : Int} (h : x % m = a % m) (k : y % m = b % m) : (x * y) % m = (a * b) % m := by rw [Int.mul_emod, h, k, ← Int.mul_emod]

theorem wrapT (n : Int) (w : World) : Calls Try.prog 21 #[.int .i64 n] w fun e w' => e = .returned (.int .i64 (wd n)) ∧ w' = w := by
  rw [← wd_is]
  go_enter Try.func21, Try.ntmps21
  go_wp2
  go_ret
  exact ⟨rfl, rfl⟩

set_option maxHeartbeats 4000000 in
theorem lawWraps (a : Option Addr) (n cap : Nat) (zs : List Int) (w : World) (hr : Reads w a n zs) (hz : Byt zs) (hn : n ≤ 9223372036854775807) :
    Calls Try.prog 6 #[.slice a n cap] w fun e w' => e = .returned (.bool true) ∧ Below w.heap.size w w' := by
  have hF := drawWrapT a n cap zs w hr hz hn
  have hU := fun w1 h => drawFoldT a n cap zs w1 h hz hn
  have HU : Hid (∀ w1, Reads w1 a n zs → Calls Try.prog 16 #[.slice a n cap] w1 fun e w' => ∃ x, e = .returned (.int .i64 x) ∧ I64 x ∧ w1.grownBy w' none) := hU
  clear hU hz
  go_enter Try.func6, Try.ntmps6
  go_wp2_with fail
  refine hF.mono ?_
  rintro e w1 ⟨A, rfl, hA, hg1⟩
  clear hF
  go_wp2_with fail
  refine (HU.out w1 (hr.none hg1)).mono ?_
  rintro e w2 ⟨B, rfl, hB, hg2⟩
  have HG : Hid (w.grownBy w2 none) := grown_trans hg1 hg2
  obtain ⟨hA0, hA1⟩ := hA
  obtain ⟨hB0, hB1⟩ := hB
  clear hg1 hg2 HU hr
  have hx := wd_lo A
  have hy := wd_lo B
  have e1 : wd (wd A) = wd A := wd_in hx.1 hx.2
  have e2 : wd 4611686018427387904 = -4611686018427387904 := by decide
  have e3 : wd (wrap64 (A + B)) = wd (wd A + wd B) := wd_congr (by rw [wrap_mod]; have := wd_mod A; have := wd_mod B; omega)
  have e4 : wd (wrap64 (A * B)) = wd (wrap64 (wd A * wd B)) := wd_congr (by rw [wrap_mod, wrap_mod]; exact (mul_mod (wd_mod A) (wd_mod B)).symm)
  have e5 : wd (wrap64 (A - B)) = wd (wd A - wd B) := wd_congr (by rw [wrap_mod]; have := wd_mod A; have := wd_mod B; omega)
  have h6 : (A < -4611686018427387904 ∨ 4611686018427387903 < A) ∨ wd A = A := by
    by_cases h1 : -4611686018427387904 ≤ A
    · by_cases h2 : A ≤ 4611686018427387903
      · exact .inr (wd_in h1 h2)
      · exact .inl (.inr (by omega))
    · exact .inl (.inl (by omega))
  have WA : Hid (∀ w, Calls Try.prog 21 #[.int .i64 (A)] w fun e w' => e = .returned (.int .i64 (wd A)) ∧ w' = w) := fun w => wrapT (A) w
  have WB : Hid (∀ w, Calls Try.prog 21 #[.int .i64 (B)] w fun e w' => e = .returned (.int .i64 (wd B)) ∧ w' = w) := fun w => wrapT (B) w
  have WX : Hid (∀ w, Calls Try.prog 21 #[.int .i64 (wd A)] w fun e w' => e = .returned (.int .i64 (wd A)) ∧ w' = w) := fun w => by have h := wrapT (wd A) w; rwa [e1] at h
  have W62 : Hid (∀ w, Calls Try.prog 21 #[.int .i64 (4611686018427387904)] w fun e w' => e = .returned (.int .i64 (-4611686018427387904)) ∧ w' = w) := fun w => by have h := wrapT (4611686018427387904) w; rwa [e2] at h
  have WAB : Hid (∀ w, Calls Try.prog 21 #[.int .i64 (wrap64 (A + B))] w fun e w' => e = .returned (.int .i64 (wd (wd A + wd B))) ∧ w' = w) := fun w => by have h := wrapT (wrap64 (A + B)) w; rwa [e3] at h
  have WXY : Hid (∀ w, Calls Try.prog 21 #[.int .i64 (wd A + wd B)] w fun e w' => e = .returned (.int .i64 (wd (wd A + wd B))) ∧ w' = w) := fun w => wrapT (wd A + wd B) w
  have WMA : Hid (∀ w, Calls Try.prog 21 #[.int .i64 (wrap64 (A * B))] w fun e w' => e = .returned (.int .i64 (wd (wrap64 (wd A * wd B)))) ∧ w' = w) := fun w => by have h := wrapT (wrap64 (A * B)) w; rwa [e4] at h
  have WMX : Hid (∀ w, Calls Try.prog 21 #[.int .i64 (wrap64 (wd A * wd B))] w fun e w' => e = .returned (.int .i64 (wd (wrap64 (wd A * wd B)))) ∧ w' = w) := fun w => wrapT (wrap64 (wd A * wd B)) w
  have WSA : Hid (∀ w, Calls Try.prog 21 #[.int .i64 (wrap64 (A - B))] w fun e w' => e = .returned (.int .i64 (wd (wd A - wd B))) ∧ w' = w) := fun w => by have h := wrapT (wrap64 (A - B)) w; rwa [e5] at h
  have WSX : Hid (∀ w, Calls Try.prog 21 #[.int .i64 (wd A - wd B)] w fun e w' => e = .returned (.int .i64 (wd (wd A - wd B))) ∧ w' = w) := fun w => wrapT (wd A - wd B) w
  clear e1 e2 e3 e4 e5
  generalize wd A = X at *
  generalize wd B = Y at *
  generalize wd (X + Y) = S at *
  generalize wd (wrap64 (X * Y)) = M at *
  generalize wd (X - Y) = D at *
  obtain ⟨hx0, hx1⟩ := hx
  obtain ⟨hy0, hy1⟩ := hy
  go_wp2_with fail
  refine (WA.out _).mono ?_
  rintro e v1 ⟨rfl, rfl⟩
  go_wp2_with fail
  refine (WB.out _).mono ?_
  rintro e v2 ⟨rfl, rfl⟩
  go_wp2_with fail
  refine (WX.out _).mono ?_
  rintro e v3 ⟨rfl, rfl⟩
  go_wp2_with fail
  refine (W62.out _).mono ?_
  rintro e v4 ⟨rfl, rfl⟩
  rcases h6 with (h6 | h6) | h6
  · go_wp2_with fail
    refine (WAB.out _).mono ?_
    rintro e u0 ⟨rfl, rfl⟩
    go_wp2_with fail
    refine (WXY.out _).mono ?_
    rintro e u1 ⟨rfl, rfl⟩
    go_wp2_with fail
    refine (WMA.out _).mono ?_
    rintro e u2 ⟨rfl, rfl⟩
    go_wp2_with fail
    refine (WMX.out _).mono ?_
    rintro e u3 ⟨rfl, rfl⟩
    go_wp2_with fail
    refine (WSA.out _).mono ?_
    rintro e u4 ⟨rfl, rfl⟩
    go_wp2_with fail
    refine (WSX.out _).mono ?_
    rintro e u5 ⟨rfl, rfl⟩
    go_wp2
    go_ret
    exact ⟨rfl, (Below.refl _ _).grown HG.out (Nat.le_refl _) (by simp)⟩
  · go_wp2_with fail
    refine (WAB.out _).mono ?_
    rintro e u0 ⟨rfl, rfl⟩
    go_wp2_with fail
    refine (WXY.out _).mono ?_
    rintro e u1 ⟨rfl, rfl⟩
    go_wp2_with fail
    refine (WMA.out _).mono ?_
    rintro e u2 ⟨rfl, rfl⟩
    go_wp2_with fail
    refine (WMX.out _).mono ?_
    rintro e u3 ⟨rfl, rfl⟩
    go_wp2_with fail
    refine (WSA.out _).mono ?_
    rintro e u4 ⟨rfl, rfl⟩
    go_wp2_with fail
    refine (WSX.out _).mono ?_
    rintro e u5 ⟨rfl, rfl⟩
    go_wp2
    go_ret
    exact ⟨rfl, (Below.refl _ _).grown HG.out (Nat.le_refl _) (by simp)⟩
  · have hxa : (X == A) = true := by simpa using h6
    clear h6
    go_wp2_with fail
    refine (WAB.out _).mono ?_
    rintro e u0 ⟨rfl, rfl⟩
    go_wp2_with fail
    refine (WXY.out _).mono ?_
    rintro e u1 ⟨rfl, rfl⟩
    go_wp2_with fail
    refine (WMA.out _).mono ?_
    rintro e u2 ⟨rfl, rfl⟩
    go_wp2_with fail
    refine (WMX.out _).mono ?_
    rintro e u3 ⟨rfl, rfl⟩
    go_wp2_with fail
    refine (WSA.out _).mono ?_
    rintro e u4 ⟨rfl, rfl⟩
    go_wp2_with fail
    refine (WSX.out _).mono ?_
    rintro e u5 ⟨rfl, rfl⟩
    go_wp2
    go_ret
    exact ⟨rfl, (Below.refl _ _).grown HG.out (Nat.le_refl _) (by simp)⟩
end Go.Proofs.Ytjlehmpdfpefdaa.By
