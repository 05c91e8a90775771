/-
  Several texts in one (TEi, Same, SameG, Get, TRdS, TRdU). No statement is proved here.
-/
import Derived.Test.YtjchjdcaampghaaDoorTSize
import Derived.Test.YtjchjdcaampghaaDoorTSameJ
import Derived.Deep.DeepCutAuto
import Derived.Test.YtjchjdcaampghaaDoorPutJ
import Derived.Laws.BytesArg
import Derived.Lib.Bytes
import Derived.Test.YtjchjdcaampghaaDoorGetP
import Derived.Test.YtjchjdcaampghaaDoorTRd
import Derived.Test.YtjchjdcaampghaaDoorTSubF
import Derived.Deep.CutBlock
import Derived.Test.YtjchjdcaampghaaDoorTOk
namespace Go.Proofs.YtjchjdcaampghaaDoor.By
open Go.RowKit
set_option linter.unusedVariables false
set_option linter.unusedSimpArgs false

set_option maxHeartbeats 400000 in
theorem implTyEqT (d d' : F) (k n k' n' : Int) (a a' : Option Addr) (l c l' c' : Nat) (w : World) (h : SlF w a l d) (h' : SlF w a' l' d') :
    Calls Tryd.prog 15 #[.agg #[.int .i64 k, .int .i64 n, .slice a l c], .agg #[.int .i64 k', .int .i64 n', .slice a' l' c']] w fun e u => e = .returned (.bool (okT k n d && (okT k' n' d' && eqV k n d k' n' d'))) ∧ w.grownBy u none := by
  have g0 := grown_alloc (grown_alloc (World.grownBy.refl w none) (.cells #[.int .i64 k, .int .i64 n, .slice a l c] 25)) (.cells #[.int .i64 k', .int .i64 n', .slice a' l' c'] 25)
  obtain ⟨b1, b2, bs⟩ := (alloc2_blocks w (.cells #[.int .i64 k, .int .i64 n, .slice a l c] 25) (.cells #[.int .i64 k', .int .i64 n', .slice a' l' c'] 25))
  have FX : Hid (w.grownBy _ none ∧ SlF _ a l d ∧ SlF _ a' l' d' ∧ _ = some _ ∧ _ = some _ ∧ _ = w.heap.size + 1 + 1) := ⟨g0, h.none g0, h'.none g0, b1, b2, bs⟩
  have C1 : Hid _ := implTyOkT d k n a l c _ FX.out.2.1
  clear h h' g0 b1 b2 bs
  go_enter Tryd.func15, Tryd.ntmps15
  go_wp2_with fail
  refine Calls.mono C1.out ?_
  rintro e u ⟨rfl, hg⟩
  obtain ⟨g0, h, h', b1, b2, bs⟩ := FX.out
  have FY : Hid (w.grownBy u none ∧ SlF u a l d ∧ SlF u a' l' d' ∧ _ = some _ ∧ _ = some _) := ⟨grown_trans g0 hg, h.none hg, h'.none hg, (hg.block _ (by rw [bs]; omega) (by simp)).trans b1, (hg.block _ (by rw [bs]; omega) (by simp)).trans b2⟩
  clear FX hg C1 g0 h h' b1 b2 bs
  generalize ep : w.heap.size = p at *
  simp only []
  cases hb : okT k n d with
  | false =>
    go_wp2
    go_ret
    exact ⟨by simp [hb], FY.out.1⟩
  | true =>
    have y := (three FY.out.2.2.2.2).1
    obtain ⟨y0, y1, y2⟩ := y
    have C2 : Hid _ := implTyOkT d' k' n' a' l' c' u FY.out.2.2.1
    go_wp2_with fail
    refine Calls.mono C2.out ?_
    rintro e u2 ⟨rfl, hg⟩
    obtain ⟨g0, h, h', b1, b2⟩ := FY.out
    have FX : Hid (w.grownBy u2 none ∧ SlF u2 a l d ∧ SlF u2 a' l' d' ∧ _ = some _ ∧ _ = some _) := ⟨grown_trans g0 hg, h.none hg, h'.none hg, (hg.block _ (lt_of_block b1) (by simp)).trans b1, (hg.block _ (lt_of_block b2) (by simp)).trans b2⟩
    clear FY hg C2 g0 h h' b1 b2 y0 y1 y2
    simp only []
    cases hb2 : okT k' n' d' with
    | false =>
      go_wp2
      go_ret
      exact ⟨by simp [hb2], FX.out.1⟩
    | true =>
      obtain ⟨y0, y1, y2⟩ := (three FX.out.2.2.2.2).1
      obtain ⟨x0, x1, x2⟩ := (three FX.out.2.2.2.1).1
      have C3 : Hid _ := sames (d.size + 1) d d' k n k' n' a a' l c l' c' u2 (Nat.lt_succ_self _) FX.out.2.1 FX.out.2.2.1
      go_wp2_with fail
      refine Calls.mono C3.out ?_
      rintro e u3 ⟨rfl, hg⟩
      have G : Hid (w.grownBy u3 none) := grown_trans FX.out.1 hg
      clear FX hg C3 x0 x1 x2 y0 y1 y2
      simp only []
      go_wp2
      go_ret
      exact ⟨by simp [hb, hb2], G.out⟩
end Go.Proofs.YtjchjdcaampghaaDoor.By

namespace Go.Proofs.YtjchjdcaampghaaDoor.By
open Go.RowKit
set_option linter.unusedVariables false

/-- An address without a spot, or none. -/
def Plain (a : Option Addr) : Prop := a = none ∨ ∃ b off, a = some ⟨b, off, none⟩
theorem conv_run (w : World) (a : Option Addr) (n cap : Nat) (zs : List Int) (h : Reads w a n zs) (ha : Plain a) : (convert 22 9 (.slice a n cap)).run Tryd.prog w = .ok (.string (strOfNums zs)) w := by
  obtain ⟨hl, h⟩ := h
  rcases ha with rfl | ⟨b, off, rfl⟩
  · rcases h with h | ⟨_, _, h, _⟩
    · subst h
      obtain rfl : zs = [] := List.eq_nil_of_length_eq_zero hl
      exact run_convert_bytes_nil w 22 5 Tryd.underlying22 Tryd.underlying5 0 cap 9 Tryd.underlying9
    · cases h
  · refine run_convert_bytes_arg w 22 5 Tryd.underlying22 Tryd.underlying5 b off n cap zs hl ?_ 9 Tryd.underlying9
    intro i hi
    rcases h with h | ⟨b', off', h, hc⟩
    · omega
    · cases h; exact hc i hi

set_option maxHeartbeats 400000 in
theorem sameT (a a' : Option Addr) (n cap cap' : Nat) (zs : List Int) (w : World) (h : Reads w a n zs) (h' : Reads w a' n zs) (ha : Plain a) (ha' : Plain a') :
    Calls Tryd.prog 12 #[.slice a n cap, .slice a' n cap'] w fun e w' => e = .returned (.bool true) ∧ w' = w := by
  have c1 := conv_run w a n cap zs h ha
  have c2 := conv_run w a' n cap' zs h' ha'
  clear h h' ha ha'
  generalize strOfNums zs = s at *
  go_enter Tryd.func12, Tryd.ntmps12
  go_wp2
  go_ret
  exact ⟨rfl, rfl⟩
end Go.Proofs.YtjchjdcaampghaaDoor.By

namespace Go.Proofs.YtjchjdcaampghaaDoor.By
open Go.RowKit
set_option linter.unusedVariables false

theorem bytes_inj : ∀ {zs zs' : List Int}, Byt zs → Byt zs' → Lib.bytesOf zs = Lib.bytesOf zs' → zs = zs' := by
  intro zs
  induction zs with
  | nil => intro zs' _ _ h; cases zs' with
    | nil => rfl
    | cons => simp [Lib.bytesOf] at h
  | cons x l ih =>
    intro zs' hz hz' h
    cases zs' with
    | nil => simp [Lib.bytesOf] at h
    | cons y l' =>
      simp only [Lib.bytesOf, List.map_cons, List.cons.injEq] at h
      have h1 := congrArg UInt8.toNat h.1
      have hx := hz x (by simp)
      have hy := hz' y (by simp)
      simp only [UInt8.toNat_ofNat'] at h1
      have e : x = y := by omega
      subst e
      rw [ih (fun z hm => hz z (by simp [hm])) (fun z hm => hz' z (by simp [hm])) h.2]
theorem bytes_eq {zs zs' : List Int} (hz : Byt zs) (hz' : Byt zs') : ((strOfNums zs).toList == (strOfNums zs').toList) = decide (zs = zs') := by
  rw [Lib.strOfNums_toList, Lib.strOfNums_toList]
  by_cases h : zs = zs'
  · subst h; simp
  · have : Lib.bytesOf zs ≠ Lib.bytesOf zs' := fun e => h (bytes_inj hz hz' e)
    simp [h, this]

set_option maxHeartbeats 400000 in
theorem sameG (a a' : Option Addr) (n n' cap cap' : Nat) (zs zs' : List Int) (w : World) (h : Reads w a n zs) (h' : Reads w a' n' zs') (hz : Byt zs) (hz' : Byt zs') (ha : Plain a) (ha' : Plain a') :
    Calls Tryd.prog 12 #[.slice a n cap, .slice a' n' cap'] w fun e w' => e = .returned (.bool (decide (zs = zs'))) ∧ w' = w := by
  have c1 := conv_run w a n cap zs h ha
  have c2 := conv_run w a' n' cap' zs' h' ha'
  have E : Hid _ := bytes_eq hz hz'
  clear h h' ha ha' hz hz'
  generalize decide (zs = zs') = t at *
  generalize strOfNums zs = s at *
  generalize strOfNums zs' = s' at *
  go_enter Tryd.func12, Tryd.ntmps12
  go_wp2
  go_ret
  exact ⟨by rw [← E.out]; rfl, rfl⟩
end Go.Proofs.YtjchjdcaampghaaDoor.By

namespace Go.Proofs.YtjchjdcaampghaaDoor.By
open Go.RowKit
set_option linter.unusedVariables false

end Go.Proofs.YtjchjdcaampghaaDoor.By

namespace Go.Proofs.YtjchjdcaampghaaDoor.By
open Go.RowKit
set_option linter.unusedVariables false
set_option linter.unusedSimpArgs false

/-- A tree and a place are handed back, in memory of their own. -/
def RdP (w : World) (R : Int × Int × F × Int) (e : Ending) (u : World) : Prop := ∃ a' l' c' bs, e = .returned (.tuple #[.agg #[.int .i64 R.1, .int .i64 R.2.1, .slice a' l' c'], .int .i64 R.2.2.2]) ∧ w.grownBy u none ∧ New w u 25 a' l' c' R.2.2.1 bs

end Go.Proofs.YtjchjdcaampghaaDoor.By

namespace Go.Proofs.YtjchjdcaampghaaDoor.By
open Go.RowKit
set_option linter.unusedVariables false
set_option linter.unusedSimpArgs false

end Go.Proofs.YtjchjdcaampghaaDoor.By
