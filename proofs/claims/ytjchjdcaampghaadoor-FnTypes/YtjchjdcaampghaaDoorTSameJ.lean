/-
  Several texts in one (TSl, TSame). No statement is proved here.
-/
import Derived.Test.YtjchjdcaampghaaDoorTSi
import Derived.Test.YtjchjdcaampghaaDoorTEq
import Derived.Test.YtjchjdcaampghaaDoorTOk
namespace Go.Proofs.YtjchjdcaampghaaDoor.By
open Go.RowKit
set_option linter.unusedVariables false
set_option linter.unusedSimpArgs false

/-- What TySay answers. -/
def sayV (k n : Int) (d : F) : List Int := if okT k n d = true then sayT k n d else []
theorem sayV_len (k n : Int) (d : F) : (sayV k n d).length ≤ 720 := by
  unfold sayV
  by_cases h : okT k n d = true
  · rw [if_pos h]
    simp only [okT, Bool.and_eq_true, decide_eq_true_eq] at h
    have := sayT_len k n d h.1.1 h.1.2
    omega
  · rw [if_neg h]; simp

set_option maxRecDepth 8000 in
set_option maxHeartbeats 1000000 in
theorem implTySayT (d : F) (k n : Int) (a : Option Addr) (l c : Nat) (w : World) (h : SlF w a l d) (hT : ∀ u, w.grownBy u none → Lib.TabIs Tryd.prog u "internal/strconv.uint64pow10" .u64 Lib.pow10Tab) :
    Calls Tryd.prog 14 #[.agg #[.int .i64 k, .int .i64 n, .slice a l c]] w fun e u => ∃ a' c', e = .returned (.slice a' (sayV k n d).length c') ∧ w.grownBy u none ∧ OwS w.heap.size u a' (sayV k n d).length c' (sayV k n d) := by
  have g0 : w.grownBy (w.alloc (.cells #[.int .i64 k, .int .i64 n, .slice a l c] 25)) none := World.grownBy_alloc _ _ _
  have b0 := heap_alloc_new w (.cells #[.int .i64 k, .int .i64 n, .slice a l c] 25)
  have CC : Hid _ := implTyOkT d k n a l c _ (h.none g0)
  have FX : Hid (w.grownBy _ none ∧ SlF _ a l d ∧ _ = some (Obj.cells #[.int .i64 k, .int .i64 n, .slice a l c] 25)) := ⟨g0, h.none g0, b0⟩
  have hfl := h.1
  clear h g0 b0
  go_enter Tryd.func14, Tryd.ntmps14
  go_wp2_with fail
  refine Calls.mono CC.out ?_
  rintro e u ⟨rfl, hg⟩
  obtain ⟨g0, h, b0⟩ := FX.out
  have FY : Hid (w.grownBy u none ∧ SlF u a l d ∧ _ = some (Obj.cells #[.int .i64 k, .int .i64 n, .slice a l c] 25)) := ⟨grown_trans g0 hg, h.none hg, (hg.block _ (lt_of_block b0) (by simp)).trans b0⟩
  have HTT : TabB u.heap.size u := Lib.tabBelow_of_tabIs (hT u FY.out.1)
  clear FX hg CC g0 h b0
  simp only []
  cases hb : okT k n d with
  | false =>
    have E : Hid (sayV k n d = []) := by show _ = _; unfold sayV; rw [hb]; rfl
    go_wp2
    go_ret
    exact ⟨none, 0, by rw [E.out]; rfl, FY.out.1, by rw [E.out]; exact OwS.nil _ _⟩
  | true =>
    have E : Hid (sayV k n d = sayT k n d) := by show _ = _; unfold sayV; rw [if_pos hb]
    have hb' := hb
    simp only [okT, Bool.and_eq_true, decide_eq_true_eq] at hb'
    have C2 : Hid _ := addTextT u HTT (d.size + 1) d k n a l c (.slice none 0 0) [] u 9 (Nat.lt_succ_self _) FY.out.2.1 (Below.refl _ _) ⟨rfl, .inl ⟨rfl, rfl⟩⟩ (by rw [← hfl]; exact hb'.1.1) hb'.1.2 (by simp; omega)
    obtain ⟨⟨x0, x1, x2⟩, -⟩ := three FY.out.2.2
    clear hb' hb
    go_wp2_with fail
    refine Calls.mono C2.out ?_
    rintro e u2 ⟨v', rfl, hA, hF⟩
    simp only [List.nil_append] at hA
    obtain ⟨-, a', c', rfl, hO⟩ := ownsS hA
    have FIN : Hid (w.grownBy u2 none ∧ OwS w.heap.size u2 a' (sayT k n d).length c' (sayT k n d)) := ⟨grown_trans FY.out.1 (grown_of_belowS hF.below), hO.mono FY.out.1.size⟩
    clear C2 FY hA hF hO x0 x1 x2
    simp only []
    go_wp2
    go_ret
    exact ⟨a', c', by rw [E.out]; rfl, FIN.out.1, by rw [E.out]; exact FIN.out.2⟩
end Go.Proofs.YtjchjdcaampghaaDoor.By

namespace Go.Proofs.YtjchjdcaampghaaDoor.By
open Go.RowKit
set_option linter.unusedVariables false
set_option linter.unusedSimpArgs false

/-- Whether two lists of trees are the same. -/
def eqB : F → F → Bool
  | .nil, .nil => true
  | .nil, .cons _ _ _ _ => false
  | .cons _ _ _ _, .nil => false
  | .cons k n d r, .cons k' n' d' r' => (decide (k = k') && (decide (n = n') && eqB d d')) && eqB r r'
def eqV (k n : Int) (d : F) (k' n' : Int) (d' : F) : Bool := decide (k = k') && (decide (n = n') && eqB d d')
theorem eqB_cons (k n : Int) (d r : F) (k' n' : Int) (d' r' : F) : eqB (.cons k n d r) (.cons k' n' d' r') = (eqV k n d k' n' d' && eqB r r') := rfl
theorem eqB_len {f : F} : ∀ {g : F}, eqB f g = true → f.len = g.len := by
  induction f with
  | nil => intro g h; cases g with
    | nil => rfl
    | cons => simp [eqB] at h
  | cons k n d r _ ih => intro g h; cases g with
    | nil => simp [eqB] at h
    | cons k' n' d' r' => simp only [eqB, Bool.and_eq_true] at h; simp only [F.len, ih h.2]
theorem eqB_iff {f : F} : ∀ {g : F}, eqB f g = true ↔ f = g := by
  induction f with
  | nil => intro g; cases g <;> simp [eqB]
  | cons k n d r ihd ihr => intro g; cases g with
    | nil => simp [eqB]
    | cons k' n' d' r' => simp only [eqB, Bool.and_eq_true, decide_eq_true_eq, ihd, ihr, F.cons.injEq]; constructor <;> (intro h; simp_all)
theorem eqV_len {k n k' n' : Int} {d d' : F} (h : d.len ≠ d'.len) : eqV k n d k' n' d' = false := by
  cases hb : eqB d d' with
  | true => exact absurd (eqB_len hb) h
  | false => simp [eqV, hb]

/-- Whatever the program's question answers at the parts. -/
def Sames (m : Nat) : Prop := ∀ (d d' : F) (k n k' n' : Int) (a a' : Option Addr) (l c l' c' : Nat) (w : World), d.size < m → SlF w a l d → SlF w a' l' d' →
    Calls Tryd.prog 29 #[.agg #[.int .i64 k, .int .i64 n, .slice a l c], .agg #[.int .i64 k', .int .i64 n', .slice a' l' c']] w fun e u => e = .returned (.bool (eqV k n d k' n' d')) ∧ w.grownBy u none

set_option maxHeartbeats 2000000 in
theorem sameT_of (d d' : F) (k n k' n' : Int) (a a' : Option Addr) (l c l' c' : Nat) (w : World)
    (H : ∀ w', w.grownBy w' none → Calls Tryd.prog 38 #[.slice a l c, .slice a' l' c', .func (.func 29) #[] #[]] w' fun e u => e = .returned (.bool (eqB d d')) ∧ w'.grownBy u none) :
    Calls Tryd.prog 29 #[.agg #[.int .i64 k, .int .i64 n, .slice a l c], .agg #[.int .i64 k', .int .i64 n', .slice a' l' c']] w fun e u => e = .returned (.bool (eqV k n d k' n' d')) ∧ w.grownBy u none := by
  have g0 := grown_alloc (grown_alloc (World.grownBy.refl w none) (.cells #[.int .i64 k, .int .i64 n, .slice a l c] 25)) (.cells #[.int .i64 k', .int .i64 n', .slice a' l' c'] 25)
  have CC : Hid _ := H _ g0
  have G0 : Hid _ := g0
  clear g0 H
  by_cases hk : k = k'
  rotate_left
  · have E : Hid (eqV k n d k' n' d' = false) := by show _ = _; simp [eqV, hk]
    go_enter Tryd.func29, Tryd.ntmps29
    go_wp2
    go_ret
    exact ⟨by rw [E.out]; rfl, G0.out⟩
  subst hk
  by_cases hn : n = n'
  rotate_left
  · have E : Hid (eqV k n d k n' d' = false) := by show _ = _; simp [eqV, hn]
    go_enter Tryd.func29, Tryd.ntmps29
    go_wp2
    go_ret
    exact ⟨by rw [E.out]; rfl, G0.out⟩
  subst hn
  have E : Hid (eqV k n d k n d' = eqB d d') := by show _ = _; simp [eqV]
  go_enter Tryd.func29, Tryd.ntmps29
  go_wp2_with fail
  refine Calls.mono CC.out ?_
  rintro e u ⟨rfl, hg⟩
  have G : Hid (w.grownBy u none) := grown_trans G0.out hg
  clear hg CC G0
  simp only []
  go_wp2
  go_ret
  exact ⟨by rw [E.out]; rfl, G.out⟩

set_option maxHeartbeats 2000000 in
theorem equalS (m : Nat) (IH0 : Sames m) (d d' : F) (a a' : Option Addr) (l c l' c' : Nat) (w : World) (hm : d.size < m + 1) (h : SlF w a l d) (h' : SlF w a' l' d') :
    Calls Tryd.prog 38 #[.slice a l c, .slice a' l' c', .func (.func 29) #[] #[]] w fun e u => e = .returned (.bool (eqB d d')) ∧ w.grownBy u none := by
  have hfl := h.1
  have hfl' := h'.1
  have hl := h.2.1
  by_cases hll : l = l'
  rotate_left
  · have E : Hid (eqB d d' = false) := by
      show _ = _
      cases hb : eqB d d' with
      | true => exact absurd (eqB_len hb) (by omega)
      | false => rfl
    have hll' : ¬ (l : Int) = l' := by omega
    clear IH0
    go_enter Tryd.func38, Tryd.ntmps38
    go_wp2
    go_ret
    exact ⟨by rw [E.out]; rfl, World.grownBy.refl _ _⟩
  subst hll
  rcases h.cases with ⟨rfl, rfl⟩ | ⟨b, o, rfl, hin, -, hpos⟩
  · obtain rfl : d' = .nil := F.nil_of_len hfl'
    clear IH0
    go_enter Tryd.func38, Tryd.ntmps38
    go_wp2
    refine wp_loop_rounds 1 ?_
    rw [rounds_succ]
    go_wp2
    go_ret
    exact ⟨rfl, World.grownBy.refl _ _⟩
  rcases h'.cases with ⟨rfl, rfl⟩ | ⟨b', o', rfl, hin', -, -⟩
  · exact absurd hpos (by omega)
  have IH : Hid (Sames m) := IH0
  have IN : Hid (InF w d b o ∧ InF w d' b' o') := ⟨hin, hin'⟩
  clear IH0 hin hin' h h'
  go_enter Tryd.func38, Tryd.ntmps38
  go_wp2
  go_loopw [17] (fun i wr => ∃ (j : Nat) (R R' : F), j ≤ l ∧ i = .int .i64 j ∧ w.grownBy wr none ∧ InF wr R b (o + j * 3) ∧ InF wr R' b' (o' + j * 3) ∧ R.size ≤ d.size ∧ R.len + j = l ∧ R'.len + j = l ∧ Hid (eqB d d' = eqB R R')) (fun i _ => l - (intOf i).toNat)
  case atStart => exact ⟨0, d, d', Nat.zero_le _, rfl, World.grownBy.refl _ _, by simpa using IN.out.1, by simpa using IN.out.2, Nat.le_refl _, by omega, by omega, rfl⟩
  case round =>
    obtain ⟨j, R, R', hj, rfl, hg, hR, hR', hRs, hRl, hRl', hv⟩ := hrel
    by_cases hlt : j < l
    · obtain ⟨q, hq⟩ : ∃ q, R.len = q + 1 := ⟨R.len - 1, by omega⟩
      obtain ⟨k1, n1, d1, R1, rfl, hR1⟩ := F.cons_of_len hq
      obtain ⟨q', hq'⟩ : ∃ q, R'.len = q + 1 := ⟨R'.len - 1, by omega⟩
      obtain ⟨k2, n2, d2, R2, rfl, hR2⟩ := F.cons_of_len hq'
      obtain ⟨a1, l1, x1, c0, c1, c2, hd, hT⟩ := hR.out
      obtain ⟨a2, l2, x3, d0, dd1, dd2, hd', hT'⟩ := hR'.out
      have e3 : o + j * 3 + 3 = o + (j + 1) * 3 := by omega
      have e3' : o' + j * 3 + 3 = o' + (j + 1) * 3 := by omega
      rw [e3] at hT
      rw [e3'] at hT'
      have hds : d1.size < m := by simp only [F.size] at hRs hm; omega
      have ga := grown_alloc (grown_alloc (World.grownBy.refl wr none) (.cells #[.int .i64 k1, .int .i64 n1, .slice a1 l1 x1] 25)) (.cells #[.int .i64 k2, .int .i64 n2, .slice a2 l2 x3] 25)
      have CC : Hid _ := IH.out d1 d2 k1 n1 k2 n2 a1 a2 l1 x1 l2 x3 _ hds (hd.none ga) (hd'.none ga)
      have FX : Hid (InF _ R1 b (o + (j + 1) * 3) ∧ InF _ R2 b' (o' + (j + 1) * 3) ∧ w.grownBy _ none) := ⟨hT.none ga, hT'.none ga, grown_trans hg ga⟩
      have hRs' : R1.size ≤ d.size := by simp only [F.size] at hRs; omega
      have lb : b' < wr.heap.size := block_lt_of_cell d0
      clear hd hd' hR hR' hT hT' hg IN IH hRs ga
      go_wp2_with fail
      refine Calls.mono CC.out ?_
      rintro e u2 ⟨rfl, hgu⟩
      have FY : Hid (InF u2 R1 b (o + (j + 1) * 3) ∧ InF u2 R2 b' (o' + (j + 1) * 3) ∧ w.grownBy u2 none) := ⟨FX.out.1.none hgu, FX.out.2.1.none hgu, grown_trans FX.out.2.2 hgu⟩
      clear FX hgu CC c0 c1 c2 d0 dd1 dd2
      simp only []
      cases hb : eqV k1 n1 d1 k2 n2 d2 with
      | true =>
        have hv2 : Hid (eqB d d' = eqB R1 R2) := by show _ = _; rw [hv.out, eqB_cons, hb, Bool.true_and]
        clear hv hb
        go_wp2
        go_roundw
        case rel => exact ⟨j + 1, R1, R2, by omega, by go_num, FY.out.2.2, FY.out.1, FY.out.2.1, hRs', by omega, by omega, hv2⟩
        case measure => simp [intOf]; omega
      | false =>
        have hv2 : Hid (eqB d d' = false) := by show _ = _; rw [hv.out, eqB_cons, hb, Bool.false_and]
        clear hv hb
        go_wp2
        go_ret
        exact ⟨by rw [hv2.out]; rfl, FY.out.2.2⟩
    · obtain rfl : j = l := by omega
      obtain rfl : R = .nil := F.nil_of_len (by omega)
      obtain rfl : R' = .nil := F.nil_of_len (by omega)
      have hv2 : Hid (eqB d d' = true) := hv.out
      clear hv
      go_wp2
      go_ret
      exact ⟨by rw [hv2.out]; rfl, hg⟩

theorem sames (m : Nat) : Sames m := by
  induction m with
  | zero => intro d d' k n k' n' a a' l c l' c' w hm; exact absurd hm (Nat.not_lt_zero _)
  | succ m ih =>
    intro d d' k n k' n' a a' l c l' c' w hm h h'
    exact sameT_of d d' k n k' n' a a' l c l' c' w (fun w' hw => equalS m ih d d' a a' l c l' c' w' hm (h.none hw) (h'.none hw))
end Go.Proofs.YtjchjdcaampghaaDoor.By
