/-
  Pieces: wholeNumber, isVarWord, fresh bytes. No statement is proved here.
-/
import Derived.Test.YtaecnhmegdeicaaDoorXN
import Derived.Test.YtaecnhmegdeicaaDoorXTk
import Derived.Test.YtaecnhmegdeicaaDoorMk
import Derived.Deep.AppendSrc
namespace Go.Proofs.YtaecnhmegdeicaaDoor.By
open Go.RowKit
set_option linter.unusedVariables false
set_option linter.unusedSimpArgs false

theorem noneBX (w : World) : w.ownsRow w.heap.size 5 1 (.slice none 0 0) 0 [] := ⟨rfl, .inl ⟨rfl, rfl⟩⟩
theorem vB_at (zs : List Int) {j : Nat} {u : Value} (h : (vB zs)[j]? = some u) : u = .int .u8 (zs.getD j 0) := by
  unfold vB at h
  rw [List.getElem?_map] at h
  cases hz : zs[j]? with
  | none => rw [hz] at h; cases h
  | some z => rw [hz] at h; cases h; rw [List.getD_eq_getElem?_getD, hz]; rfl
theorem own_sl {u : World} {B : Nat} {t : TypeId} {k : Nat} {v : Value} {l : Nat} {vs : List Value} (h : u.ownsRow B t k v l vs) : ∃ a c, v = .slice a l c := by
  obtain ⟨-, ⟨e, e2⟩ | ⟨g, cap, cur, e, -⟩⟩ := h
  · exact ⟨none, 0, by rw [e, e2]⟩
  · exact ⟨_, _, e⟩
set_option maxRecDepth 8000 in
theorem freshBT (b o l c : Nat) (zs : List Int) (w : World) (hz0 : zs.length = l) (hcs : ∀ i, i < l → w.cell? ⟨b, o + i, none⟩ = some (.int .u8 (zs.getD i 0))) (hl : l ≤ 1048576) :
    Calls Tryd.prog 29 #[.slice (some ⟨b, o, none⟩) l c] w fun e u => ∃ a' c', e = .returned (.slice a' l c') ∧ w.grownBy u none ∧ u.ownsRow w.heap.size 5 1 (.slice a' l c') l (vB zs) := by
  obtain ⟨i0, hi, hy0, hy1, hy2⟩ := info_parts info5
  have HO : Hid _ := noneBX w
  have HN : Hid (∀ j u, (vB zs)[j]? = some u → w.cell? ((⟨b, o, none⟩ : Addr).add j) = some u) := fun j u hu => by
    rw [Go.WideShapes.add_plain]
    have hj : j < l := by
      have := (List.getElem?_eq_some_iff.1 hu).1
      simp only [vB, List.length_map] at this
      omega
    rw [vB_at zs hu]; exact hcs j hj
  have HL : Hid ((vB zs).length = l * 1) := by show _ = _; simp [vB, hz0]
  have H1 : Hid (∀ u ∈ vB zs, u.oneCell' = true) := fun u hu => by
    simp only [vB, List.mem_map] at hu
    obtain ⟨z, -, rfl⟩ := hu
    rfl
  clear hcs
  go_enter Tryd.func29, Tryd.ntmps29
  go_wp2_with (at_builtin; go_must (refine wpList_append_own _ rfl (.const (.slice none 0 0)) (.tmp 3) 22 rfl w.heap.size 5 i0 (.int .u8 0) 1 1 Tryd.underlying22 hi hy0 hy1 hy2 rfl (by decide) (.slice none 0 0) 0 [] rfl HO.out ⟨b, o, none⟩ l c (vB zs) rfl HL.out HN.out H1.out (by simp [maxLen]; omega) (by omega) (Nat.le_refl _) ?_))
  intro v w' ho hg _
  have FO : Hid (w.grownBy w' none ∧ w'.ownsRow w.heap.size 5 1 v l (vB zs)) := ⟨by simpa [Value.ownBlock] using hg, by simpa using ho⟩
  clear ho hg HO HN HL H1
  obtain ⟨a', c', rfl⟩ := own_sl FO.out.2
  go_wp2
  go_ret
  exact ⟨a', c', rfl, FO.out.1, FO.out.2⟩

def varWV (zs : List Int) : Bool := decide (zs.length = 2) && decide (zs.getD 0 0 = 39) && decide (48 ≤ zs.getD 1 0) && decide (zs.getD 1 0 ≤ 57)
theorem isVarT (b o l c : Nat) (zs : List Int) (w : World) (hz0 : zs.length = l) (hcs : ∀ i, i < l → w.cell? ⟨b, o + i, none⟩ = some (.int .u8 (zs.getD i 0))) :
    Calls Tryd.prog 40 #[.slice (some ⟨b, o, none⟩) l c] w fun e u => e = .returned (.bool (varWV zs)) ∧ u = w := by
  by_cases hl : l = 2
  · subst hl
    have c0 : w.cell? ⟨b, o, none⟩ = some (.int .u8 (zs.getD 0 0)) := hcs 0 (by omega)
    have c1 : w.cell? ⟨b, o + 1, none⟩ = some (.int .u8 (zs.getD 1 0)) := hcs 1 (by omega)
    have E : Hid (varWV zs = (decide (zs.getD 0 0 = 39) && decide (48 ≤ zs.getD 1 0) && decide (zs.getD 1 0 ≤ 57))) := by show _ = _; unfold varWV; simp [hz0]
    clear hcs hz0
    generalize zs.getD 0 0 = x at *
    generalize zs.getD 1 0 = y at *
    by_cases h1 : x = 39
    · by_cases h2 : 48 ≤ y
      · by_cases h3 : y ≤ 57
        · go_enter Tryd.func40, Tryd.ntmps40
          go_wp2
          go_ret
          exact ⟨by rw [E.out]; simp [h1, h2, h3], rfl⟩
        · go_enter Tryd.func40, Tryd.ntmps40
          go_wp2
          go_ret
          exact ⟨by rw [E.out]; simp [h1, h2, h3], rfl⟩
      · go_enter Tryd.func40, Tryd.ntmps40
        go_wp2
        go_ret
        exact ⟨by rw [E.out]; simp [h1]; intro h5; omega, rfl⟩
    · go_enter Tryd.func40, Tryd.ntmps40
      go_wp2
      go_ret
      exact ⟨by rw [E.out]; simp [h1], rfl⟩
  · have hl2 : ¬ (l : Int) = 2 := by omega
    have E : Hid (varWV zs = false) := by show _ = _; unfold varWV; simp [hz0, hl]
    clear hcs hz0
    go_enter Tryd.func40, Tryd.ntmps40
    go_wp2
    go_ret
    exact ⟨by rw [E.out]; rfl, rfl⟩

theorem itoB_byt (n : Int) : Byt (itoB n) := by
  rw [← itoB_eq]
  intro z hz
  obtain ⟨b, -, rfl⟩ := List.mem_map.1 hz
  have := b.toNat_lt
  omega
theorem bool_ex (b : Bool) : b = true ∨ b = false := by cases b <;> simp


set_option maxRecDepth 8000 in
set_option maxHeartbeats 4000000 in
theorem wholeT (b o l c : Nat) (zs : List Int) (w : World) (h : RdB w (some ⟨b, o, none⟩) l zs) (hl : l ≤ 100000) (hE : EnvX w) :
    Calls Tryd.prog 37 #[.slice (some ⟨b, o, none⟩) l c] w fun e u => e = .returned (.tuple #[.int .i64 ((wholeZ zs).getD 0), .bool (wholeZ zs).isSome]) ∧ w.grownBy u none := by
  have hcv : (convert 22 9 (.slice (some ⟨b, o, none⟩) l c)).run Tryd.prog w = .ok (.string (strOfNums zs)) w := conv_run h.1
  have CA : Hid _ := atoiX zs w (by rw [h.1.1]; exact hl) hE
  have HH : Hid (RdB w (some ⟨b, o, none⟩) l zs ∧ EnvX w) := ⟨h, hE⟩
  clear h hE
  go_enter Tryd.func37, Tryd.ntmps37
  go_wp2_with fail
  refine Calls.mono CA.out ?_
  rintro e u ⟨⟨n, rfl, ⟨hb0, hb1⟩, hm⟩ | ⟨x, t, p, rfl, hz⟩, hg⟩
  rotate_left
  · have HV : Hid (wholeZ zs = none) := hz
    have HG : Hid (w.grownBy u.drew none) := grown_drew hg
    clear CA hz hg hcv
    go_wp2_with fail
    refine wp_region_held_drew (S := (fun _ => True)) (by kernel_rfl) trivial (fun hH => ?_)
    generalize u.drew = t0 at *
    simp only [List.size_toArray, List.length_cons, List.length_nil, Nat.reduceAdd, Array.replicate, List.replicate]
    refine wpAnyH_take (i := 0) (v := ?_) rfl (by kernel_rfl) (by kernel_rfl) (by kernel_rfl) (fun _ _ _ h => h) (Or.inl ⟨by rfl, ?_⟩) hH ?_
    rotate_left
    · (intro v hS; go_simp; try with_reducible rfl)
    simp only [Act.put, List.setIfInBounds_toArray, List.set_cons_zero, List.set_cons_succ, List.getElem_toArray, List.getElem_cons_succ, List.getElem_cons_zero]
    refine wpAnyH_take (i := 1) (v := ?_) rfl (by kernel_rfl) (by kernel_rfl) (by kernel_rfl) (fun _ _ _ h => h) (Or.inl ⟨by rfl, ?_⟩) hH ?_
    rotate_left
    · (intro v hS; go_simp; try with_reducible rfl)
    simp only [Act.put, List.setIfInBounds_toArray, List.set_cons_zero, List.set_cons_succ, List.getElem_toArray, List.getElem_cons_succ, List.getElem_cons_zero]
    refine wpAnyH_take (i := 2) (v := ?_) rfl (by kernel_rfl) (by kernel_rfl) (by kernel_rfl) (fun _ _ _ h => h) (Or.inl ⟨by rfl, ?_⟩) hH ?_
    rotate_left
    · (intro v hS; go_simp; try with_reducible rfl)
    simp only [Act.put, List.setIfInBounds_toArray, List.set_cons_zero, List.set_cons_succ, List.getElem_toArray, List.getElem_cons_succ, List.getElem_cons_zero]
    refine wpAnyH_take (i := 3) (v := undef) rfl (by kernel_rfl) (by kernel_rfl) (by kernel_rfl) (fun _ _ _ h => h) (Or.inr ⟨by rfl, rfl⟩) hH ?_
    simp only [Act.put, List.setIfInBounds_toArray, List.set_cons_zero, List.set_cons_succ, List.getElem_toArray, List.getElem_cons_succ, List.getElem_cons_zero]
    refine wpAnyH_take (i := 4) (v := undef) rfl (by kernel_rfl) (by kernel_rfl) (by kernel_rfl) (fun _ _ _ h => h) (Or.inr ⟨by rfl, rfl⟩) hH ?_
    simp only [Act.put, List.setIfInBounds_toArray, List.set_cons_zero, List.set_cons_succ, List.getElem_toArray, List.getElem_cons_succ, List.getElem_cons_zero]
    refine wpAnyH_take (i := 5) (v := undef) rfl (by kernel_rfl) (by kernel_rfl) (by kernel_rfl) (fun _ _ _ h => h) (Or.inr ⟨by rfl, rfl⟩) hH ?_
    simp only [Act.put, List.setIfInBounds_toArray, List.set_cons_zero, List.set_cons_succ, List.getElem_toArray, List.getElem_cons_succ, List.getElem_cons_zero]
    refine wpAnyH_take (i := 6) (v := ?_) rfl (by kernel_rfl) (by kernel_rfl) (by kernel_rfl) (fun _ _ _ h => h) (Or.inl ⟨by rfl, ?_⟩) hH ?_
    rotate_left
    · (intro v hS; go_simp; try with_reducible rfl)
    simp only [Act.put, List.setIfInBounds_toArray, List.set_cons_zero, List.set_cons_succ, List.getElem_toArray, List.getElem_cons_succ, List.getElem_cons_zero]
    refine wpAnyH_take (i := 7) (v := ?_) rfl (by kernel_rfl) (by kernel_rfl) (by kernel_rfl) (fun _ _ _ h => h) (Or.inl ⟨by rfl, ?_⟩) hH ?_
    rotate_left
    · (intro v hS; go_simp; try with_reducible rfl)
    simp only [Act.put, List.setIfInBounds_toArray, List.set_cons_zero, List.set_cons_succ, List.getElem_toArray, List.getElem_cons_succ, List.getElem_cons_zero]
    refine wpAnyH_take (i := 8) (v := undef) rfl (by kernel_rfl) (by kernel_rfl) (by kernel_rfl) (fun _ _ _ h => h) (Or.inr ⟨by rfl, rfl⟩) hH ?_
    simp only [Act.put, List.setIfInBounds_toArray, List.set_cons_zero, List.set_cons_succ, List.getElem_toArray, List.getElem_cons_succ, List.getElem_cons_zero]
    refine wpAnyH_take (i := 9) (v := undef) rfl (by kernel_rfl) (by kernel_rfl) (by kernel_rfl) (fun _ _ _ h => h) (Or.inr ⟨by rfl, rfl⟩) hH ?_
    simp only [Act.put, List.setIfInBounds_toArray, List.set_cons_zero, List.set_cons_succ, List.getElem_toArray, List.getElem_cons_succ, List.getElem_cons_zero]
    refine wpAnyH_take (i := 10) (v := undef) rfl (by kernel_rfl) (by kernel_rfl) (by kernel_rfl) (fun _ _ _ h => h) (Or.inr ⟨by rfl, rfl⟩) hH ?_
    simp only [Act.put, List.setIfInBounds_toArray, List.set_cons_zero, List.set_cons_succ, List.getElem_toArray, List.getElem_cons_succ, List.getElem_cons_zero]
    refine wpAnyH_take (i := 11) (v := undef) rfl (by kernel_rfl) (by kernel_rfl) (by kernel_rfl) (fun _ _ _ h => h) (Or.inr ⟨by rfl, rfl⟩) hH ?_
    simp only [Act.put, List.setIfInBounds_toArray, List.set_cons_zero, List.set_cons_succ, List.getElem_toArray, List.getElem_cons_succ, List.getElem_cons_zero]
    refine wpAnyH_take (i := 12) (v := undef) rfl (by kernel_rfl) (by kernel_rfl) (by kernel_rfl) (fun _ _ _ h => h) (Or.inr ⟨by rfl, rfl⟩) hH ?_
    simp only [Act.put, List.setIfInBounds_toArray, List.set_cons_zero, List.set_cons_succ, List.getElem_toArray, List.getElem_cons_succ, List.getElem_cons_zero]
    refine wpAnyH_take (i := 13) (v := ?_) rfl (by kernel_rfl) (by kernel_rfl) (by kernel_rfl) (fun _ _ _ h => h) (Or.inl ⟨by rfl, ?_⟩) hH ?_
    rotate_left
    · (intro v hS; go_simp; try with_reducible rfl)
    simp only [Act.put, List.setIfInBounds_toArray, List.set_cons_zero, List.set_cons_succ, List.getElem_toArray, List.getElem_cons_succ, List.getElem_cons_zero]
    refine wpAnyH_done (by kernel_rfl) ?_ _
    clear hH
    go_wp2_with fail
    go_ret2
    exact ⟨by rw [HV.out]; rfl, HG.out⟩
  have HM : Hid (∀ m, wholeZ zs = some m → m = n) := hm
  have HG : Hid (w.grownBy u.drew none) := grown_drew hg
  clear CA hm hg hcv
  go_wp2_with fail
  refine wp_region_held_drew (S := (fun _ => True)) (by kernel_rfl) trivial (fun hH => ?_)
  generalize u.drew = t0 at *
  have CW : Hid _ := isWholeW n t0
  simp only [List.size_toArray, List.length_cons, List.length_nil, Nat.reduceAdd, Array.replicate, List.replicate]
  refine wpAnyH_take (i := 0) (v := ?_) rfl (by kernel_rfl) (by kernel_rfl) (by kernel_rfl) (fun _ _ _ h => h) (Or.inl ⟨by rfl, ?_⟩) hH ?_
  rotate_left
  · (intro v hS; go_simp; try with_reducible rfl)
  simp only [Act.put, List.setIfInBounds_toArray, List.set_cons_zero, List.set_cons_succ, List.getElem_toArray, List.getElem_cons_succ, List.getElem_cons_zero]
  refine wpAnyH_take (i := 1) (v := ?_) rfl (by kernel_rfl) (by kernel_rfl) (by kernel_rfl) (fun _ _ _ h => h) (Or.inl ⟨by rfl, ?_⟩) hH ?_
  rotate_left
  · (intro v hS; go_simp; try with_reducible rfl)
  simp only [Act.put, List.setIfInBounds_toArray, List.set_cons_zero, List.set_cons_succ, List.getElem_toArray, List.getElem_cons_succ, List.getElem_cons_zero]
  refine wpAnyH_take (i := 2) (v := ?_) rfl (by kernel_rfl) (by kernel_rfl) (by kernel_rfl) (fun _ _ _ h => h) (Or.inl ⟨by rfl, ?_⟩) hH ?_
  rotate_left
  · (intro v hS; go_simp; try with_reducible rfl)
  simp only [Act.put, List.setIfInBounds_toArray, List.set_cons_zero, List.set_cons_succ, List.getElem_toArray, List.getElem_cons_succ, List.getElem_cons_zero]
  refine wpAnyH_take (i := 3) (v := ?_) rfl (by kernel_rfl) (by kernel_rfl) (by kernel_rfl) (fun _ _ _ h => h) (Or.inl ⟨by rfl, ?_⟩) hH ?_
  rotate_left
  · (intro v hS; go_simp; try with_reducible rfl)
  simp only [Act.put, List.setIfInBounds_toArray, List.set_cons_zero, List.set_cons_succ, List.getElem_toArray, List.getElem_cons_succ, List.getElem_cons_zero]
  refine wpAnyH_ready (rs := [4]) (by kernel_rfl) (by simp) ?_
  refine AllReadyH.cons rfl (fun K hK => ?_) AllReadyH.nil
  go_simp
  refine Calls.mono CW.out ?_
  rintro e u2 ⟨he, hg2⟩
  subst he
  have HG2 : Hid (w.grownBy u2 none) := grown_trans HG.out hg2
  clear CW hg2 HG
  refine hK.out _ _ trivial (fun hH2 => ?_)
  clear hK K hH
  have hH := hH2
  clear hH2
  simp only [Act.put, List.setIfInBounds_toArray, List.set_cons_zero, List.set_cons_succ, List.getElem_toArray, List.getElem_cons_succ, List.getElem_cons_zero]
  rcases bool_ex (wholeV n) with hw | hw
  rotate_left
  · have HV : Hid (wholeZ zs = none) := by
      show _ = _
      cases hz : wholeZ zs with
      | none => rfl
      | some m =>
        have e1 := HM.out m hz
        have e2 := ((wholeZ_iff zs m).1 hz).2
        rw [e1, hw] at e2
        cases e2
    rw [hw]
    clear hw HM
    refine wpAnyH_take (i := 5) (v := ?_) rfl (by kernel_rfl) (by kernel_rfl) (by kernel_rfl) (fun _ _ _ h => h) (Or.inl ⟨by rfl, ?_⟩) hH ?_
    rotate_left
    · (intro v hS; go_simp; try with_reducible rfl)
    simp only [Act.put, List.setIfInBounds_toArray, List.set_cons_zero, List.set_cons_succ, List.getElem_toArray, List.getElem_cons_succ, List.getElem_cons_zero]
    refine wpAnyH_take (i := 6) (v := ?_) rfl (by kernel_rfl) (by kernel_rfl) (by kernel_rfl) (fun _ _ _ h => h) (Or.inl ⟨by rfl, ?_⟩) hH ?_
    rotate_left
    · (intro v hS; go_simp; try with_reducible rfl)
    simp only [Act.put, List.setIfInBounds_toArray, List.set_cons_zero, List.set_cons_succ, List.getElem_toArray, List.getElem_cons_succ, List.getElem_cons_zero]
    refine wpAnyH_take (i := 7) (v := ?_) rfl (by kernel_rfl) (by kernel_rfl) (by kernel_rfl) (fun _ _ _ h => h) (Or.inl ⟨by rfl, ?_⟩) hH ?_
    rotate_left
    · (intro v hS; go_simp; try with_reducible rfl)
    simp only [Act.put, List.setIfInBounds_toArray, List.set_cons_zero, List.set_cons_succ, List.getElem_toArray, List.getElem_cons_succ, List.getElem_cons_zero]
    refine wpAnyH_take (i := 8) (v := undef) rfl (by kernel_rfl) (by kernel_rfl) (by kernel_rfl) (fun _ _ _ h => h) (Or.inr ⟨by rfl, rfl⟩) hH ?_
    simp only [Act.put, List.setIfInBounds_toArray, List.set_cons_zero, List.set_cons_succ, List.getElem_toArray, List.getElem_cons_succ, List.getElem_cons_zero]
    refine wpAnyH_take (i := 9) (v := undef) rfl (by kernel_rfl) (by kernel_rfl) (by kernel_rfl) (fun _ _ _ h => h) (Or.inr ⟨by rfl, rfl⟩) hH ?_
    simp only [Act.put, List.setIfInBounds_toArray, List.set_cons_zero, List.set_cons_succ, List.getElem_toArray, List.getElem_cons_succ, List.getElem_cons_zero]
    refine wpAnyH_take (i := 10) (v := undef) rfl (by kernel_rfl) (by kernel_rfl) (by kernel_rfl) (fun _ _ _ h => h) (Or.inr ⟨by rfl, rfl⟩) hH ?_
    simp only [Act.put, List.setIfInBounds_toArray, List.set_cons_zero, List.set_cons_succ, List.getElem_toArray, List.getElem_cons_succ, List.getElem_cons_zero]
    refine wpAnyH_take (i := 11) (v := undef) rfl (by kernel_rfl) (by kernel_rfl) (by kernel_rfl) (fun _ _ _ h => h) (Or.inr ⟨by rfl, rfl⟩) hH ?_
    simp only [Act.put, List.setIfInBounds_toArray, List.set_cons_zero, List.set_cons_succ, List.getElem_toArray, List.getElem_cons_succ, List.getElem_cons_zero]
    refine wpAnyH_take (i := 12) (v := undef) rfl (by kernel_rfl) (by kernel_rfl) (by kernel_rfl) (fun _ _ _ h => h) (Or.inr ⟨by rfl, rfl⟩) hH ?_
    simp only [Act.put, List.setIfInBounds_toArray, List.set_cons_zero, List.set_cons_succ, List.getElem_toArray, List.getElem_cons_succ, List.getElem_cons_zero]
    refine wpAnyH_take (i := 13) (v := ?_) rfl (by kernel_rfl) (by kernel_rfl) (by kernel_rfl) (fun _ _ _ h => h) (Or.inl ⟨by rfl, ?_⟩) hH ?_
    rotate_left
    · (intro v hS; go_simp; try with_reducible rfl)
    simp only [Act.put, List.setIfInBounds_toArray, List.set_cons_zero, List.set_cons_succ, List.getElem_toArray, List.getElem_cons_succ, List.getElem_cons_zero]
    refine wpAnyH_done (by kernel_rfl) ?_ _
    clear hH
    go_wp2_with fail
    go_ret2
    exact ⟨by rw [HV.out]; rfl, HG2.out⟩
  rw [hw]
  have hcmp : ((strOfNums (itoB n)).toList == (strOfNums zs).toList) = decide (itoB n = zs) := by
    rw [toL_beq]
    exact str_eq (itoB_byt n) HH.out.1.2.1
  have HCV : Hid (∀ v, w.grownBy v none → (convert 22 9 (.slice (some ⟨b, o, none⟩) l c)).run Tryd.prog v = .ok (.string (strOfNums zs)) v) := fun v hv => conv_run (HH.out.1.none hv).1
  refine wpAnyH_take (i := 5) (v := ?_) rfl (by kernel_rfl) (by kernel_rfl) (by kernel_rfl) (fun _ _ _ h => h) (Or.inl ⟨by rfl, ?_⟩) hH ?_
  rotate_left
  · (intro v hS; go_simp; try with_reducible rfl)
  simp only [Act.put, List.setIfInBounds_toArray, List.set_cons_zero, List.set_cons_succ, List.getElem_toArray, List.getElem_cons_succ, List.getElem_cons_zero]
  refine wpAnyH_take (i := 6) (v := ?_) rfl (by kernel_rfl) (by kernel_rfl) (by kernel_rfl) (fun _ _ _ h => h) (Or.inl ⟨by rfl, ?_⟩) hH ?_
  rotate_left
  · (intro v hS; go_simp; try with_reducible rfl)
  simp only [Act.put, List.setIfInBounds_toArray, List.set_cons_zero, List.set_cons_succ, List.getElem_toArray, List.getElem_cons_succ, List.getElem_cons_zero]
  refine wpAnyH_take (i := 7) (v := ?_) rfl (by kernel_rfl) (by kernel_rfl) (by kernel_rfl) (fun _ _ _ h => h) (Or.inl ⟨by rfl, ?_⟩) hH ?_
  rotate_left
  · (intro v hS; go_simp; try with_reducible rfl)
  simp only [Act.put, List.setIfInBounds_toArray, List.set_cons_zero, List.set_cons_succ, List.getElem_toArray, List.getElem_cons_succ, List.getElem_cons_zero]
  refine wpAnyH_take (i := 8) (v := ?_) rfl (by kernel_rfl) (by kernel_rfl) (by kernel_rfl) (fun _ _ _ h => h) (Or.inl ⟨by rfl, ?_⟩) hH ?_
  rotate_left
  · (intro v hS; go_simp; try with_reducible rfl)
  simp only [Act.put, List.setIfInBounds_toArray, List.set_cons_zero, List.set_cons_succ, List.getElem_toArray, List.getElem_cons_succ, List.getElem_cons_zero]
  refine wpAnyH_take (i := 10) (v := ?_) rfl (by kernel_rfl) (by kernel_rfl) (by kernel_rfl) (fun _ _ _ h => h) (Or.inl ⟨by rfl, ?_⟩) hH ?_
  rotate_left
  · (intro v hS; go_simp; try with_reducible rfl)
  simp only [Act.put, List.setIfInBounds_toArray, List.set_cons_zero, List.set_cons_succ, List.getElem_toArray, List.getElem_cons_succ, List.getElem_cons_zero]
  refine wpAnyH_ready (rs := [9, 11]) (by kernel_rfl) (by simp) ?_
  refine AllReadyH.cons rfl (fun K hK => ?_) ?_
  · go_simp
    refine Calls.mono (itoaX n hb0 hb1 u2 (HH.out.2.none HG2.out)) ?_
    rintro e u3 ⟨he, hg3⟩
    subst he
    have HG3 : Hid (w.grownBy u3 none) := grown_trans HG2.out hg3
    clear hg3 HG2
    refine hK.out _ _ trivial (fun hH2 => ?_)
    clear hK K hH
    have hH := hH2
    clear hH2
    simp only [Act.put, List.setIfInBounds_toArray, List.set_cons_zero, List.set_cons_succ, List.getElem_toArray, List.getElem_cons_succ, List.getElem_cons_zero]
    have hcv := HCV.out u3 HG3.out
    refine wpAnyH_ready (rs := [11]) (by kernel_rfl) (by simp) ?_
    refine AllReadyH.cons rfl (fun K hK => ?_) AllReadyH.nil
    go_simp
    refine hK.out _ _ trivial (fun hH2 => ?_)
    clear hK K hH
    have hH := hH2
    clear hH2
    simp only [Act.put, List.setIfInBounds_toArray, List.set_cons_zero, List.set_cons_succ, List.getElem_toArray, List.getElem_cons_succ, List.getElem_cons_zero]
    rcases bool_ex (decide (itoB n = zs)) with hq | hq
    · have HV : Hid (wholeZ zs = some n) := (wholeZ_iff zs n).2 ⟨(of_decide_eq_true hq).symm, hw⟩
      rw [hq] at hcmp
      clear hw hq HM
      refine wpAnyH_take (i := 12) (v := ?_) rfl (by kernel_rfl) (by kernel_rfl) (by kernel_rfl) (fun _ _ _ h => h) (Or.inl ⟨by rfl, ?_⟩) hH ?_
      rotate_left
      · (intro v hS; go_simp; try with_reducible rfl)
      simp only [Act.put, List.setIfInBounds_toArray, List.set_cons_zero, List.set_cons_succ, List.getElem_toArray, List.getElem_cons_succ, List.getElem_cons_zero]
      refine wpAnyH_take (i := 13) (v := ?_) rfl (by kernel_rfl) (by kernel_rfl) (by kernel_rfl) (fun _ _ _ h => h) (Or.inl ⟨by rfl, ?_⟩) hH ?_
      rotate_left
      · (intro v hS; go_simp; try with_reducible rfl)
      simp only [Act.put, List.setIfInBounds_toArray, List.set_cons_zero, List.set_cons_succ, List.getElem_toArray, List.getElem_cons_succ, List.getElem_cons_zero]
      refine wpAnyH_done (by kernel_rfl) ?_ _
      clear hH
      go_wp2_with fail
      go_ret2
      exact ⟨by rw [HV.out]; rfl, HG3.out⟩
    · have HV : Hid (wholeZ zs = none) := by
        show _ = _
        cases hz : wholeZ zs with
        | none => rfl
        | some m =>
          have e1 := HM.out m hz
          have e2 := ((wholeZ_iff zs m).1 hz).1
          rw [e1] at e2
          exact absurd e2.symm (of_decide_eq_false hq)
      rw [hq] at hcmp
      clear hw hq HM
      refine wpAnyH_take (i := 12) (v := ?_) rfl (by kernel_rfl) (by kernel_rfl) (by kernel_rfl) (fun _ _ _ h => h) (Or.inl ⟨by rfl, ?_⟩) hH ?_
      rotate_left
      · (intro v hS; go_simp; try with_reducible rfl)
      simp only [Act.put, List.setIfInBounds_toArray, List.set_cons_zero, List.set_cons_succ, List.getElem_toArray, List.getElem_cons_succ, List.getElem_cons_zero]
      refine wpAnyH_take (i := 13) (v := ?_) rfl (by kernel_rfl) (by kernel_rfl) (by kernel_rfl) (fun _ _ _ h => h) (Or.inl ⟨by rfl, ?_⟩) hH ?_
      rotate_left
      · (intro v hS; go_simp; try with_reducible rfl)
      simp only [Act.put, List.setIfInBounds_toArray, List.set_cons_zero, List.set_cons_succ, List.getElem_toArray, List.getElem_cons_succ, List.getElem_cons_zero]
      refine wpAnyH_done (by kernel_rfl) ?_ _
      clear hH
      go_wp2_with fail
      go_ret2
      exact ⟨by rw [HV.out]; rfl, HG3.out⟩
  · refine AllReadyH.cons rfl (fun K hK => ?_) AllReadyH.nil
    have hcv := HCV.out u2 HG2.out
    go_simp
    refine hK.out _ _ trivial (fun hH2 => ?_)
    clear hK K hH
    have hH := hH2
    clear hH2
    simp only [Act.put, List.setIfInBounds_toArray, List.set_cons_zero, List.set_cons_succ, List.getElem_toArray, List.getElem_cons_succ, List.getElem_cons_zero]
    clear hcv
    refine wpAnyH_ready (rs := [9]) (by kernel_rfl) (by simp) ?_
    refine AllReadyH.cons rfl (fun K hK => ?_) AllReadyH.nil
    go_simp
    refine Calls.mono (itoaX n hb0 hb1 u2 (HH.out.2.none HG2.out)) ?_
    rintro e u3 ⟨he, hg3⟩
    subst he
    have HG3 : Hid (w.grownBy u3 none) := grown_trans HG2.out hg3
    clear hg3 HG2
    refine hK.out _ _ trivial (fun hH2 => ?_)
    clear hK K hH
    have hH := hH2
    clear hH2
    simp only [Act.put, List.setIfInBounds_toArray, List.set_cons_zero, List.set_cons_succ, List.getElem_toArray, List.getElem_cons_succ, List.getElem_cons_zero]
    rcases bool_ex (decide (itoB n = zs)) with hq | hq
    · have HV : Hid (wholeZ zs = some n) := (wholeZ_iff zs n).2 ⟨(of_decide_eq_true hq).symm, hw⟩
      rw [hq] at hcmp
      clear hw hq HM
      refine wpAnyH_take (i := 12) (v := ?_) rfl (by kernel_rfl) (by kernel_rfl) (by kernel_rfl) (fun _ _ _ h => h) (Or.inl ⟨by rfl, ?_⟩) hH ?_
      rotate_left
      · (intro v hS; go_simp; try with_reducible rfl)
      simp only [Act.put, List.setIfInBounds_toArray, List.set_cons_zero, List.set_cons_succ, List.getElem_toArray, List.getElem_cons_succ, List.getElem_cons_zero]
      refine wpAnyH_take (i := 13) (v := ?_) rfl (by kernel_rfl) (by kernel_rfl) (by kernel_rfl) (fun _ _ _ h => h) (Or.inl ⟨by rfl, ?_⟩) hH ?_
      rotate_left
      · (intro v hS; go_simp; try with_reducible rfl)
      simp only [Act.put, List.setIfInBounds_toArray, List.set_cons_zero, List.set_cons_succ, List.getElem_toArray, List.getElem_cons_succ, List.getElem_cons_zero]
      refine wpAnyH_done (by kernel_rfl) ?_ _
      clear hH
      go_wp2_with fail
      go_ret2
      exact ⟨by rw [HV.out]; rfl, HG3.out⟩
    · have HV : Hid (wholeZ zs = none) := by
        show _ = _
        cases hz : wholeZ zs with
        | none => rfl
        | some m =>
          have e1 := HM.out m hz
          have e2 := ((wholeZ_iff zs m).1 hz).1
          rw [e1] at e2
          exact absurd e2.symm (of_decide_eq_false hq)
      rw [hq] at hcmp
      clear hw hq HM
      refine wpAnyH_take (i := 12) (v := ?_) rfl (by kernel_rfl) (by kernel_rfl) (by kernel_rfl) (fun _ _ _ h => h) (Or.inl ⟨by rfl, ?_⟩) hH ?_
      rotate_left
      · (intro v hS; go_simp; try with_reducible rfl)
      simp only [Act.put, List.setIfInBounds_toArray, List.set_cons_zero, List.set_cons_succ, List.getElem_toArray, List.getElem_cons_succ, List.getElem_cons_zero]
      refine wpAnyH_take (i := 13) (v := ?_) rfl (by kernel_rfl) (by kernel_rfl) (by kernel_rfl) (fun _ _ _ h => h) (Or.inl ⟨by rfl, ?_⟩) hH ?_
      rotate_left
      · (intro v hS; go_simp; try with_reducible rfl)
      simp only [Act.put, List.setIfInBounds_toArray, List.set_cons_zero, List.set_cons_succ, List.getElem_toArray, List.getElem_cons_succ, List.getElem_cons_zero]
      refine wpAnyH_done (by kernel_rfl) ?_ _
      clear hH
      go_wp2_with fail
      go_ret2
      exact ⟨by rw [HV.out]; rfl, HG3.out⟩
end Go.Proofs.YtaecnhmegdeicaaDoor.By
