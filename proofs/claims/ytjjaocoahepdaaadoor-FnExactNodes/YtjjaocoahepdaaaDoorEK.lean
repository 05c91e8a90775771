/-
  Key words and names, bytes compared: by their contracts. No statement is proved here.
-/
import Derived.Test.YtjjaocoahepdaaaDoorEK0
import Derived.Laws.DeepStrings4
import Derived.BigQuiet
import Derived.Deep.RegionHeld
namespace Go.Proofs.YtjjaocoahepdaaaDoor.By
open Go.RowKit
set_option linter.unusedVariables false
set_option linter.unusedSimpArgs false

theorem toL_beq (s t : ByteArray) : (s.toList == t.toList) = decide (s = t) := by
  by_cases h : s = t
  · simp [h]
  · have : ¬ s.toList = t.toList := fun e => h (by
      rw [ByteArray.toList_eq, ByteArray.toList_eq] at e
      exact ByteArray.ext (Array.toList_inj.mp e))
    simp [h, this]

set_option maxHeartbeats 1000000 in
theorem bytesEqT (a a' : Option Addr) (n c n' c' : Nat) (xs ys : List Int) (w : World) (h : RdB w a n xs) (h' : RdB w a' n' ys) :
    Calls Tryd.prog 52 #[.slice a n c, .slice a' n' c'] w fun e u => e = .returned (.bool (decide (xs = ys))) ∧ w.grownBy u none := by
  have h1 : (convert 22 9 (.slice a n c)).run Tryd.prog w = .ok (.string (strOfNums xs)) w := conv_run h.1
  have h2 : (convert 22 9 (.slice a' n' c')).run Tryd.prog w = .ok (.string (strOfNums ys)) w := conv_run h'.1
  have E : Hid (decide (strOfNums xs = strOfNums ys) = decide (xs = ys)) := str_eq h.2.1 h'.2.1
  clear h h'
  generalize strOfNums xs = s at *
  generalize strOfNums ys = t at *
  go_enter Tryd.func52, Tryd.ntmps52
  go_wp2
  go_ret
  refine ⟨?_, World.grownBy.refl _ _⟩
  rw [← E.out]
  rw [← toL_beq]
  rfl

set_option maxHeartbeats 1000000 in
theorem l5isT (a : Option Addr) (n c : Nat) (xs : List Int) (t : ByteArray) (w : World) (h : RdB w a n xs) :
    Calls Tryd.prog 48 #[.slice a n c, .string t] w fun e u => e = .returned (.bool (decide (strOfNums xs = t))) ∧ w.grownBy u none := by
  have h1 : (convert 22 9 (.slice a n c)).run Tryd.prog w = .ok (.string (strOfNums xs)) w := conv_run h.1
  clear h
  generalize strOfNums xs = s at *
  go_enter Tryd.func48, Tryd.ntmps48
  go_wp2
  go_ret
  refine ⟨?_, World.grownBy.refl _ _⟩
  rw [← toL_beq]
  rfl

/-- The key words as strings. -/
def keyA : Array Value := #[.string { data := #[102, 110] }, .string { data := #[108, 101, 116] }, .string { data := #[114, 101, 99] }, .string { data := #[105, 102] }, .string { data := #[112, 97, 105, 114] }, .string { data := #[102, 115, 116] }, .string { data := #[115, 110, 100] }, .string { data := #[114, 101, 102] }, .string { data := #[114, 101, 97, 100] }, .string { data := #[119, 114, 105, 116, 101] }, .string { data := #[109, 97, 116, 99, 104] }, .string { data := #[114, 97, 105, 115, 101] }, .string { data := #[116, 114, 121] }, .string { data := #[97, 100, 100] }, .string { data := #[115, 117, 98] }, .string { data := #[109, 117, 108] }, .string { data := #[108, 101, 115, 115] }, .string { data := #[115, 97, 109, 101] }, .string { data := #[99, 97, 116] }, .string { data := #[108, 101, 110] }, .string { data := #[112, 114, 105, 110, 116] }, .string { data := #[116, 105, 99, 107] }, .string { data := #[100, 114, 97, 119] }, .string { data := #[103, 101, 116] }, .string { data := #[112, 117, 116] }, .string { data := #[100, 97, 116, 97] }, .string { data := #[117, 110, 105, 116] }, .string { data := #[105, 110, 116] }, .string { data := #[116, 101, 120, 116] }, .string { data := #[102, 117, 110] }]
theorem keyA_size : keyA.size = 30 := rfl
theorem keyA_all : keyA.toList = keysL.map fun k => Value.string (strOfNums k) := by kernel_rfl
set_option maxRecDepth 100000 in
set_option maxHeartbeats 4000000 in
theorem l5keysT (w : World) : Calls Tryd.prog 47 #[] w fun e u => ∃ g, e = .returned (.slice (some ⟨g, 0, none⟩) 30 30) ∧ w.grownBy u none ∧ u.heap[g]? = some (.cells keyA 9 (0, 0)) := by
  have b := heap_alloc_new w (.cells keyA 9)
  have g := World.grownBy_alloc w (.cells keyA 9) none
  have L : Hid _ := And.intro g b
  clear b g
  go_enter Tryd.func47, Tryd.ntmps47
  go_wp2
  go_ret
  exact ⟨w.heap.size, rfl, L.out.1, L.out.2⟩
theorem keys_at {u : World} {g : Nat} (h : u.heap[g]? = some (.cells keyA 9 (0, 0))) {j : Nat} (hj : j < 30) : ∃ k, keysL[j]? = some k ∧ u.cell? ⟨g, j, none⟩ = some (.string (strOfNums k)) := by
  have hl : j < keysL.length := hj
  refine ⟨keysL[j], List.getElem?_eq_getElem hl, ?_⟩
  rw [cell_of_row u g j _ _ (0, 0) h, ← Array.getElem?_toList, keyA_all, List.getElem?_map, List.getElem?_eq_getElem hl]
  rfl

set_option maxHeartbeats 2000000 in
theorem l5keyT (a : Option Addr) (n c : Nat) (zs : List Int) (w : World) (h : RdB w a n zs) :
    Calls Tryd.prog 33 #[.slice a n c] w fun e u => e = .returned (.bool (keyV zs)) ∧ w.grownBy u none := by
  have C0 : Hid _ := l5keysT w
  have HZ : Hid (RdB w a n zs) := h
  clear h
  go_enter Tryd.func33, Tryd.ntmps33
  go_wp2_with fail
  refine Calls.mono C0.out ?_
  rintro e u ⟨g, he, hg, hb⟩
  subst he
  have L0 : Hid (w.grownBy u none ∧ u.heap[g]? = some (.cells keyA 9 (0, 0))) := ⟨hg, hb⟩
  clear C0 hg hb
  simp only []
  go_wp2
  go_loopw [4] (fun i wr => ∃ (j : Nat), j ≤ 30 ∧ i = .int .i64 j ∧ Hid (u.grownBy wr none ∧ keyV zs = (keysL.drop j).any fun k => decide (k = zs))) (fun i _ => 30 - (intOf i).toNat)
  case atStart => exact ⟨0, Nat.zero_le _, rfl, World.grownBy.refl _ _, rfl⟩
  case round =>
    obtain ⟨j, hj, rfl, HR⟩ := hrel
    by_cases hlt : j < 30
    · obtain ⟨k, hk, hc⟩ := keys_at ((HR.out.1.block _ (lt_of_block L0.out.2) (by simp)).trans L0.out.2) hlt
      have hjl : j < keysL.length := hlt
      have hd : keysL.drop j = k :: keysL.drop (j + 1) := by
        rw [List.drop_eq_getElem_cons hjl]
        rw [List.getElem?_eq_getElem hjl] at hk
        injection hk with hk
        rw [hk]
      have hkb : Byt k := keys_byt k (List.mem_of_getElem? hk)
      have C1 : Hid _ := l5isT a n c zs (strOfNums k) wr (HZ.out.none (grown_trans L0.out.1 HR.out.1))
      rw [str_eq HZ.out.2.1 hkb] at C1
      have HV : Hid (u.grownBy wr none ∧ keyV zs = (decide (k = zs) || (keysL.drop (j + 1)).any fun k => decide (k = zs))) := ⟨HR.out.1, by rw [HR.out.2, hd]; rfl⟩
      have hlt' : (j : Int) < 30 := by omega
      generalize strOfNums k = s at *
      clear hk hd HR hkb
      go_wp2_with fail
      refine Calls.mono C1.out ?_
      rintro e v ⟨he, hg⟩
      subst he
      have HG : Hid (u.grownBy v none) := grown_trans HV.out.1 hg
      clear C1 hg hc
      simp only []
      by_cases hz : zs = k
      · have E : Hid (keyV zs = true) := by show _ = _; rw [HV.out.2]; simp [hz]
        have hd2 : decide (zs = k) = true := by simp [hz]
        rw [hd2]
        clear hz hd2
        go_wp2
        go_ret
        exact ⟨by rw [E.out]; rfl, grown_trans L0.out.1 HG.out⟩
      · have hd2 : decide (zs = k) = false := by simp [hz]
        have hz2 : ¬ k = zs := fun e => hz e.symm
        have E : Hid (keyV zs = (keysL.drop (j + 1)).any fun k => decide (k = zs)) := by show _ = _; rw [HV.out.2]; simp [hz2]
        rw [hd2]
        clear hz hd2 hz2
        go_wp2
        go_roundw
        case rel => exact ⟨j + 1, by omega, by go_num, HG.out, E.out⟩
        case measure => simp [intOf]; omega
    · obtain rfl : j = 30 := by omega
      have E : Hid (keyV zs = false ∧ u.grownBy wr none) := ⟨by rw [HR.out.2]; rfl, HR.out.1⟩
      clear HR
      go_wp2
      go_ret
      exact ⟨by rw [E.out.1]; rfl, grown_trans L0.out.1 E.out.2⟩

/-- The program's own row of key words. -/
def kwS : ByteArray := { data := (([102, 110, 32, 108, 101, 116, 32, 114, 101, 99, 32, 105, 102, 32, 112, 97, 105, 114, 32, 102, 115, 116, 32, 115, 110, 100, 32, 114, 101, 102, 32, 114, 101].append [97, 100, 32, 119, 114, 105, 116, 101, 32, 109, 97, 116, 99, 104, 32, 114, 97, 105, 115, 101, 32, 116, 114, 121, 32, 97, 100, 100, 32, 115, 117, 98, 32, 109]).append ([117, 108, 32, 108, 101, 115, 115, 32, 115, 97, 109, 101, 32, 99, 97, 116, 32, 108, 101, 110, 32, 112, 114, 105, 110, 116, 32, 116, 105, 99, 107, 32, 100, 114].append [97, 119, 32, 103, 101, 116, 32, 112, 117, 116, 32, 100, 97, 116, 97, 32, 117, 110, 105, 116, 32, 105, 110, 116, 32, 116, 101, 120, 116, 32, 102, 117, 110, 32])).toArray }
theorem kwS_eq : strOfNums kwL = kwS := by kernel_rfl
theorem kwL_len : kwL.length = 135 := by kernel_rfl

set_option maxRecDepth 100000 in
set_option maxHeartbeats 4000000 in
theorem isKeyT (a : Option Addr) (n c : Nat) (zs : List Int) (w : World) (h : RdB w a n zs) :
    Calls Tryd.prog 59 #[.slice a n c] w fun e u => e = .returned (.bool (keyV zs)) ∧ w.grownBy u none := by
  have HZ : Hid (RdB w a n zs) := h
  clear h
  obtain ⟨S, hS⟩ : ∃ S : ByteArray, S = { data := (([102, 110, 32, 108, 101, 116, 32, 114, 101, 99, 32, 105, 102, 32, 112, 97, 105, 114, 32, 102, 115, 116, 32, 115, 110, 100, 32, 114, 101, 102, 32, 114, 101].append [97, 100, 32, 119, 114, 105, 116, 101, 32, 109, 97, 116, 99, 104, 32, 114, 97, 105, 115, 101, 32, 116, 114, 121, 32, 97, 100, 100, 32, 115, 117, 98, 32, 109]).append ([117, 108, 32, 108, 101, 115, 115, 32, 115, 97, 109, 101, 32, 99, 97, 116, 32, 108, 101, 110, 32, 112, 114, 105, 110, 116, 32, 116, 105, 99, 107, 32, 100, 114].append [97, 119, 32, 103, 101, 116, 32, 112, 117, 116, 32, 100, 97, 116, 97, 32, 117, 110, 105, 116, 32, 105, 110, 116, 32, 116, 101, 120, 116, 32, 102, 117, 110, 32])).toArray } := ⟨_, rfl⟩
  have HS : Hid (strOfNums kwL = S) := by show _ = _; rw [hS]; exact kwS_eq
  have hsz : S.size = 135 := by rw [← HS.out, str_size, kwL_len]
  go_enter Tryd.func59, Tryd.ntmps59
  rw [← hS]
  clear hS
  go_wp2
  go_loopw [3] (fun b w' => ∃ (j bg : Nat) (v : World), w' = v.iter S j ∧ v.heap.size = w.heap.size ∧ Hid (w.grownBy v none) ∧ b = .int .i64 bg ∧ bg ≤ j ∧ j ≤ 135 ∧ Hid (keyV zs = scanK zs (kwL.drop j) ((kwL.drop bg).take (j - bg)))) (fun _ w' => S.size - w'.iterPos w.heap.size)
  case atStart => exact ⟨0, 0, w, rfl, rfl, World.grownBy.refl _ _, rfl, Nat.le_refl _, Nat.zero_le _, by show _ = _; rw [← scan_key]; rfl⟩
  case round =>
    obtain ⟨j, bg, v, rfl, hv, HGV, rfl, hbj, hj, HR⟩ := hrel
    by_cases hp : j < S.size
    · have hjl : j < kwL.length := by rw [kwL_len]; omega
      obtain ⟨z, hz⟩ : ∃ z, kwL[j]'hjl = z := ⟨_, rfl⟩
      have hza := kw_ascii z (by rw [← hz]; exact List.getElem_mem hjl)
      have hd : kwL.drop j = z :: kwL.drop (j + 1) := by rw [List.drop_eq_getElem_cons hjl, hz]
      have hz1 : (((S[j]'hp).toNat : Nat) : Int) = z := by
        have := HS.out
        subst this
        rw [str_at kw_byt hp, List.getD_eq_getElem?_getD, List.getElem?_eq_getElem hjl, hz]; rfl
      have hnx : ∀ ty, (Instr.next (.pointer (some ⟨w.heap.size, 0, none⟩)) true ty).run Tryd.prog (v.iter S j) = .ok (.tuple #[.bool true, .int .i64 j, .int .i32 z]) (v.iter S (j + 1)) := fun ty => by
        rw [← hv, run_next_ascii v S j ty hp (by omega), hz1]
      have GI : Hid (∀ q, w.grownBy (v.iter S q) none) := fun q => grown_trans HGV.out (World.grownBy_alloc _ _ _)
      have hjn : j < 135 := by omega
      have HV : Hid (keyV zs = if z = 32 then (decide ((kwL.drop bg).take (j - bg) = zs) || scanK zs (kwL.drop (j + 1)) []) else scanK zs (kwL.drop (j + 1)) ((kwL.drop bg).take (j - bg) ++ [z])) := by
        show _ = _
        rw [HR.out, hd]
        rfl
      have HT : Hid ((kwL.drop bg).take (j + 1 - bg) = (kwL.drop bg).take (j - bg) ++ [z]) := by
        show _ = _
        rw [show j + 1 - bg = (j - bg) + 1 by omega, List.take_add_one, List.getElem?_drop, show bg + (j - bg) = j by omega, List.getElem?_eq_getElem hjl, hz]
        rfl
      clear HR hd hz hz1 hza hjl hp
      by_cases h32 : z = 32
      · subst h32
        have E0 := HV.out
        rw [if_pos rfl] at E0
        have hcmp : ((S.extract bg j).toList == (strOfNums zs).toList) = decide ((kwL.drop bg).take (j - bg) = zs) := by
          rw [toL_beq, ← HS.out, str_extract, str_eq (byt_part kw_byt _ _) HZ.out.2.1]
        have HE : Hid (keyV zs = (decide ((kwL.drop bg).take (j - bg) = zs) || scanK zs (kwL.drop (j + 1)) [])) := E0
        clear E0 HV HT
        go_wp2_with fail
        have gd := grown_drew (GI.out (j + 1))
        have hcv : (convert 22 9 (.slice a n c)).run Tryd.prog (v.iter S (j + 1)).drew = .ok (.string (strOfNums zs)) (v.iter S (j + 1)).drew := conv_run (HZ.out.none gd).1
        have GD : Hid (w.grownBy (v.iter S (j + 1)).drew none ∧ (v.iter S (j + 1)).drew = v.drew.iter S (j + 1) ∧ w.grownBy v.drew none) := ⟨gd, rfl, grown_drew HGV.out⟩
        have hsl : ∀ x, (Instr.slice 9 (.string S) (some (.int .i64 (bg : Int))) (some (.int .i64 (j : Int))) none).run Tryd.prog x = .ok (.string (S.extract bg j)) x := fun x => by
          have := run_slice_string (P := Tryd.prog) x 9 S .i64 .i64 (bg : Int) (j : Int) Tryd.underlying9 (by omega) (by omega) (by rw [hsz]; omega)
          simpa using this
        clear gd
        refine wp_region_held_drew (S := (fun _ => True)) (by kernel_rfl) trivial (fun hH => ?_)
        generalize (v.iter S (j + 1)).drew = x0 at *
        simp only [List.size_toArray, List.length_cons, List.length_nil, Nat.reduceAdd, Array.replicate, List.replicate]
        refine wpAnyH_take (i := 0) (v := ?_) rfl (by kernel_rfl) (by kernel_rfl) (by kernel_rfl) (fun _ _ _ h => h) (Or.inl ⟨by rfl, ?_⟩) hH ?_
        rotate_left
        · (intro v hS; go_simp; try with_reducible rfl)
        simp only [Act.put, List.setIfInBounds_toArray, List.set_cons_zero, List.set_cons_succ, List.getElem_toArray, List.getElem_cons_succ, List.getElem_cons_zero]
        refine wpAnyH_take (i := 1) (v := ?_) rfl (by kernel_rfl) (by kernel_rfl) (by kernel_rfl) (fun _ _ _ h => h) (Or.inl ⟨by rfl, ?_⟩) hH ?_
        rotate_left
        · (intro v hS; go_simp; try with_reducible rfl)
        simp only [Act.put, List.setIfInBounds_toArray, List.set_cons_zero, List.set_cons_succ, List.getElem_toArray, List.getElem_cons_succ, List.getElem_cons_zero]
        refine wpAnyH_take (i := 2) (v := ?_) rfl (by kernel_rfl) (by kernel_rfl) (by kernel_rfl) (fun _ _ _ h => h) (Or.inl ⟨by rfl, ?_⟩) hH ?_
        rotate_left
        · (intro v hS; go_simp; try with_reducible rfl)
        simp only [Act.put, List.setIfInBounds_toArray, List.set_cons_zero, List.set_cons_succ, List.getElem_toArray, List.getElem_cons_succ, List.getElem_cons_zero]
        refine wpAnyH_take (i := 3) (v := ?_) rfl (by kernel_rfl) (by kernel_rfl) (by kernel_rfl) (fun _ _ _ h => h) (Or.inl ⟨by rfl, ?_⟩) hH ?_
        rotate_left
        · (intro v hS; go_simp; try with_reducible rfl)
        simp only [Act.put, List.setIfInBounds_toArray, List.set_cons_zero, List.set_cons_succ, List.getElem_toArray, List.getElem_cons_succ, List.getElem_cons_zero]
        refine wpAnyH_ready (rs := [4]) (by kernel_rfl) (by simp) ?_
        refine AllReadyH.cons rfl (fun K hK => ?_) AllReadyH.nil
        go_simp
        refine hK.out _ _ trivial (fun hH2 => ?_)
        clear hK K hH
        have hH := hH2
        clear hH2
        simp only [Act.put, List.setIfInBounds_toArray, List.set_cons_zero, List.set_cons_succ, List.getElem_toArray, List.getElem_cons_succ, List.getElem_cons_zero]
        refine wpAnyH_take (i := 5) (v := ?_) rfl (by kernel_rfl) (by kernel_rfl) (by kernel_rfl) (fun _ _ _ h => h) (Or.inl ⟨by rfl, ?_⟩) hH ?_
        rotate_left
        · (intro v hS; go_simp; try with_reducible rfl)
        simp only [Act.put, List.setIfInBounds_toArray, List.set_cons_zero, List.set_cons_succ, List.getElem_toArray, List.getElem_cons_succ, List.getElem_cons_zero]
        refine wpAnyH_done (by kernel_rfl) ?_ _
        clear hH
        by_cases hcur : (kwL.drop bg).take (j - bg) = zs
        · have E2 : Hid (keyV zs = true) := by show _ = _; rw [HE.out]; simp [hcur]
          have hc2 : decide ((kwL.drop bg).take (j - bg) = zs) = true := by simp [hcur]
          rw [hc2]
          clear hcmp hc2 hcv hsl hcur
          go_wp2
          go_ret
          exact ⟨by rw [E2.out]; rfl, GD.out.1⟩
        · have E2 : Hid (keyV zs = scanK zs (kwL.drop (j + 1)) []) := by show _ = _; rw [HE.out]; simp [hcur]
          have hc2 : decide ((kwL.drop bg).take (j - bg) = zs) = false := by simp [hcur]
          rw [hc2]
          clear hcmp hc2 hcv hsl hcur
          go_wp2
          go_roundw
          case rel => exact ⟨j + 1, j + 1, v.drew, GD.out.2.1, hv, GD.out.2.2, by go_num, by omega, by omega, by show _ = _; rw [E2.out, Nat.sub_self, List.take_zero]⟩
          case measure =>
            rw [GD.out.2.1, ← hv]
            have e1 : (v.drew.iter S (j + 1)).iterPos v.heap.size = j + 1 := World.iterPos_iter v.drew S (j + 1)
            have e2 : (v.iter S j).iterPos v.heap.size = j := World.iterPos_iter v S j
            rw [e1, e2]
            omega
      · have HE : Hid (keyV zs = scanK zs (kwL.drop (j + 1)) ((kwL.drop bg).take (j + 1 - bg))) := by
          show _ = _
          rw [HT.out]
          have := HV.out
          rw [if_neg h32] at this
          exact this
        clear HV HT
        go_wp2
        go_roundw
        case rel => exact ⟨j + 1, bg, v, rfl, hv, HGV, rfl, by omega, by omega, HE.out⟩
        case measure => rw [← hv]; simp; omega
    · have hnx : ∀ ty, (Instr.next (.pointer (some ⟨w.heap.size, 0, none⟩)) true ty).run Tryd.prog (v.iter S j) = .ok (.tuple #[.bool false]) (v.iter S j) := fun ty => by rw [← hv]; exact run_next_end v S j ty hp
      obtain rfl : j = 135 := by omega
      have HV : Hid (keyV zs = false ∧ w.grownBy (v.iter S 135) none) := ⟨by rw [HR.out, List.drop_eq_nil_of_le (by rw [kwL_len]; exact Nat.le_refl _)]; rfl, grown_trans HGV.out (World.grownBy_alloc _ _ _)⟩
      clear HR
      go_wp2
      go_ret
      exact ⟨by rw [HV.out.1]; rfl, HV.out.2⟩

/-- A name. -/
def nameV (zs : List Int) : Bool := wordV 97 122 zs && !keyV zs

set_option maxHeartbeats 1000000 in
theorem isNameT (a : Option Addr) (n c : Nat) (zs : List Int) (w : World) (h : RdB w a n zs) :
    Calls Tryd.prog 50 #[.slice a n c] w fun e u => e = .returned (.bool (nameV zs)) ∧ w.grownBy u none := by
  have C0 : Hid _ := isSmallT a n c zs w h
  have HZ : Hid (RdB w a n zs) := h
  clear h
  go_enter Tryd.func50, Tryd.ntmps50
  go_wp2_with fail
  refine Calls.mono C0.out ?_
  rintro e u ⟨he, hg⟩
  subst he
  have G1 : Hid (w.grownBy u none) := hg
  clear C0 hg
  simp only []
  cases hw : wordV 97 122 zs with
  | false =>
    have E : Hid (nameV zs = false) := by show _ = _; unfold nameV; rw [hw]; rfl
    clear hw
    go_wp2
    go_ret
    exact ⟨by rw [E.out]; rfl, G1.out⟩
  | true =>
    have C1 : Hid _ := isKeyT a n c zs u (HZ.out.none G1.out)
    have E : Hid (nameV zs = !keyV zs) := by show _ = _; unfold nameV; rw [hw]; rfl
    clear hw
    go_wp2_with fail
    refine Calls.mono C1.out ?_
    rintro e v ⟨he, hg⟩
    subst he
    have G2 : Hid (w.grownBy v none) := grown_trans G1.out hg
    clear C1 hg
    simp only []
    go_wp2
    go_ret
    exact ⟨by rw [E.out]; rfl, G2.out⟩
end Go.Proofs.YtjjaocoahepdaaaDoor.By
