/-
  Types behind what the writer has. No statement is proved here.
-/
import Derived.Test.YtpdkgmagjhibkaaGreatDoorQA
namespace Go.Proofs.YtpdkgmagjhibkaaGreatDoor.By
open Go.RowKit
set_option linter.unusedVariables false
set_option linter.unusedSimpArgs false



theorem InF.skip {w : World} : ∀ {P R : F} {b off : Nat}, InF w (P.app R) b off → InF w R b (off + P.len * 3)
  | .nil, R, b, off, h => by simpa [F.app, F.len] using h
  | .cons k n d r, R, b, off, h => by
    have := InF.skip (P := r) h.2
    rw [show off + (F.cons k n d r).len * 3 = off + 3 + r.len * 3 by simp only [F.len]; omega]
    exact this
def tysB : F → List Int
  | .nil => []
  | .cons k n d r => bytesV k n d ++ tysB r
theorem tysB_app (a b : F) : tysB (a.app b) = tysB a ++ tysB b := by
  induction a with
  | nil => rfl
  | cons k n d r _ ih => simp [tysB, F.app, ih]
theorem tysB_len (f : F) : (tysB f).length ≤ 660 * f.len := by
  induction f with
  | nil => simp [tysB]
  | cons k n d r _ ih => have := bytesV_len k n d; simp only [tysB, List.length_append, F.len]; omega
theorem OwB.cap0 {B n c : Nat} {w : World} {a : Option Addr} {zs : List Int} (h : OwB B w a n c zs) : a = none → c = 0 := by
  rintro rfl
  rcases h.1.2 with ⟨e, _⟩ | ⟨g, cap, cur, e, _⟩
  · injection e
  · injection e with e1
    cases e1


set_option maxRecDepth 8000 in
set_option maxHeartbeats 4000000 in
theorem typesT (B q : Nat) (v : Value) (zs : List Int) (ns : F) (a : Option Addr) (l c : Nat) (w : World) (h : WrS B q w v zs) (hR : ∀ u, FrQ B q w u → SlF u a l ns) (hb : zs.length + 660 * l ≤ 90000000) :
    Calls Tryz.prog 59 #[.pointer (some ⟨q, 0, none⟩), .slice a l c] w fun e u => e = .returned (.tuple #[]) ∧ ∃ v', WrS B q u v' (zs ++ tysB ns) ∧ FrQ B q w u := by
  have hl := (hR w (FrQ.refl _ _ _)).2.1
  have hfl := (hR w (FrQ.refl _ _ _)).1
  have HR0 : Hid (∀ u, FrQ B q w u → SlF u a l ns) := hR
  have HW0 : Hid (WrS B q w v zs) := h
  clear hR h
  go_enter Tryz.func59, Tryz.ntmps59
  go_wp2
  go_loopw [8] (fun i wr => ∃ (j : Nat) (pre R : F) (v1 : Value), j ≤ l ∧ i = .int .i64 j ∧ R.len + j = l ∧ Hid (WrS B q wr v1 (zs ++ tysB pre) ∧ FrQ B q w wr ∧ pre.app R = ns)) (fun i _ => l - (intOf i).toNat)
  case atStart => exact ⟨0, .nil, ns, v, Nat.zero_le _, rfl, by omega, by simpa [tysB] using HW0.out, FrQ.refl _ _ _, rfl⟩
  case round =>
    clear HW0
    obtain ⟨j, pre, R, v0, hj, rfl, hRl, HR⟩ := hrel
    by_cases hlt : j < l
    · obtain ⟨q1, hq1⟩ : ∃ q1, R.len = q1 + 1 := ⟨R.len - 1, by omega⟩
      obtain ⟨kk, nn, d', R', rfl, hR'⟩ := F.cons_of_len hq1
      obtain ⟨hW, hF, hcs⟩ := HR.out
      have hpl : pre.len = j := by have := congrArg F.len hcs; rw [F.app_len] at this; omega
      obtain ⟨b, o, rfl, hc⟩ : ∃ b o, a = some ⟨b, o, none⟩ ∧ InF wr ns b o := by
        rcases (HR0.out _ hF).2.2 with h | h
        · omega
        · exact h
      rw [← hcs] at hc
      obtain ⟨a', l', c', c0, c1, c2', hd, -⟩ := (InF.skip hc).out
      rw [hpl] at c0 c1 c2'
      have ga := World.grownBy_alloc wr (.cells #[.int .i64 kk, .int .i64 nn, .slice a' l' c'] 60) none
      have ba := heap_alloc_new wr (.cells #[.int .i64 kk, .int .i64 nn, .slice a' l' c'] 60)
      simp only [F.len] at hRl
      have hn5 := tysB_len pre
      obtain ⟨zs0, hzs⟩ : ∃ zs0, zs ++ tysB pre = zs0 := ⟨_, rfl⟩
      have HBD : Hid (zs0.length + 660 ≤ 90000000 ∧ (bytesV kk nn d').length ≤ 660) := ⟨by rw [← hzs]; simp only [List.length_append]; omega, bytesV_len kk nn d'⟩
      rw [hzs] at hW
      have FX : Hid (FrQ B q w wr ∧ (pre.app (.cons kk nn d' .nil)).app R' = ns ∧ zs ++ tysB (pre.app (.cons kk nn d' .nil)) = zs0 ++ bytesV kk nn d') := ⟨hF, by rw [F.app_assoc]; exact hcs, by rw [tysB_app, ← List.append_assoc, hzs]; simp [tysB]⟩
      have hqn : q ≠ wr.heap.size := by have := lt_of_block hW.box; omega
      have HT : Hid (SlF (wr.alloc (.cells #[.int .i64 kk, .int .i64 nn, .slice a' l' c'] 60)) a' l' d') := hd.none ga
      have hsz := hW.size
      have hW := hW.grown ga
      have FX1 : Hid (FrQ B q w (wr.alloc (.cells #[.int .i64 kk, .int .i64 nn, .slice a' l' c'] 60))) := hF.trans (FrQ.grown ga hsz)
      clear hF hcs hc HR hzs hn5 hd ga
      obtain ⟨wr0, hwr0⟩ : ∃ w0, w0 = (wr.alloc (.cells #[.int .i64 kk, .int .i64 nn, .slice a' l' c'] 60)).drew := ⟨_, rfl⟩
      have gd := grown_drew (World.grownBy.refl (wr.alloc (.cells #[.int .i64 kk, .int .i64 nn, .slice a' l' c'] 60)) none)
      have hW1 : WrS B q wr0 v0 zs0 := by rw [hwr0]; exact hW.grown gd
      have FY : Hid (FrQ B q w wr0) := by rw [hwr0]; exact FX1.out.trans (FrQ.grown gd hW.size)
      have BA : Hid (wr0.heap[wr.heap.size]? = some (Obj.cells #[.int .i64 kk, .int .i64 nn, .slice a' l' c'] 60)) := by rw [hwr0]; exact (gd.block _ (lt_of_block ba) (by simp)).trans ba
      have HT1 : Hid (SlF wr0 a' l' d') := by rw [hwr0]; exact HT.out.none gd
      have CC : Hid (∀ u, wr0.grownBy u none → _) := fun u hu => implTyBytesT d' kk nn a' l' c' u (HT1.out.none hu)
      have SK : Hid (∀ u, FrQ B q wr0 u → (fun u : World => u.cell? ⟨wr.heap.size, 0, none⟩ = some (.int .i64 kk) ∧ u.cell? ⟨wr.heap.size, 1, none⟩ = some (.int .i64 nn) ∧ u.cell? ⟨wr.heap.size, 2, none⟩ = some (.slice a' l' c')) u) := fun u hu => (three (hu.other _ _ _ _ BA.out (by decide) (fun e => hqn e.symm))).1
      have HW1 : Hid (WrS B q wr0 v0 zs0) := hW1
      clear hW hW1 gd ba HT FX1 hqn
      go_upto_region 3 with fail
      clear c0 c1 c2'
      generalize wr.heap.size = p9 at *
      refine wp_region_held_drew (S := (fun u : World => u.cell? ⟨p9, 0, none⟩ = some (.int .i64 kk) ∧ u.cell? ⟨p9, 1, none⟩ = some (.int .i64 nn) ∧ u.cell? ⟨p9, 2, none⟩ = some (.slice a' l' c'))) (by kernel_rfl) (by rw [← hwr0]; exact SK.out _ (FrQ.refl _ _ _)) (fun hH => ?_)
      rw [← hwr0] at hH ⊢
      clear hwr0 BA
      simp only [List.size_toArray, List.length_cons, List.length_nil, Nat.reduceAdd, Array.replicate, List.replicate]
      refine wpAnyH_take (i := 0) (v := ?_) rfl (by kernel_rfl) (by kernel_rfl) (by kernel_rfl) (fun _ _ _ h => h) (Or.inl ⟨by rfl, ?_⟩) hH ?_
      rotate_left
      · (intro v hS; obtain ⟨s0, s1, s2⟩ := hS; go_simp; try with_reducible rfl)
      simp only [Act.put, List.setIfInBounds_toArray, List.set_cons_zero, List.set_cons_succ, List.getElem_toArray, List.getElem_cons_succ, List.getElem_cons_zero]
      refine wpAnyH_take (i := 1) (v := ?_) rfl (by kernel_rfl) (by kernel_rfl) (by kernel_rfl) (fun _ _ _ h => h) (Or.inl ⟨by rfl, ?_⟩) hH ?_
      rotate_left
      · (intro v hS; obtain ⟨s0, s1, s2⟩ := hS; go_simp; try with_reducible rfl)
      simp only [Act.put, List.setIfInBounds_toArray, List.set_cons_zero, List.set_cons_succ, List.getElem_toArray, List.getElem_cons_succ, List.getElem_cons_zero]
      refine wpAnyH_take (i := 2) (v := ?_) rfl (by kernel_rfl) (by kernel_rfl) (by kernel_rfl) (fun _ _ _ h => h) (Or.inl ⟨by rfl, ?_⟩) hH ?_
      rotate_left
      · (intro v hS; obtain ⟨s0, s1, s2⟩ := hS; go_simp; try with_reducible rfl)
      simp only [Act.put, List.setIfInBounds_toArray, List.set_cons_zero, List.set_cons_succ, List.getElem_toArray, List.getElem_cons_succ, List.getElem_cons_zero]
      refine wpAnyH_take (i := 3) (v := ?_) rfl (by kernel_rfl) (by kernel_rfl) (by kernel_rfl) (fun _ _ _ h => h) (Or.inl ⟨by rfl, ?_⟩) hH ?_
      rotate_left
      · (intro v hS; obtain ⟨s0, s1, s2⟩ := hS; go_simp; try with_reducible rfl)
      simp only [Act.put, List.setIfInBounds_toArray, List.set_cons_zero, List.set_cons_succ, List.getElem_toArray, List.getElem_cons_succ, List.getElem_cons_zero]
      refine wpAnyH_take (i := 5) (v := ?_) rfl (by kernel_rfl) (by kernel_rfl) (by kernel_rfl) (fun _ _ _ h => h) (Or.inl ⟨by rfl, ?_⟩) hH ?_
      rotate_left
      · (intro v hS; obtain ⟨s0, s1, s2⟩ := hS; go_simp; try with_reducible rfl)
      simp only [Act.put, List.setIfInBounds_toArray, List.set_cons_zero, List.set_cons_succ, List.getElem_toArray, List.getElem_cons_succ, List.getElem_cons_zero]
      refine wpAnyH_ready (rs := [4, 6]) (by kernel_rfl) (by simp) ?_
      refine AllReadyH.cons rfl (fun K hK => ?_) (AllReadyH.cons rfl (fun K hK => ?_) AllReadyH.nil)
      · obtain ⟨cb, -⟩ := HW1.out.cell
        go_simp
        refine hK.out _ _ (SK.out _ (FrQ.refl _ _ _)) (fun hH2 => ?_)
        clear hK K hH
        have hH := hH2
        clear hH2
        simp only [Act.put, List.setIfInBounds_toArray, List.set_cons_zero, List.set_cons_succ, List.getElem_toArray, List.getElem_cons_succ, List.getElem_cons_zero]
        clear cb
        refine wpAnyH_ready (rs := [6]) (by kernel_rfl) (by simp) ?_
        refine AllReadyH.cons rfl (fun K hK => ?_) AllReadyH.nil
        go_simp
        refine Calls.mono (CC.out wr0 (World.grownBy.refl _ _)) ?_
        rintro e u1 ⟨a9, c9', he, hg, hr9⟩
        subst he
        have AL : Hid (WrS B q u1 v0 zs0 ∧ Reads u1 a9 (bytesV kk nn d').length (bytesV kk nn d') ∧ (a9 = none → c9' = 0) ∧ FrQ B q wr0 u1) := ⟨HW1.out.grown hg, hr9.reads, hr9.cap0, FrQ.grown hg HW1.out.size⟩
        clear CC HW1 hg hr9
        refine hK.out _ _ (SK.out _ AL.out.2.2.2) (fun hH2 => ?_)
        clear hK K hH
        have hH := hH2
        clear hH2
        simp only [Act.put, List.setIfInBounds_toArray, List.set_cons_zero, List.set_cons_succ, List.getElem_toArray, List.getElem_cons_succ, List.getElem_cons_zero]
        have AW := AL.out
        obtain ⟨i0, hi, hz0, hz1, hz2⟩ := info_parts info5
        refine wpAnyH_ready (rs := [7]) (by kernel_rfl) (by simp) ?_
        refine AllReadyH.cons rfl (fun K hK => ?_) AllReadyH.nil
        refine step_ofQ rfl (wp_appQ _ _ 36 rfl B i0 (.int .u8 0) Tryz.underlying36 hi hz0 hz1 hz2 rfl _ _ _ rfl AW.1.own _ _ _ (bytesV kk nn d') rfl AW.2.1 AW.2.2.1 (by have := AW.2.1.1; have := HBD.out; omega) AW.1.size ?_)
        intro v2 u2 o2 g2 n2
        have nv2 : v2 ≠ .slice none 0 0 := n2 AW.1.nn
        have o2' : OwnQ B u2 v2 (zs0.length + (bytesV kk nn d').length) (zs0 ++ (bytesV kk nn d')) := by rw [AW.2.1.1]; exact o2
        obtain ⟨g9, cp9, rfl⟩ := o2'.form nv2
        obtain ⟨bx, fr, w2, f2⟩ := AW.1.next o2' g2 nv2
        have cb : u2.cell? ⟨q, 0, none⟩ = some v0 := by rw [cell_of_row u2 q 0 _ _ (0, 0) bx]; rfl
        have fz := frozen_of_row u2 q 0 _ _ bx
        have AM : Hid (WrS B q (u2.setCell ⟨q, 0, none⟩ (.slice (some ⟨g9, 0, none⟩) (zs0.length + (bytesV kk nn d').length) cp9)) (.slice (some ⟨g9, 0, none⟩) (zs0.length + (bytesV kk nn d').length) cp9) (zs0 ++ (bytesV kk nn d')) ∧ FrQ B q wr0 (u2.setCell ⟨q, 0, none⟩ (.slice (some ⟨g9, 0, none⟩) (zs0.length + (bytesV kk nn d').length) cp9))) := ⟨w2, AW.2.2.2.trans f2⟩
        have S1 : Hid ((fun u : World => u.cell? ⟨p9, 0, none⟩ = some (.int .i64 kk) ∧ u.cell? ⟨p9, 1, none⟩ = some (.int .i64 nn) ∧ u.cell? ⟨p9, 2, none⟩ = some (.slice a' l' c')) u2) := SK.out _ (AW.2.2.2.trans fr.q)
        have S2 : Hid ((fun u : World => u.cell? ⟨p9, 0, none⟩ = some (.int .i64 kk) ∧ u.cell? ⟨p9, 1, none⟩ = some (.int .i64 nn) ∧ u.cell? ⟨p9, 2, none⟩ = some (.slice a' l' c')) (u2.setCell ⟨q, 0, none⟩ (.slice (some ⟨g9, 0, none⟩) (zs0.length + (bytesV kk nn d').length) cp9))) := SK.out _ AM.out.2
        clear AL AW o2 o2' g2 n2 nv2 bx fr w2 f2 hi hz0 hz1 hz2 i0
        refine hK.out _ _ S1.out (fun hH2 => ?_)
        clear hK K hH
        have hH := hH2
        clear hH2
        simp only [Act.put, List.setIfInBounds_toArray, List.set_cons_zero, List.set_cons_succ, List.getElem_toArray, List.getElem_cons_succ, List.getElem_cons_zero]
        refine wpAnyH_take (i := 8) (v := ?_) rfl (by kernel_rfl) (by kernel_rfl) (by kernel_rfl) (fun _ _ _ h => h) (Or.inl ⟨by rfl, ?_⟩) hH ?_
        rotate_left
        · (intro v hS; go_simp; try with_reducible rfl)
        simp only [Act.put, List.setIfInBounds_toArray, List.set_cons_zero, List.set_cons_succ, List.getElem_toArray, List.getElem_cons_succ, List.getElem_cons_zero]
        refine wpAnyH_take (i := 9) (v := ?_) rfl (by kernel_rfl) (by kernel_rfl) (by kernel_rfl) (fun _ _ _ h => h) (Or.inl ⟨by rfl, ?_⟩) hH ?_
        rotate_left
        · (intro v hS; go_simp; try with_reducible rfl)
        simp only [Act.put, List.setIfInBounds_toArray, List.set_cons_zero, List.set_cons_succ, List.getElem_toArray, List.getElem_cons_succ, List.getElem_cons_zero]
        refine wpAnyH_ready (rs := [10]) (by kernel_rfl) (by simp) ?_
        refine AllReadyH.cons rfl (fun K hK => ?_) AllReadyH.nil
        go_simp
        refine hK.out _ _ S2.out (fun hH2 => ?_)
        clear hK K hH hH2 S1 S2 cb fz
        simp only [Act.put, List.setIfInBounds_toArray, List.set_cons_zero, List.set_cons_succ, List.getElem_toArray, List.getElem_cons_succ, List.getElem_cons_zero]
        refine wpAnyH_done (by kernel_rfl) ?_ _
        go_wp2
        go_roundw
        case rel => exact ⟨j + 1, pre.app (.cons kk nn d' .nil), R', _, by omega, by go_num, by omega, by rw [FX.out.2.2]; exact AM.out.1, FY.out.trans AM.out.2, FX.out.2.1⟩
        case measure => simp [intOf]; omega
      · go_simp
        refine Calls.mono (CC.out wr0 (World.grownBy.refl _ _)) ?_
        rintro e u1 ⟨a9, c9', he, hg, hr9⟩
        subst he
        have AL : Hid (WrS B q u1 v0 zs0 ∧ Reads u1 a9 (bytesV kk nn d').length (bytesV kk nn d') ∧ (a9 = none → c9' = 0) ∧ FrQ B q wr0 u1) := ⟨HW1.out.grown hg, hr9.reads, hr9.cap0, FrQ.grown hg HW1.out.size⟩
        clear CC HW1 hg hr9
        refine hK.out _ _ (SK.out _ AL.out.2.2.2) (fun hH2 => ?_)
        clear hK K hH
        have hH := hH2
        clear hH2
        simp only [Act.put, List.setIfInBounds_toArray, List.set_cons_zero, List.set_cons_succ, List.getElem_toArray, List.getElem_cons_succ, List.getElem_cons_zero]
        obtain ⟨cb, -⟩ := AL.out.1.cell
        refine wpAnyH_ready (rs := [4]) (by kernel_rfl) (by simp) ?_
        refine AllReadyH.cons rfl (fun K hK => ?_) AllReadyH.nil
        go_simp
        refine hK.out _ _ (SK.out _ AL.out.2.2.2) (fun hH2 => ?_)
        clear hK K hH
        have hH := hH2
        clear hH2
        simp only [Act.put, List.setIfInBounds_toArray, List.set_cons_zero, List.set_cons_succ, List.getElem_toArray, List.getElem_cons_succ, List.getElem_cons_zero]
        clear cb
        have AW := AL.out
        obtain ⟨i0, hi, hz0, hz1, hz2⟩ := info_parts info5
        refine wpAnyH_ready (rs := [7]) (by kernel_rfl) (by simp) ?_
        refine AllReadyH.cons rfl (fun K hK => ?_) AllReadyH.nil
        refine step_ofQ rfl (wp_appQ _ _ 36 rfl B i0 (.int .u8 0) Tryz.underlying36 hi hz0 hz1 hz2 rfl _ _ _ rfl AW.1.own _ _ _ (bytesV kk nn d') rfl AW.2.1 AW.2.2.1 (by have := AW.2.1.1; have := HBD.out; omega) AW.1.size ?_)
        intro v2 u2 o2 g2 n2
        have nv2 : v2 ≠ .slice none 0 0 := n2 AW.1.nn
        have o2' : OwnQ B u2 v2 (zs0.length + (bytesV kk nn d').length) (zs0 ++ (bytesV kk nn d')) := by rw [AW.2.1.1]; exact o2
        obtain ⟨g9, cp9, rfl⟩ := o2'.form nv2
        obtain ⟨bx, fr, w2, f2⟩ := AW.1.next o2' g2 nv2
        have cb : u2.cell? ⟨q, 0, none⟩ = some v0 := by rw [cell_of_row u2 q 0 _ _ (0, 0) bx]; rfl
        have fz := frozen_of_row u2 q 0 _ _ bx
        have AM : Hid (WrS B q (u2.setCell ⟨q, 0, none⟩ (.slice (some ⟨g9, 0, none⟩) (zs0.length + (bytesV kk nn d').length) cp9)) (.slice (some ⟨g9, 0, none⟩) (zs0.length + (bytesV kk nn d').length) cp9) (zs0 ++ (bytesV kk nn d')) ∧ FrQ B q wr0 (u2.setCell ⟨q, 0, none⟩ (.slice (some ⟨g9, 0, none⟩) (zs0.length + (bytesV kk nn d').length) cp9))) := ⟨w2, AW.2.2.2.trans f2⟩
        have S1 : Hid ((fun u : World => u.cell? ⟨p9, 0, none⟩ = some (.int .i64 kk) ∧ u.cell? ⟨p9, 1, none⟩ = some (.int .i64 nn) ∧ u.cell? ⟨p9, 2, none⟩ = some (.slice a' l' c')) u2) := SK.out _ (AW.2.2.2.trans fr.q)
        have S2 : Hid ((fun u : World => u.cell? ⟨p9, 0, none⟩ = some (.int .i64 kk) ∧ u.cell? ⟨p9, 1, none⟩ = some (.int .i64 nn) ∧ u.cell? ⟨p9, 2, none⟩ = some (.slice a' l' c')) (u2.setCell ⟨q, 0, none⟩ (.slice (some ⟨g9, 0, none⟩) (zs0.length + (bytesV kk nn d').length) cp9))) := SK.out _ AM.out.2
        clear AL AW o2 o2' g2 n2 nv2 bx fr w2 f2 hi hz0 hz1 hz2 i0
        refine hK.out _ _ S1.out (fun hH2 => ?_)
        clear hK K hH
        have hH := hH2
        clear hH2
        simp only [Act.put, List.setIfInBounds_toArray, List.set_cons_zero, List.set_cons_succ, List.getElem_toArray, List.getElem_cons_succ, List.getElem_cons_zero]
        refine wpAnyH_take (i := 8) (v := ?_) rfl (by kernel_rfl) (by kernel_rfl) (by kernel_rfl) (fun _ _ _ h => h) (Or.inl ⟨by rfl, ?_⟩) hH ?_
        rotate_left
        · (intro v hS; go_simp; try with_reducible rfl)
        simp only [Act.put, List.setIfInBounds_toArray, List.set_cons_zero, List.set_cons_succ, List.getElem_toArray, List.getElem_cons_succ, List.getElem_cons_zero]
        refine wpAnyH_take (i := 9) (v := ?_) rfl (by kernel_rfl) (by kernel_rfl) (by kernel_rfl) (fun _ _ _ h => h) (Or.inl ⟨by rfl, ?_⟩) hH ?_
        rotate_left
        · (intro v hS; go_simp; try with_reducible rfl)
        simp only [Act.put, List.setIfInBounds_toArray, List.set_cons_zero, List.set_cons_succ, List.getElem_toArray, List.getElem_cons_succ, List.getElem_cons_zero]
        refine wpAnyH_ready (rs := [10]) (by kernel_rfl) (by simp) ?_
        refine AllReadyH.cons rfl (fun K hK => ?_) AllReadyH.nil
        go_simp
        refine hK.out _ _ S2.out (fun hH2 => ?_)
        clear hK K hH hH2 S1 S2 cb fz
        simp only [Act.put, List.setIfInBounds_toArray, List.set_cons_zero, List.set_cons_succ, List.getElem_toArray, List.getElem_cons_succ, List.getElem_cons_zero]
        refine wpAnyH_done (by kernel_rfl) ?_ _
        go_wp2
        go_roundw
        case rel => exact ⟨j + 1, pre.app (.cons kk nn d' .nil), R', _, by omega, by go_num, by omega, by rw [FX.out.2.2]; exact AM.out.1, FY.out.trans AM.out.2, FX.out.2.1⟩
        case measure => simp [intOf]; omega
    · obtain rfl : j = l := by omega
      obtain rfl : R = .nil := F.nil_of_len (by omega)
      obtain ⟨hW, hF, hcs⟩ := HR.out
      rw [F.app_nil] at hcs
      subst hcs
      have FQ : Hid (WrS B q wr v0 (zs ++ tysB pre) ∧ FrQ B q w wr) := ⟨hW, hF⟩
      clear hW hF HR
      go_wp2
      (try simp only [Exit.inBlock, Exit.then])
      refine bodyPost_end (results_noneQ (P := Tryz.prog) Tryz.results59 _ _) rfl ?_
      exact ⟨rfl, v0, FQ.out.1, FQ.out.2⟩
end Go.Proofs.YtpdkgmagjhibkaaGreatDoor.By
