/-
  The contract of the specification's DrawPutText, for this seat's proofs. No statement is proved here.
-/
import Derived.Test.YtonmcndedbmbfaaDrawG
import Derived.Deep.RegionHeld
namespace Go.Proofs.Ytonmcndedbmbfaa.By
open Go.RowKit
set_option linter.unusedVariables false
set_option linter.unusedSimpArgs false

theorem byt_zeros (k : Nat) : Byt (List.replicate k 0) := fun z hz => by rw [List.mem_replicate] at hz; omega
theorem mine_made (w : World) (k B : Nat) (hB : B ≤ w.heap.size) (hk : k ≤ 4194304) : Mine (w.alloc (.cells (vals (List.replicate k 0)).toArray 5)) B (.slice (some ⟨w.heap.size, 0, none⟩) k k) (List.replicate k 0) := by
  have h := row_of (n := k) (heap_alloc_new w (.cells (vals (List.replicate k 0)).toArray 5)) (List.length_replicate)
  have m := mine_row h (byt_zeros k) hB (by simp [maxLen]; omega)
  rwa [List.length_replicate] at m

set_option maxHeartbeats 2000000 in
theorem drawPutTextT (a : Option Addr) (n cap : Nat) (zs : List Int) (w : World) (hr : Reads w a n zs) (hz : Byt zs) (hn : n ≤ 9223372036854775807) :
    Calls Try.prog 7 #[.slice a n cap] w fun e w' => ∃ v ys v2 ts, e = .returned (.tuple #[v, v2]) ∧ ys.length ≤ 6 ∧ ts.length ≤ 41 ∧ Mine w' w.heap.size v ys ∧ Mine w' w.heap.size v2 ts ∧ w.grownBy w' none := by
  have HO : Hid (∀ w1 g, Cur w w1 g a n cap → ∀ m : Int, 0 < m → m ≤ 9223372036854775807 → Calls Try.prog 24 #[.pointer (some ⟨g, 0, none⟩), .int .i64 m] w1 fun e w' => ∃ x : Bool, e = .returned (.bool x) ∧ Kept w w1 w' g a n cap) := fun w1 g hc m hm hm1 => onceT w w1 g a n cap zs hr hz hn hc m hm hm1
  have HB : Hid (∀ w1 g, Cur w w1 g a n cap → ∀ m : Int, 0 < m → m ≤ 9223372036854775807 → Calls Try.prog 26 #[.pointer (some ⟨g, 0, none⟩), .int .i64 m] w1 fun e w' => ∃ x, e = .returned (.int .i64 x) ∧ 0 ≤ x ∧ x < m ∧ Kept w w1 w' g a n cap) := fun w1 g hc m hm hm1 => belowT w w1 g a n cap zs hr hz hn hc m hm hm1
  have HS : Hid (∀ w1 g, Cur w w1 g a n cap → ∀ m : Int, 0 ≤ m → m ≤ 100 → Calls Try.prog 25 #[.pointer (some ⟨g, 0, none⟩), .int .i64 m] w1 fun e w' => ∃ v ys, e = .returned v ∧ (ys.length : Int) ≤ m ∧ Mine w' w1.heap.size v ys ∧ Kept w w1 w' g a n cap) := fun w1 g hc m hm hm1 => someT w w1 g a n cap zs hr hz hn hc m hm hm1
  have hN := newT a n cap zs w hr hz hn
  clear hr hz
  go_enter Try.func7, Try.ntmps7
  go_wp2_with fail
  refine hN.mono ?_
  rintro e w1 ⟨g, rfl, hc, hg⟩
  have K1 : Hid (Cur w w1 g a n cap ∧ w.heap.size ≤ w1.heap.size) := ⟨hc, hg.size⟩
  clear hN hc hg
  simp only []
  go_wp2_with fail
  refine (HO.out w1 g K1.out.1 8 (by omega) (by omega)).mono ?_
  rintro e w2 ⟨xb, rfl, hk2⟩
  have K2 : Hid (Cur w w2 g a n cap ∧ w.heap.size ≤ w2.heap.size) := ⟨hk2.1, Nat.le_trans K1.out.2 hk2.2.size⟩
  clear K1 hk2
  cases xb with
  | false =>
    simp only []
    go_wp2_with fail
    refine (HS.out w2 g K2.out.1 6 (by omega) (by omega)).mono ?_
    rintro e w3 ⟨v, ys, rfl, hy, hm3, hk3⟩
    have M3 : Hid (Mine w3 w2.heap.size v ys) := hm3
    have K3 : Hid (Kept w w2 w3 g a n cap) := hk3
    clear hm3 hk3
    simp only []
    go_wp2_with fail
    refine (HS.out w3 g K3.out.1 12 (by omega) (by omega)).mono ?_
    rintro e w4 ⟨v2, ts, rfl, ht, hm4, hk4⟩
    have M4 : Hid (Mine w4 w.heap.size v ys) := (M3.out.kept hk4.2 (by intro k hk; cases hk; exact K2.out.1.lt)).mono K2.out.2
    have M5 : Hid (Mine w4 w.heap.size v2 ts) := hm4.mono (Nat.le_trans K2.out.2 K3.out.2.size)
    have G4 : Hid (w.grownBy w4 none) := grown_below hk4.1.2.1
    clear M3 K3 hm4 hk4 K2
    simp only []
    go_wp2
    go_ret2
    exact ⟨v, ys, v2, ts, rfl, by omega, by omega, M4.out, M5.out, G4.out⟩
  | true =>
    simp only []
    go_wp2_with fail
    have K2d : Hid (Cur w w2.drew g a n cap ∧ w.heap.size ≤ w2.drew.heap.size) := ⟨K2.out.1.none (grown_drewN w2 1 none), K2.out.2⟩
    refine wp_region_held_drew (S := fun _ => True) (by kernel_rfl) trivial (fun hH => ?_)
    clear K2
    generalize w2.drew = u at *
    simp only [List.size_toArray, List.length_cons, List.length_nil, Nat.reduceAdd, Array.replicate, List.replicate]
    refine wpAnyH_take (i := 0) (v := ?_) rfl (by kernel_rfl) (by kernel_rfl) (by kernel_rfl) (fun _ _ _ h => h) (Or.inl ⟨by rfl, ?_⟩) hH ?_
    rotate_left
    · (intro v hS; go_simp; try with_reducible rfl)
    simp only [Act.put, List.setIfInBounds_toArray, List.set_cons_zero, List.set_cons_succ, List.getElem_toArray, List.getElem_cons_succ, List.getElem_cons_zero]
    refine wpAnyH_take (i := 2) (v := ?_) rfl (by kernel_rfl) (by kernel_rfl) (by kernel_rfl) (fun _ _ _ h => h) (Or.inl ⟨by rfl, ?_⟩) hH ?_
    rotate_left
    · (intro v hS; go_simp; try with_reducible rfl)
    simp only [Act.put, List.setIfInBounds_toArray, List.set_cons_zero, List.set_cons_succ, List.getElem_toArray, List.getElem_cons_succ, List.getElem_cons_zero]
    refine wpAnyH_ready (rs := [1]) (by kernel_rfl) (by simp) ?_
    refine AllReadyH.cons rfl (fun K hK => ?_) AllReadyH.nil
    go_simp
    refine (HS.out u g K2d.out.1 6 (by omega) (by omega)).mono ?_
    rintro e w3 ⟨v, ys, rfl, hy, hm3, hk3⟩
    have M3 : Hid (Mine w3 u.heap.size v ys) := hm3
    have K3 : Hid (Kept w u w3 g a n cap) := hk3
    clear hm3 hk3
    refine hK.out _ _ trivial (fun _ => ?_)
    clear hK K
    simp only [Act.put, List.setIfInBounds_toArray, List.set_cons_zero, List.set_cons_succ, List.getElem_toArray, List.getElem_cons_succ, List.getElem_cons_zero]
    refine wpAnyH_ready (rs := [3]) (by kernel_rfl) (by simp) ?_
    refine AllReadyH.cons rfl (fun K hK => ?_) AllReadyH.nil
    go_simp
    refine (HB.out w3 g K3.out.1 2 (by omega) (by omega)).mono ?_
    rintro e w4 ⟨x, rfl, hx0, hx1, hk4⟩
    obtain ⟨xx, rfl⟩ : ∃ xx : Nat, x = (xx : Int) := ⟨x.toNat, by omega⟩
    have M4 : Hid (Mine w4 w.heap.size v ys) := (M3.out.kept hk4.2 (by intro k hk; cases hk; exact K2d.out.1.lt)).mono K2d.out.2
    have G4 : Hid (w.grownBy w4 none) := grown_below hk4.1.2.1
    clear M3 K3 hk4 K2d
    refine hK.out _ _ trivial (fun _ => ?_)
    clear hK K
    simp only [Act.put, List.setIfInBounds_toArray, List.set_cons_zero, List.set_cons_succ, List.getElem_toArray, List.getElem_cons_succ, List.getElem_cons_zero]
    have e1 : IntKind.i64.wrap (40 + (xx : Int)) = 40 + (xx : Int) := IntWalk.i64_in _ (by omega)
    refine wpAnyH_take (i := 4) (v := ?_) rfl (by kernel_rfl) (by kernel_rfl) (by kernel_rfl) (fun _ _ _ h => h) (Or.inl ⟨by rfl, ?_⟩) hH ?_
    rotate_left
    · (intro v hS; go_simp; try with_reducible rfl)
    simp only [Act.put, List.setIfInBounds_toArray, List.set_cons_zero, List.set_cons_succ, List.getElem_toArray, List.getElem_cons_succ, List.getElem_cons_zero]
    (try simp only [e1])
    have hmk := make_run (40 + xx) (by omega) w4
    rw [made_is] at hmk
    have ee : ((40 + xx : Nat) : Int) = 40 + (xx : Int) := by omega
    rw [ee] at hmk
    have ga := World.grownBy_alloc w4 (.cells (vals (List.replicate (40 + xx) 0)).toArray 5) none
    have M6 : Hid _ := mine_made w4 (40 + xx) w.heap.size G4.out.size (by omega)
    have M5 : Hid (Mine _ w.heap.size v ys) := M4.out.kept ga (by simp)
    have G5 : Hid _ := grown_trans G4.out ga
    have HT : Hid ((List.replicate (40 + xx) (0 : Int)).length ≤ 41) := by show _ ≤ _; simp; omega
    generalize List.replicate (40 + xx) (0 : Int) = ts at *
    clear ga M4 G4 e1 ee
    refine wpAnyH_take (i := 6) (v := ?_) rfl (by kernel_rfl) (by kernel_rfl) (by kernel_rfl) (fun _ _ _ h => h) (Or.inl ⟨by rfl, ?_⟩) hH ?_
    rotate_left
    · (intro v hS; go_simp; try with_reducible rfl)
    simp only [Act.put, List.setIfInBounds_toArray, List.set_cons_zero, List.set_cons_succ, List.getElem_toArray, List.getElem_cons_succ, List.getElem_cons_zero]
    refine wpAnyH_ready (rs := [5]) (by kernel_rfl) (by simp) ?_
    refine AllReadyH.cons rfl (fun K hK => ?_) AllReadyH.nil
    go_simp
    refine hK.out _ _ trivial (fun _ => ?_)
    clear hK K hmk
    simp only [Act.put, List.setIfInBounds_toArray, List.set_cons_zero, List.set_cons_succ, List.getElem_toArray, List.getElem_cons_succ, List.getElem_cons_zero]
    refine wpAnyH_take (i := 7) (v := ?_) rfl (by kernel_rfl) (by kernel_rfl) (by kernel_rfl) (fun _ _ _ h => h) (Or.inl ⟨by rfl, ?_⟩) hH ?_
    rotate_left
    · (intro v hS; go_simp; try with_reducible rfl)
    simp only [Act.put, List.setIfInBounds_toArray, List.set_cons_zero, List.set_cons_succ, List.getElem_toArray, List.getElem_cons_succ, List.getElem_cons_zero]
    refine wpAnyH_done (by kernel_rfl) ?_ _
    go_wp2
    go_ret2
    exact ⟨v, ys, _, ts, rfl, by omega, HT.out, M5.out, M6.out, G5.out⟩
end Go.Proofs.Ytonmcndedbmbfaa.By
