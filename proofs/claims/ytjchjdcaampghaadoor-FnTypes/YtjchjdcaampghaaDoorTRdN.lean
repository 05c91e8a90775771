/-
  The program's reader: a number. No statement is proved here.
-/
import Derived.Test.YtjchjdcaampghaaDoorTRdUJ
import Derived.Test.YtjchjdcaampghaaDoorGetI
import Derived.Test.YtjchjdcaampghaaDoorTEq
namespace Go.Proofs.YtjchjdcaampghaaDoor.By
open Go.RowKit
set_option linter.unusedVariables false
set_option linter.unusedSimpArgs false

theorem implGet2 (a : Option Addr) (n cap : Nat) (zs : List Int) (p : Int) (w : World) (h : Reads w a n zs) (hz : Byt zs) (hn : n ≤ 4194304) (hp : p ≤ 9223372036854775807) :
    Calls Tryd.prog 44 #[.slice a n cap, .int .i64 p] w fun e u => e = .returned (.tuple #[.int .i64 (getNum zs p).1, .int .i64 (getNum zs p).2]) ∧ w.grownBy u none :=
  (implGet a n cap zs p w h hz hn hp).mono fun e u ⟨he, hq⟩ => ⟨he, quiet hq⟩

theorem wide_none {a b : World} (h : a.grownBy b none) (row : Option Nat) : a.grownBy b row := ⟨h.os, h.tape, h.output, h.size, fun i hi _ => h.block i hi (by simp)⟩

set_option maxHeartbeats 1000000 in
theorem numberT (q : Nat) (a : Option Addr) (N cap : Nat) (zs : List Int) (hz : Byt zs) (hN : N ≤ 1048576) (p : Int) (rm : Int) (w : World) (b : w.heap[q]? = some (.cells #[.slice a N cap, .int .i64 p, .int .i64 rm] 45)) (h : Reads w a N zs) (hp : p ≤ 9223372036854775807) :
    Calls Tryd.prog 42 #[.pointer (some ⟨q, 0, none⟩)] w fun e u => e = .returned (.int .i64 (getNum zs p).1) ∧ w.grownBy u (some q) ∧ u.heap[q]? = some (.cells #[.slice a N cap, .int .i64 (getNum zs p).2, .int .i64 rm] 45) := by
  have CC : Hid _ := fun u (hu : w.grownBy u none) => implGet2 a N cap zs p u (h.none hu) hz (by omega) hp
  have HB : Hid _ := b
  obtain ⟨⟨z0, z1, z2⟩, h0, h3, h4⟩ := three b
  clear h b
  go_enter Tryd.func42, Tryd.ntmps42
  go_wp2_with fail
  have L1 : Hid (w.grownBy w.drew none ∧ w.drew.heap[q]? = some (.cells #[.slice a N cap, .int .i64 p, .int .i64 rm] 45)) := ⟨grown_drew (World.grownBy.refl w none), (World.grownBy.block (grown_drew (World.grownBy.refl w none)) _ (lt_of_block HB.out) (by simp)).trans HB.out⟩
  refine wp_region_held_drew (S := (fun u0 => Tri q 0 (.slice a N cap) (.int .i64 p) (.int .i64 rm) u0)) (by kernel_rfl) (three L1.out.2).1 (fun hH => ?_)
  generalize w.drew = u0 at *
  simp only [List.size_toArray, List.length_cons, List.length_nil, Nat.reduceAdd, Array.replicate, List.replicate]
  refine wpAnyH_take (i := 0) (v := ?_) rfl (by kernel_rfl) (by kernel_rfl) (by kernel_rfl) (fun _ _ _ h => h) (Or.inl ⟨by rfl, ?_⟩) hH ?_
  rotate_left
  · (intro v hS; obtain ⟨s0, s1, s2⟩ := hS; go_simp; try with_reducible rfl)
  simp only [Act.put, List.setIfInBounds_toArray, List.set_cons_zero, List.set_cons_succ, List.getElem_toArray, List.getElem_cons_succ, List.getElem_cons_zero]
  refine wpAnyH_take (i := 1) (v := ?_) rfl (by kernel_rfl) (by kernel_rfl) (by kernel_rfl) (fun _ _ _ h => h) (Or.inl ⟨by rfl, ?_⟩) hH ?_
  rotate_left
  · (intro v hS; obtain ⟨s0, s1, s2⟩ := hS; go_simp; try with_reducible rfl)
  simp only [Act.put, List.setIfInBounds_toArray, List.set_cons_zero, List.set_cons_succ, List.getElem_toArray, List.getElem_cons_succ, List.getElem_cons_zero]
  refine wpAnyH_take (i := 2) (v := ?_) rfl (by kernel_rfl) (by kernel_rfl) (by kernel_rfl) (fun _ _ _ h => h) (Or.inl ⟨by rfl, ?_⟩) hH ?_
  rotate_left
  · (intro v hS; obtain ⟨s0, s1, s2⟩ := hS; go_simp; try with_reducible rfl)
  simp only [Act.put, List.setIfInBounds_toArray, List.set_cons_zero, List.set_cons_succ, List.getElem_toArray, List.getElem_cons_succ, List.getElem_cons_zero]
  refine wpAnyH_take (i := 3) (v := ?_) rfl (by kernel_rfl) (by kernel_rfl) (by kernel_rfl) (fun _ _ _ h => h) (Or.inl ⟨by rfl, ?_⟩) hH ?_
  rotate_left
  · (intro v hS; obtain ⟨s0, s1, s2⟩ := hS; go_simp; try with_reducible rfl)
  simp only [Act.put, List.setIfInBounds_toArray, List.set_cons_zero, List.set_cons_succ, List.getElem_toArray, List.getElem_cons_succ, List.getElem_cons_zero]
  refine wpAnyH_take (i := 4) (v := ?_) rfl (by kernel_rfl) (by kernel_rfl) (by kernel_rfl) (fun _ _ _ h => h) (Or.inl ⟨by rfl, ?_⟩) hH ?_
  rotate_left
  · (intro v hS; obtain ⟨s0, s1, s2⟩ := hS; go_simp; try with_reducible rfl)
  simp only [Act.put, List.setIfInBounds_toArray, List.set_cons_zero, List.set_cons_succ, List.getElem_toArray, List.getElem_cons_succ, List.getElem_cons_zero]
  refine wpAnyH_take (i := 5) (v := ?_) rfl (by kernel_rfl) (by kernel_rfl) (by kernel_rfl) (fun _ _ _ h => h) (Or.inl ⟨by rfl, ?_⟩) hH ?_
  rotate_left
  · (intro v hS; obtain ⟨s0, s1, s2⟩ := hS; go_simp; try with_reducible rfl)
  simp only [Act.put, List.setIfInBounds_toArray, List.set_cons_zero, List.set_cons_succ, List.getElem_toArray, List.getElem_cons_succ, List.getElem_cons_zero]
  refine wpAnyH_take (i := 6) (v := ?_) rfl (by kernel_rfl) (by kernel_rfl) (by kernel_rfl) (fun _ _ _ h => h) (Or.inl ⟨by rfl, ?_⟩) hH ?_
  rotate_left
  · (intro v hS; obtain ⟨s0, s1, s2⟩ := hS; go_simp; try with_reducible rfl)
  simp only [Act.put, List.setIfInBounds_toArray, List.set_cons_zero, List.set_cons_succ, List.getElem_toArray, List.getElem_cons_succ, List.getElem_cons_zero]
  refine wpAnyH_take (i := 7) (v := ?_) rfl (by kernel_rfl) (by kernel_rfl) (by kernel_rfl) (fun _ _ _ h => h) (Or.inl ⟨by rfl, ?_⟩) hH ?_
  rotate_left
  · (intro v hS; obtain ⟨s0, s1, s2⟩ := hS; go_simp; try with_reducible rfl)
  simp only [Act.put, List.setIfInBounds_toArray, List.set_cons_zero, List.set_cons_succ, List.getElem_toArray, List.getElem_cons_succ, List.getElem_cons_zero]
  refine wpAnyH_ready (rs := [8]) (by kernel_rfl) (by simp) ?_
  refine AllReadyH.cons rfl (fun K hK => ?_) AllReadyH.nil
  go_simp
  refine Calls.mono (CC.out u0 L1.out.1) ?_
  rintro e u ⟨rfl, hg⟩
  have b1 := (hg.block _ (lt_of_block L1.out.2) (by simp)).trans L1.out.2
  have LQ : Hid (w.grownBy u none ∧ u.heap[q]? = some (.cells #[.slice a N cap, .int .i64 p, .int .i64 rm] 45)) := ⟨grown_trans L1.out.1 hg, b1⟩
  refine hK.out _ _ (three b1).1 (fun hH2 => ?_)
  clear hK K hH
  have hH := hH2
  clear hH2 hg L1 b1 CC HB z0 z1 z2 h0 h3 h4
  simp only [Act.put, List.setIfInBounds_toArray, List.set_cons_zero, List.set_cons_succ, List.getElem_toArray, List.getElem_cons_succ, List.getElem_cons_zero]
  refine wpAnyH_take (i := 9) (v := ?_) rfl (by kernel_rfl) (by kernel_rfl) (by kernel_rfl) (fun _ _ _ h => h) (Or.inl ⟨by rfl, ?_⟩) hH ?_
  rotate_left
  · (intro v hS; go_simp; try with_reducible rfl)
  simp only [Act.put, List.setIfInBounds_toArray, List.set_cons_zero, List.set_cons_succ, List.getElem_toArray, List.getElem_cons_succ, List.getElem_cons_zero]
  refine wpAnyH_take (i := 10) (v := ?_) rfl (by kernel_rfl) (by kernel_rfl) (by kernel_rfl) (fun _ _ _ h => h) (Or.inl ⟨by rfl, ?_⟩) hH ?_
  rotate_left
  · (intro v hS; go_simp; try with_reducible rfl)
  simp only [Act.put, List.setIfInBounds_toArray, List.set_cons_zero, List.set_cons_succ, List.getElem_toArray, List.getElem_cons_succ, List.getElem_cons_zero]
  refine wpAnyH_take (i := 11) (v := ?_) rfl (by kernel_rfl) (by kernel_rfl) (by kernel_rfl) (fun _ _ _ h => h) (Or.inl ⟨by rfl, ?_⟩) hH ?_
  rotate_left
  · (intro v hS; go_simp; try with_reducible rfl)
  simp only [Act.put, List.setIfInBounds_toArray, List.set_cons_zero, List.set_cons_succ, List.getElem_toArray, List.getElem_cons_succ, List.getElem_cons_zero]
  refine wpAnyH_take (i := 12) (v := ?_) rfl (by kernel_rfl) (by kernel_rfl) (by kernel_rfl) (fun _ _ _ h => h) (Or.inl ⟨by rfl, ?_⟩) hH ?_
  rotate_left
  · (intro v hS; go_simp; try with_reducible rfl)
  simp only [Act.put, List.setIfInBounds_toArray, List.set_cons_zero, List.set_cons_succ, List.getElem_toArray, List.getElem_cons_succ, List.getElem_cons_zero]
  refine wpAnyH_take (i := 13) (v := ?_) rfl (by kernel_rfl) (by kernel_rfl) (by kernel_rfl) (fun _ _ _ h => h) (Or.inl ⟨by rfl, ?_⟩) hH ?_
  rotate_left
  · (intro v hS; go_simp; try with_reducible rfl)
  simp only [Act.put, List.setIfInBounds_toArray, List.set_cons_zero, List.set_cons_succ, List.getElem_toArray, List.getElem_cons_succ, List.getElem_cons_zero]
  refine wpAnyH_done (by kernel_rfl) ?_ _
  have FQ : Hid ((u.setCell ⟨q, 1, none⟩ (.int .i64 (getNum zs p).2)).heap[q]? = some (.cells #[.slice a N cap, .int .i64 (getNum zs p).2, .int .i64 rm] 45) ∧ w.grownBy (u.setCell ⟨q, 1, none⟩ (.int .i64 (getNum zs p).2)) (some q)) := ⟨heap_setCell_same u q 1 _ _ _ LQ.out.2, grown_trans (wide_none LQ.out.1 (some q)) (grown_setCell u q 1 (.int .i64 (getNum zs p).2))⟩
  obtain ⟨⟨z0, z1, z2⟩, h0, h3, h4⟩ := three LQ.out.2
  clear LQ
  go_wp2
  go_ret
  exact ⟨rfl, FQ.out.2, FQ.out.1⟩
end Go.Proofs.YtjchjdcaampghaaDoor.By
