/-
  The program's own set of binds told as a list, by its contract. No statement is proved here.
-/
import Derived.Test.YtmlganaiajhjeaaUN
import Derived.Test.YtmlganaiajhjeaaUPb
import Derived.Test.YtmlganaiajhjeaaTRepl
import Derived.Test.YtmlganaiajhjeaaUC
namespace Go.Proofs.Ytmlganaiajhjeaa.By
open Go.RowKit
set_option linter.unusedVariables false
set_option linter.unusedSimpArgs false

theorem dom_nth {P Q : B} {v k n : Int} {d : F} : (P.app (.cons v k n d Q)).dom.getD P.len 0 = v := by
  rw [B.dom_app, ← B.dom_len, List.getD_eq_getElem?_getD, List.getElem?_append_right (Nat.le_refl _)]
  simp [B.dom]
theorem find_at {P Q : B} {v k n : Int} {d : F} (h : wfB (P.app (.cons v k n d Q))) : (P.app (.cons v k n d Q)).find v = some (k, n, d) := by
  have hn := (wfB_dom h).1
  rw [B.dom_app] at hn
  have hv : v ∉ P.dom := fun hx => (List.nodup_append.1 hn).2.2 v hx v (by simp [B.dom]) rfl
  rw [B.find_app]
  have : P.find v = none := by
    have := B.find_dom P v
    cases hf : P.find v with
    | none => rfl
    | some y => rw [hf] at this; exact absurd (List.contains_iff_mem.1 this.symm) hv
  rw [this]
  simp [B.find]

set_option maxRecDepth 8000 in
set_option maxHeartbeats 8000000 in
theorem listT (B0 p m : Nat) (oa : Option Addr) (oc : Nat) (L : B) (w : World) (hL : wfB L) (hBS : BS B0 w p m oa oc L) :
    Calls Try.prog 57 #[.pointer (some ⟨p, 0, none⟩)] w fun e u => ∃ a c bs, e = .returned (.slice a L.len c) ∧ NewB w u 25 44 a L.len c L bs ∧ w.grownBy u none ∧ (c = 0 → a = none) := by
  have hlen := wfB_len hL
  obtain ⟨T, hM, hV⟩ := hBS.has
  obtain ⟨⟨x0, x1⟩, -⟩ := two hBS.box
  have HB : Hid (MapIs w m L.len T ∧ Vals w T L ∧ wfB L ∧ w.heap[p]? = some (.cells #[.map (some m), .slice oa L.len oc] 112 (0, 0)) ∧ ReadsI w oa L.len L.dom) := ⟨hM, hV, hL, hBS.box, hBS.order.reads⟩
  clear hM hV hBS hL
  go_enter Try.func57, Try.ntmps57
  go_wp2_with fail
  clear x0 x1
  go_loopw [3, 11] (fun lst i wr => ∃ (j : Nat) (P Q : B) (av : Option Addr) (cv : Nat) (bs : List Nat), j ≤ L.len ∧ i = .int .i64 j ∧ lst = .slice av j cv ∧ P.len = j ∧ Hid (L = P.app Q ∧ w.grownBy wr none ∧ NewB w wr 25 44 av j cv P bs ∧ (cv = 0 → av = none))) (fun _ i _ => L.len - (intOf i).toNat)
  case atStart => exact ⟨0, .nil, L, none, 0, [], Nat.zero_le _, rfl, rfl, rfl, rfl, World.grownBy.refl _ _, NewB.nil _ _ _ _, fun _ => rfl⟩
  case round =>
    obtain ⟨j, P, Q, av, cv, bs, hj, rfl, rfl, hPl, HI⟩ := hrel
    by_cases hlt : j < L.len
    · have hql : Q.len = (L.len - j - 1) + 1 := by have := B.app_len P Q; rw [← HI.out.1] at this; omega
      obtain ⟨v, k, n, d, Q1, rfl, hQ1⟩ := B.cons_of_len hql
      have hfd : L.find v = some (k, n, d) := by rw [HI.out.1]; exact find_at (by rw [← HI.out.1]; exact HB.out.2.2.1)
      have hdn : L.dom.getD j 0 = v := by rw [HI.out.1, ← hPl]; exact dom_nth
      have hw2 := wfB_find HB.out.2.2.1 hfd
      simp only [] at hw2
      have hvI : I64x v := by unfold I64x; omega
      have hval := HB.out.2.1 v
      rw [hfd] at hval
      obtain ⟨a1, l1, c1, hT, hS1⟩ := hval
      simp only [] at hT hS1
      have hok := hw2.2
      simp only [okT, Bool.and_eq_true, decide_eq_true_eq] at hok
      have hlk := (HB.out.1.kept HI.out.2.1 (by simp)).look hvI
      rw [hT] at hlk
      simp only [Option.getD_some] at hlk
      have hr := HB.out.2.2.2.2.none HI.out.2.1
      rcases hr.2 with h0 | ⟨b, off, rfl, hc⟩
      · omega
      have c0 := hc j hlt
      rw [hdn] at c0
      obtain ⟨⟨x0, x1⟩, -⟩ := two ((HI.out.2.1.block p (lt_of_block HB.out.2.2.2.1) (by simp)).trans HB.out.2.2.2.1)
      have CC : Hid _ := replT .nil none 0 0 (.inl rfl) (d.size + 1) d k n a1 l1 c1 9 wr (Nat.lt_succ_self _) (by omega) (hS1.none HI.out.2.1).reads ⟨rfl, by omega, .inl rfl⟩ (by rw [← hS1.1]; exact hok.1.1) hok.1.2
      rw [subT_nil] at CC
      have HL2 : Hid (L = (P.app (.cons v k n d .nil)).app Q1 ∧ w.grownBy wr none ∧ NewB w wr 25 44 av j cv P bs ∧ (cv = 0 → av = none)) := ⟨by rw [B.app_assoc]; exact HI.out.1, HI.out.2⟩
      have hj' : (j : Int) < (L.len : Int) := by omega
      have hjL : j ≤ 200000 := by omega
      clear hr hc hok hT hS1 hfd hdn hw2 hQ1 hql
      go_wp2_with fail
      refine Calls.mono CC.out ?_
      rintro e u ⟨a2, l2, c2, bd, rfl, hg, hN, hna⟩
      have ga := World.grownBy_alloc u (.cells #[.int .i64 v, .int .i64 k, .int .i64 n, .slice a2 l2 c2] 44) none
      have hsw := HL2.out.2.1.size
      have LB : Hid (SlOB (u.alloc (.cells #[.int .i64 v, .int .i64 k, .int .i64 n, .slice a2 l2 c2] 44)) 25 44 av j cv P bs ∧ bs.Nodup ∧ (∀ x ∈ bs, w.heap.size ≤ x) ∧ (cv = 0 → av = none) ∧ SlO (u.alloc (.cells #[.int .i64 v, .int .i64 k, .int .i64 n, .slice a2 l2 c2] 44)) 25 a2 l2 c2 d bd ∧ bd.Nodup ∧ (∀ x ∈ bd, w.heap.size ≤ x) ∧ (∀ x ∈ bs, x ∉ bd) ∧ w.grownBy (u.alloc (.cells #[.int .i64 v, .int .i64 k, .int .i64 n, .slice a2 l2 c2] 44)) none) := by
        obtain ⟨-, g1, ⟨g2, g3, g4⟩, g5⟩ := HL2.out
        have gg := grown_trans hg ga
        refine ⟨g2.old gg, g3, g4, g5, hN.1.kept ga (by simp), hN.2.1, fun x hx => by have := hN.2.2 x hx; omega, fun x hx hx' => by have h1 := hN.2.2 x hx'; have h2 := g2.lt x hx; omega, grown_trans g1 gg⟩
      have NW : Hid _ := news4 (q := u.heap.size) (u := u.alloc (.cells #[.int .i64 v, .int .i64 k, .int .i64 n, .slice a2 l2 c2] 44)) (v0 := .int .i64 v) (v1 := .int .i64 k) (v2 := .int .i64 n) (v3 := .slice a2 l2 c2) (four (heap_alloc_new u _)).1
      obtain ⟨i0, hi, hz0, hz1, hz2⟩ := info_parts infoB
      clear ga hN hg hna hsw CC c0 x0 x1 hlk HI
      simp only []
      go_wp2_with (at_builtin; go_must (refine wpList_pushB rfl _ _ 37 rfl 44 25 i0 _ Try.underlying37 hi hz0 hz1 hz2 rfl av j cv P bs rfl LB.out.1 LB.out.2.1 LB.out.2.2.2.1 hjL ⟨u.heap.size, 0, none⟩ rfl v k n a2 l2 c2 NW.out d bd LB.out.2.2.2.2.1 LB.out.2.2.2.2.2.1 LB.out.2.2.2.2.2.2.2.1 ?_); intro a3 c3 bs3 u3 h1 h2 h3 h4 h5)
      refine ⟨⟨j + 1, P.app (.cons v k n d .nil), Q1, a3, c3, bs3, by omega, by go_num, rfl, by rw [B.app_len, hPl]; rfl, HL2.out.1, Tn.fresh LB.out.2.2.2.2.2.2.2.2 h4 LB.out.2.2.1, ⟨h1, h2, fun x hx => ?_⟩, fun e => by omega⟩, by simp [intOf]; omega⟩
      rcases h3 x hx with h | h | h
      · exact LB.out.2.2.1 x h
      · exact LB.out.2.2.2.2.2.2.1 x h
      · have := LB.out.2.2.2.2.2.2.2.2.size; omega
    · obtain rfl : j = L.len := by omega
      have hQ0 : Q = .nil := B.nil_of_len (by have := B.app_len P Q; rw [← HI.out.1] at this; omega)
      have HE : Hid (L = P ∧ w.grownBy wr none ∧ NewB w wr 25 44 av L.len cv P bs ∧ (cv = 0 → av = none)) := ⟨by rw [HI.out.1, hQ0, B.app_nil], HI.out.2⟩
      clear HI hQ0
      go_wp2
      go_ret
      refine ⟨av, cv, bs, rfl, ?_, HE.out.2.1, HE.out.2.2.2⟩
      have := HE.out.2.2.1
      rw [← HE.out.1] at this
      exact this
end Go.Proofs.Ytmlganaiajhjeaa.By
