/-
  The specification's copy of a tree, by its contract. No statement is proved here.
-/
import Derived.Test.YtmlganaiajhjeaaTPush
import Derived.Test.YtmlganaiajhjeaaTEq
namespace Go.Proofs.Ytmlganaiajhjeaa.By
open Go.RowKit
set_option linter.unusedVariables false
set_option linter.unusedSimpArgs false

set_option maxRecDepth 8000 in
set_option maxHeartbeats 2000000 in
theorem l3copyT (m : Nat) : ∀ (d : F) (k n : Int) (a : Option Addr) (l c : Nat) (w : World), d.size < m → d.size ≤ 100000 → SlF w a l d →
    Calls Try.prog 66 #[.agg #[.int .i64 k, .int .i64 n, .slice a l c]] w fun e u => ∃ a' c' bs, e = .returned (.agg #[.int .i64 k, .int .i64 n, .slice a' l c']) ∧ w.grownBy u none ∧ New w u 25 a' l c' d bs ∧ (c' = 0 → a' = none) := by
  induction m with
  | zero => intro d k n a l c w hm; exact absurd hm (Nat.not_lt_zero _)
  | succ m ih =>
    intro d k n a l c w hm hm2 h
    have hfl := h.1
    have hl := h.2.1
    have hlen := d.len_le
    obtain ⟨b0, b1, b2, bsz⟩ := alloc3_blocks w (.cells #[.int .i64 k, .int .i64 n, .slice a l c] 25) (.cells #[.int .i64 0, .int .i64 0, .slice none 0 0] 25) (.cells #[.int .i64 k, .int .i64 n, .slice none 0 0] 25)
    have g0 := grown_alloc (grown_alloc (grown_alloc (World.grownBy.refl w none) (.cells #[.int .i64 k, .int .i64 n, .slice a l c] 25)) (.cells #[.int .i64 0, .int .i64 0, .slice none 0 0] 25)) (.cells #[.int .i64 k, .int .i64 n, .slice none 0 0] 25)
    have fin : ∀ (u : World) (av : Option Addr) (cv : Nat) (bs : List Nat), w.grownBy u none → u.heap[w.heap.size + 1]? = some (Obj.cells #[.int .i64 0, .int .i64 0, .slice none 0 0] 25) → SlO u 25 av l cv d bs → bs.Nodup → (∀ x ∈ bs, w.heap.size + 1 + 1 < x) →
        let u2 := ((u.setCell ⟨w.heap.size + 1, 0, none⟩ (.int .i64 k)).setCell ⟨w.heap.size + 1, 1, none⟩ (.int .i64 n)).setCell ⟨w.heap.size + 1, 2, none⟩ (.slice av l cv)
        u2.heap[w.heap.size + 1]? = some (Obj.cells #[.int .i64 k, .int .i64 n, .slice av l cv] 25) ∧ w.grownBy u2 none ∧ New w u2 25 av l cv d bs := by
      intro u av cv bs hg hp hs hnd hgt
      obtain ⟨d1, k1⟩ := fill3 (.int .i64 k) (.int .i64 n) (.slice av l cv) hp
      exact ⟨d1, grown_into hg k1 (by omega), hs.kept k1 (fun x hx => by have := hgt x hx; simp; omega), hnd, fun x hx => by have := hgt x hx; omega⟩
    have FIN : Hid _ := fin
    clear fin
    rcases h.cases with ⟨rfl, rfl⟩ | ⟨b, o, rfl, hin, -, hpos⟩
    · have G0 : Hid _ := And.intro g0 b1
      clear ih g0 b0 b1 b2 bsz h
      go_enter Try.func66, Try.ntmps66
      go_wp2
      refine wp_loop_rounds 1 ?_
      rw [rounds_succ]
      go_wp2
      (try simp only [Exit.inBlock, Exit.then])
      obtain ⟨q1, q2, q3⟩ := FIN.out _ none 0 [] G0.out.1 G0.out.2 ⟨rfl, by omega, by omega, .inl ⟨rfl, rfl⟩⟩ List.nodup_nil (fun x hx => by simp at hx)
      go_returns
      exact ⟨none, 0, [], by simp, grown_alloc (grown_alloc (grown_alloc (World.grownBy.refl _ none) _) _) _, ⟨⟨rfl, by omega, by omega, .inl ⟨rfl, rfl⟩⟩, List.nodup_nil, fun x hx => by simp at hx⟩, fun _ => rfl⟩
    have IH : Hid _ := ih
    have IN : Hid (InF w d b o) := hin
    have L0 : Hid (w.grownBy _ none ∧ _ = some (Obj.cells #[.int .i64 k, .int .i64 n, .slice (some ⟨b, o, none⟩) l c] 25) ∧ _ = some (Obj.cells #[.int .i64 0, .int .i64 0, .slice none 0 0] 25) ∧ _ = some (Obj.cells #[.int .i64 k, .int .i64 n, .slice none 0 0] 25) ∧ _ = w.heap.size + 1 + 1 + 1) := ⟨g0, b0, b1, b2, bsz⟩
    clear ih hin h g0 b0 b1 b2 bsz
    go_enter Try.func66, Try.ntmps66
    go_wp2
    obtain ⟨g0, b0, b1, b2, bsz⟩ := L0.out
    clear L0
    generalize ((w.alloc (.cells #[.int .i64 k, .int .i64 n, .slice (some ⟨b, o, none⟩) l c] 25)).alloc (.cells #[.int .i64 0, .int .i64 0, .slice none 0 0] 25)).alloc (.cells #[.int .i64 k, .int .i64 n, .slice none 0 0] 25) = W0 at *
    generalize e0 : w.heap.size = p0 at *
    generalize e1 : p0 + 1 = p1 at *
    generalize e2 : p1 + 1 = p2 at *
    have PP : Hid (w.heap.size = p0 ∧ p0 + 1 = p1 ∧ p1 + 1 = p2) := ⟨e0, e1, e2⟩
    have HB : Hid _ := And.intro g0 (And.intro b0 (And.intro b1 b2))
    clear g0 b0 b1 b2 bsz e0 e1 e2
    go_loopw [4] (fun i wr => ∃ (j : Nat) (P R : F) (av : Option Addr) (cv : Nat) (bs : List Nat), j ≤ l ∧ i = .int .i64 j ∧ P.len = j ∧ R.len + j = l ∧ R.size ≤ d.size ∧ Hid (P.app R = d ∧ InF w R b (o + j * 3)) ∧ Hid ((w.grownBy wr none) ∧ (wr.heap[p0]? = some (Obj.cells #[.int .i64 k, .int .i64 n, .slice (some ⟨b, o, none⟩) l c] 25)) ∧ (wr.heap[p1]? = some (Obj.cells #[.int .i64 0, .int .i64 0, .slice none 0 0] 25)) ∧ (wr.heap[p2]? = some (Obj.cells #[.int .i64 k, .int .i64 n, .slice av j cv] 25)) ∧ (SlO wr 25 (av) j cv (P) bs) ∧ (bs.Nodup) ∧ (∀ x ∈ bs, p2 < x) ∧ (cv = 0 → av = none))) (fun i _ => l - (intOf i).toNat)
    case atStart => exact ⟨0, .nil, d, none, 0, [], Nat.zero_le _, rfl, rfl, by omega, Nat.le_refl _, ⟨rfl, by simpa using IN.out⟩, HB.out.1, HB.out.2.1, HB.out.2.2.1, HB.out.2.2.2, ⟨rfl, by omega, by omega, .inl ⟨rfl, rfl⟩⟩, List.nodup_nil, fun x hx => by simp at hx, fun _ => rfl⟩
    case round =>
      clear HB IN
      obtain ⟨j, P, R, av, cv, bs, hj, rfl, hPl, hRl, hRs, HP, LI⟩ := hrel
      by_cases hlt : j < l
      rotate_left
      · obtain rfl : j = l := by omega
        obtain rfl : R = .nil := F.nil_of_len (by omega)
        obtain ⟨hP, -⟩ := HP.out
        rw [F.app_nil] at hP
        subst hP
        obtain ⟨g, x0, x1, x2, acc, nd, gt, na⟩ := LI.out
        obtain ⟨z0, z1, z2⟩ := (three x2).1
        obtain ⟨y0, y1, y2⟩ := (three x0).1
        obtain ⟨⟨v0, v1, v2⟩, f0, f1, f2⟩ := three x1
        have hn12 : p1 ≠ p2 := by have := PP.out; omega
        obtain ⟨q1, q2, q3⟩ := FIN.out wr av cv bs g (by have := PP.out; exact x1) acc nd gt
        have FQ : Hid _ := And.intro q1 (And.intro q2 (And.intro q3 na))
        clear g x0 x1 x2 acc nd gt na q1 q2 q3 LI FIN IH
        go_wp2
        (try simp only [Exit.inBlock, Exit.then])
        refine bodyPost_ret (results_cell_row (P := Try.prog) Try.results66 _ _ p1 _ _ _ _ rfl FQ.out.1 Try.underlying25 rfl (by kernel_rfl)) rfl ?_
        exact ⟨av, cv, bs, rfl, FQ.out.2.1, FQ.out.2.2.1, FQ.out.2.2.2⟩
      obtain ⟨q, hq⟩ : ∃ q, R.len = q + 1 := ⟨R.len - 1, by omega⟩
      obtain ⟨kk, nn, d', R', rfl, hR'⟩ := F.cons_of_len hq
      obtain ⟨hPR, hR⟩ := HP.out
      obtain ⟨a', l', c', c0, c1, c2', hd, hR2⟩ := hR.out
      have e3 : o + j * 3 + 3 = o + (j + 1) * 3 := by omega
      rw [e3] at hR2
      have hds : d'.size < m := by simp only [F.size] at hRs hm; omega
      have hds2 : d'.size ≤ 100000 := by simp only [F.size] at hRs; omega
      have hRs' : R'.size ≤ d.size := by simp only [F.size] at hRs; omega
      have CW : Hid (w.cell? ⟨b, o + j * 3, none⟩ = some (.int .i64 kk) ∧ w.cell? ⟨b, o + j * 3 + 1, none⟩ = some (.int .i64 nn) ∧ w.cell? ⟨b, o + j * 3 + 2, none⟩ = some (.slice a' l' c') ∧ SlF w a' l' d') := ⟨c0, c1, c2', hd⟩
      have HQ : Hid (P.app (.cons kk nn d' R') = d ∧ InF w R' b (o + (j + 1) * 3)) := ⟨hPR, hR2⟩
      obtain ⟨y0, y1, y2⟩ := (three LI.out.2.1).1
      clear HP hPR hR hR2 hd c0 c1 c2' hRs FIN
      go_wp2_with fail
      clear y0 y1 y2
      have L1 : Hid ((w.grownBy wr.drew none) ∧ (wr.drew.heap[p0]? = some (Obj.cells #[.int .i64 k, .int .i64 n, .slice (some ⟨b, o, none⟩) l c] 25)) ∧ (wr.drew.heap[p1]? = some (Obj.cells #[.int .i64 0, .int .i64 0, .slice none 0 0] 25)) ∧ (wr.drew.heap[p2]? = some (Obj.cells #[.int .i64 k, .int .i64 n, .slice av j cv] 25)) ∧ (SlO wr.drew 25 (av) j cv (P) bs) ∧ (bs.Nodup) ∧ (∀ x ∈ bs, p2 < x) ∧ (cv = 0 → av = none)) := ⟨grown_trans (LI.out.1) (grown_drew (World.grownBy.refl wr none)), (World.grownBy.block (grown_drew (World.grownBy.refl wr none)) _ (lt_of_block (LI.out.2.1)) (by simp)).trans (LI.out.2.1), (World.grownBy.block (grown_drew (World.grownBy.refl wr none)) _ (lt_of_block (LI.out.2.2.1)) (by simp)).trans (LI.out.2.2.1), (World.grownBy.block (grown_drew (World.grownBy.refl wr none)) _ (lt_of_block (LI.out.2.2.2.1)) (by simp)).trans (LI.out.2.2.2.1), SlO.old (LI.out.2.2.2.2.1) (grown_drew (World.grownBy.refl wr none)), LI.out.2.2.2.2.2.1, LI.out.2.2.2.2.2.2.1, LI.out.2.2.2.2.2.2.2⟩
      clear LI
      refine wp_region_held_drew (S := (fun u => Tri b (o + j * 3) (.int .i64 kk) (.int .i64 nn) (.slice a' l' c') u ∧ u.cell? ⟨p0, 2, none⟩ = some (.slice (some ⟨b, o, none⟩) l c))) (by kernel_rfl) ⟨⟨(L1.out.1).cell CW.out.1 (by simp), (L1.out.1).cell CW.out.2.1 (by simp), (L1.out.1).cell CW.out.2.2.1 (by simp)⟩, (three (L1.out.2.1)).1.2.2⟩ (fun hH => ?_)
      generalize wr.drew = u0 at *
      simp only [List.size_toArray, List.length_cons, List.length_nil, Nat.reduceAdd, Array.replicate, List.replicate]
      refine wpAnyH_take (i := 0) (v := ?_) rfl (by kernel_rfl) (by kernel_rfl) (by kernel_rfl) (fun _ _ _ h => h) (Or.inl ⟨by rfl, ?_⟩) hH ?_
      rotate_left
      · (intro v hS; obtain ⟨⟨s0, s1, s2⟩, x2⟩ := hS; go_simp; try with_reducible rfl)
      simp only [Act.put, List.setIfInBounds_toArray, List.set_cons_zero, List.set_cons_succ, List.getElem_toArray, List.getElem_cons_succ, List.getElem_cons_zero]
      refine wpAnyH_take (i := 2) (v := ?_) rfl (by kernel_rfl) (by kernel_rfl) (by kernel_rfl) (fun _ _ _ h => h) (Or.inl ⟨by rfl, ?_⟩) hH ?_
      rotate_left
      · (intro v hS; obtain ⟨⟨s0, s1, s2⟩, x2⟩ := hS; go_simp; try with_reducible rfl)
      simp only [Act.put, List.setIfInBounds_toArray, List.set_cons_zero, List.set_cons_succ, List.getElem_toArray, List.getElem_cons_succ, List.getElem_cons_zero]
      refine wpAnyH_take (i := 3) (v := ?_) rfl (by kernel_rfl) (by kernel_rfl) (by kernel_rfl) (fun _ _ _ h => h) (Or.inl ⟨by rfl, ?_⟩) hH ?_
      rotate_left
      · (intro v hS; obtain ⟨⟨s0, s1, s2⟩, x2⟩ := hS; go_simp; try with_reducible rfl)
      simp only [Act.put, List.setIfInBounds_toArray, List.set_cons_zero, List.set_cons_succ, List.getElem_toArray, List.getElem_cons_succ, List.getElem_cons_zero]
      refine wpAnyH_take (i := 4) (v := ?_) rfl (by kernel_rfl) (by kernel_rfl) (by kernel_rfl) (fun _ _ _ h => h) (Or.inl ⟨by rfl, ?_⟩) hH ?_
      rotate_left
      · (intro v hS; obtain ⟨⟨s0, s1, s2⟩, x2⟩ := hS; go_simp; try with_reducible rfl)
      simp only [Act.put, List.setIfInBounds_toArray, List.set_cons_zero, List.set_cons_succ, List.getElem_toArray, List.getElem_cons_succ, List.getElem_cons_zero]
      refine wpAnyH_take (i := 5) (v := ?_) rfl (by kernel_rfl) (by kernel_rfl) (by kernel_rfl) (fun _ _ _ h => h) (Or.inl ⟨by rfl, ?_⟩) hH ?_
      rotate_left
      · (intro v hS; obtain ⟨⟨s0, s1, s2⟩, x2⟩ := hS; go_simp; try with_reducible rfl)
      simp only [Act.put, List.setIfInBounds_toArray, List.set_cons_zero, List.set_cons_succ, List.getElem_toArray, List.getElem_cons_succ, List.getElem_cons_zero]
      refine wpAnyH_take (i := 6) (v := ?_) rfl (by kernel_rfl) (by kernel_rfl) (by kernel_rfl) (fun _ _ _ h => h) (Or.inl ⟨by rfl, ?_⟩) hH ?_
      rotate_left
      · (intro v hS; obtain ⟨⟨s0, s1, s2⟩, x2⟩ := hS; go_simp; try with_reducible rfl)
      simp only [Act.put, List.setIfInBounds_toArray, List.set_cons_zero, List.set_cons_succ, List.getElem_toArray, List.getElem_cons_succ, List.getElem_cons_zero]
      refine wpAnyH_ready (rs := [1, 7]) (by kernel_rfl) (by simp) ?_
      refine AllReadyH.cons rfl (fun K hK => ?_) ?_
      · skip
        have yy := three (L1.out.2.2.2.1)
        obtain ⟨⟨y0, y1, y2⟩, -⟩ := yy
        go_simp
        refine hK.out _ _ ⟨⟨(L1.out.1).cell CW.out.1 (by simp), (L1.out.1).cell CW.out.2.1 (by simp), (L1.out.1).cell CW.out.2.2.1 (by simp)⟩, (three (L1.out.2.1)).1.2.2⟩ (fun hH2 => ?_)
        clear hK K hH
        have hH := hH2
        clear hH2 y0 y1 y2
        simp only [Act.put, List.setIfInBounds_toArray, List.set_cons_zero, List.set_cons_succ, List.getElem_toArray, List.getElem_cons_succ, List.getElem_cons_zero]
        refine wpAnyH_ready (rs := [7]) (by kernel_rfl) (by simp) ?_
        refine AllReadyH.cons rfl (fun K hK => ?_) AllReadyH.nil
        go_simp
        refine Calls.mono (IH.out d' kk nn a' l' c' u0 hds hds2 (CW.out.2.2.2.none (L1.out.1))) ?_
        rintro e u1 ⟨a2, c2, bd, rfl, hg, hnew, -⟩
        have L2 : Hid ((w.grownBy u1 none) ∧ (u1.heap[p0]? = some (Obj.cells #[.int .i64 k, .int .i64 n, .slice (some ⟨b, o, none⟩) l c] 25)) ∧ (u1.heap[p1]? = some (Obj.cells #[.int .i64 0, .int .i64 0, .slice none 0 0] 25)) ∧ (u1.heap[p2]? = some (Obj.cells #[.int .i64 k, .int .i64 n, .slice av j cv] 25)) ∧ (SlO u1 25 (av) j cv (P) bs) ∧ (bs.Nodup) ∧ (∀ x ∈ bs, p2 < x) ∧ (cv = 0 → av = none) ∧ (SlO u1 25 (a2) l' c2 (d') bd) ∧ (bd.Nodup) ∧ (∀ x ∈ bs, x ∉ bd) ∧ (∀ x ∈ bd, p2 < x)) := ⟨grown_trans (L1.out.1) hg, (World.grownBy.block hg _ (lt_of_block (L1.out.2.1)) (by simp)).trans (L1.out.2.1), (World.grownBy.block hg _ (lt_of_block (L1.out.2.2.1)) (by simp)).trans (L1.out.2.2.1), (World.grownBy.block hg _ (lt_of_block (L1.out.2.2.2.1)) (by simp)).trans (L1.out.2.2.2.1), SlO.old (L1.out.2.2.2.2.1) hg, L1.out.2.2.2.2.2.1, L1.out.2.2.2.2.2.2.1, L1.out.2.2.2.2.2.2.2, hnew.1, hnew.2.1, fun x hx hx2 => by have := SlO.lt (L1.out.2.2.2.2.1) x hx; have := hnew.2.2 x hx2; omega, fun x hx => Nat.lt_of_lt_of_le (lt_of_block (L1.out.2.2.2.1)) (hnew.2.2 x hx)⟩
        clear L1
        refine hK.out _ _ ⟨⟨(L2.out.1).cell CW.out.1 (by simp), (L2.out.1).cell CW.out.2.1 (by simp), (L2.out.1).cell CW.out.2.2.1 (by simp)⟩, (three (L2.out.2.1)).1.2.2⟩ (fun hH2 => ?_)
        clear hK K hH
        have hH := hH2
        clear hH2 hg hnew
        simp only [Act.put, List.setIfInBounds_toArray, List.set_cons_zero, List.set_cons_succ, List.getElem_toArray, List.getElem_cons_succ, List.getElem_cons_zero]
        refine wpAnyH_ready (rs := [8]) (by kernel_rfl) (by simp) ?_
        refine AllReadyH.cons rfl (fun K hK => ?_) AllReadyH.nil
        go_simp
        have ga := World.grownBy_alloc u1 (.cells #[.int .i64 kk, .int .i64 nn, .slice a2 l' c2] 25) none
        have ba := three (heap_alloc_new u1 (.cells #[.int .i64 kk, .int .i64 nn, .slice a2 l' c2] 25))
        have L3 : Hid ((w.grownBy (u1.alloc (.cells #[.int .i64 kk, .int .i64 nn, .slice a2 l' c2] 25)) none) ∧ ((u1.alloc (.cells #[.int .i64 kk, .int .i64 nn, .slice a2 l' c2] 25)).heap[p0]? = some (Obj.cells #[.int .i64 k, .int .i64 n, .slice (some ⟨b, o, none⟩) l c] 25)) ∧ ((u1.alloc (.cells #[.int .i64 kk, .int .i64 nn, .slice a2 l' c2] 25)).heap[p1]? = some (Obj.cells #[.int .i64 0, .int .i64 0, .slice none 0 0] 25)) ∧ ((u1.alloc (.cells #[.int .i64 kk, .int .i64 nn, .slice a2 l' c2] 25)).heap[p2]? = some (Obj.cells #[.int .i64 k, .int .i64 n, .slice av j cv] 25)) ∧ (SlO (u1.alloc (.cells #[.int .i64 kk, .int .i64 nn, .slice a2 l' c2] 25)) 25 (av) j cv (P) bs) ∧ (bs.Nodup) ∧ (∀ x ∈ bs, p2 < x) ∧ (cv = 0 → av = none) ∧ (SlO (u1.alloc (.cells #[.int .i64 kk, .int .i64 nn, .slice a2 l' c2] 25)) 25 (a2) l' c2 (d') bd) ∧ (bd.Nodup) ∧ (∀ x ∈ bs, x ∉ bd) ∧ (∀ x ∈ bd, p2 < x) ∧ (((u1.alloc (.cells #[.int .i64 kk, .int .i64 nn, .slice a2 l' c2] 25)).cell? ⟨u1.heap.size, 0, none⟩ = some (.int .i64 kk) ∧ (u1.alloc (.cells #[.int .i64 kk, .int .i64 nn, .slice a2 l' c2] 25)).cell? ⟨u1.heap.size, 1, none⟩ = some (.int .i64 nn) ∧ (u1.alloc (.cells #[.int .i64 kk, .int .i64 nn, .slice a2 l' c2] 25)).cell? ⟨u1.heap.size, 2, none⟩ = some (.slice a2 l' c2)))) := ⟨grown_trans (L2.out.1) ga, (World.grownBy.block ga _ (lt_of_block (L2.out.2.1)) (by simp)).trans (L2.out.2.1), (World.grownBy.block ga _ (lt_of_block (L2.out.2.2.1)) (by simp)).trans (L2.out.2.2.1), (World.grownBy.block ga _ (lt_of_block (L2.out.2.2.2.1)) (by simp)).trans (L2.out.2.2.2.1), SlO.old (L2.out.2.2.2.2.1) ga, L2.out.2.2.2.2.2.1, L2.out.2.2.2.2.2.2.1, L2.out.2.2.2.2.2.2.2.1, SlO.old (L2.out.2.2.2.2.2.2.2.2.1) ga, L2.out.2.2.2.2.2.2.2.2.2.1, L2.out.2.2.2.2.2.2.2.2.2.2.1, L2.out.2.2.2.2.2.2.2.2.2.2.2, ba.1⟩
        clear L2
        clear ga ba
        generalize (u1.alloc (.cells #[.int .i64 kk, .int .i64 nn, .slice a2 l' c2] 25)) = ub at *
        generalize u1.heap.size = qq at *
        refine hK.out _ _ ⟨⟨(L3.out.1).cell CW.out.1 (by simp), (L3.out.1).cell CW.out.2.1 (by simp), (L3.out.1).cell CW.out.2.2.1 (by simp)⟩, (three (L3.out.2.1)).1.2.2⟩ (fun hH2 => ?_)
        clear hK K hH
        have hH := hH2
        clear hH2 
        simp only [Act.put, List.setIfInBounds_toArray, List.set_cons_zero, List.set_cons_succ, List.getElem_toArray, List.getElem_cons_succ, List.getElem_cons_zero]
        refine wpAnyH_ready (rs := [9]) (by kernel_rfl) (by simp) ?_
        refine AllReadyH.cons rfl (fun K hK => ?_) AllReadyH.nil
        obtain ⟨i0, hi, hz0, hz1, hz2⟩ := info_parts infoT
        refine step_pushT rfl (.tmp 18) (.tmp 25) 23 rfl 25 i0 _ Try.underlying23 hi hz0 hz1 hz2 rfl av j cv P bs rfl (L3.out.2.2.2.2.1) (L3.out.2.2.2.2.2.1) (L3.out.2.2.2.2.2.2.2.1) (by omega) ⟨qq, 0, none⟩ rfl (kk) (nn) a2 l' c2 (news3 (L3.out.2.2.2.2.2.2.2.2.2.2.2.2).1 (L3.out.2.2.2.2.2.2.2.2.2.2.2.2).2.1 (L3.out.2.2.2.2.2.2.2.2.2.2.2.2).2.2) (d') bd (L3.out.2.2.2.2.2.2.2.2.1) (L3.out.2.2.2.2.2.2.2.2.2.1) (L3.out.2.2.2.2.2.2.2.2.2.2.1) ?_
        intro a3 c3 bs3 u3 h1 h2 h3 h4 h5
        have L4 : Hid ((w.grownBy u3 none) ∧ (u3.heap[p0]? = some (Obj.cells #[.int .i64 k, .int .i64 n, .slice (some ⟨b, o, none⟩) l c] 25)) ∧ (u3.heap[p1]? = some (Obj.cells #[.int .i64 0, .int .i64 0, .slice none 0 0] 25)) ∧ (u3.heap[p2]? = some (Obj.cells #[.int .i64 k, .int .i64 n, .slice av j cv] 25)) ∧ (SlO u3 25 (a3) (j + 1) c3 (P.app (.cons (kk) (nn) (d') .nil)) bs3) ∧ (bs3.Nodup) ∧ (∀ x ∈ bs3, p2 < x) ∧ (0 < c3)) := ⟨Tn.fresh (L3.out.1) h4 (fun x hx => by have := (L3.out.2.2.2.2.2.2.1) x hx; have := PP.out; omega), (h4.block _ (lt_of_block (L3.out.2.1)) (fun hx => by have := (L3.out.2.2.2.2.2.2.1) _ hx; have := PP.out; omega)).trans (L3.out.2.1), (h4.block _ (lt_of_block (L3.out.2.2.1)) (fun hx => by have := (L3.out.2.2.2.2.2.2.1) _ hx; have := PP.out; omega)).trans (L3.out.2.2.1), (h4.block _ (lt_of_block (L3.out.2.2.2.1)) (fun hx => by have := (L3.out.2.2.2.2.2.2.1) _ hx; have := PP.out; omega)).trans (L3.out.2.2.2.1), h1, h2, (fun x hx => (h3 x hx).elim (fun h => (L3.out.2.2.2.2.2.2.1) x h) (fun h => h.elim (fun h => (L3.out.2.2.2.2.2.2.2.2.2.2.2.1) x h) (fun h => Nat.lt_of_lt_of_le (lt_of_block (L3.out.2.2.2.1)) h))), h5⟩
        clear L3
        clear h1 h2 h3 h4 h5 i0 hi hz0 hz1 hz2
        refine hK.out _ _ ⟨⟨(L4.out.1).cell CW.out.1 (by simp), (L4.out.1).cell CW.out.2.1 (by simp), (L4.out.1).cell CW.out.2.2.1 (by simp)⟩, (three (L4.out.2.1)).1.2.2⟩ (fun hH2 => ?_)
        clear hK K hH
        have hH := hH2
        clear hH2 
        simp only [Act.put, List.setIfInBounds_toArray, List.set_cons_zero, List.set_cons_succ, List.getElem_toArray, List.getElem_cons_succ, List.getElem_cons_zero]
        refine wpAnyH_take (i := 10) (v := ?_) rfl (by kernel_rfl) (by kernel_rfl) (by kernel_rfl) (fun _ _ _ h => h) (Or.inl ⟨by rfl, ?_⟩) hH ?_
        rotate_left
        · (intro v hS; go_simp; try with_reducible rfl)
        simp only [Act.put, List.setIfInBounds_toArray, List.set_cons_zero, List.set_cons_succ, List.getElem_toArray, List.getElem_cons_succ, List.getElem_cons_zero]
        refine wpAnyH_ready (rs := [11]) (by kernel_rfl) (by simp) ?_
        refine AllReadyH.cons rfl (fun K hK => ?_) AllReadyH.nil
        have yy := three (L4.out.2.2.2.1)
        obtain ⟨⟨y0, y1, y2⟩, f0, f1, f2⟩ := yy
        go_simp
        have ks := grown_setCell u3 p2 2 (.slice a3 (j + 1) c3)
        have L5 : Hid ((w.grownBy (u3.setCell ⟨p2, 2, none⟩ (.slice a3 (j + 1) c3)) none) ∧ ((u3.setCell ⟨p2, 2, none⟩ (.slice a3 (j + 1) c3)).heap[p0]? = some (Obj.cells #[.int .i64 k, .int .i64 n, .slice (some ⟨b, o, none⟩) l c] 25)) ∧ ((u3.setCell ⟨p2, 2, none⟩ (.slice a3 (j + 1) c3)).heap[p1]? = some (Obj.cells #[.int .i64 0, .int .i64 0, .slice none 0 0] 25)) ∧ ((u3.setCell ⟨p2, 2, none⟩ (.slice a3 (j + 1) c3)).heap[p2]? = some (Obj.cells #[.int .i64 k, .int .i64 n, .slice a3 (j + 1) c3] 25)) ∧ (SlO (u3.setCell ⟨p2, 2, none⟩ (.slice a3 (j + 1) c3)) 25 (a3) (j + 1) c3 (P.app (.cons (kk) (nn) (d') .nil)) bs3) ∧ (bs3.Nodup) ∧ (∀ x ∈ bs3, p2 < x) ∧ (0 < c3)) := ⟨grown_into (L4.out.1) ks (by have := PP.out; omega), (ks.block _ (lt_of_block (L4.out.2.1)) (by have := PP.out; simp; omega)).trans (L4.out.2.1), (ks.block _ (lt_of_block (L4.out.2.2.1)) (by have := PP.out; simp; omega)).trans (L4.out.2.2.1), heap_setCell_same u3 p2 2 _ _ _ (L4.out.2.2.2.1), SlO.kept (L4.out.2.2.2.2.1) ks (fun x hx => by have := (L4.out.2.2.2.2.2.2.1) x hx; simp; omega), L4.out.2.2.2.2.2.1, L4.out.2.2.2.2.2.2.1, L4.out.2.2.2.2.2.2.2⟩
        clear L4
        clear ks f0 f1 f2 y0 y1 y2
        generalize (u3.setCell ⟨p2, 2, none⟩ (.slice a3 (j + 1) c3)) = u4 at *
        refine hK.out _ _ ⟨⟨(L5.out.1).cell CW.out.1 (by simp), (L5.out.1).cell CW.out.2.1 (by simp), (L5.out.1).cell CW.out.2.2.1 (by simp)⟩, (three (L5.out.2.1)).1.2.2⟩ (fun hH2 => ?_)
        clear hK K hH
        have hH := hH2
        clear hH2 
        simp only [Act.put, List.setIfInBounds_toArray, List.set_cons_zero, List.set_cons_succ, List.getElem_toArray, List.getElem_cons_succ, List.getElem_cons_zero]
        refine wpAnyH_done (by kernel_rfl) ?_ _
        go_wp2
        go_roundw
        case rel => exact ⟨j + 1, P.app (.cons kk nn d' .nil), R', a3, c3, bs3, by omega, by go_num, by rw [F.app_len, hPl]; rfl, by omega, hRs', ⟨by rw [F.app_assoc]; exact HQ.out.1, HQ.out.2⟩, L5.out.1, L5.out.2.1, L5.out.2.2.1, L5.out.2.2.2.1, L5.out.2.2.2.2.1, L5.out.2.2.2.2.2.1, L5.out.2.2.2.2.2.2.1, fun h0 => absurd h0 (by have := L5.out.2.2.2.2.2.2.2; omega)⟩
        case measure => simp [intOf]; omega
      refine AllReadyH.cons rfl (fun K hK => ?_) AllReadyH.nil
      go_simp
      refine Calls.mono (IH.out d' kk nn a' l' c' u0 hds hds2 (CW.out.2.2.2.none (L1.out.1))) ?_
      rintro e u1 ⟨a2, c2, bd, rfl, hg, hnew, -⟩
      have L6 : Hid ((w.grownBy u1 none) ∧ (u1.heap[p0]? = some (Obj.cells #[.int .i64 k, .int .i64 n, .slice (some ⟨b, o, none⟩) l c] 25)) ∧ (u1.heap[p1]? = some (Obj.cells #[.int .i64 0, .int .i64 0, .slice none 0 0] 25)) ∧ (u1.heap[p2]? = some (Obj.cells #[.int .i64 k, .int .i64 n, .slice av j cv] 25)) ∧ (SlO u1 25 (av) j cv (P) bs) ∧ (bs.Nodup) ∧ (∀ x ∈ bs, p2 < x) ∧ (cv = 0 → av = none) ∧ (SlO u1 25 (a2) l' c2 (d') bd) ∧ (bd.Nodup) ∧ (∀ x ∈ bs, x ∉ bd) ∧ (∀ x ∈ bd, p2 < x)) := ⟨grown_trans (L1.out.1) hg, (World.grownBy.block hg _ (lt_of_block (L1.out.2.1)) (by simp)).trans (L1.out.2.1), (World.grownBy.block hg _ (lt_of_block (L1.out.2.2.1)) (by simp)).trans (L1.out.2.2.1), (World.grownBy.block hg _ (lt_of_block (L1.out.2.2.2.1)) (by simp)).trans (L1.out.2.2.2.1), SlO.old (L1.out.2.2.2.2.1) hg, L1.out.2.2.2.2.2.1, L1.out.2.2.2.2.2.2.1, L1.out.2.2.2.2.2.2.2, hnew.1, hnew.2.1, fun x hx hx2 => by have := SlO.lt (L1.out.2.2.2.2.1) x hx; have := hnew.2.2 x hx2; omega, fun x hx => Nat.lt_of_lt_of_le (lt_of_block (L1.out.2.2.2.1)) (hnew.2.2 x hx)⟩
      clear L1
      refine hK.out _ _ ⟨⟨(L6.out.1).cell CW.out.1 (by simp), (L6.out.1).cell CW.out.2.1 (by simp), (L6.out.1).cell CW.out.2.2.1 (by simp)⟩, (three (L6.out.2.1)).1.2.2⟩ (fun hH2 => ?_)
      clear hK K hH
      have hH := hH2
      clear hH2 hg hnew
      simp only [Act.put, List.setIfInBounds_toArray, List.set_cons_zero, List.set_cons_succ, List.getElem_toArray, List.getElem_cons_succ, List.getElem_cons_zero]
      refine wpAnyH_ready (rs := [1, 8]) (by kernel_rfl) (by simp) ?_
      refine AllReadyH.cons rfl (fun K hK => ?_) ?_
      · skip
        have yy := three (L6.out.2.2.2.1)
        obtain ⟨⟨y0, y1, y2⟩, -⟩ := yy
        go_simp
        refine hK.out _ _ ⟨⟨(L6.out.1).cell CW.out.1 (by simp), (L6.out.1).cell CW.out.2.1 (by simp), (L6.out.1).cell CW.out.2.2.1 (by simp)⟩, (three (L6.out.2.1)).1.2.2⟩ (fun hH2 => ?_)
        clear hK K hH
        have hH := hH2
        clear hH2 y0 y1 y2
        simp only [Act.put, List.setIfInBounds_toArray, List.set_cons_zero, List.set_cons_succ, List.getElem_toArray, List.getElem_cons_succ, List.getElem_cons_zero]
        refine wpAnyH_ready (rs := [8]) (by kernel_rfl) (by simp) ?_
        refine AllReadyH.cons rfl (fun K hK => ?_) AllReadyH.nil
        go_simp
        have ga := World.grownBy_alloc u1 (.cells #[.int .i64 kk, .int .i64 nn, .slice a2 l' c2] 25) none
        have ba := three (heap_alloc_new u1 (.cells #[.int .i64 kk, .int .i64 nn, .slice a2 l' c2] 25))
        have L7 : Hid ((w.grownBy (u1.alloc (.cells #[.int .i64 kk, .int .i64 nn, .slice a2 l' c2] 25)) none) ∧ ((u1.alloc (.cells #[.int .i64 kk, .int .i64 nn, .slice a2 l' c2] 25)).heap[p0]? = some (Obj.cells #[.int .i64 k, .int .i64 n, .slice (some ⟨b, o, none⟩) l c] 25)) ∧ ((u1.alloc (.cells #[.int .i64 kk, .int .i64 nn, .slice a2 l' c2] 25)).heap[p1]? = some (Obj.cells #[.int .i64 0, .int .i64 0, .slice none 0 0] 25)) ∧ ((u1.alloc (.cells #[.int .i64 kk, .int .i64 nn, .slice a2 l' c2] 25)).heap[p2]? = some (Obj.cells #[.int .i64 k, .int .i64 n, .slice av j cv] 25)) ∧ (SlO (u1.alloc (.cells #[.int .i64 kk, .int .i64 nn, .slice a2 l' c2] 25)) 25 (av) j cv (P) bs) ∧ (bs.Nodup) ∧ (∀ x ∈ bs, p2 < x) ∧ (cv = 0 → av = none) ∧ (SlO (u1.alloc (.cells #[.int .i64 kk, .int .i64 nn, .slice a2 l' c2] 25)) 25 (a2) l' c2 (d') bd) ∧ (bd.Nodup) ∧ (∀ x ∈ bs, x ∉ bd) ∧ (∀ x ∈ bd, p2 < x) ∧ (((u1.alloc (.cells #[.int .i64 kk, .int .i64 nn, .slice a2 l' c2] 25)).cell? ⟨u1.heap.size, 0, none⟩ = some (.int .i64 kk) ∧ (u1.alloc (.cells #[.int .i64 kk, .int .i64 nn, .slice a2 l' c2] 25)).cell? ⟨u1.heap.size, 1, none⟩ = some (.int .i64 nn) ∧ (u1.alloc (.cells #[.int .i64 kk, .int .i64 nn, .slice a2 l' c2] 25)).cell? ⟨u1.heap.size, 2, none⟩ = some (.slice a2 l' c2)))) := ⟨grown_trans (L6.out.1) ga, (World.grownBy.block ga _ (lt_of_block (L6.out.2.1)) (by simp)).trans (L6.out.2.1), (World.grownBy.block ga _ (lt_of_block (L6.out.2.2.1)) (by simp)).trans (L6.out.2.2.1), (World.grownBy.block ga _ (lt_of_block (L6.out.2.2.2.1)) (by simp)).trans (L6.out.2.2.2.1), SlO.old (L6.out.2.2.2.2.1) ga, L6.out.2.2.2.2.2.1, L6.out.2.2.2.2.2.2.1, L6.out.2.2.2.2.2.2.2.1, SlO.old (L6.out.2.2.2.2.2.2.2.2.1) ga, L6.out.2.2.2.2.2.2.2.2.2.1, L6.out.2.2.2.2.2.2.2.2.2.2.1, L6.out.2.2.2.2.2.2.2.2.2.2.2, ba.1⟩
        clear L6
        clear ga ba
        generalize (u1.alloc (.cells #[.int .i64 kk, .int .i64 nn, .slice a2 l' c2] 25)) = ub at *
        generalize u1.heap.size = qq at *
        refine hK.out _ _ ⟨⟨(L7.out.1).cell CW.out.1 (by simp), (L7.out.1).cell CW.out.2.1 (by simp), (L7.out.1).cell CW.out.2.2.1 (by simp)⟩, (three (L7.out.2.1)).1.2.2⟩ (fun hH2 => ?_)
        clear hK K hH
        have hH := hH2
        clear hH2 
        simp only [Act.put, List.setIfInBounds_toArray, List.set_cons_zero, List.set_cons_succ, List.getElem_toArray, List.getElem_cons_succ, List.getElem_cons_zero]
        refine wpAnyH_ready (rs := [9]) (by kernel_rfl) (by simp) ?_
        refine AllReadyH.cons rfl (fun K hK => ?_) AllReadyH.nil
        obtain ⟨i0, hi, hz0, hz1, hz2⟩ := info_parts infoT
        refine step_pushT rfl (.tmp 18) (.tmp 25) 23 rfl 25 i0 _ Try.underlying23 hi hz0 hz1 hz2 rfl av j cv P bs rfl (L7.out.2.2.2.2.1) (L7.out.2.2.2.2.2.1) (L7.out.2.2.2.2.2.2.2.1) (by omega) ⟨qq, 0, none⟩ rfl (kk) (nn) a2 l' c2 (news3 (L7.out.2.2.2.2.2.2.2.2.2.2.2.2).1 (L7.out.2.2.2.2.2.2.2.2.2.2.2.2).2.1 (L7.out.2.2.2.2.2.2.2.2.2.2.2.2).2.2) (d') bd (L7.out.2.2.2.2.2.2.2.2.1) (L7.out.2.2.2.2.2.2.2.2.2.1) (L7.out.2.2.2.2.2.2.2.2.2.2.1) ?_
        intro a3 c3 bs3 u3 h1 h2 h3 h4 h5
        have L8 : Hid ((w.grownBy u3 none) ∧ (u3.heap[p0]? = some (Obj.cells #[.int .i64 k, .int .i64 n, .slice (some ⟨b, o, none⟩) l c] 25)) ∧ (u3.heap[p1]? = some (Obj.cells #[.int .i64 0, .int .i64 0, .slice none 0 0] 25)) ∧ (u3.heap[p2]? = some (Obj.cells #[.int .i64 k, .int .i64 n, .slice av j cv] 25)) ∧ (SlO u3 25 (a3) (j + 1) c3 (P.app (.cons (kk) (nn) (d') .nil)) bs3) ∧ (bs3.Nodup) ∧ (∀ x ∈ bs3, p2 < x) ∧ (0 < c3)) := ⟨Tn.fresh (L7.out.1) h4 (fun x hx => by have := (L7.out.2.2.2.2.2.2.1) x hx; have := PP.out; omega), (h4.block _ (lt_of_block (L7.out.2.1)) (fun hx => by have := (L7.out.2.2.2.2.2.2.1) _ hx; have := PP.out; omega)).trans (L7.out.2.1), (h4.block _ (lt_of_block (L7.out.2.2.1)) (fun hx => by have := (L7.out.2.2.2.2.2.2.1) _ hx; have := PP.out; omega)).trans (L7.out.2.2.1), (h4.block _ (lt_of_block (L7.out.2.2.2.1)) (fun hx => by have := (L7.out.2.2.2.2.2.2.1) _ hx; have := PP.out; omega)).trans (L7.out.2.2.2.1), h1, h2, (fun x hx => (h3 x hx).elim (fun h => (L7.out.2.2.2.2.2.2.1) x h) (fun h => h.elim (fun h => (L7.out.2.2.2.2.2.2.2.2.2.2.2.1) x h) (fun h => Nat.lt_of_lt_of_le (lt_of_block (L7.out.2.2.2.1)) h))), h5⟩
        clear L7
        clear h1 h2 h3 h4 h5 i0 hi hz0 hz1 hz2
        refine hK.out _ _ ⟨⟨(L8.out.1).cell CW.out.1 (by simp), (L8.out.1).cell CW.out.2.1 (by simp), (L8.out.1).cell CW.out.2.2.1 (by simp)⟩, (three (L8.out.2.1)).1.2.2⟩ (fun hH2 => ?_)
        clear hK K hH
        have hH := hH2
        clear hH2 
        simp only [Act.put, List.setIfInBounds_toArray, List.set_cons_zero, List.set_cons_succ, List.getElem_toArray, List.getElem_cons_succ, List.getElem_cons_zero]
        refine wpAnyH_take (i := 10) (v := ?_) rfl (by kernel_rfl) (by kernel_rfl) (by kernel_rfl) (fun _ _ _ h => h) (Or.inl ⟨by rfl, ?_⟩) hH ?_
        rotate_left
        · (intro v hS; go_simp; try with_reducible rfl)
        simp only [Act.put, List.setIfInBounds_toArray, List.set_cons_zero, List.set_cons_succ, List.getElem_toArray, List.getElem_cons_succ, List.getElem_cons_zero]
        refine wpAnyH_ready (rs := [11]) (by kernel_rfl) (by simp) ?_
        refine AllReadyH.cons rfl (fun K hK => ?_) AllReadyH.nil
        have yy := three (L8.out.2.2.2.1)
        obtain ⟨⟨y0, y1, y2⟩, f0, f1, f2⟩ := yy
        go_simp
        have ks := grown_setCell u3 p2 2 (.slice a3 (j + 1) c3)
        have L9 : Hid ((w.grownBy (u3.setCell ⟨p2, 2, none⟩ (.slice a3 (j + 1) c3)) none) ∧ ((u3.setCell ⟨p2, 2, none⟩ (.slice a3 (j + 1) c3)).heap[p0]? = some (Obj.cells #[.int .i64 k, .int .i64 n, .slice (some ⟨b, o, none⟩) l c] 25)) ∧ ((u3.setCell ⟨p2, 2, none⟩ (.slice a3 (j + 1) c3)).heap[p1]? = some (Obj.cells #[.int .i64 0, .int .i64 0, .slice none 0 0] 25)) ∧ ((u3.setCell ⟨p2, 2, none⟩ (.slice a3 (j + 1) c3)).heap[p2]? = some (Obj.cells #[.int .i64 k, .int .i64 n, .slice a3 (j + 1) c3] 25)) ∧ (SlO (u3.setCell ⟨p2, 2, none⟩ (.slice a3 (j + 1) c3)) 25 (a3) (j + 1) c3 (P.app (.cons (kk) (nn) (d') .nil)) bs3) ∧ (bs3.Nodup) ∧ (∀ x ∈ bs3, p2 < x) ∧ (0 < c3)) := ⟨grown_into (L8.out.1) ks (by have := PP.out; omega), (ks.block _ (lt_of_block (L8.out.2.1)) (by have := PP.out; simp; omega)).trans (L8.out.2.1), (ks.block _ (lt_of_block (L8.out.2.2.1)) (by have := PP.out; simp; omega)).trans (L8.out.2.2.1), heap_setCell_same u3 p2 2 _ _ _ (L8.out.2.2.2.1), SlO.kept (L8.out.2.2.2.2.1) ks (fun x hx => by have := (L8.out.2.2.2.2.2.2.1) x hx; simp; omega), L8.out.2.2.2.2.2.1, L8.out.2.2.2.2.2.2.1, L8.out.2.2.2.2.2.2.2⟩
        clear L8
        clear ks f0 f1 f2 y0 y1 y2
        generalize (u3.setCell ⟨p2, 2, none⟩ (.slice a3 (j + 1) c3)) = u4 at *
        refine hK.out _ _ ⟨⟨(L9.out.1).cell CW.out.1 (by simp), (L9.out.1).cell CW.out.2.1 (by simp), (L9.out.1).cell CW.out.2.2.1 (by simp)⟩, (three (L9.out.2.1)).1.2.2⟩ (fun hH2 => ?_)
        clear hK K hH
        have hH := hH2
        clear hH2 
        simp only [Act.put, List.setIfInBounds_toArray, List.set_cons_zero, List.set_cons_succ, List.getElem_toArray, List.getElem_cons_succ, List.getElem_cons_zero]
        refine wpAnyH_done (by kernel_rfl) ?_ _
        go_wp2
        go_roundw
        case rel => exact ⟨j + 1, P.app (.cons kk nn d' .nil), R', a3, c3, bs3, by omega, by go_num, by rw [F.app_len, hPl]; rfl, by omega, hRs', ⟨by rw [F.app_assoc]; exact HQ.out.1, HQ.out.2⟩, L9.out.1, L9.out.2.1, L9.out.2.2.1, L9.out.2.2.2.1, L9.out.2.2.2.2.1, L9.out.2.2.2.2.2.1, L9.out.2.2.2.2.2.2.1, fun h0 => absurd h0 (by have := L9.out.2.2.2.2.2.2.2; omega)⟩
        case measure => simp [intOf]; omega
      refine AllReadyH.cons rfl (fun K hK => ?_) AllReadyH.nil
      go_simp
      have ga := World.grownBy_alloc u1 (.cells #[.int .i64 kk, .int .i64 nn, .slice a2 l' c2] 25) none
      have ba := three (heap_alloc_new u1 (.cells #[.int .i64 kk, .int .i64 nn, .slice a2 l' c2] 25))
      have L10 : Hid ((w.grownBy (u1.alloc (.cells #[.int .i64 kk, .int .i64 nn, .slice a2 l' c2] 25)) none) ∧ ((u1.alloc (.cells #[.int .i64 kk, .int .i64 nn, .slice a2 l' c2] 25)).heap[p0]? = some (Obj.cells #[.int .i64 k, .int .i64 n, .slice (some ⟨b, o, none⟩) l c] 25)) ∧ ((u1.alloc (.cells #[.int .i64 kk, .int .i64 nn, .slice a2 l' c2] 25)).heap[p1]? = some (Obj.cells #[.int .i64 0, .int .i64 0, .slice none 0 0] 25)) ∧ ((u1.alloc (.cells #[.int .i64 kk, .int .i64 nn, .slice a2 l' c2] 25)).heap[p2]? = some (Obj.cells #[.int .i64 k, .int .i64 n, .slice av j cv] 25)) ∧ (SlO (u1.alloc (.cells #[.int .i64 kk, .int .i64 nn, .slice a2 l' c2] 25)) 25 (av) j cv (P) bs) ∧ (bs.Nodup) ∧ (∀ x ∈ bs, p2 < x) ∧ (cv = 0 → av = none) ∧ (SlO (u1.alloc (.cells #[.int .i64 kk, .int .i64 nn, .slice a2 l' c2] 25)) 25 (a2) l' c2 (d') bd) ∧ (bd.Nodup) ∧ (∀ x ∈ bs, x ∉ bd) ∧ (∀ x ∈ bd, p2 < x) ∧ (((u1.alloc (.cells #[.int .i64 kk, .int .i64 nn, .slice a2 l' c2] 25)).cell? ⟨u1.heap.size, 0, none⟩ = some (.int .i64 kk) ∧ (u1.alloc (.cells #[.int .i64 kk, .int .i64 nn, .slice a2 l' c2] 25)).cell? ⟨u1.heap.size, 1, none⟩ = some (.int .i64 nn) ∧ (u1.alloc (.cells #[.int .i64 kk, .int .i64 nn, .slice a2 l' c2] 25)).cell? ⟨u1.heap.size, 2, none⟩ = some (.slice a2 l' c2)))) := ⟨grown_trans (L6.out.1) ga, (World.grownBy.block ga _ (lt_of_block (L6.out.2.1)) (by simp)).trans (L6.out.2.1), (World.grownBy.block ga _ (lt_of_block (L6.out.2.2.1)) (by simp)).trans (L6.out.2.2.1), (World.grownBy.block ga _ (lt_of_block (L6.out.2.2.2.1)) (by simp)).trans (L6.out.2.2.2.1), SlO.old (L6.out.2.2.2.2.1) ga, L6.out.2.2.2.2.2.1, L6.out.2.2.2.2.2.2.1, L6.out.2.2.2.2.2.2.2.1, SlO.old (L6.out.2.2.2.2.2.2.2.2.1) ga, L6.out.2.2.2.2.2.2.2.2.2.1, L6.out.2.2.2.2.2.2.2.2.2.2.1, L6.out.2.2.2.2.2.2.2.2.2.2.2, ba.1⟩
      clear L6
      clear ga ba
      generalize (u1.alloc (.cells #[.int .i64 kk, .int .i64 nn, .slice a2 l' c2] 25)) = ub at *
      generalize u1.heap.size = qq at *
      refine hK.out _ _ ⟨⟨(L10.out.1).cell CW.out.1 (by simp), (L10.out.1).cell CW.out.2.1 (by simp), (L10.out.1).cell CW.out.2.2.1 (by simp)⟩, (three (L10.out.2.1)).1.2.2⟩ (fun hH2 => ?_)
      clear hK K hH
      have hH := hH2
      clear hH2 
      simp only [Act.put, List.setIfInBounds_toArray, List.set_cons_zero, List.set_cons_succ, List.getElem_toArray, List.getElem_cons_succ, List.getElem_cons_zero]
      refine wpAnyH_ready (rs := [1]) (by kernel_rfl) (by simp) ?_
      refine AllReadyH.cons rfl (fun K hK => ?_) AllReadyH.nil
      have yy := three (L10.out.2.2.2.1)
      obtain ⟨⟨y0, y1, y2⟩, -⟩ := yy
      go_simp
      refine hK.out _ _ ⟨⟨(L10.out.1).cell CW.out.1 (by simp), (L10.out.1).cell CW.out.2.1 (by simp), (L10.out.1).cell CW.out.2.2.1 (by simp)⟩, (three (L10.out.2.1)).1.2.2⟩ (fun hH2 => ?_)
      clear hK K hH
      have hH := hH2
      clear hH2 y0 y1 y2
      simp only [Act.put, List.setIfInBounds_toArray, List.set_cons_zero, List.set_cons_succ, List.getElem_toArray, List.getElem_cons_succ, List.getElem_cons_zero]
      refine wpAnyH_ready (rs := [9]) (by kernel_rfl) (by simp) ?_
      refine AllReadyH.cons rfl (fun K hK => ?_) AllReadyH.nil
      obtain ⟨i0, hi, hz0, hz1, hz2⟩ := info_parts infoT
      refine step_pushT rfl (.tmp 18) (.tmp 25) 23 rfl 25 i0 _ Try.underlying23 hi hz0 hz1 hz2 rfl av j cv P bs rfl (L10.out.2.2.2.2.1) (L10.out.2.2.2.2.2.1) (L10.out.2.2.2.2.2.2.2.1) (by omega) ⟨qq, 0, none⟩ rfl (kk) (nn) a2 l' c2 (news3 (L10.out.2.2.2.2.2.2.2.2.2.2.2.2).1 (L10.out.2.2.2.2.2.2.2.2.2.2.2.2).2.1 (L10.out.2.2.2.2.2.2.2.2.2.2.2.2).2.2) (d') bd (L10.out.2.2.2.2.2.2.2.2.1) (L10.out.2.2.2.2.2.2.2.2.2.1) (L10.out.2.2.2.2.2.2.2.2.2.2.1) ?_
      intro a3 c3 bs3 u3 h1 h2 h3 h4 h5
      have L11 : Hid ((w.grownBy u3 none) ∧ (u3.heap[p0]? = some (Obj.cells #[.int .i64 k, .int .i64 n, .slice (some ⟨b, o, none⟩) l c] 25)) ∧ (u3.heap[p1]? = some (Obj.cells #[.int .i64 0, .int .i64 0, .slice none 0 0] 25)) ∧ (u3.heap[p2]? = some (Obj.cells #[.int .i64 k, .int .i64 n, .slice av j cv] 25)) ∧ (SlO u3 25 (a3) (j + 1) c3 (P.app (.cons (kk) (nn) (d') .nil)) bs3) ∧ (bs3.Nodup) ∧ (∀ x ∈ bs3, p2 < x) ∧ (0 < c3)) := ⟨Tn.fresh (L10.out.1) h4 (fun x hx => by have := (L10.out.2.2.2.2.2.2.1) x hx; have := PP.out; omega), (h4.block _ (lt_of_block (L10.out.2.1)) (fun hx => by have := (L10.out.2.2.2.2.2.2.1) _ hx; have := PP.out; omega)).trans (L10.out.2.1), (h4.block _ (lt_of_block (L10.out.2.2.1)) (fun hx => by have := (L10.out.2.2.2.2.2.2.1) _ hx; have := PP.out; omega)).trans (L10.out.2.2.1), (h4.block _ (lt_of_block (L10.out.2.2.2.1)) (fun hx => by have := (L10.out.2.2.2.2.2.2.1) _ hx; have := PP.out; omega)).trans (L10.out.2.2.2.1), h1, h2, (fun x hx => (h3 x hx).elim (fun h => (L10.out.2.2.2.2.2.2.1) x h) (fun h => h.elim (fun h => (L10.out.2.2.2.2.2.2.2.2.2.2.2.1) x h) (fun h => Nat.lt_of_lt_of_le (lt_of_block (L10.out.2.2.2.1)) h))), h5⟩
      clear L10
      clear h1 h2 h3 h4 h5 i0 hi hz0 hz1 hz2
      refine hK.out _ _ ⟨⟨(L11.out.1).cell CW.out.1 (by simp), (L11.out.1).cell CW.out.2.1 (by simp), (L11.out.1).cell CW.out.2.2.1 (by simp)⟩, (three (L11.out.2.1)).1.2.2⟩ (fun hH2 => ?_)
      clear hK K hH
      have hH := hH2
      clear hH2 
      simp only [Act.put, List.setIfInBounds_toArray, List.set_cons_zero, List.set_cons_succ, List.getElem_toArray, List.getElem_cons_succ, List.getElem_cons_zero]
      refine wpAnyH_take (i := 10) (v := ?_) rfl (by kernel_rfl) (by kernel_rfl) (by kernel_rfl) (fun _ _ _ h => h) (Or.inl ⟨by rfl, ?_⟩) hH ?_
      rotate_left
      · (intro v hS; go_simp; try with_reducible rfl)
      simp only [Act.put, List.setIfInBounds_toArray, List.set_cons_zero, List.set_cons_succ, List.getElem_toArray, List.getElem_cons_succ, List.getElem_cons_zero]
      refine wpAnyH_ready (rs := [11]) (by kernel_rfl) (by simp) ?_
      refine AllReadyH.cons rfl (fun K hK => ?_) AllReadyH.nil
      have yy := three (L11.out.2.2.2.1)
      obtain ⟨⟨y0, y1, y2⟩, f0, f1, f2⟩ := yy
      go_simp
      have ks := grown_setCell u3 p2 2 (.slice a3 (j + 1) c3)
      have L12 : Hid ((w.grownBy (u3.setCell ⟨p2, 2, none⟩ (.slice a3 (j + 1) c3)) none) ∧ ((u3.setCell ⟨p2, 2, none⟩ (.slice a3 (j + 1) c3)).heap[p0]? = some (Obj.cells #[.int .i64 k, .int .i64 n, .slice (some ⟨b, o, none⟩) l c] 25)) ∧ ((u3.setCell ⟨p2, 2, none⟩ (.slice a3 (j + 1) c3)).heap[p1]? = some (Obj.cells #[.int .i64 0, .int .i64 0, .slice none 0 0] 25)) ∧ ((u3.setCell ⟨p2, 2, none⟩ (.slice a3 (j + 1) c3)).heap[p2]? = some (Obj.cells #[.int .i64 k, .int .i64 n, .slice a3 (j + 1) c3] 25)) ∧ (SlO (u3.setCell ⟨p2, 2, none⟩ (.slice a3 (j + 1) c3)) 25 (a3) (j + 1) c3 (P.app (.cons (kk) (nn) (d') .nil)) bs3) ∧ (bs3.Nodup) ∧ (∀ x ∈ bs3, p2 < x) ∧ (0 < c3)) := ⟨grown_into (L11.out.1) ks (by have := PP.out; omega), (ks.block _ (lt_of_block (L11.out.2.1)) (by have := PP.out; simp; omega)).trans (L11.out.2.1), (ks.block _ (lt_of_block (L11.out.2.2.1)) (by have := PP.out; simp; omega)).trans (L11.out.2.2.1), heap_setCell_same u3 p2 2 _ _ _ (L11.out.2.2.2.1), SlO.kept (L11.out.2.2.2.2.1) ks (fun x hx => by have := (L11.out.2.2.2.2.2.2.1) x hx; simp; omega), L11.out.2.2.2.2.2.1, L11.out.2.2.2.2.2.2.1, L11.out.2.2.2.2.2.2.2⟩
      clear L11
      clear ks f0 f1 f2 y0 y1 y2
      generalize (u3.setCell ⟨p2, 2, none⟩ (.slice a3 (j + 1) c3)) = u4 at *
      refine hK.out _ _ ⟨⟨(L12.out.1).cell CW.out.1 (by simp), (L12.out.1).cell CW.out.2.1 (by simp), (L12.out.1).cell CW.out.2.2.1 (by simp)⟩, (three (L12.out.2.1)).1.2.2⟩ (fun hH2 => ?_)
      clear hK K hH
      have hH := hH2
      clear hH2 
      simp only [Act.put, List.setIfInBounds_toArray, List.set_cons_zero, List.set_cons_succ, List.getElem_toArray, List.getElem_cons_succ, List.getElem_cons_zero]
      refine wpAnyH_done (by kernel_rfl) ?_ _
      go_wp2
      go_roundw
      case rel => exact ⟨j + 1, P.app (.cons kk nn d' .nil), R', a3, c3, bs3, by omega, by go_num, by rw [F.app_len, hPl]; rfl, by omega, hRs', ⟨by rw [F.app_assoc]; exact HQ.out.1, HQ.out.2⟩, L12.out.1, L12.out.2.1, L12.out.2.2.1, L12.out.2.2.2.1, L12.out.2.2.2.2.1, L12.out.2.2.2.2.2.1, L12.out.2.2.2.2.2.2.1, fun h0 => absurd h0 (by have := L12.out.2.2.2.2.2.2.2; omega)⟩
      case measure => simp [intOf]; omega
end Go.Proofs.Ytmlganaiajhjeaa.By
