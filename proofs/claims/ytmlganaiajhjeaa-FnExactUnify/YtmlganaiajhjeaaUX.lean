/-
  The specification's copy of a list of binds, by its contract. No statement is proved here.
-/
import Derived.Test.YtmlganaiajhjeaaUPb
import Derived.Test.YtmlganaiajhjeaaTCp
import Derived.Test.YtmlganaiajhjeaaUC
import Derived.Test.YtmlganaiajhjeaaUJ
namespace Go.Proofs.Ytmlganaiajhjeaa.By
open Go.RowKit
set_option linter.unusedVariables false
set_option linter.unusedSimpArgs false

theorem step_pushB {P : Program} {ops : Array Oper} {o : Oper} {ac : Act} {w : World} {K : Act → World → Prop} {Q : Exit → Act → World → Prop} {E : Prop}
    (hg : o.guard = none) (s x : Operand) (t : TypeId) (ho : o.op = .call { callee := .builtin .append, args := #[s, x], argTypes := #[t, t] })
    (e tt : TypeId) (i : TypeInfo) (z : Value) (ht : P.underlying t = some (.slice e)) (hi : P.info? e = some i) (hz : i.zero = some z) (hsize : i.size = 4) (hby : i.bytes = 48) (hzs : z.cells.size = 4)
    (a : Option Addr) (l c : Nat) (f : B) (bs : List Nat) (hs : ac.eval s = .slice a l c) (h : SlOB w tt e a l c f bs) (hnd : bs.Nodup) (ha : c = 0 → a = none) (hl : l ≤ 200000) (ad : Addr) (hx : ac.eval x = .slice (some ad) 1 1) (v k n : Int) (a' : Option Addr) (l' c' : Nat) (hnews : ∀ j u, [Value.int .i64 v, Value.int .i64 k, Value.int .i64 n, Value.slice a' l' c'][j]? = some u → w.cell? (ad.add j) = some u)
    (d : F) (bd : List Nat) (hd : SlO w tt a' l' c' d bd) (hndd : bd.Nodup) (hdis : ∀ x ∈ bs, x ∉ bd)
    (H : ∀ a2 c2 bs2 w', SlOB w' tt e a2 (l + 1) c2 (f.app (.cons v k n d .nil)) bs2 → bs2.Nodup → (∀ x ∈ bs2, x ∈ bs ∨ x ∈ bd ∨ w.heap.size ≤ x) → Tn w w' bs → 0 < c2 → K (ac.put o.dst (.slice a2 (l + 1) c2)) w') :
    if Region.wanted o (yielded ops ac.tmps) = true then Oper.wp P o ac w K Q else E := by
  have hw : Region.wanted o (yielded ops ac.tmps) = true := by simp [Region.wanted, hg]
  rw [if_pos hw]
  obtain ⟨a2, c2, bs2, w', hrun, h1, h2, h3, h4, h5⟩ := run_pushB (P := P) (w := w) t o.type e tt i z ht hi hz hsize hby hzs a l c f bs h hnd ha hl ad v k n a' l' c' hnews d bd hd hndd hdis
  unfold Oper.wp execOp
  simp only [ho, resolve, invoke, builtin, Sem.run_bind, Sem.run_pure, Result.andThen_ok, List.map_toArray, List.map_cons, List.map_nil, hs, hx, hrun]
  exact H a2 c2 bs2 w' h1 h2 h3 h4 h5


set_option maxRecDepth 8000 in
set_option maxHeartbeats 8000000 in
theorem l4copyT (L : B) (a : Option Addr) (l c : Nat) (w : World) (h : SlB w a l L) (hL : wfB L) :
    Calls Try.prog 62 #[.slice a l c] w fun e u => ∃ a c bs, e = .returned (.slice a L.len c) ∧ NewB w u 25 44 a L.len c L bs ∧ w.grownBy u none ∧ (c = 0 → a = none) := by
  have hlen := wfB_len hL
  have hll := h.1
  have HL : Hid (wfB L ∧ L.len = l) := ⟨hL, hll⟩
  clear hL
  rcases h.cases with ⟨rfl, rfl⟩ | ⟨b, o, rfl, hin, -, hpos⟩
  · clear h
    go_enter Try.func62, Try.ntmps62
    go_wp2
    refine wp_loop_rounds 1 ?_
    rw [rounds_succ]
    go_wp2
    go_ret
    exact ⟨none, 0, [], rfl, NewB.nil _ _ _ _, World.grownBy.refl _ _, fun _ => rfl⟩
  have HI0 : Hid (InB w L b o) := hin
  clear h hin
  go_enter Try.func62, Try.ntmps62
  go_wp2_with fail
  go_loopw [3, 4] (fun lst i wr => ∃ (j : Nat) (P Q : B) (av : Option Addr) (cv : Nat) (bs : List Nat), j ≤ l ∧ i = .int .i64 j ∧ lst = .slice av j cv ∧ P.len = j ∧ Hid (L = P.app Q ∧ w.grownBy wr none ∧ NewB w wr 25 44 av j cv P bs ∧ (cv = 0 → av = none))) (fun _ i _ => l - (intOf i).toNat)
  case atStart => exact ⟨0, .nil, L, none, 0, [], Nat.zero_le _, rfl, rfl, rfl, rfl, World.grownBy.refl _ _, NewB.nil _ _ _ _, fun _ => rfl⟩
  case round =>
    obtain ⟨j, P, Q, av, cv, bs, hj, rfl, rfl, hPl, HI⟩ := hrel
    by_cases hlt : j < l
    · have hql : Q.len = (l - j - 1) + 1 := by have := B.app_len P Q; rw [← HI.out.1] at this; omega
      obtain ⟨v, k, n, d, Q1, rfl, hQ1⟩ := B.cons_of_len hql
      have hfd : L.find v = some (k, n, d) := by rw [HI.out.1]; exact find_at (by rw [← HI.out.1]; exact HL.out.1)
      have hw2 := wfB_find HL.out.1 hfd
      simp only [] at hw2
      have hok := hw2.2
      have hdz := okT_size hok
      have hin : InB w (.cons v k n d Q1) b (o + j * 4) := by
        have := HI0.out
        rw [HI.out.1] at this
        have := this.snd
        rw [hPl] at this
        exact this
      obtain ⟨⟨a1, l1, c1, hqu, hS1⟩, -⟩ := hin
      have gd := grown_drew HI.out.2.1
      have CC : Hid _ := l3copyT (d.size + 1) d k n a1 l1 c1 wr.drew (Nat.lt_succ_self _) (by omega) (hS1.none gd)
      have HV : Hid (∀ u, w.grownBy u none → Qua b (o + j * 4) (.int .i64 v) (.int .i64 k) (.int .i64 n) (.slice a1 l1 c1) u) := fun u hu => hqu.none hu
      have HL2 : Hid (L = (P.app (.cons v k n d .nil)).app Q1 ∧ w.grownBy wr.drew none ∧ NewB w wr.drew 25 44 av j cv P bs ∧ (cv = 0 → av = none)) := ⟨by rw [B.app_assoc]; exact HI.out.1, gd, ⟨HI.out.2.2.1.1.old (grown_drew (World.grownBy.refl wr none)), HI.out.2.2.1.2⟩, HI.out.2.2.2⟩
      have hj' : (j : Int) < (l : Int) := by omega
      have hjL : j ≤ 200000 := by omega
      clear hok hfd hw2 hQ1 hql hS1 gd hqu HI
      go_wp2_with fail
      refine wp_region_held_drew (S := (fun u => Qua b (o + j * 4) (.int .i64 v) (.int .i64 k) (.int .i64 n) (.slice a1 l1 c1) u)) (by kernel_rfl) (HV.out _ HL2.out.2.1) (fun hH => ?_)
      generalize wr.drew = t0 at *
      simp only [List.size_toArray, List.length_cons, List.length_nil, Nat.reduceAdd, Array.replicate, List.replicate]
      refine wpAnyH_take (i := 0) (v := ?_) rfl (by kernel_rfl) (by kernel_rfl) (by kernel_rfl) (fun _ _ _ h => h) (Or.inl ⟨by rfl, ?_⟩) hH ?_
      rotate_left
      · (intro v hS; obtain ⟨s0, s1, s2, s3⟩ := hS; go_simp; try with_reducible rfl)
      simp only [Act.put, List.setIfInBounds_toArray, List.set_cons_zero, List.set_cons_succ, List.getElem_toArray, List.getElem_cons_succ, List.getElem_cons_zero]
      refine wpAnyH_take (i := 1) (v := ?_) rfl (by kernel_rfl) (by kernel_rfl) (by kernel_rfl) (fun _ _ _ h => h) (Or.inl ⟨by rfl, ?_⟩) hH ?_
      rotate_left
      · (intro v hS; obtain ⟨s0, s1, s2, s3⟩ := hS; go_simp; try with_reducible rfl)
      simp only [Act.put, List.setIfInBounds_toArray, List.set_cons_zero, List.set_cons_succ, List.getElem_toArray, List.getElem_cons_succ, List.getElem_cons_zero]
      refine wpAnyH_take (i := 2) (v := ?_) rfl (by kernel_rfl) (by kernel_rfl) (by kernel_rfl) (fun _ _ _ h => h) (Or.inl ⟨by rfl, ?_⟩) hH ?_
      rotate_left
      · (intro v hS; obtain ⟨s0, s1, s2, s3⟩ := hS; go_simp; try with_reducible rfl)
      simp only [Act.put, List.setIfInBounds_toArray, List.set_cons_zero, List.set_cons_succ, List.getElem_toArray, List.getElem_cons_succ, List.getElem_cons_zero]
      refine wpAnyH_take (i := 3) (v := ?_) rfl (by kernel_rfl) (by kernel_rfl) (by kernel_rfl) (fun _ _ _ h => h) (Or.inl ⟨by rfl, ?_⟩) hH ?_
      rotate_left
      · (intro v hS; obtain ⟨s0, s1, s2, s3⟩ := hS; go_simp; try with_reducible rfl)
      simp only [Act.put, List.setIfInBounds_toArray, List.set_cons_zero, List.set_cons_succ, List.getElem_toArray, List.getElem_cons_succ, List.getElem_cons_zero]
      refine wpAnyH_take (i := 4) (v := ?_) rfl (by kernel_rfl) (by kernel_rfl) (by kernel_rfl) (fun _ _ _ h => h) (Or.inl ⟨by rfl, ?_⟩) hH ?_
      rotate_left
      · (intro v hS; obtain ⟨s0, s1, s2, s3⟩ := hS; go_simp; try with_reducible rfl)
      simp only [Act.put, List.setIfInBounds_toArray, List.set_cons_zero, List.set_cons_succ, List.getElem_toArray, List.getElem_cons_succ, List.getElem_cons_zero]
      refine wpAnyH_take (i := 5) (v := ?_) rfl (by kernel_rfl) (by kernel_rfl) (by kernel_rfl) (fun _ _ _ h => h) (Or.inl ⟨by rfl, ?_⟩) hH ?_
      rotate_left
      · (intro v hS; obtain ⟨s0, s1, s2, s3⟩ := hS; go_simp; try with_reducible rfl)
      simp only [Act.put, List.setIfInBounds_toArray, List.set_cons_zero, List.set_cons_succ, List.getElem_toArray, List.getElem_cons_succ, List.getElem_cons_zero]
      refine wpAnyH_take (i := 6) (v := ?_) rfl (by kernel_rfl) (by kernel_rfl) (by kernel_rfl) (fun _ _ _ h => h) (Or.inl ⟨by rfl, ?_⟩) hH ?_
      rotate_left
      · (intro v hS; obtain ⟨s0, s1, s2, s3⟩ := hS; go_simp; try with_reducible rfl)
      simp only [Act.put, List.setIfInBounds_toArray, List.set_cons_zero, List.set_cons_succ, List.getElem_toArray, List.getElem_cons_succ, List.getElem_cons_zero]
      refine wpAnyH_take (i := 7) (v := ?_) rfl (by kernel_rfl) (by kernel_rfl) (by kernel_rfl) (fun _ _ _ h => h) (Or.inl ⟨by rfl, ?_⟩) hH ?_
      rotate_left
      · (intro v hS; obtain ⟨s0, s1, s2, s3⟩ := hS; go_simp; try with_reducible rfl)
      simp only [Act.put, List.setIfInBounds_toArray, List.set_cons_zero, List.set_cons_succ, List.getElem_toArray, List.getElem_cons_succ, List.getElem_cons_zero]
      refine wpAnyH_take (i := 8) (v := ?_) rfl (by kernel_rfl) (by kernel_rfl) (by kernel_rfl) (fun _ _ _ h => h) (Or.inl ⟨by rfl, ?_⟩) hH ?_
      rotate_left
      · (intro v hS; obtain ⟨s0, s1, s2, s3⟩ := hS; go_simp; try with_reducible rfl)
      simp only [Act.put, List.setIfInBounds_toArray, List.set_cons_zero, List.set_cons_succ, List.getElem_toArray, List.getElem_cons_succ, List.getElem_cons_zero]
      refine wpAnyH_take (i := 9) (v := ?_) rfl (by kernel_rfl) (by kernel_rfl) (by kernel_rfl) (fun _ _ _ h => h) (Or.inl ⟨by rfl, ?_⟩) hH ?_
      rotate_left
      · (intro v hS; obtain ⟨s0, s1, s2, s3⟩ := hS; go_simp; try with_reducible rfl)
      simp only [Act.put, List.setIfInBounds_toArray, List.set_cons_zero, List.set_cons_succ, List.getElem_toArray, List.getElem_cons_succ, List.getElem_cons_zero]
      refine wpAnyH_take (i := 10) (v := ?_) rfl (by kernel_rfl) (by kernel_rfl) (by kernel_rfl) (fun _ _ _ h => h) (Or.inl ⟨by rfl, ?_⟩) hH ?_
      rotate_left
      · (intro v hS; obtain ⟨s0, s1, s2, s3⟩ := hS; go_simp; try with_reducible rfl)
      simp only [Act.put, List.setIfInBounds_toArray, List.set_cons_zero, List.set_cons_succ, List.getElem_toArray, List.getElem_cons_succ, List.getElem_cons_zero]
      refine wpAnyH_ready (rs := [11]) (by kernel_rfl) (by simp) ?_
      refine AllReadyH.cons rfl (fun K hK => ?_) AllReadyH.nil
      go_simp
      refine Calls.mono CC.out ?_
      rintro e u ⟨a2, c2, bd, rfl, hg, hN, hna⟩
      refine hK.out _ _ (HV.out _ (grown_trans HL2.out.2.1 hg)) (fun hH2 => ?_)
      have ga := World.grownBy_alloc u (.cells #[.int .i64 v, .int .i64 k, .int .i64 n, .slice a2 l1 c2] 44) none
      have hsw := HL2.out.2.1.size
      have LB : Hid (SlOB (u.alloc (.cells #[.int .i64 v, .int .i64 k, .int .i64 n, .slice a2 l1 c2] 44)) 25 44 av j cv P bs ∧ bs.Nodup ∧ (∀ x ∈ bs, w.heap.size ≤ x) ∧ (cv = 0 → av = none) ∧ SlO (u.alloc (.cells #[.int .i64 v, .int .i64 k, .int .i64 n, .slice a2 l1 c2] 44)) 25 a2 l1 c2 d bd ∧ bd.Nodup ∧ (∀ x ∈ bd, w.heap.size ≤ x) ∧ (∀ x ∈ bs, x ∉ bd) ∧ w.grownBy (u.alloc (.cells #[.int .i64 v, .int .i64 k, .int .i64 n, .slice a2 l1 c2] 44)) none) := by
        obtain ⟨-, g1, ⟨g2, g3, g4⟩, g5⟩ := HL2.out
        have gg := grown_trans hg ga
        refine ⟨g2.old gg, g3, g4, g5, hN.1.kept ga (by simp), hN.2.1, fun x hx => by have := hN.2.2 x hx; omega, fun x hx hx' => by have h1 := hN.2.2 x hx'; have h2 := g2.lt x hx; omega, grown_trans g1 gg⟩
      have NW : Hid _ := news4 (q := u.heap.size) (u := u.alloc (.cells #[.int .i64 v, .int .i64 k, .int .i64 n, .slice a2 l1 c2] 44)) (v0 := .int .i64 v) (v1 := .int .i64 k) (v2 := .int .i64 n) (v3 := .slice a2 l1 c2) (four (heap_alloc_new u _)).1
      obtain ⟨i0, hi, hz0, hz1, hz2⟩ := info_parts infoB
      clear ga hN hg hna hsw CC
      clear hK K hH
      have hH := hH2
      clear hH2
      simp only [Act.put, List.setIfInBounds_toArray, List.set_cons_zero, List.set_cons_succ, List.getElem_toArray, List.getElem_cons_succ, List.getElem_cons_zero]
      refine wpAnyH_take (i := 12) (v := ?_) rfl (by kernel_rfl) (by kernel_rfl) (by kernel_rfl) (fun _ _ _ h => h) (Or.inl ⟨by rfl, ?_⟩) hH ?_
      rotate_left
      · (intro v hS; go_simp; try with_reducible rfl)
      simp only [Act.put, List.setIfInBounds_toArray, List.set_cons_zero, List.set_cons_succ, List.getElem_toArray, List.getElem_cons_succ, List.getElem_cons_zero]
      refine wpAnyH_ready (rs := [13]) (by kernel_rfl) (by simp) ?_
      refine AllReadyH.cons rfl (fun K hK => ?_) AllReadyH.nil
      go_simp
      refine hK.out _ _ (HV.out _ LB.out.2.2.2.2.2.2.2.2) (fun hH2 => ?_)
      generalize (u.alloc (.cells #[.int .i64 v, .int .i64 k, .int .i64 n, .slice a2 l1 c2] 44)) = ub at *
      generalize u.heap.size = qq at *
      clear hK K hH
      have hH := hH2
      clear hH2
      simp only [Act.put, List.setIfInBounds_toArray, List.set_cons_zero, List.set_cons_succ, List.getElem_toArray, List.getElem_cons_succ, List.getElem_cons_zero]
      refine wpAnyH_ready (rs := [14]) (by kernel_rfl) (by simp) ?_
      refine AllReadyH.cons rfl (fun K hK => ?_) AllReadyH.nil
      refine step_pushB rfl (.tmp 11) (.tmp 24) 37 rfl 44 25 i0 _ Try.underlying37 hi hz0 hz1 hz2 rfl av j cv P bs rfl LB.out.1 LB.out.2.1 LB.out.2.2.2.1 hjL ⟨qq, 0, none⟩ rfl v k n a2 l1 c2 NW.out d bd LB.out.2.2.2.2.1 LB.out.2.2.2.2.2.1 LB.out.2.2.2.2.2.2.2.1 ?_
      intro a3 c3 bs3 u3 h1 h2 h3 h4 h5
      have HE : Hid (w.grownBy u3 none ∧ NewB w u3 25 44 a3 (j + 1) c3 (P.app (.cons v k n d .nil)) bs3 ∧ 0 < c3) := ⟨Tn.fresh LB.out.2.2.2.2.2.2.2.2 h4 LB.out.2.2.1, ⟨h1, h2, fun x hx => by
        rcases h3 x hx with h | h | h
        · exact LB.out.2.2.1 x h
        · exact LB.out.2.2.2.2.2.2.1 x h
        · have := LB.out.2.2.2.2.2.2.2.2.size; omega⟩, h5⟩
      clear h1 h2 h3 h4 h5 LB NW
      refine hK.out _ _ (HV.out _ HE.out.1) (fun hH2 => ?_)
      clear hK K hH
      have hH := hH2
      clear hH2
      simp only [Act.put, List.setIfInBounds_toArray, List.set_cons_zero, List.set_cons_succ, List.getElem_toArray, List.getElem_cons_succ, List.getElem_cons_zero]
      refine wpAnyH_take (i := 15) (v := ?_) rfl (by kernel_rfl) (by kernel_rfl) (by kernel_rfl) (fun _ _ _ h => h) (Or.inl ⟨by rfl, ?_⟩) hH ?_
      rotate_left
      · (intro v hS; go_simp; try with_reducible rfl)
      simp only [Act.put, List.setIfInBounds_toArray, List.set_cons_zero, List.set_cons_succ, List.getElem_toArray, List.getElem_cons_succ, List.getElem_cons_zero]
      refine wpAnyH_done (by kernel_rfl) ?_ _
      go_wp2
      go_roundw
      case rel => exact ⟨j + 1, P.app (.cons v k n d .nil), Q1, a3, c3, bs3, by omega, by go_num, rfl, by rw [B.app_len, hPl]; rfl, HL2.out.1, HE.out.1, HE.out.2.1, fun e => by have := HE.out.2.2; omega⟩
      case measure => simp [intOf]; omega
    · obtain rfl : j = l := by omega
      have hQ0 : Q = .nil := B.nil_of_len (by have := B.app_len P Q; rw [← HI.out.1] at this; omega)
      have HE : Hid (L = P ∧ w.grownBy wr none ∧ NewB w wr 25 44 av j cv P bs ∧ (cv = 0 → av = none)) := ⟨by rw [HI.out.1, hQ0, B.app_nil], HI.out.2⟩
      clear HI hQ0
      go_wp2
      go_ret
      have := HE.out.2.2.1
      rw [← HE.out.1] at this
      rw [hll]
      exact ⟨av, cv, bs, rfl, this, HE.out.2.1, HE.out.2.2.2⟩
end Go.Proofs.Ytmlganaiajhjeaa.By
