/-
  The specification's replacing of variables, by its contract. No statement is proved here.
-/
import Derived.Test.YtmlganaiajhjeaaTSubF
import Derived.Test.YtmlganaiajhjeaaTCp
namespace Go.Proofs.Ytmlganaiajhjeaa.By
open Go.RowKit
set_option linter.unusedVariables false
set_option linter.unusedSimpArgs false

/-- A slice of numbers that are their own places. -/
def Iota (w : World) (a : Option Addr) (n : Nat) : Prop := n = 0 ∨ ∃ b o, a = some ⟨b, o, none⟩ ∧ ∀ i, i < n → w.cell? ⟨b, o + i, none⟩ = some (.int .i64 (i : Int))
theorem Iota.none {w u : World} {a : Option Addr} {n : Nat} (h : Iota w a n) (hg : w.grownBy u Option.none) : Iota u a n := by
  rcases h with h | ⟨b, o, e, h⟩
  · exact .inl h
  · exact .inr ⟨b, o, e, fun i hi => hg.cell (h i hi) (by simp)⟩
theorem nth_lt {f : F} : ∀ {i : Nat} {x : Int × Int × F}, f.nth i = some x → x.2.2.size ≤ f.size := by
  induction f with
  | nil => intro i x h; simp [F.nth] at h
  | cons k n d r _ ih =>
    intro i x h
    cases i with
    | zero => simp [F.nth] at h; subst h; simp only [F.size]; omega
    | succ i => have := ih h; simp only [F.size]; omega

set_option maxRecDepth 8000 in
set_option maxHeartbeats 4000000 in
theorem putT (E : F) (ae ai : Option Addr) (le ce ci : Nat) (hok : okL E = true) (m : Nat) : ∀ (d : F) (k n : Int) (a : Option Addr) (l c p : Nat) (bsd : List Nat) (w : World), d.size < m → d.size ≤ 100000 → SlO w 25 a l c d bsd → SlF w ae le E → Iota w ai le → fitsB k n l = true → okF d p = true →
    Calls Try.prog 53 #[.agg #[.int .i64 k, .int .i64 n, .slice a l c], .slice ai le ci, .slice ae le ce] w fun e u => ∃ a' l2 c' bs, e = .returned (.agg #[.int .i64 (subT E k n d).1, .int .i64 (subT E k n d).2.1, .slice a' l2 c']) ∧ w.grownBy u none ∧ New w u 25 a' l2 c' (subT E k n d).2.2 bs := by
  induction m with
  | zero => intro d k n a l c p bsd w hm; exact absurd hm (Nat.not_lt_zero _)
  | succ m ih =>
    intro d k n a l c p bsd w hm hm2 h hE hI hf hokd
    have hfl := h.1
    have hl := h.2.1
    have hlen := d.len_le
    have hk := fits_rangeV hf
    have hEl := hE.2.1
    obtain ⟨b0, b1, bsz⟩ := alloc2_blocks w (.cells #[.int .i64 k, .int .i64 n, .slice a l c] 25) (.cells #[.int .i64 0, .int .i64 0, .slice none 0 0] 25)
    have g0 := grown_alloc (grown_alloc (World.grownBy.refl w none) (.cells #[.int .i64 k, .int .i64 n, .slice a l c] 25)) (.cells #[.int .i64 0, .int .i64 0, .slice none 0 0] 25)
    have IH : Hid _ := ih
    have HS : Hid (SlO w 25 a l c d bsd ∧ SlF w ae le E ∧ Iota w ai le ∧ okF d p = true) := ⟨h, hE, hI, hokd⟩
    have L0 : Hid (w.grownBy _ none ∧ _ = some (Obj.cells #[.int .i64 k, .int .i64 n, .slice a l c] 25) ∧ _ = some (Obj.cells #[.int .i64 0, .int .i64 0, .slice none 0 0] 25)) := ⟨g0, b0, b1⟩
    clear ih hE hI hokd g0 b0 b1 bsz
    by_cases h7 : k = 7
    · subst h7
      rw [fits7] at hf
      simp only [Bool.and_eq_true, decide_eq_true_eq] at hf
      obtain ⟨hl0, hn0, -⟩ := hf
      subst hl0
      obtain rfl : d = .nil := F.nil_of_len hfl
      have hc0 : c = 0 := by
        rcases h.2.2.2 with ⟨hc, _⟩ | ⟨_, _, hp, _⟩
        · exact hc
        · exact absurd hp (by omega)
      subst hc0
      obtain ⟨nn, rfl⟩ : ∃ nn : Nat, n = (nn : Int) := ⟨n.toNat, by omega⟩
      clear h IH
      go_enter Try.func53, Try.ntmps53
      go_wp2
      obtain ⟨g0, b0, b1⟩ := L0.out
      clear L0
      generalize (w.alloc (.cells #[.int .i64 7, .int .i64 (nn : Int), .slice a 0 0] 25)).alloc (.cells #[.int .i64 0, .int .i64 0, .slice none 0 0] 25) = W0 at *
      generalize e0 : w.heap.size = p0 at *
      generalize e1 : p0 + 1 = p1 at *
      have PQ : Hid (w.heap.size = p0 ∧ p0 + 1 = p1) := ⟨e0, e1⟩
      have L1 : Hid (w.grownBy W0 none ∧ W0.heap[p0]? = _ ∧ W0.heap[p1]? = _) := ⟨g0, b0, b1⟩
      clear g0 b0 b1 e0 e1
      go_loopw [7] (fun i wr => ∃ j : Nat, j ≤ le ∧ j ≤ nn ∧ i = .int .i64 j ∧ Hid (w.grownBy wr none ∧ wr.heap[p0]? = some (Obj.cells #[.int .i64 7, .int .i64 (nn : Int), .slice a 0 0] 25) ∧ wr.heap[p1]? = some (Obj.cells #[.int .i64 0, .int .i64 0, .slice none 0 0] 25))) (fun i _ => le - (intOf i).toNat)
      case atStart => exact ⟨0, Nat.zero_le _, Nat.zero_le _, rfl, L1⟩
      case round =>
        clear L1
        obtain ⟨j, hj, hjn, rfl, LI⟩ := hrel
        by_cases hlt : j < le
        · have hlt' : (j : Int) < (le : Int) := by omega
          rcases HS.out.2.2.1 with hz | ⟨bi, oi, rfl, hci⟩
          · exact absurd hlt (by omega)
          have gd := grown_drew (World.grownBy.refl wr none)
          have T0 : Hid (wr.drew.cell? ⟨bi, oi + j, none⟩ = some (.int .i64 (j : Int)) ∧ wr.drew.cell? ⟨p0, 1, none⟩ = some (.int .i64 (nn : Int))) := ⟨gd.cell (LI.out.1.cell (hci j hlt) (by simp)) (by simp), gd.cell (three LI.out.2.1).1.2.1 (by simp)⟩
          have LD : Hid (w.grownBy wr.drew none ∧ wr.drew.heap[p0]? = some (Obj.cells #[.int .i64 7, .int .i64 (nn : Int), .slice a 0 0] 25) ∧ wr.drew.heap[p1]? = some (Obj.cells #[.int .i64 0, .int .i64 0, .slice none 0 0] 25)) := ⟨grown_trans LI.out.1 gd, LI.out.2.1, LI.out.2.2⟩
          clear hci gd LI
          go_wp2_with fail
          refine wp_region_held_drew (S := (fun u => u.cell? ⟨bi, oi + j, none⟩ = some (.int .i64 (j : Int)) ∧ u.cell? ⟨p0, 1, none⟩ = some (.int .i64 (nn : Int)))) (by kernel_rfl) T0.out (fun hH => ?_)
          generalize wr.drew = u0 at *
          clear wr T0
          simp only [List.size_toArray, List.length_cons, List.length_nil, Nat.reduceAdd, Array.replicate, List.replicate]
          refine wpAnyH_take (i := 0) (v := ?_) rfl (by kernel_rfl) (by kernel_rfl) (by kernel_rfl) (fun _ _ _ h => h) (Or.inl ⟨by rfl, ?_⟩) hH ?_
          rotate_left
          · (intro v hS; obtain ⟨s0, s1⟩ := hS; go_simp; try with_reducible rfl)
          simp only [Act.put, List.setIfInBounds_toArray, List.set_cons_zero, List.set_cons_succ, List.getElem_toArray, List.getElem_cons_succ, List.getElem_cons_zero]
          refine wpAnyH_take (i := 1) (v := ?_) rfl (by kernel_rfl) (by kernel_rfl) (by kernel_rfl) (fun _ _ _ h => h) (Or.inl ⟨by rfl, ?_⟩) hH ?_
          rotate_left
          · (intro v hS; obtain ⟨s0, s1⟩ := hS; go_simp; try with_reducible rfl)
          simp only [Act.put, List.setIfInBounds_toArray, List.set_cons_zero, List.set_cons_succ, List.getElem_toArray, List.getElem_cons_succ, List.getElem_cons_zero]
          refine wpAnyH_take (i := 2) (v := ?_) rfl (by kernel_rfl) (by kernel_rfl) (by kernel_rfl) (fun _ _ _ h => h) (Or.inl ⟨by rfl, ?_⟩) hH ?_
          rotate_left
          · (intro v hS; obtain ⟨s0, s1⟩ := hS; go_simp; try with_reducible rfl)
          simp only [Act.put, List.setIfInBounds_toArray, List.set_cons_zero, List.set_cons_succ, List.getElem_toArray, List.getElem_cons_succ, List.getElem_cons_zero]
          refine wpAnyH_take (i := 3) (v := ?_) rfl (by kernel_rfl) (by kernel_rfl) (by kernel_rfl) (fun _ _ _ h => h) (Or.inl ⟨by rfl, ?_⟩) hH ?_
          rotate_left
          · (intro v hS; obtain ⟨s0, s1⟩ := hS; go_simp; try with_reducible rfl)
          simp only [Act.put, List.setIfInBounds_toArray, List.set_cons_zero, List.set_cons_succ, List.getElem_toArray, List.getElem_cons_succ, List.getElem_cons_zero]
          refine wpAnyH_take (i := 4) (v := ?_) rfl (by kernel_rfl) (by kernel_rfl) (by kernel_rfl) (fun _ _ _ h => h) (Or.inl ⟨by rfl, ?_⟩) hH ?_
          rotate_left
          · (intro v hS; obtain ⟨s0, s1⟩ := hS; go_simp; try with_reducible rfl)
          simp only [Act.put, List.setIfInBounds_toArray, List.set_cons_zero, List.set_cons_succ, List.getElem_toArray, List.getElem_cons_succ, List.getElem_cons_zero]
          refine wpAnyH_take (i := 5) (v := ?_) rfl (by kernel_rfl) (by kernel_rfl) (by kernel_rfl) (fun _ _ _ h => h) (Or.inl ⟨by rfl, ?_⟩) hH ?_
          rotate_left
          · (intro v hS; obtain ⟨s0, s1⟩ := hS; go_simp; try with_reducible rfl)
          simp only [Act.put, List.setIfInBounds_toArray, List.set_cons_zero, List.set_cons_succ, List.getElem_toArray, List.getElem_cons_succ, List.getElem_cons_zero]
          by_cases he : j = nn
          · subst he
            refine wpAnyH_take (i := 6) (v := ?_) rfl (by kernel_rfl) (by kernel_rfl) (by kernel_rfl) (fun _ _ _ h => h) (Or.inl ⟨by rfl, ?_⟩) hH ?_
            rotate_left
            · (intro v hS; go_simp; try with_reducible rfl)
            simp only [Act.put, List.setIfInBounds_toArray, List.set_cons_zero, List.set_cons_succ, List.getElem_toArray, List.getElem_cons_succ, List.getElem_cons_zero]
            refine wpAnyH_done (by kernel_rfl) ?_ _
            rcases HS.out.2.1.cases with ⟨hle, -⟩ | ⟨be, oe, rfl, hinE, hlE, -⟩
            · exact absurd hlt (by omega)
            obtain ⟨kk, n2, d2, a2, l2, c2, hnth, c0, c1, c2', hd2⟩ := (hinE.none LD.out.1).nth (i := j) (by omega)
            have hok2 := okL_nth hok hnth
            simp only [okT, Bool.and_eq_true, decide_eq_true_eq] at hok2
            have C2 : Hid _ := l3copyT (d2.size + 1) d2 kk n2 a2 l2 c2 u0 (Nat.lt_succ_self _) (by omega) hd2
            have ES : Hid (subT E 7 (j : Int) .nil = (kk, n2, d2)) := subT_some (by simpa using hnth)
            clear hinE hnth hd2 hok2 HS hH
            go_wp2_with fail
            refine Calls.mono C2.out ?_
            rintro e w2 ⟨a3, c3, bs, rfl, hg, hnew, -⟩
            obtain ⟨g1, b0, b1⟩ := LD.out
            have b1' := (hg.block _ (lt_of_block b1) (by simp)).trans b1
            obtain ⟨⟨v0, v1, v2⟩, f0, f1, f2⟩ := three b1'
            obtain ⟨d1, k1⟩ := fill3 (.int .i64 kk) (.int .i64 n2) (.slice a3 l2 c3) b1'
            have hbs : ∀ x ∈ bs, p1 < x := fun x hx => Nat.lt_of_lt_of_le (lt_of_block b1) (hnew.2.2 x hx)
            have FQ : Hid _ := And.intro d1 (And.intro (grown_into (grown_trans g1 hg) k1 (by have := PQ.out; omega)) (show New w _ 25 a3 l2 c3 d2 bs from ⟨hnew.1.kept k1 (fun x hx => by have := hbs x hx; simp; omega), hnew.2.1, fun x hx => by have := hbs x hx; have := PQ.out; omega⟩))
            clear C2 hg hnew g1 b0 b1 b1' d1 k1 hbs c0 c1 c2' LD
            simp only []
            go_wp2
            (try simp only [Exit.inBlock, Exit.then])
            refine bodyPost_ret (results_cell_row (P := Try.prog) Try.results53 _ _ p1 _ _ _ _ rfl FQ.out.1 Try.underlying25 rfl (by kernel_rfl)) rfl ?_
            rw [ES.out]
            exact ⟨a3, l2, c3, bs, rfl, FQ.out.2.1, FQ.out.2.2⟩
          · have he' : ((j : Int) == (nn : Int)) = false := by simp; omega
            refine wpAnyH_take (i := 6) (v := ?_) rfl (by kernel_rfl) (by kernel_rfl) (by kernel_rfl) (fun _ _ _ h => h) (Or.inl ⟨by rfl, ?_⟩) hH ?_
            rotate_left
            · (intro v hS; go_simp; try with_reducible rfl)
            simp only [Act.put, List.setIfInBounds_toArray, List.set_cons_zero, List.set_cons_succ, List.getElem_toArray, List.getElem_cons_succ, List.getElem_cons_zero]
            refine wpAnyH_done (by kernel_rfl) ?_ _
            clear hH
            go_wp2
            go_roundw
            case rel => exact ⟨j + 1, by omega, by omega, by go_num, LD⟩
            case measure => simp [intOf]; omega
        · obtain rfl : j = le := by omega
          have ES : Hid (subT E 7 (nn : Int) .nil = (7, (nn : Int), .nil)) := subT_none (by have := HS.out.2.1.1; simp; omega)
          obtain ⟨g1, b0, b1⟩ := LI.out
          obtain ⟨⟨x0, x1, x2⟩, -⟩ := three b0
          obtain ⟨⟨v0, v1, v2⟩, f0, f1, f2⟩ := three b1
          have hne : p0 ≠ p1 := by have := PQ.out; omega
          obtain ⟨d1, k1⟩ := fill3 (.int .i64 7) (.int .i64 (nn : Int)) (.slice a 0 0) b1
          have FQ : Hid _ := And.intro d1 (grown_into g1 k1 (by have := PQ.out; omega))
          clear g1 b0 b1 d1 k1 LI HS
          go_wp2
          (try simp only [Exit.inBlock, Exit.then])
          refine bodyPost_ret (results_cell_row (P := Try.prog) Try.results53 _ _ p1 _ _ _ _ rfl FQ.out.1 Try.underlying25 rfl (by kernel_rfl)) rfl ?_
          rw [ES.out]
          exact ⟨a, 0, 0, [], rfl, FQ.out.2, ⟨rfl, by omega, by omega, .inl ⟨rfl, rfl⟩⟩, List.nodup_nil, fun x hx => by simp at hx⟩
    -- any other kind
    have ES : Hid (subT E k n d = (k, n, subF E d)) := subT_other h7
    have hb7 : (k == (7 : Int)) = false := by simp [h7]
    clear h7
    have ga := World.grownBy_alloc ((w.alloc (.cells #[.int .i64 k, .int .i64 n, .slice a l c] 25)).alloc (.cells #[.int .i64 0, .int .i64 0, .slice none 0 0] 25)) (.cells #[.int .i64 k, .int .i64 n, .slice none 0 0] 25) none
    have ba := heap_alloc_new ((w.alloc (.cells #[.int .i64 k, .int .i64 n, .slice a l c] 25)).alloc (.cells #[.int .i64 0, .int .i64 0, .slice none 0 0] 25)) (.cells #[.int .i64 k, .int .i64 n, .slice none 0 0] 25)
    have esz : ((w.alloc (.cells #[.int .i64 k, .int .i64 n, .slice a l c] 25)).alloc (.cells #[.int .i64 0, .int .i64 0, .slice none 0 0] 25)).heap.size = w.heap.size + 1 + 1 := by simp
    rw [esz] at ba
    have L2 : Hid (w.grownBy _ none ∧ _ = some (Obj.cells #[.int .i64 k, .int .i64 n, .slice a l c] 25) ∧ _ = some (Obj.cells #[.int .i64 0, .int .i64 0, .slice none 0 0] 25) ∧ _ = some (Obj.cells #[.int .i64 k, .int .i64 n, .slice none 0 0] 25)) := ⟨grown_trans L0.out.1 ga, (ga.block _ (lt_of_block L0.out.2.1) (by simp)).trans L0.out.2.1, (ga.block _ (lt_of_block L0.out.2.2) (by simp)).trans L0.out.2.2, ba⟩
    clear ga ba esz L0
    by_cases hl0 : l = 0
    · subst hl0
      obtain rfl : d = .nil := F.nil_of_len hfl
      obtain ⟨d1, k1⟩ := fill3 (.int .i64 k) (.int .i64 n) (.slice none 0 0) L2.out.2.2.1
      clear IH HS h
      go_enter Try.func53, Try.ntmps53
      go_wp2
      refine wp_loop_rounds 1 ?_
      rw [rounds_succ]
      go_wp2
      (try simp only [Exit.inBlock, Exit.then])
      go_returns
      rw [ES.out]
      exact ⟨none, 0, 0, [], by simp, grown_alloc (grown_alloc (grown_alloc (World.grownBy.refl _ none) _) _) _, New.nil _ _ _⟩
    obtain ⟨gb, bsd', rfl, hown, hrest⟩ : ∃ gb bsd', a = some ⟨gb, 0, none⟩ ∧ OwnF w 25 d gb 0 bsd' ∧ Blk w 25 gb c := by
      rcases h.2.2.2 with ⟨hc, _⟩ | ⟨g, bs', hp, e, _, hB, hO⟩
      · exact absurd hc (by have := h.2.2.1; omega)
      · exact ⟨g, bs', e, hO, hB⟩
    have hpos : 0 < l := by omega
    have IN : Hid (OwnF w 25 d gb 0 bsd' ∧ SlF w ae le E ∧ Iota w ai le ∧ okF d p = true) := ⟨hown, HS.out.2.1, HS.out.2.2.1, HS.out.2.2.2⟩
    clear h HS hown hrest
    go_enter Try.func53, Try.ntmps53
    go_wp2
    generalize ((w.alloc (.cells #[.int .i64 k, .int .i64 n, .slice (some ⟨gb, 0, none⟩) l c] 25)).alloc (.cells #[.int .i64 0, .int .i64 0, .slice none 0 0] 25)).alloc (.cells #[.int .i64 k, .int .i64 n, .slice none 0 0] 25) = W0 at *
    generalize e0 : w.heap.size = p0 at *
    generalize e1 : p0 + 1 = p1 at *
    generalize e2 : p1 + 1 = p2 at *
    have PP : Hid (w.heap.size = p0 ∧ p0 + 1 = p1 ∧ p1 + 1 = p2) := ⟨e0, e1, e2⟩
    clear e0 e1 e2
    go_loopw [9] (fun i wr => ∃ (j : Nat) (P R : F) (av : Option Addr) (cv : Nat) (bs bsR : List Nat), j ≤ l ∧ i = .int .i64 j ∧ P.len = j ∧ R.len + j = l ∧ R.size ≤ d.size ∧ Hid (P.app (subF E R) = subF E d ∧ OwnF w 25 R gb (j * 3) bsR ∧ okF R p = true) ∧ Hid ((w.grownBy wr none) ∧ (wr.heap[p0]? = some (Obj.cells #[.int .i64 k, .int .i64 n, .slice (some ⟨gb, 0, none⟩) l c] 25)) ∧ (wr.heap[p1]? = some (Obj.cells #[.int .i64 0, .int .i64 0, .slice none 0 0] 25)) ∧ (wr.heap[p2]? = some (Obj.cells #[.int .i64 k, .int .i64 n, .slice av j cv] 25)) ∧ (SlO wr 25 (av) j cv (P) bs) ∧ (bs.Nodup) ∧ (∀ x ∈ bs, p2 < x) ∧ (cv = 0 → av = none))) (fun i _ => l - (intOf i).toNat)
    case atStart => exact ⟨0, .nil, d, none, 0, [], bsd', Nat.zero_le _, rfl, rfl, by omega, Nat.le_refl _, ⟨rfl, by simpa using IN.out.1, IN.out.2.2.2⟩, L2.out.1, L2.out.2.1, L2.out.2.2.1, L2.out.2.2.2, ⟨rfl, by omega, by omega, .inl ⟨rfl, rfl⟩⟩, List.nodup_nil, fun x hx => by simp at hx, fun _ => rfl⟩
    case round =>
      clear L2
      obtain ⟨j, P, R, av, cv, bs, bsR, hj, rfl, hPl, hRl, hRs, HP, LI⟩ := hrel
      by_cases hlt : j < l
      rotate_left
      · obtain rfl : j = l := by omega
        obtain rfl : R = .nil := F.nil_of_len (by omega)
        obtain ⟨hP, -, -⟩ := HP.out
        rw [subF, F.app_nil] at hP
        obtain ⟨g, x0, x1, x2, acc, nd, gt, na⟩ := LI.out
        rw [hP] at acc
        obtain ⟨z0, z1, z2⟩ := (three x2).1
        obtain ⟨y0, y1, y2⟩ := (three x0).1
        obtain ⟨⟨v0, v1, v2⟩, f0, f1, f2⟩ := three x1
        have hn12 : p1 ≠ p2 := by have := PP.out; omega
        obtain ⟨d1, k1⟩ := fill3 (.int .i64 k) (.int .i64 n) (.slice av j cv) x1
        have FQ : Hid _ := And.intro d1 (And.intro (grown_into g k1 (by have := PP.out; omega)) (show New w _ 25 av j cv (subF E d) bs from ⟨acc.kept k1 (fun x hx => by have := gt x hx; have := PP.out; simp; omega), nd, fun x hx => by have := gt x hx; have := PP.out; omega⟩))
        clear g x0 x1 x2 acc nd gt na LI IH d1 k1 HP IN
        go_wp2
        (try simp only [Exit.inBlock, Exit.then])
        refine bodyPost_ret (results_cell_row (P := Try.prog) Try.results53 _ _ p1 _ _ _ _ rfl FQ.out.1 Try.underlying25 rfl (by kernel_rfl)) rfl ?_
        rw [ES.out]
        exact ⟨av, j, cv, bs, rfl, FQ.out.2.1, FQ.out.2.2⟩
      obtain ⟨q, hq⟩ : ∃ q, R.len = q + 1 := ⟨R.len - 1, by omega⟩
      obtain ⟨kk, nn, d', R', rfl, hR'⟩ := F.cons_of_len hq
      obtain ⟨hPR, hR, hokR⟩ := HP.out
      obtain ⟨bs1, bs2, a', l', c', -, c0, c1, c2', hd, hR2⟩ := hR.out
      have e3 : j * 3 + 3 = (j + 1) * 3 := by omega
      rw [e3] at hR2
      simp only [okF, Bool.and_eq_true, decide_eq_true_eq] at hokR
      have hds : d'.size < m := by simp only [F.size] at hRs hm; omega
      have hds2 : d'.size ≤ 100000 := by simp only [F.size] at hRs; omega
      have hRs' : R'.size ≤ d.size := by simp only [F.size] at hRs; omega
      obtain ⟨rk, rn, rd, hsub⟩ : ∃ rk rn rd, subT E kk nn d' = (rk, rn, rd) := ⟨_, _, _, rfl⟩
      rw [subF_cons, hsub] at hPR
      have CW : Hid (w.cell? ⟨gb, j * 3, none⟩ = some (.int .i64 kk) ∧ w.cell? ⟨gb, j * 3 + 1, none⟩ = some (.int .i64 nn) ∧ w.cell? ⟨gb, j * 3 + 2, none⟩ = some (.slice a' l' c')) := ⟨c0, c1, c2'⟩
      have HQ : Hid (P.app (.cons rk rn rd (subF E R')) = subF E d ∧ OwnF w 25 R' gb ((j + 1) * 3) bs2 ∧ okF R' p = true) := ⟨hPR, hR2, hokR.2⟩
      have HC : Hid (∀ u, w.grownBy u none → Calls Try.prog 53 #[.agg #[.int .i64 kk, .int .i64 nn, .slice a' l' c'], .slice ai le ci, .slice ae le ce] u fun e u2 => ∃ a2 l2 c2 bd, e = .returned (.agg #[.int .i64 rk, .int .i64 rn, .slice a2 l2 c2]) ∧ u.grownBy u2 none ∧ New u u2 25 a2 l2 c2 rd bd) := by
        intro u hu
        have := IH.out d' kk nn a' l' c' (p - 1) bs1 u hds hds2 (hd.old hu) (IN.out.2.1.none hu) (IN.out.2.2.1.none hu) (by rw [← hd.1]; exact hokR.1.1.2) hokR.1.2
        rw [hsub] at this
        exact this
      obtain ⟨y0, y1, y2⟩ := (three LI.out.2.1).1
      clear HP hPR hR hR2 hd hRs hokR hsub IH IN ES c0 c1 c2'
      go_wp2_with fail
      clear y0 y1 y2
      have L1 : Hid ((w.grownBy wr.drew none) ∧ (wr.drew.heap[p0]? = some (Obj.cells #[.int .i64 k, .int .i64 n, .slice (some ⟨gb, 0, none⟩) l c] 25)) ∧ (wr.drew.heap[p1]? = some (Obj.cells #[.int .i64 0, .int .i64 0, .slice none 0 0] 25)) ∧ (wr.drew.heap[p2]? = some (Obj.cells #[.int .i64 k, .int .i64 n, .slice av j cv] 25)) ∧ (SlO wr.drew 25 (av) j cv (P) bs) ∧ (bs.Nodup) ∧ (∀ x ∈ bs, p2 < x) ∧ (cv = 0 → av = none)) := ⟨grown_trans (LI.out.1) (grown_drew (World.grownBy.refl wr none)), (World.grownBy.block (grown_drew (World.grownBy.refl wr none)) _ (lt_of_block (LI.out.2.1)) (by simp)).trans (LI.out.2.1), (World.grownBy.block (grown_drew (World.grownBy.refl wr none)) _ (lt_of_block (LI.out.2.2.1)) (by simp)).trans (LI.out.2.2.1), (World.grownBy.block (grown_drew (World.grownBy.refl wr none)) _ (lt_of_block (LI.out.2.2.2.1)) (by simp)).trans (LI.out.2.2.2.1), SlO.old (LI.out.2.2.2.2.1) (grown_drew (World.grownBy.refl wr none)), LI.out.2.2.2.2.2.1, LI.out.2.2.2.2.2.2.1, LI.out.2.2.2.2.2.2.2⟩
      clear LI
      refine wp_region_held_drew (S := (fun u => Tri gb (j * 3) (.int .i64 kk) (.int .i64 nn) (.slice a' l' c') u ∧ u.cell? ⟨p0, 2, none⟩ = some (.slice (some ⟨gb, 0, none⟩) l c))) (by kernel_rfl) ⟨⟨(L1.out.1).cell CW.out.1 (by simp), (L1.out.1).cell CW.out.2.1 (by simp), (L1.out.1).cell CW.out.2.2 (by simp)⟩, (three (L1.out.2.1)).1.2.2⟩ (fun hH => ?_)
      generalize wr.drew = u0 at *
      simp only [List.size_toArray, List.length_cons, List.length_nil, Nat.reduceAdd, Array.replicate, List.replicate]
      refine wpAnyH_take (i := 0) (v := ?_) rfl (by kernel_rfl) (by kernel_rfl) (by kernel_rfl) (fun _ _ _ h => h) (Or.inl ⟨by rfl, ?_⟩) hH ?_
      rotate_left
      · (intro v hS; obtain ⟨⟨s0, s1, s2⟩, x2⟩ := hS; go_simp; try with_reducible rfl)
      simp only [Act.put, List.setIfInBounds_toArray, List.set_cons_zero, List.set_cons_succ, List.getElem_toArray, List.getElem_cons_succ, List.getElem_cons_zero]
      refine wpAnyH_take (i := 2) (v := ?_) rfl (by kernel_rfl) (by kernel_rfl) (by kernel_rfl) (fun _ _ _ h => h) (Or.inl ⟨by rfl, ?_⟩) hH ?_
      rotate_left
      · (intro v hS; obtain ⟨⟨s0, s1, s2⟩, x2⟩ := hS; go_simp; try with_reducible rfl)
      simp only [Act.put, List.setIfInBounds_toArray, List.set_cons_zero, List.set_cons_succ, List.getElem_toArray, List.getElem_cons_succ, List.getElem_cons_zero]
      refine wpAnyH_take (i := 3) (v := ?_) rfl (by kernel_rfl) (by kernel_rfl) (by kernel_rfl) (fun _ _ _ h => h) (Or.inl ⟨by rfl, ?_⟩) hH ?_
      rotate_left
      · (intro v hS; obtain ⟨⟨s0, s1, s2⟩, x2⟩ := hS; go_simp; try with_reducible rfl)
      simp only [Act.put, List.setIfInBounds_toArray, List.set_cons_zero, List.set_cons_succ, List.getElem_toArray, List.getElem_cons_succ, List.getElem_cons_zero]
      refine wpAnyH_take (i := 4) (v := ?_) rfl (by kernel_rfl) (by kernel_rfl) (by kernel_rfl) (fun _ _ _ h => h) (Or.inl ⟨by rfl, ?_⟩) hH ?_
      rotate_left
      · (intro v hS; obtain ⟨⟨s0, s1, s2⟩, x2⟩ := hS; go_simp; try with_reducible rfl)
      simp only [Act.put, List.setIfInBounds_toArray, List.set_cons_zero, List.set_cons_succ, List.getElem_toArray, List.getElem_cons_succ, List.getElem_cons_zero]
      refine wpAnyH_take (i := 5) (v := ?_) rfl (by kernel_rfl) (by kernel_rfl) (by kernel_rfl) (fun _ _ _ h => h) (Or.inl ⟨by rfl, ?_⟩) hH ?_
      rotate_left
      · (intro v hS; obtain ⟨⟨s0, s1, s2⟩, x2⟩ := hS; go_simp; try with_reducible rfl)
      simp only [Act.put, List.setIfInBounds_toArray, List.set_cons_zero, List.set_cons_succ, List.getElem_toArray, List.getElem_cons_succ, List.getElem_cons_zero]
      refine wpAnyH_take (i := 6) (v := ?_) rfl (by kernel_rfl) (by kernel_rfl) (by kernel_rfl) (fun _ _ _ h => h) (Or.inl ⟨by rfl, ?_⟩) hH ?_
      rotate_left
      · (intro v hS; obtain ⟨⟨s0, s1, s2⟩, x2⟩ := hS; go_simp; try with_reducible rfl)
      simp only [Act.put, List.setIfInBounds_toArray, List.set_cons_zero, List.set_cons_succ, List.getElem_toArray, List.getElem_cons_succ, List.getElem_cons_zero]
      refine wpAnyH_take (i := 7) (v := ?_) rfl (by kernel_rfl) (by kernel_rfl) (by kernel_rfl) (fun _ _ _ h => h) (Or.inl ⟨by rfl, ?_⟩) hH ?_
      rotate_left
      · (intro v hS; obtain ⟨⟨s0, s1, s2⟩, x2⟩ := hS; go_simp; try with_reducible rfl)
      simp only [Act.put, List.setIfInBounds_toArray, List.set_cons_zero, List.set_cons_succ, List.getElem_toArray, List.getElem_cons_succ, List.getElem_cons_zero]
      refine wpAnyH_take (i := 8) (v := ?_) rfl (by kernel_rfl) (by kernel_rfl) (by kernel_rfl) (fun _ _ _ h => h) (Or.inl ⟨by rfl, ?_⟩) hH ?_
      rotate_left
      · (intro v hS; obtain ⟨⟨s0, s1, s2⟩, x2⟩ := hS; go_simp; try with_reducible rfl)
      simp only [Act.put, List.setIfInBounds_toArray, List.set_cons_zero, List.set_cons_succ, List.getElem_toArray, List.getElem_cons_succ, List.getElem_cons_zero]
      refine wpAnyH_ready (rs := [1, 9]) (by kernel_rfl) (by simp) ?_
      refine AllReadyH.cons rfl (fun K hK => ?_) ?_
      · skip
        have yy := three (L1.out.2.2.2.1)
        obtain ⟨⟨y0, y1, y2⟩, -⟩ := yy
        go_simp
        refine hK.out _ _ ⟨⟨(L1.out.1).cell CW.out.1 (by simp), (L1.out.1).cell CW.out.2.1 (by simp), (L1.out.1).cell CW.out.2.2 (by simp)⟩, (three (L1.out.2.1)).1.2.2⟩ (fun hH2 => ?_)
        clear hK K hH
        have hH := hH2
        clear hH2 y0 y1 y2
        simp only [Act.put, List.setIfInBounds_toArray, List.set_cons_zero, List.set_cons_succ, List.getElem_toArray, List.getElem_cons_succ, List.getElem_cons_zero]
        refine wpAnyH_ready (rs := [9]) (by kernel_rfl) (by simp) ?_
        refine AllReadyH.cons rfl (fun K hK => ?_) AllReadyH.nil
        go_simp
        refine Calls.mono (HC.out u0 (L1.out.1)) ?_
        rintro e u1 ⟨a2, l2, c2, bd, rfl, hg, hnew⟩
        have L2 : Hid ((w.grownBy u1 none) ∧ (u1.heap[p0]? = some (Obj.cells #[.int .i64 k, .int .i64 n, .slice (some ⟨gb, 0, none⟩) l c] 25)) ∧ (u1.heap[p1]? = some (Obj.cells #[.int .i64 0, .int .i64 0, .slice none 0 0] 25)) ∧ (u1.heap[p2]? = some (Obj.cells #[.int .i64 k, .int .i64 n, .slice av j cv] 25)) ∧ (SlO u1 25 (av) j cv (P) bs) ∧ (bs.Nodup) ∧ (∀ x ∈ bs, p2 < x) ∧ (cv = 0 → av = none) ∧ (SlO u1 25 (a2) l2 c2 (rd) bd) ∧ (bd.Nodup) ∧ (∀ x ∈ bs, x ∉ bd) ∧ (∀ x ∈ bd, p2 < x)) := ⟨grown_trans (L1.out.1) hg, (World.grownBy.block hg _ (lt_of_block (L1.out.2.1)) (by simp)).trans (L1.out.2.1), (World.grownBy.block hg _ (lt_of_block (L1.out.2.2.1)) (by simp)).trans (L1.out.2.2.1), (World.grownBy.block hg _ (lt_of_block (L1.out.2.2.2.1)) (by simp)).trans (L1.out.2.2.2.1), SlO.old (L1.out.2.2.2.2.1) hg, L1.out.2.2.2.2.2.1, L1.out.2.2.2.2.2.2.1, L1.out.2.2.2.2.2.2.2, hnew.1, hnew.2.1, fun x hx hx2 => by have := SlO.lt (L1.out.2.2.2.2.1) x hx; have := hnew.2.2 x hx2; omega, fun x hx => Nat.lt_of_lt_of_le (lt_of_block (L1.out.2.2.2.1)) (hnew.2.2 x hx)⟩
        clear L1
        refine hK.out _ _ ⟨⟨(L2.out.1).cell CW.out.1 (by simp), (L2.out.1).cell CW.out.2.1 (by simp), (L2.out.1).cell CW.out.2.2 (by simp)⟩, (three (L2.out.2.1)).1.2.2⟩ (fun hH2 => ?_)
        clear hK K hH
        have hH := hH2
        clear hH2 hg hnew
        simp only [Act.put, List.setIfInBounds_toArray, List.set_cons_zero, List.set_cons_succ, List.getElem_toArray, List.getElem_cons_succ, List.getElem_cons_zero]
        refine wpAnyH_ready (rs := [10]) (by kernel_rfl) (by simp) ?_
        refine AllReadyH.cons rfl (fun K hK => ?_) AllReadyH.nil
        go_simp
        have ga := World.grownBy_alloc u1 (.cells #[.int .i64 rk, .int .i64 rn, .slice a2 l2 c2] 25) none
        have ba := three (heap_alloc_new u1 (.cells #[.int .i64 rk, .int .i64 rn, .slice a2 l2 c2] 25))
        have L3 : Hid ((w.grownBy (u1.alloc (.cells #[.int .i64 rk, .int .i64 rn, .slice a2 l2 c2] 25)) none) ∧ ((u1.alloc (.cells #[.int .i64 rk, .int .i64 rn, .slice a2 l2 c2] 25)).heap[p0]? = some (Obj.cells #[.int .i64 k, .int .i64 n, .slice (some ⟨gb, 0, none⟩) l c] 25)) ∧ ((u1.alloc (.cells #[.int .i64 rk, .int .i64 rn, .slice a2 l2 c2] 25)).heap[p1]? = some (Obj.cells #[.int .i64 0, .int .i64 0, .slice none 0 0] 25)) ∧ ((u1.alloc (.cells #[.int .i64 rk, .int .i64 rn, .slice a2 l2 c2] 25)).heap[p2]? = some (Obj.cells #[.int .i64 k, .int .i64 n, .slice av j cv] 25)) ∧ (SlO (u1.alloc (.cells #[.int .i64 rk, .int .i64 rn, .slice a2 l2 c2] 25)) 25 (av) j cv (P) bs) ∧ (bs.Nodup) ∧ (∀ x ∈ bs, p2 < x) ∧ (cv = 0 → av = none) ∧ (SlO (u1.alloc (.cells #[.int .i64 rk, .int .i64 rn, .slice a2 l2 c2] 25)) 25 (a2) l2 c2 (rd) bd) ∧ (bd.Nodup) ∧ (∀ x ∈ bs, x ∉ bd) ∧ (∀ x ∈ bd, p2 < x) ∧ (((u1.alloc (.cells #[.int .i64 rk, .int .i64 rn, .slice a2 l2 c2] 25)).cell? ⟨u1.heap.size, 0, none⟩ = some (.int .i64 rk) ∧ (u1.alloc (.cells #[.int .i64 rk, .int .i64 rn, .slice a2 l2 c2] 25)).cell? ⟨u1.heap.size, 1, none⟩ = some (.int .i64 rn) ∧ (u1.alloc (.cells #[.int .i64 rk, .int .i64 rn, .slice a2 l2 c2] 25)).cell? ⟨u1.heap.size, 2, none⟩ = some (.slice a2 l2 c2)))) := ⟨grown_trans (L2.out.1) ga, (World.grownBy.block ga _ (lt_of_block (L2.out.2.1)) (by simp)).trans (L2.out.2.1), (World.grownBy.block ga _ (lt_of_block (L2.out.2.2.1)) (by simp)).trans (L2.out.2.2.1), (World.grownBy.block ga _ (lt_of_block (L2.out.2.2.2.1)) (by simp)).trans (L2.out.2.2.2.1), SlO.old (L2.out.2.2.2.2.1) ga, L2.out.2.2.2.2.2.1, L2.out.2.2.2.2.2.2.1, L2.out.2.2.2.2.2.2.2.1, SlO.old (L2.out.2.2.2.2.2.2.2.2.1) ga, L2.out.2.2.2.2.2.2.2.2.2.1, L2.out.2.2.2.2.2.2.2.2.2.2.1, L2.out.2.2.2.2.2.2.2.2.2.2.2, ba.1⟩
        clear L2
        clear ga ba
        generalize (u1.alloc (.cells #[.int .i64 rk, .int .i64 rn, .slice a2 l2 c2] 25)) = ub at *
        generalize u1.heap.size = qq at *
        refine hK.out _ _ ⟨⟨(L3.out.1).cell CW.out.1 (by simp), (L3.out.1).cell CW.out.2.1 (by simp), (L3.out.1).cell CW.out.2.2 (by simp)⟩, (three (L3.out.2.1)).1.2.2⟩ (fun hH2 => ?_)
        clear hK K hH
        have hH := hH2
        clear hH2 
        simp only [Act.put, List.setIfInBounds_toArray, List.set_cons_zero, List.set_cons_succ, List.getElem_toArray, List.getElem_cons_succ, List.getElem_cons_zero]
        refine wpAnyH_ready (rs := [11]) (by kernel_rfl) (by simp) ?_
        refine AllReadyH.cons rfl (fun K hK => ?_) AllReadyH.nil
        obtain ⟨i0, hi, hz0, hz1, hz2⟩ := info_parts infoT
        refine step_pushT rfl (.tmp 51) (.tmp 60) 23 rfl 25 i0 _ Try.underlying23 hi hz0 hz1 hz2 rfl av j cv P bs rfl (L3.out.2.2.2.2.1) (L3.out.2.2.2.2.2.1) (L3.out.2.2.2.2.2.2.2.1) (by omega) ⟨qq, 0, none⟩ rfl (rk) (rn) a2 l2 c2 (news3 (L3.out.2.2.2.2.2.2.2.2.2.2.2.2).1 (L3.out.2.2.2.2.2.2.2.2.2.2.2.2).2.1 (L3.out.2.2.2.2.2.2.2.2.2.2.2.2).2.2) (rd) bd (L3.out.2.2.2.2.2.2.2.2.1) (L3.out.2.2.2.2.2.2.2.2.2.1) (L3.out.2.2.2.2.2.2.2.2.2.2.1) ?_
        intro a3 c3 bs3 u3 h1 h2 h3 h4 h5
        have L4 : Hid ((w.grownBy u3 none) ∧ (u3.heap[p0]? = some (Obj.cells #[.int .i64 k, .int .i64 n, .slice (some ⟨gb, 0, none⟩) l c] 25)) ∧ (u3.heap[p1]? = some (Obj.cells #[.int .i64 0, .int .i64 0, .slice none 0 0] 25)) ∧ (u3.heap[p2]? = some (Obj.cells #[.int .i64 k, .int .i64 n, .slice av j cv] 25)) ∧ (SlO u3 25 (a3) (j + 1) c3 (P.app (.cons (rk) (rn) (rd) .nil)) bs3) ∧ (bs3.Nodup) ∧ (∀ x ∈ bs3, p2 < x) ∧ (0 < c3)) := ⟨Tn.fresh (L3.out.1) h4 (fun x hx => by have := (L3.out.2.2.2.2.2.2.1) x hx; have := PP.out; omega), (h4.block _ (lt_of_block (L3.out.2.1)) (fun hx => by have := (L3.out.2.2.2.2.2.2.1) _ hx; have := PP.out; omega)).trans (L3.out.2.1), (h4.block _ (lt_of_block (L3.out.2.2.1)) (fun hx => by have := (L3.out.2.2.2.2.2.2.1) _ hx; have := PP.out; omega)).trans (L3.out.2.2.1), (h4.block _ (lt_of_block (L3.out.2.2.2.1)) (fun hx => by have := (L3.out.2.2.2.2.2.2.1) _ hx; have := PP.out; omega)).trans (L3.out.2.2.2.1), h1, h2, (fun x hx => (h3 x hx).elim (fun h => (L3.out.2.2.2.2.2.2.1) x h) (fun h => h.elim (fun h => (L3.out.2.2.2.2.2.2.2.2.2.2.2.1) x h) (fun h => Nat.lt_of_lt_of_le (lt_of_block (L3.out.2.2.2.1)) h))), h5⟩
        clear L3
        clear h1 h2 h3 h4 h5 i0 hi hz0 hz1 hz2
        refine hK.out _ _ ⟨⟨(L4.out.1).cell CW.out.1 (by simp), (L4.out.1).cell CW.out.2.1 (by simp), (L4.out.1).cell CW.out.2.2 (by simp)⟩, (three (L4.out.2.1)).1.2.2⟩ (fun hH2 => ?_)
        clear hK K hH
        have hH := hH2
        clear hH2 
        simp only [Act.put, List.setIfInBounds_toArray, List.set_cons_zero, List.set_cons_succ, List.getElem_toArray, List.getElem_cons_succ, List.getElem_cons_zero]
        refine wpAnyH_take (i := 12) (v := ?_) rfl (by kernel_rfl) (by kernel_rfl) (by kernel_rfl) (fun _ _ _ h => h) (Or.inl ⟨by rfl, ?_⟩) hH ?_
        rotate_left
        · (intro v hS; go_simp; try with_reducible rfl)
        simp only [Act.put, List.setIfInBounds_toArray, List.set_cons_zero, List.set_cons_succ, List.getElem_toArray, List.getElem_cons_succ, List.getElem_cons_zero]
        refine wpAnyH_ready (rs := [13]) (by kernel_rfl) (by simp) ?_
        refine AllReadyH.cons rfl (fun K hK => ?_) AllReadyH.nil
        have yy := three (L4.out.2.2.2.1)
        obtain ⟨⟨y0, y1, y2⟩, f0, f1, f2⟩ := yy
        go_simp
        have ks := grown_setCell u3 p2 2 (.slice a3 (j + 1) c3)
        have L5 : Hid ((w.grownBy (u3.setCell ⟨p2, 2, none⟩ (.slice a3 (j + 1) c3)) none) ∧ ((u3.setCell ⟨p2, 2, none⟩ (.slice a3 (j + 1) c3)).heap[p0]? = some (Obj.cells #[.int .i64 k, .int .i64 n, .slice (some ⟨gb, 0, none⟩) l c] 25)) ∧ ((u3.setCell ⟨p2, 2, none⟩ (.slice a3 (j + 1) c3)).heap[p1]? = some (Obj.cells #[.int .i64 0, .int .i64 0, .slice none 0 0] 25)) ∧ ((u3.setCell ⟨p2, 2, none⟩ (.slice a3 (j + 1) c3)).heap[p2]? = some (Obj.cells #[.int .i64 k, .int .i64 n, .slice a3 (j + 1) c3] 25)) ∧ (SlO (u3.setCell ⟨p2, 2, none⟩ (.slice a3 (j + 1) c3)) 25 (a3) (j + 1) c3 (P.app (.cons (rk) (rn) (rd) .nil)) bs3) ∧ (bs3.Nodup) ∧ (∀ x ∈ bs3, p2 < x) ∧ (0 < c3)) := ⟨grown_into (L4.out.1) ks (by have := PP.out; omega), (ks.block _ (lt_of_block (L4.out.2.1)) (by have := PP.out; simp; omega)).trans (L4.out.2.1), (ks.block _ (lt_of_block (L4.out.2.2.1)) (by have := PP.out; simp; omega)).trans (L4.out.2.2.1), heap_setCell_same u3 p2 2 _ _ _ (L4.out.2.2.2.1), SlO.kept (L4.out.2.2.2.2.1) ks (fun x hx => by have := (L4.out.2.2.2.2.2.2.1) x hx; simp; omega), L4.out.2.2.2.2.2.1, L4.out.2.2.2.2.2.2.1, L4.out.2.2.2.2.2.2.2⟩
        clear L4
        clear ks f0 f1 f2 y0 y1 y2
        generalize (u3.setCell ⟨p2, 2, none⟩ (.slice a3 (j + 1) c3)) = u4 at *
        refine hK.out _ _ ⟨⟨(L5.out.1).cell CW.out.1 (by simp), (L5.out.1).cell CW.out.2.1 (by simp), (L5.out.1).cell CW.out.2.2 (by simp)⟩, (three (L5.out.2.1)).1.2.2⟩ (fun hH2 => ?_)
        clear hK K hH
        have hH := hH2
        clear hH2 
        simp only [Act.put, List.setIfInBounds_toArray, List.set_cons_zero, List.set_cons_succ, List.getElem_toArray, List.getElem_cons_succ, List.getElem_cons_zero]
        refine wpAnyH_done (by kernel_rfl) ?_ _
        go_wp2
        go_roundw
        case rel => exact ⟨j + 1, P.app (.cons rk rn rd .nil), R', a3, c3, bs3, bs2, by omega, by go_num, by rw [F.app_len, hPl]; rfl, by omega, hRs', ⟨by rw [F.app_assoc]; exact HQ.out.1, HQ.out.2⟩, L5.out.1, L5.out.2.1, L5.out.2.2.1, L5.out.2.2.2.1, L5.out.2.2.2.2.1, L5.out.2.2.2.2.2.1, L5.out.2.2.2.2.2.2.1, fun h0 => absurd h0 (by have := L5.out.2.2.2.2.2.2.2; omega)⟩
        case measure => simp [intOf]; omega
      refine AllReadyH.cons rfl (fun K hK => ?_) AllReadyH.nil
      go_simp
      refine Calls.mono (HC.out u0 (L1.out.1)) ?_
      rintro e u1 ⟨a2, l2, c2, bd, rfl, hg, hnew⟩
      have L6 : Hid ((w.grownBy u1 none) ∧ (u1.heap[p0]? = some (Obj.cells #[.int .i64 k, .int .i64 n, .slice (some ⟨gb, 0, none⟩) l c] 25)) ∧ (u1.heap[p1]? = some (Obj.cells #[.int .i64 0, .int .i64 0, .slice none 0 0] 25)) ∧ (u1.heap[p2]? = some (Obj.cells #[.int .i64 k, .int .i64 n, .slice av j cv] 25)) ∧ (SlO u1 25 (av) j cv (P) bs) ∧ (bs.Nodup) ∧ (∀ x ∈ bs, p2 < x) ∧ (cv = 0 → av = none) ∧ (SlO u1 25 (a2) l2 c2 (rd) bd) ∧ (bd.Nodup) ∧ (∀ x ∈ bs, x ∉ bd) ∧ (∀ x ∈ bd, p2 < x)) := ⟨grown_trans (L1.out.1) hg, (World.grownBy.block hg _ (lt_of_block (L1.out.2.1)) (by simp)).trans (L1.out.2.1), (World.grownBy.block hg _ (lt_of_block (L1.out.2.2.1)) (by simp)).trans (L1.out.2.2.1), (World.grownBy.block hg _ (lt_of_block (L1.out.2.2.2.1)) (by simp)).trans (L1.out.2.2.2.1), SlO.old (L1.out.2.2.2.2.1) hg, L1.out.2.2.2.2.2.1, L1.out.2.2.2.2.2.2.1, L1.out.2.2.2.2.2.2.2, hnew.1, hnew.2.1, fun x hx hx2 => by have := SlO.lt (L1.out.2.2.2.2.1) x hx; have := hnew.2.2 x hx2; omega, fun x hx => Nat.lt_of_lt_of_le (lt_of_block (L1.out.2.2.2.1)) (hnew.2.2 x hx)⟩
      clear L1
      refine hK.out _ _ ⟨⟨(L6.out.1).cell CW.out.1 (by simp), (L6.out.1).cell CW.out.2.1 (by simp), (L6.out.1).cell CW.out.2.2 (by simp)⟩, (three (L6.out.2.1)).1.2.2⟩ (fun hH2 => ?_)
      clear hK K hH
      have hH := hH2
      clear hH2 hg hnew
      simp only [Act.put, List.setIfInBounds_toArray, List.set_cons_zero, List.set_cons_succ, List.getElem_toArray, List.getElem_cons_succ, List.getElem_cons_zero]
      refine wpAnyH_ready (rs := [1, 10]) (by kernel_rfl) (by simp) ?_
      refine AllReadyH.cons rfl (fun K hK => ?_) ?_
      · skip
        have yy := three (L6.out.2.2.2.1)
        obtain ⟨⟨y0, y1, y2⟩, -⟩ := yy
        go_simp
        refine hK.out _ _ ⟨⟨(L6.out.1).cell CW.out.1 (by simp), (L6.out.1).cell CW.out.2.1 (by simp), (L6.out.1).cell CW.out.2.2 (by simp)⟩, (three (L6.out.2.1)).1.2.2⟩ (fun hH2 => ?_)
        clear hK K hH
        have hH := hH2
        clear hH2 y0 y1 y2
        simp only [Act.put, List.setIfInBounds_toArray, List.set_cons_zero, List.set_cons_succ, List.getElem_toArray, List.getElem_cons_succ, List.getElem_cons_zero]
        refine wpAnyH_ready (rs := [10]) (by kernel_rfl) (by simp) ?_
        refine AllReadyH.cons rfl (fun K hK => ?_) AllReadyH.nil
        go_simp
        have ga := World.grownBy_alloc u1 (.cells #[.int .i64 rk, .int .i64 rn, .slice a2 l2 c2] 25) none
        have ba := three (heap_alloc_new u1 (.cells #[.int .i64 rk, .int .i64 rn, .slice a2 l2 c2] 25))
        have L7 : Hid ((w.grownBy (u1.alloc (.cells #[.int .i64 rk, .int .i64 rn, .slice a2 l2 c2] 25)) none) ∧ ((u1.alloc (.cells #[.int .i64 rk, .int .i64 rn, .slice a2 l2 c2] 25)).heap[p0]? = some (Obj.cells #[.int .i64 k, .int .i64 n, .slice (some ⟨gb, 0, none⟩) l c] 25)) ∧ ((u1.alloc (.cells #[.int .i64 rk, .int .i64 rn, .slice a2 l2 c2] 25)).heap[p1]? = some (Obj.cells #[.int .i64 0, .int .i64 0, .slice none 0 0] 25)) ∧ ((u1.alloc (.cells #[.int .i64 rk, .int .i64 rn, .slice a2 l2 c2] 25)).heap[p2]? = some (Obj.cells #[.int .i64 k, .int .i64 n, .slice av j cv] 25)) ∧ (SlO (u1.alloc (.cells #[.int .i64 rk, .int .i64 rn, .slice a2 l2 c2] 25)) 25 (av) j cv (P) bs) ∧ (bs.Nodup) ∧ (∀ x ∈ bs, p2 < x) ∧ (cv = 0 → av = none) ∧ (SlO (u1.alloc (.cells #[.int .i64 rk, .int .i64 rn, .slice a2 l2 c2] 25)) 25 (a2) l2 c2 (rd) bd) ∧ (bd.Nodup) ∧ (∀ x ∈ bs, x ∉ bd) ∧ (∀ x ∈ bd, p2 < x) ∧ (((u1.alloc (.cells #[.int .i64 rk, .int .i64 rn, .slice a2 l2 c2] 25)).cell? ⟨u1.heap.size, 0, none⟩ = some (.int .i64 rk) ∧ (u1.alloc (.cells #[.int .i64 rk, .int .i64 rn, .slice a2 l2 c2] 25)).cell? ⟨u1.heap.size, 1, none⟩ = some (.int .i64 rn) ∧ (u1.alloc (.cells #[.int .i64 rk, .int .i64 rn, .slice a2 l2 c2] 25)).cell? ⟨u1.heap.size, 2, none⟩ = some (.slice a2 l2 c2)))) := ⟨grown_trans (L6.out.1) ga, (World.grownBy.block ga _ (lt_of_block (L6.out.2.1)) (by simp)).trans (L6.out.2.1), (World.grownBy.block ga _ (lt_of_block (L6.out.2.2.1)) (by simp)).trans (L6.out.2.2.1), (World.grownBy.block ga _ (lt_of_block (L6.out.2.2.2.1)) (by simp)).trans (L6.out.2.2.2.1), SlO.old (L6.out.2.2.2.2.1) ga, L6.out.2.2.2.2.2.1, L6.out.2.2.2.2.2.2.1, L6.out.2.2.2.2.2.2.2.1, SlO.old (L6.out.2.2.2.2.2.2.2.2.1) ga, L6.out.2.2.2.2.2.2.2.2.2.1, L6.out.2.2.2.2.2.2.2.2.2.2.1, L6.out.2.2.2.2.2.2.2.2.2.2.2, ba.1⟩
        clear L6
        clear ga ba
        generalize (u1.alloc (.cells #[.int .i64 rk, .int .i64 rn, .slice a2 l2 c2] 25)) = ub at *
        generalize u1.heap.size = qq at *
        refine hK.out _ _ ⟨⟨(L7.out.1).cell CW.out.1 (by simp), (L7.out.1).cell CW.out.2.1 (by simp), (L7.out.1).cell CW.out.2.2 (by simp)⟩, (three (L7.out.2.1)).1.2.2⟩ (fun hH2 => ?_)
        clear hK K hH
        have hH := hH2
        clear hH2 
        simp only [Act.put, List.setIfInBounds_toArray, List.set_cons_zero, List.set_cons_succ, List.getElem_toArray, List.getElem_cons_succ, List.getElem_cons_zero]
        refine wpAnyH_ready (rs := [11]) (by kernel_rfl) (by simp) ?_
        refine AllReadyH.cons rfl (fun K hK => ?_) AllReadyH.nil
        obtain ⟨i0, hi, hz0, hz1, hz2⟩ := info_parts infoT
        refine step_pushT rfl (.tmp 51) (.tmp 60) 23 rfl 25 i0 _ Try.underlying23 hi hz0 hz1 hz2 rfl av j cv P bs rfl (L7.out.2.2.2.2.1) (L7.out.2.2.2.2.2.1) (L7.out.2.2.2.2.2.2.2.1) (by omega) ⟨qq, 0, none⟩ rfl (rk) (rn) a2 l2 c2 (news3 (L7.out.2.2.2.2.2.2.2.2.2.2.2.2).1 (L7.out.2.2.2.2.2.2.2.2.2.2.2.2).2.1 (L7.out.2.2.2.2.2.2.2.2.2.2.2.2).2.2) (rd) bd (L7.out.2.2.2.2.2.2.2.2.1) (L7.out.2.2.2.2.2.2.2.2.2.1) (L7.out.2.2.2.2.2.2.2.2.2.2.1) ?_
        intro a3 c3 bs3 u3 h1 h2 h3 h4 h5
        have L8 : Hid ((w.grownBy u3 none) ∧ (u3.heap[p0]? = some (Obj.cells #[.int .i64 k, .int .i64 n, .slice (some ⟨gb, 0, none⟩) l c] 25)) ∧ (u3.heap[p1]? = some (Obj.cells #[.int .i64 0, .int .i64 0, .slice none 0 0] 25)) ∧ (u3.heap[p2]? = some (Obj.cells #[.int .i64 k, .int .i64 n, .slice av j cv] 25)) ∧ (SlO u3 25 (a3) (j + 1) c3 (P.app (.cons (rk) (rn) (rd) .nil)) bs3) ∧ (bs3.Nodup) ∧ (∀ x ∈ bs3, p2 < x) ∧ (0 < c3)) := ⟨Tn.fresh (L7.out.1) h4 (fun x hx => by have := (L7.out.2.2.2.2.2.2.1) x hx; have := PP.out; omega), (h4.block _ (lt_of_block (L7.out.2.1)) (fun hx => by have := (L7.out.2.2.2.2.2.2.1) _ hx; have := PP.out; omega)).trans (L7.out.2.1), (h4.block _ (lt_of_block (L7.out.2.2.1)) (fun hx => by have := (L7.out.2.2.2.2.2.2.1) _ hx; have := PP.out; omega)).trans (L7.out.2.2.1), (h4.block _ (lt_of_block (L7.out.2.2.2.1)) (fun hx => by have := (L7.out.2.2.2.2.2.2.1) _ hx; have := PP.out; omega)).trans (L7.out.2.2.2.1), h1, h2, (fun x hx => (h3 x hx).elim (fun h => (L7.out.2.2.2.2.2.2.1) x h) (fun h => h.elim (fun h => (L7.out.2.2.2.2.2.2.2.2.2.2.2.1) x h) (fun h => Nat.lt_of_lt_of_le (lt_of_block (L7.out.2.2.2.1)) h))), h5⟩
        clear L7
        clear h1 h2 h3 h4 h5 i0 hi hz0 hz1 hz2
        refine hK.out _ _ ⟨⟨(L8.out.1).cell CW.out.1 (by simp), (L8.out.1).cell CW.out.2.1 (by simp), (L8.out.1).cell CW.out.2.2 (by simp)⟩, (three (L8.out.2.1)).1.2.2⟩ (fun hH2 => ?_)
        clear hK K hH
        have hH := hH2
        clear hH2 
        simp only [Act.put, List.setIfInBounds_toArray, List.set_cons_zero, List.set_cons_succ, List.getElem_toArray, List.getElem_cons_succ, List.getElem_cons_zero]
        refine wpAnyH_take (i := 12) (v := ?_) rfl (by kernel_rfl) (by kernel_rfl) (by kernel_rfl) (fun _ _ _ h => h) (Or.inl ⟨by rfl, ?_⟩) hH ?_
        rotate_left
        · (intro v hS; go_simp; try with_reducible rfl)
        simp only [Act.put, List.setIfInBounds_toArray, List.set_cons_zero, List.set_cons_succ, List.getElem_toArray, List.getElem_cons_succ, List.getElem_cons_zero]
        refine wpAnyH_ready (rs := [13]) (by kernel_rfl) (by simp) ?_
        refine AllReadyH.cons rfl (fun K hK => ?_) AllReadyH.nil
        have yy := three (L8.out.2.2.2.1)
        obtain ⟨⟨y0, y1, y2⟩, f0, f1, f2⟩ := yy
        go_simp
        have ks := grown_setCell u3 p2 2 (.slice a3 (j + 1) c3)
        have L9 : Hid ((w.grownBy (u3.setCell ⟨p2, 2, none⟩ (.slice a3 (j + 1) c3)) none) ∧ ((u3.setCell ⟨p2, 2, none⟩ (.slice a3 (j + 1) c3)).heap[p0]? = some (Obj.cells #[.int .i64 k, .int .i64 n, .slice (some ⟨gb, 0, none⟩) l c] 25)) ∧ ((u3.setCell ⟨p2, 2, none⟩ (.slice a3 (j + 1) c3)).heap[p1]? = some (Obj.cells #[.int .i64 0, .int .i64 0, .slice none 0 0] 25)) ∧ ((u3.setCell ⟨p2, 2, none⟩ (.slice a3 (j + 1) c3)).heap[p2]? = some (Obj.cells #[.int .i64 k, .int .i64 n, .slice a3 (j + 1) c3] 25)) ∧ (SlO (u3.setCell ⟨p2, 2, none⟩ (.slice a3 (j + 1) c3)) 25 (a3) (j + 1) c3 (P.app (.cons (rk) (rn) (rd) .nil)) bs3) ∧ (bs3.Nodup) ∧ (∀ x ∈ bs3, p2 < x) ∧ (0 < c3)) := ⟨grown_into (L8.out.1) ks (by have := PP.out; omega), (ks.block _ (lt_of_block (L8.out.2.1)) (by have := PP.out; simp; omega)).trans (L8.out.2.1), (ks.block _ (lt_of_block (L8.out.2.2.1)) (by have := PP.out; simp; omega)).trans (L8.out.2.2.1), heap_setCell_same u3 p2 2 _ _ _ (L8.out.2.2.2.1), SlO.kept (L8.out.2.2.2.2.1) ks (fun x hx => by have := (L8.out.2.2.2.2.2.2.1) x hx; simp; omega), L8.out.2.2.2.2.2.1, L8.out.2.2.2.2.2.2.1, L8.out.2.2.2.2.2.2.2⟩
        clear L8
        clear ks f0 f1 f2 y0 y1 y2
        generalize (u3.setCell ⟨p2, 2, none⟩ (.slice a3 (j + 1) c3)) = u4 at *
        refine hK.out _ _ ⟨⟨(L9.out.1).cell CW.out.1 (by simp), (L9.out.1).cell CW.out.2.1 (by simp), (L9.out.1).cell CW.out.2.2 (by simp)⟩, (three (L9.out.2.1)).1.2.2⟩ (fun hH2 => ?_)
        clear hK K hH
        have hH := hH2
        clear hH2 
        simp only [Act.put, List.setIfInBounds_toArray, List.set_cons_zero, List.set_cons_succ, List.getElem_toArray, List.getElem_cons_succ, List.getElem_cons_zero]
        refine wpAnyH_done (by kernel_rfl) ?_ _
        go_wp2
        go_roundw
        case rel => exact ⟨j + 1, P.app (.cons rk rn rd .nil), R', a3, c3, bs3, bs2, by omega, by go_num, by rw [F.app_len, hPl]; rfl, by omega, hRs', ⟨by rw [F.app_assoc]; exact HQ.out.1, HQ.out.2⟩, L9.out.1, L9.out.2.1, L9.out.2.2.1, L9.out.2.2.2.1, L9.out.2.2.2.2.1, L9.out.2.2.2.2.2.1, L9.out.2.2.2.2.2.2.1, fun h0 => absurd h0 (by have := L9.out.2.2.2.2.2.2.2; omega)⟩
        case measure => simp [intOf]; omega
      refine AllReadyH.cons rfl (fun K hK => ?_) AllReadyH.nil
      go_simp
      have ga := World.grownBy_alloc u1 (.cells #[.int .i64 rk, .int .i64 rn, .slice a2 l2 c2] 25) none
      have ba := three (heap_alloc_new u1 (.cells #[.int .i64 rk, .int .i64 rn, .slice a2 l2 c2] 25))
      have L10 : Hid ((w.grownBy (u1.alloc (.cells #[.int .i64 rk, .int .i64 rn, .slice a2 l2 c2] 25)) none) ∧ ((u1.alloc (.cells #[.int .i64 rk, .int .i64 rn, .slice a2 l2 c2] 25)).heap[p0]? = some (Obj.cells #[.int .i64 k, .int .i64 n, .slice (some ⟨gb, 0, none⟩) l c] 25)) ∧ ((u1.alloc (.cells #[.int .i64 rk, .int .i64 rn, .slice a2 l2 c2] 25)).heap[p1]? = some (Obj.cells #[.int .i64 0, .int .i64 0, .slice none 0 0] 25)) ∧ ((u1.alloc (.cells #[.int .i64 rk, .int .i64 rn, .slice a2 l2 c2] 25)).heap[p2]? = some (Obj.cells #[.int .i64 k, .int .i64 n, .slice av j cv] 25)) ∧ (SlO (u1.alloc (.cells #[.int .i64 rk, .int .i64 rn, .slice a2 l2 c2] 25)) 25 (av) j cv (P) bs) ∧ (bs.Nodup) ∧ (∀ x ∈ bs, p2 < x) ∧ (cv = 0 → av = none) ∧ (SlO (u1.alloc (.cells #[.int .i64 rk, .int .i64 rn, .slice a2 l2 c2] 25)) 25 (a2) l2 c2 (rd) bd) ∧ (bd.Nodup) ∧ (∀ x ∈ bs, x ∉ bd) ∧ (∀ x ∈ bd, p2 < x) ∧ (((u1.alloc (.cells #[.int .i64 rk, .int .i64 rn, .slice a2 l2 c2] 25)).cell? ⟨u1.heap.size, 0, none⟩ = some (.int .i64 rk) ∧ (u1.alloc (.cells #[.int .i64 rk, .int .i64 rn, .slice a2 l2 c2] 25)).cell? ⟨u1.heap.size, 1, none⟩ = some (.int .i64 rn) ∧ (u1.alloc (.cells #[.int .i64 rk, .int .i64 rn, .slice a2 l2 c2] 25)).cell? ⟨u1.heap.size, 2, none⟩ = some (.slice a2 l2 c2)))) := ⟨grown_trans (L6.out.1) ga, (World.grownBy.block ga _ (lt_of_block (L6.out.2.1)) (by simp)).trans (L6.out.2.1), (World.grownBy.block ga _ (lt_of_block (L6.out.2.2.1)) (by simp)).trans (L6.out.2.2.1), (World.grownBy.block ga _ (lt_of_block (L6.out.2.2.2.1)) (by simp)).trans (L6.out.2.2.2.1), SlO.old (L6.out.2.2.2.2.1) ga, L6.out.2.2.2.2.2.1, L6.out.2.2.2.2.2.2.1, L6.out.2.2.2.2.2.2.2.1, SlO.old (L6.out.2.2.2.2.2.2.2.2.1) ga, L6.out.2.2.2.2.2.2.2.2.2.1, L6.out.2.2.2.2.2.2.2.2.2.2.1, L6.out.2.2.2.2.2.2.2.2.2.2.2, ba.1⟩
      clear L6
      clear ga ba
      generalize (u1.alloc (.cells #[.int .i64 rk, .int .i64 rn, .slice a2 l2 c2] 25)) = ub at *
      generalize u1.heap.size = qq at *
      refine hK.out _ _ ⟨⟨(L10.out.1).cell CW.out.1 (by simp), (L10.out.1).cell CW.out.2.1 (by simp), (L10.out.1).cell CW.out.2.2 (by simp)⟩, (three (L10.out.2.1)).1.2.2⟩ (fun hH2 => ?_)
      clear hK K hH
      have hH := hH2
      clear hH2 
      simp only [Act.put, List.setIfInBounds_toArray, List.set_cons_zero, List.set_cons_succ, List.getElem_toArray, List.getElem_cons_succ, List.getElem_cons_zero]
      refine wpAnyH_ready (rs := [1]) (by kernel_rfl) (by simp) ?_
      refine AllReadyH.cons rfl (fun K hK => ?_) AllReadyH.nil
      have yy := three (L10.out.2.2.2.1)
      obtain ⟨⟨y0, y1, y2⟩, -⟩ := yy
      go_simp
      refine hK.out _ _ ⟨⟨(L10.out.1).cell CW.out.1 (by simp), (L10.out.1).cell CW.out.2.1 (by simp), (L10.out.1).cell CW.out.2.2 (by simp)⟩, (three (L10.out.2.1)).1.2.2⟩ (fun hH2 => ?_)
      clear hK K hH
      have hH := hH2
      clear hH2 y0 y1 y2
      simp only [Act.put, List.setIfInBounds_toArray, List.set_cons_zero, List.set_cons_succ, List.getElem_toArray, List.getElem_cons_succ, List.getElem_cons_zero]
      refine wpAnyH_ready (rs := [11]) (by kernel_rfl) (by simp) ?_
      refine AllReadyH.cons rfl (fun K hK => ?_) AllReadyH.nil
      obtain ⟨i0, hi, hz0, hz1, hz2⟩ := info_parts infoT
      refine step_pushT rfl (.tmp 51) (.tmp 60) 23 rfl 25 i0 _ Try.underlying23 hi hz0 hz1 hz2 rfl av j cv P bs rfl (L10.out.2.2.2.2.1) (L10.out.2.2.2.2.2.1) (L10.out.2.2.2.2.2.2.2.1) (by omega) ⟨qq, 0, none⟩ rfl (rk) (rn) a2 l2 c2 (news3 (L10.out.2.2.2.2.2.2.2.2.2.2.2.2).1 (L10.out.2.2.2.2.2.2.2.2.2.2.2.2).2.1 (L10.out.2.2.2.2.2.2.2.2.2.2.2.2).2.2) (rd) bd (L10.out.2.2.2.2.2.2.2.2.1) (L10.out.2.2.2.2.2.2.2.2.2.1) (L10.out.2.2.2.2.2.2.2.2.2.2.1) ?_
      intro a3 c3 bs3 u3 h1 h2 h3 h4 h5
      have L11 : Hid ((w.grownBy u3 none) ∧ (u3.heap[p0]? = some (Obj.cells #[.int .i64 k, .int .i64 n, .slice (some ⟨gb, 0, none⟩) l c] 25)) ∧ (u3.heap[p1]? = some (Obj.cells #[.int .i64 0, .int .i64 0, .slice none 0 0] 25)) ∧ (u3.heap[p2]? = some (Obj.cells #[.int .i64 k, .int .i64 n, .slice av j cv] 25)) ∧ (SlO u3 25 (a3) (j + 1) c3 (P.app (.cons (rk) (rn) (rd) .nil)) bs3) ∧ (bs3.Nodup) ∧ (∀ x ∈ bs3, p2 < x) ∧ (0 < c3)) := ⟨Tn.fresh (L10.out.1) h4 (fun x hx => by have := (L10.out.2.2.2.2.2.2.1) x hx; have := PP.out; omega), (h4.block _ (lt_of_block (L10.out.2.1)) (fun hx => by have := (L10.out.2.2.2.2.2.2.1) _ hx; have := PP.out; omega)).trans (L10.out.2.1), (h4.block _ (lt_of_block (L10.out.2.2.1)) (fun hx => by have := (L10.out.2.2.2.2.2.2.1) _ hx; have := PP.out; omega)).trans (L10.out.2.2.1), (h4.block _ (lt_of_block (L10.out.2.2.2.1)) (fun hx => by have := (L10.out.2.2.2.2.2.2.1) _ hx; have := PP.out; omega)).trans (L10.out.2.2.2.1), h1, h2, (fun x hx => (h3 x hx).elim (fun h => (L10.out.2.2.2.2.2.2.1) x h) (fun h => h.elim (fun h => (L10.out.2.2.2.2.2.2.2.2.2.2.2.1) x h) (fun h => Nat.lt_of_lt_of_le (lt_of_block (L10.out.2.2.2.1)) h))), h5⟩
      clear L10
      clear h1 h2 h3 h4 h5 i0 hi hz0 hz1 hz2
      refine hK.out _ _ ⟨⟨(L11.out.1).cell CW.out.1 (by simp), (L11.out.1).cell CW.out.2.1 (by simp), (L11.out.1).cell CW.out.2.2 (by simp)⟩, (three (L11.out.2.1)).1.2.2⟩ (fun hH2 => ?_)
      clear hK K hH
      have hH := hH2
      clear hH2 
      simp only [Act.put, List.setIfInBounds_toArray, List.set_cons_zero, List.set_cons_succ, List.getElem_toArray, List.getElem_cons_succ, List.getElem_cons_zero]
      refine wpAnyH_take (i := 12) (v := ?_) rfl (by kernel_rfl) (by kernel_rfl) (by kernel_rfl) (fun _ _ _ h => h) (Or.inl ⟨by rfl, ?_⟩) hH ?_
      rotate_left
      · (intro v hS; go_simp; try with_reducible rfl)
      simp only [Act.put, List.setIfInBounds_toArray, List.set_cons_zero, List.set_cons_succ, List.getElem_toArray, List.getElem_cons_succ, List.getElem_cons_zero]
      refine wpAnyH_ready (rs := [13]) (by kernel_rfl) (by simp) ?_
      refine AllReadyH.cons rfl (fun K hK => ?_) AllReadyH.nil
      have yy := three (L11.out.2.2.2.1)
      obtain ⟨⟨y0, y1, y2⟩, f0, f1, f2⟩ := yy
      go_simp
      have ks := grown_setCell u3 p2 2 (.slice a3 (j + 1) c3)
      have L12 : Hid ((w.grownBy (u3.setCell ⟨p2, 2, none⟩ (.slice a3 (j + 1) c3)) none) ∧ ((u3.setCell ⟨p2, 2, none⟩ (.slice a3 (j + 1) c3)).heap[p0]? = some (Obj.cells #[.int .i64 k, .int .i64 n, .slice (some ⟨gb, 0, none⟩) l c] 25)) ∧ ((u3.setCell ⟨p2, 2, none⟩ (.slice a3 (j + 1) c3)).heap[p1]? = some (Obj.cells #[.int .i64 0, .int .i64 0, .slice none 0 0] 25)) ∧ ((u3.setCell ⟨p2, 2, none⟩ (.slice a3 (j + 1) c3)).heap[p2]? = some (Obj.cells #[.int .i64 k, .int .i64 n, .slice a3 (j + 1) c3] 25)) ∧ (SlO (u3.setCell ⟨p2, 2, none⟩ (.slice a3 (j + 1) c3)) 25 (a3) (j + 1) c3 (P.app (.cons (rk) (rn) (rd) .nil)) bs3) ∧ (bs3.Nodup) ∧ (∀ x ∈ bs3, p2 < x) ∧ (0 < c3)) := ⟨grown_into (L11.out.1) ks (by have := PP.out; omega), (ks.block _ (lt_of_block (L11.out.2.1)) (by have := PP.out; simp; omega)).trans (L11.out.2.1), (ks.block _ (lt_of_block (L11.out.2.2.1)) (by have := PP.out; simp; omega)).trans (L11.out.2.2.1), heap_setCell_same u3 p2 2 _ _ _ (L11.out.2.2.2.1), SlO.kept (L11.out.2.2.2.2.1) ks (fun x hx => by have := (L11.out.2.2.2.2.2.2.1) x hx; simp; omega), L11.out.2.2.2.2.2.1, L11.out.2.2.2.2.2.2.1, L11.out.2.2.2.2.2.2.2⟩
      clear L11
      clear ks f0 f1 f2 y0 y1 y2
      generalize (u3.setCell ⟨p2, 2, none⟩ (.slice a3 (j + 1) c3)) = u4 at *
      refine hK.out _ _ ⟨⟨(L12.out.1).cell CW.out.1 (by simp), (L12.out.1).cell CW.out.2.1 (by simp), (L12.out.1).cell CW.out.2.2 (by simp)⟩, (three (L12.out.2.1)).1.2.2⟩ (fun hH2 => ?_)
      clear hK K hH
      have hH := hH2
      clear hH2 
      simp only [Act.put, List.setIfInBounds_toArray, List.set_cons_zero, List.set_cons_succ, List.getElem_toArray, List.getElem_cons_succ, List.getElem_cons_zero]
      refine wpAnyH_done (by kernel_rfl) ?_ _
      go_wp2
      go_roundw
      case rel => exact ⟨j + 1, P.app (.cons rk rn rd .nil), R', a3, c3, bs3, bs2, by omega, by go_num, by rw [F.app_len, hPl]; rfl, by omega, hRs', ⟨by rw [F.app_assoc]; exact HQ.out.1, HQ.out.2⟩, L12.out.1, L12.out.2.1, L12.out.2.2.1, L12.out.2.2.2.1, L12.out.2.2.2.2.1, L12.out.2.2.2.2.2.1, L12.out.2.2.2.2.2.2.1, fun h0 => absurd h0 (by have := L12.out.2.2.2.2.2.2.2; omega)⟩
      case measure => simp [intOf]; omega
end Go.Proofs.Ytmlganaiajhjeaa.By
