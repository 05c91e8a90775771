/-
  The program's swapping of variables for what a closure answers, by its contract. No statement is proved here.
-/
import Derived.Test.YtmlganaiajhjeaaURAlso
import Derived.Test.YtmlganaiajhjeaaTShapeAlso
import Derived.Test.YtmlganaiajhjeaaUBAlso
namespace Go.Proofs.Ytmlganaiajhjeaa.By
open Go.RowKit
set_option linter.unusedVariables false
set_option linter.unusedSimpArgs false

/-- What the closure answers, from this world on. -/
def Clo (E : F) (q0 : Nat) (w : World) : Prop := ∀ (n : Int) (u : World), w.grownBy u none → 0 ≤ n → n ≤ 99999 →
    Calls Try.prog 71 #[.int .i64 n, .pointer (some ⟨q0, 0, none⟩)] u fun e u2 => ∃ a' l2 c' bs, e = .returned (.agg #[.int .i64 (subT E 7 n .nil).1, .int .i64 (subT E 7 n .nil).2.1, .slice a' l2 c']) ∧ u.grownBy u2 none ∧ New u u2 25 a' l2 c' (subT E 7 n .nil).2.2 bs ∧ (c' = 0 → a' = none)
theorem Clo.none {E : F} {q0 : Nat} {w u : World} (h : Clo E q0 w) (hg : w.grownBy u none) : Clo E q0 u := fun n v hv => h n v (grown_trans hg hv)

/-- What it does with a closure, at trees of less than m parts. -/
def Swp (E : F) (q0 m : Nat) : Prop := ∀ (d : F) (k n : Int) (a : Option Addr) (l c p : Nat) (w : World), d.size < m → d.size ≤ 100000 → SlF w a l d → Clo E q0 w → fitsB k n l = true → okF d p = true →
    Calls Try.prog 70 #[.agg #[.int .i64 k, .int .i64 n, .slice a l c], .func (Fn.func 71) #[] #[.pointer (some ⟨q0, 0, none⟩)]] w fun e u => ∃ a' l2 c' bs, e = .returned (.agg #[.int .i64 (subT E k n d).1, .int .i64 (subT E k n d).2.1, .slice a' l2 c']) ∧ w.grownBy u none ∧ New w u 25 a' l2 c' (subT E k n d).2.2 bs ∧ (c' = 0 → a' = none)

set_option maxRecDepth 8000 in
set_option maxHeartbeats 4000000 in
theorem swapT (E : F) (q0 : Nat) (m : Nat) : Swp E q0 m := by
  induction m with
  | zero => intro d k n a l c p w hm; exact absurd hm (Nat.not_lt_zero _)
  | succ m ih =>
    intro d k n a l c p w hm hm2 h hE hf hok
    have hfl := h.1
    have hl := h.2.1
    have hlen := d.len_le
    have hk := fits_rangeV hf
    obtain ⟨b0, b1, bsz⟩ := alloc2_blocks w (.cells #[.int .i64 k, .int .i64 n, .slice a l c] 25) (.cells #[.int .i64 0, .int .i64 0, .slice none 0 0] 25)
    have g0 := grown_alloc (grown_alloc (World.grownBy.refl w none) (.cells #[.int .i64 k, .int .i64 n, .slice a l c] 25)) (.cells #[.int .i64 0, .int .i64 0, .slice none 0 0] 25)
    have IH : Hid (Swp E q0 m) := ih
    have HS : Hid (SlF w a l d ∧ Clo E q0 w ∧ fitsB k n l = true ∧ okF d p = true) := ⟨h, hE, hf, hok⟩
    have L0 : Hid (w.grownBy _ none ∧ _ = some (Obj.cells #[.int .i64 k, .int .i64 n, .slice a l c] 25) ∧ _ = some (Obj.cells #[.int .i64 0, .int .i64 0, .slice none 0 0] 25)) := ⟨g0, b0, b1⟩
    clear ih h hE hf hok g0 b0 b1 bsz
    go_enter Try.func70, Try.ntmps70
    go_wp2_with fail
    refine Calls.mono (shpT k _) ?_
    rintro e w1 ⟨rfl, hg⟩
    obtain ⟨g0, b0, b1⟩ := L0.out
    have L1 : Hid (w.grownBy w1 none ∧ _ = some (Obj.cells #[.int .i64 k, .int .i64 n, .slice a l c] 25) ∧ _ = some (Obj.cells #[.int .i64 0, .int .i64 0, .slice none 0 0] 25)) := ⟨grown_trans g0 hg, (hg.block _ (lt_of_block b0) (by simp)).trans b0, (hg.block _ (lt_of_block b1) (by simp)).trans b1⟩
    clear hg g0 b0 b1 L0
    generalize e0 : w.heap.size = p0 at *
    generalize e1 : p0 + 1 = p1 at *
    have PQ : Hid (w.heap.size = p0 ∧ p0 + 1 = p1) := ⟨e0, e1⟩
    clear e0 e1
    simp only []
    by_cases h7 : k = 7
    · have hf := HS.out.2.2.1
      subst h7
      rw [fits7] at hf
      simp only [Bool.and_eq_true, decide_eq_true_eq] at hf
      obtain ⟨hl0, hn0, hn1⟩ := hf
      subst hl0
      obtain rfl : d = .nil := F.nil_of_len hfl
      have E7 : shpV 7 = .iface 106 (.agg #[]) := rfl
      rw [E7]
      have t1 := asVarVar
      have C2 : Hid _ := HS.out.2.1 n w1 L1.out.1 hn0 hn1
      obtain ⟨kk, n2, d2, hsub⟩ : ∃ kk n2 d2, subT E 7 n .nil = (kk, n2, d2) := ⟨_, _, _, rfl⟩
      rw [hsub] at C2
      have ES : Hid (subT E 7 n .nil = (kk, n2, d2)) := hsub
      obtain ⟨⟨x0, x1, x2⟩, -⟩ := three L1.out.2.1
      clear HS IH hsub
      go_wp2_with fail
      refine Calls.mono C2.out ?_
      rintro e w2 ⟨a3, l3, c3, bs, rfl, hg, hnew, hna⟩
      obtain ⟨g1, b0, b1⟩ := L1.out
      have b1' := (hg.block _ (lt_of_block b1) (by simp)).trans b1
      obtain ⟨⟨v0, v1, v2⟩, f0, f1, f2⟩ := three b1'
      obtain ⟨d1, k1⟩ := fill3 (.int .i64 kk) (.int .i64 n2) (.slice a3 l3 c3) b1'
      have hbs : ∀ x ∈ bs, p1 < x := fun x hx => Nat.lt_of_lt_of_le (lt_of_block b1) (hnew.2.2 x hx)
      have FQ : Hid _ := And.intro d1 (And.intro (grown_into (grown_trans g1 hg) k1 (by have := PQ.out; omega)) (And.intro (show New w _ 25 a3 l3 c3 d2 bs from ⟨hnew.1.kept k1 (fun x hx => by have := hbs x hx; simp; omega), hnew.2.1, fun x hx => by have := hbs x hx; have := PQ.out; omega⟩) hna))
      clear C2 hg hnew hna g1 b0 b1 b1' d1 k1 hbs x0 x1 x2 L1
      simp only []
      go_wp2
      (try simp only [Exit.inBlock, Exit.then])
      refine bodyPost_ret (results_cell_row (P := Try.prog) Try.results70 _ _ p1 _ _ _ _ rfl FQ.out.1 Try.underlying25 rfl (by kernel_rfl)) rfl ?_
      rw [ES.out]
      exact ⟨a3, l3, c3, bs, rfl, FQ.out.2.1, FQ.out.2.2.1, FQ.out.2.2.2⟩
    -- any other kind
    have ES : Hid (subT E k n d = (k, n, subF E d)) := subT_other h7
    obtain ⟨iv, hiv, t1⟩ : ∃ iv, shpV k = iv ∧ ∀ w, Sem.run Try.prog (Instr.typeAssert iv 101 106 true) w = .ok (.tuple #[.agg #[], .bool false]) w := by
      by_cases h6 : k = 6
      · subst h6; exact ⟨_, rfl, asVarData⟩
      · exact ⟨.iface 119 (fixV k), by unfold shpV; rw [if_neg h6, if_neg h7, if_neg (by omega)], asVarFix _⟩
    rw [hiv]
    clear hiv h7
    have ga := World.grownBy_alloc w1 (.cells #[.int .i64 k, .int .i64 n, .slice none 0 0] 25) none
    have ba := heap_alloc_new w1 (.cells #[.int .i64 k, .int .i64 n, .slice none 0 0] 25)
    have hlt1 : p1 < w1.heap.size := lt_of_block L1.out.2.2
    have hlt0 : p0 < w1.heap.size := lt_of_block L1.out.2.1
    have L2 : Hid (w.grownBy _ none ∧ _ = some (Obj.cells #[.int .i64 k, .int .i64 n, .slice a l c] 25) ∧ _ = some (Obj.cells #[.int .i64 0, .int .i64 0, .slice none 0 0] 25) ∧ _ = some (Obj.cells #[.int .i64 k, .int .i64 n, .slice none 0 0] 25) ∧ p1 < w1.heap.size) := ⟨grown_trans L1.out.1 ga, (ga.block _ hlt0 (by simp)).trans L1.out.2.1, (ga.block _ hlt1 (by simp)).trans L1.out.2.2, ba, hlt1⟩
    clear ga ba
    obtain ⟨⟨x0, x1, x2⟩, -⟩ := three L1.out.2.1
    rcases HS.out.1.cases with ⟨rfl, rfl⟩ | ⟨b, o, rfl, hin, -, hpos⟩
    · obtain ⟨⟨v0, v1, v2⟩, f0, f1, f2⟩ := three L1.out.2.2
      obtain ⟨d1, k1⟩ := fill3 (.int .i64 k) (.int .i64 n) (.slice none 0 0) L1.out.2.2
      have ga := World.grownBy_alloc (((w1.setCell ⟨p1, 0, none⟩ (.int .i64 k)).setCell ⟨p1, 1, none⟩ (.int .i64 n)).setCell ⟨p1, 2, none⟩ (.slice none 0 0)) (.cells #[.int .i64 k, .int .i64 n, .slice none 0 0] 25) none
      have FQ : Hid _ := And.intro ((ga.block _ (lt_of_block d1) (by simp)).trans d1) (grown_trans (grown_into L1.out.1 k1 (by have := PQ.out; omega)) ga)
      clear ga
      clear d1 k1 HS IH L2 L1
      go_wp2
      refine wp_loop_rounds 1 ?_
      rw [rounds_succ]
      go_wp2
      (try simp only [Exit.inBlock, Exit.then])
      refine bodyPost_ret (results_cell_row (P := Try.prog) Try.results70 _ _ p1 _ _ _ _ rfl FQ.out.1 Try.underlying25 rfl (by kernel_rfl)) rfl ?_
      rw [ES.out]
      exact ⟨none, 0, 0, [], rfl, FQ.out.2, New.nil _ _ _, fun _ => rfl⟩
    have IN : Hid (InF w d b o ∧ Clo E q0 w ∧ okF d p = true) := ⟨hin, HS.out.2.1, HS.out.2.2.2⟩
    clear hin HS L1
    go_wp2
    clear x0 x1 x2
    generalize w1.alloc (.cells #[.int .i64 k, .int .i64 n, .slice none 0 0] 25) = W0 at *
    generalize e2 : w1.heap.size = p2 at *
    have PP : Hid (w.heap.size = p0 ∧ p0 + 1 = p1 ∧ p1 < p2) := ⟨PQ.out.1, PQ.out.2, hlt1⟩
    clear PQ e2 hlt0 hlt1
    go_loopw [26] (fun i wr => ∃ (j : Nat) (P R : F) (av : Option Addr) (cv : Nat) (bs : List Nat), j ≤ l ∧ i = .int .i64 j ∧ P.len = j ∧ R.len + j = l ∧ R.size ≤ d.size ∧ Hid (P.app (subF E R) = subF E d ∧ InF w R b (o + j * 3) ∧ okF R p = true) ∧ Hid ((w.grownBy wr none) ∧ (wr.heap[p0]? = some (Obj.cells #[.int .i64 k, .int .i64 n, .slice (some ⟨b, o, none⟩) l c] 25)) ∧ (wr.heap[p1]? = some (Obj.cells #[.int .i64 0, .int .i64 0, .slice none 0 0] 25)) ∧ (wr.heap[p2]? = some (Obj.cells #[.int .i64 k, .int .i64 n, .slice av j cv] 25)) ∧ (SlO wr 25 (av) j cv (P) bs) ∧ (bs.Nodup) ∧ (∀ x ∈ bs, p2 < x) ∧ (cv = 0 → av = none))) (fun i _ => l - (intOf i).toNat)
    case atStart => exact ⟨0, .nil, d, none, 0, [], Nat.zero_le _, rfl, rfl, by omega, Nat.le_refl _, ⟨rfl, by simpa using IN.out.1, IN.out.2.2⟩, L2.out.1, L2.out.2.1, L2.out.2.2.1, L2.out.2.2.2.1, ⟨rfl, by omega, by omega, .inl ⟨rfl, rfl⟩⟩, List.nodup_nil, fun x hx => by simp at hx, fun _ => rfl⟩
    case round =>
      clear L2
      obtain ⟨j, P, R, av, cv, bs, hj, rfl, hPl, hRl, hRs, HP, LI⟩ := hrel
      by_cases hlt : j < l
      rotate_left
      · obtain rfl : j = l := by omega
        obtain rfl : R = .nil := F.nil_of_len (by omega)
        obtain ⟨hP, -, -⟩ := HP.out
        rw [subF, F.app_nil] at hP
        obtain ⟨g, x0, x1, x2, acc, nd, gt, na⟩ := LI.out
        rw [hP] at acc
        obtain ⟨z0, z1, z2⟩ := (three x2).1
        obtain ⟨⟨v0, v1, v2⟩, f0, f1, f2⟩ := three x1
        have hn12 : p1 ≠ p2 := by have := PP.out; omega
        obtain ⟨d1, k1⟩ := fill3 (.int .i64 k) (.int .i64 n) (.slice av j cv) x1
        have FQ : Hid _ := And.intro d1 (And.intro (grown_into g k1 (by have := PP.out; omega)) (And.intro (show New w _ 25 av j cv (subF E d) bs from ⟨acc.kept k1 (fun x hx => by have := gt x hx; have := PP.out; simp; omega), nd, fun x hx => by have := gt x hx; have := PP.out; omega⟩) na))
        clear g x0 x1 x2 acc nd gt na LI IH d1 k1 HP IN
        go_wp2
        (try simp only [Exit.inBlock, Exit.then])
        refine bodyPost_ret (results_cell_row (P := Try.prog) Try.results70 _ _ p1 _ _ _ _ rfl FQ.out.1 Try.underlying25 rfl (by kernel_rfl)) rfl ?_
        rw [ES.out]
        exact ⟨av, j, cv, bs, rfl, FQ.out.2.1, FQ.out.2.2.1, FQ.out.2.2.2⟩
      obtain ⟨q, hq⟩ : ∃ q, R.len = q + 1 := ⟨R.len - 1, by omega⟩
      obtain ⟨kk, nn, d', R', rfl, hR'⟩ := F.cons_of_len hq
      obtain ⟨hPR, hR, hokR⟩ := HP.out
      obtain ⟨a', l', c', c0, c1, c2', hd, hR2⟩ := hR.out
      have e3 : o + j * 3 + 3 = o + (j + 1) * 3 := by omega
      rw [e3] at hR2
      simp only [okF, Bool.and_eq_true, decide_eq_true_eq] at hokR
      have hds : d'.size < m := by simp only [F.size] at hRs hm; omega
      have hds2 : d'.size ≤ 100000 := by simp only [F.size] at hRs; omega
      have hRs' : R'.size ≤ d.size := by simp only [F.size] at hRs; omega
      obtain ⟨rk, rn, rd, hsub⟩ : ∃ rk rn rd, subT E kk nn d' = (rk, rn, rd) := ⟨_, _, _, rfl⟩
      rw [subF_cons, hsub] at hPR
      have ga := World.grownBy_alloc wr (.cells #[.int .i64 kk, .int .i64 nn, .slice a' l' c'] 25) none
      have ba := heap_alloc_new wr (.cells #[.int .i64 kk, .int .i64 nn, .slice a' l' c'] 25)
      have c0 := LI.out.1.cell c0 (by simp)
      have c1 := LI.out.1.cell c1 (by simp)
      have c2' := LI.out.1.cell c2' (by simp)
      have CW : Hid (SlF w a' l' d' ∧ fitsB kk nn l' = true ∧ okF d' (p - 1) = true) := ⟨hd, by rw [← hd.1]; exact hokR.1.1.2, hokR.1.2⟩
      have HQ : Hid (P.app (.cons rk rn rd (subF E R')) = subF E d ∧ InF w R' b (o + (j + 1) * 3) ∧ okF R' p = true) := ⟨hPR, hR2, hokR.2⟩
      have HC : Hid (∀ u, w.grownBy u none → Calls Try.prog 70 #[.agg #[.int .i64 kk, .int .i64 nn, .slice a' l' c'], .func (Fn.func 71) #[] #[.pointer (some ⟨q0, 0, none⟩)]] u fun e u2 => ∃ a2 l2 c2 bd, e = .returned (.agg #[.int .i64 rk, .int .i64 rn, .slice a2 l2 c2]) ∧ u.grownBy u2 none ∧ New u u2 25 a2 l2 c2 rd bd ∧ (c2 = 0 → a2 = none)) := by
        intro u hu
        have := IH.out d' kk nn a' l' c' (p - 1) u hds hds2 (CW.out.1.none hu) (IN.out.2.1.none hu) CW.out.2.1 CW.out.2.2
        rw [hsub] at this
        exact this
      clear HP hPR hR hR2 hd hRs hokR hsub IH IN CW ES
      have np : wr.heap.size ∉ bs := fun hx => by have := SlO.lt (LI.out.2.2.2.2.1) _ hx; omega
      have np2 : p2 < wr.heap.size := lt_of_block (LI.out.2.2.2.1)
      have L1 : Hid ((w.grownBy (wr.alloc (.cells #[.int .i64 kk, .int .i64 nn, .slice a' l' c'] 25)) none) ∧ ((wr.alloc (.cells #[.int .i64 kk, .int .i64 nn, .slice a' l' c'] 25)).heap[p0]? = some (Obj.cells #[.int .i64 k, .int .i64 n, .slice (some ⟨b, o, none⟩) l c] 25)) ∧ ((wr.alloc (.cells #[.int .i64 kk, .int .i64 nn, .slice a' l' c'] 25)).heap[p1]? = some (Obj.cells #[.int .i64 0, .int .i64 0, .slice none 0 0] 25)) ∧ ((wr.alloc (.cells #[.int .i64 kk, .int .i64 nn, .slice a' l' c'] 25)).heap[p2]? = some (Obj.cells #[.int .i64 k, .int .i64 n, .slice av j cv] 25)) ∧ (SlO (wr.alloc (.cells #[.int .i64 kk, .int .i64 nn, .slice a' l' c'] 25)) 25 (av) j cv (P) bs) ∧ (bs.Nodup) ∧ (∀ x ∈ bs, p2 < x) ∧ (cv = 0 → av = none) ∧ ((wr.alloc (.cells #[.int .i64 kk, .int .i64 nn, .slice a' l' c'] 25)).heap[wr.heap.size]? = some (Obj.cells #[.int .i64 kk, .int .i64 nn, .slice a' l' c'] 25)) ∧ (wr.heap.size ∉ bs) ∧ (p2 < wr.heap.size)) := ⟨grown_trans (LI.out.1) ga, (World.grownBy.block ga _ (lt_of_block (LI.out.2.1)) (by simp)).trans (LI.out.2.1), (World.grownBy.block ga _ (lt_of_block (LI.out.2.2.1)) (by simp)).trans (LI.out.2.2.1), (World.grownBy.block ga _ (lt_of_block (LI.out.2.2.2.1)) (by simp)).trans (LI.out.2.2.2.1), SlO.old (LI.out.2.2.2.2.1) ga, LI.out.2.2.2.2.2.1, LI.out.2.2.2.2.2.2.1, LI.out.2.2.2.2.2.2.2, ba, np, np2⟩
      clear LI
      clear ga ba np np2
      go_wp2_with fail
      clear c0 c1 c2'
      generalize (wr.alloc (.cells #[.int .i64 kk, .int .i64 nn, .slice a' l' c'] 25)) = wb at *
      generalize wr.heap.size = pa at *
      have L2 : Hid ((w.grownBy wb.drew none) ∧ (wb.drew.heap[p0]? = some (Obj.cells #[.int .i64 k, .int .i64 n, .slice (some ⟨b, o, none⟩) l c] 25)) ∧ (wb.drew.heap[p1]? = some (Obj.cells #[.int .i64 0, .int .i64 0, .slice none 0 0] 25)) ∧ (wb.drew.heap[p2]? = some (Obj.cells #[.int .i64 k, .int .i64 n, .slice av j cv] 25)) ∧ (SlO wb.drew 25 (av) j cv (P) bs) ∧ (bs.Nodup) ∧ (∀ x ∈ bs, p2 < x) ∧ (cv = 0 → av = none) ∧ (wb.drew.heap[pa]? = some (Obj.cells #[.int .i64 kk, .int .i64 nn, .slice a' l' c'] 25)) ∧ (pa ∉ bs) ∧ (p2 < pa)) := ⟨grown_trans (L1.out.1) (grown_drew (World.grownBy.refl wb none)), (World.grownBy.block (grown_drew (World.grownBy.refl wb none)) _ (lt_of_block (L1.out.2.1)) (by simp)).trans (L1.out.2.1), (World.grownBy.block (grown_drew (World.grownBy.refl wb none)) _ (lt_of_block (L1.out.2.2.1)) (by simp)).trans (L1.out.2.2.1), (World.grownBy.block (grown_drew (World.grownBy.refl wb none)) _ (lt_of_block (L1.out.2.2.2.1)) (by simp)).trans (L1.out.2.2.2.1), SlO.old (L1.out.2.2.2.2.1) (grown_drew (World.grownBy.refl wb none)), L1.out.2.2.2.2.2.1, L1.out.2.2.2.2.2.2.1, L1.out.2.2.2.2.2.2.2.1, (World.grownBy.block (grown_drew (World.grownBy.refl wb none)) _ (lt_of_block (L1.out.2.2.2.2.2.2.2.2.1)) (by simp)).trans (L1.out.2.2.2.2.2.2.2.2.1), L1.out.2.2.2.2.2.2.2.2.2.1, L1.out.2.2.2.2.2.2.2.2.2.2⟩
      clear L1
      refine wp_region_held_drew (S := (fun u => Tri pa 0 (.int .i64 kk) (.int .i64 nn) (.slice a' l' c') u)) (by kernel_rfl) (three (L2.out.2.2.2.2.2.2.2.2.1)).1 (fun hH => ?_)
      generalize wb.drew = u0 at *
      simp only [List.size_toArray, List.length_cons, List.length_nil, Nat.reduceAdd, Array.replicate, List.replicate]
      refine wpAnyH_take (i := 0) (v := ?_) rfl (by kernel_rfl) (by kernel_rfl) (by kernel_rfl) (fun _ _ _ h => h) (Or.inl ⟨by rfl, ?_⟩) hH ?_
      rotate_left
      · (intro v hS; obtain ⟨s0, s1, s2⟩ := hS; go_simp; try with_reducible rfl)
      simp only [Act.put, List.setIfInBounds_toArray, List.set_cons_zero, List.set_cons_succ, List.getElem_toArray, List.getElem_cons_succ, List.getElem_cons_zero]
      refine wpAnyH_take (i := 2) (v := ?_) rfl (by kernel_rfl) (by kernel_rfl) (by kernel_rfl) (fun _ _ _ h => h) (Or.inl ⟨by rfl, ?_⟩) hH ?_
      rotate_left
      · (intro v hS; obtain ⟨s0, s1, s2⟩ := hS; go_simp; try with_reducible rfl)
      simp only [Act.put, List.setIfInBounds_toArray, List.set_cons_zero, List.set_cons_succ, List.getElem_toArray, List.getElem_cons_succ, List.getElem_cons_zero]
      refine wpAnyH_take (i := 3) (v := ?_) rfl (by kernel_rfl) (by kernel_rfl) (by kernel_rfl) (fun _ _ _ h => h) (Or.inl ⟨by rfl, ?_⟩) hH ?_
      rotate_left
      · (intro v hS; obtain ⟨s0, s1, s2⟩ := hS; go_simp; try with_reducible rfl)
      simp only [Act.put, List.setIfInBounds_toArray, List.set_cons_zero, List.set_cons_succ, List.getElem_toArray, List.getElem_cons_succ, List.getElem_cons_zero]
      refine wpAnyH_ready (rs := [1, 4]) (by kernel_rfl) (by simp) ?_
      refine AllReadyH.cons rfl (fun K hK => ?_) ?_
      · skip
        have yy := three (L2.out.2.2.2.1)
        obtain ⟨⟨y0, y1, y2⟩, -⟩ := yy
        go_simp
        refine hK.out _ _ (three (L2.out.2.2.2.2.2.2.2.2.1)).1 (fun hH2 => ?_)
        clear hK K hH
        have hH := hH2
        clear hH2 y0 y1 y2
        simp only [Act.put, List.setIfInBounds_toArray, List.set_cons_zero, List.set_cons_succ, List.getElem_toArray, List.getElem_cons_succ, List.getElem_cons_zero]
        refine wpAnyH_ready (rs := [4]) (by kernel_rfl) (by simp) ?_
        refine AllReadyH.cons rfl (fun K hK => ?_) AllReadyH.nil
        go_simp
        refine Calls.mono (HC.out u0 (L2.out.1)) ?_
        rintro e u1 ⟨a2, l2, c2, bd, rfl, hg, hnew, -⟩
        have L3 : Hid ((w.grownBy u1 none) ∧ (u1.heap[p0]? = some (Obj.cells #[.int .i64 k, .int .i64 n, .slice (some ⟨b, o, none⟩) l c] 25)) ∧ (u1.heap[p1]? = some (Obj.cells #[.int .i64 0, .int .i64 0, .slice none 0 0] 25)) ∧ (u1.heap[p2]? = some (Obj.cells #[.int .i64 k, .int .i64 n, .slice av j cv] 25)) ∧ (SlO u1 25 (av) j cv (P) bs) ∧ (bs.Nodup) ∧ (∀ x ∈ bs, p2 < x) ∧ (cv = 0 → av = none) ∧ (u1.heap[pa]? = some (Obj.cells #[.int .i64 kk, .int .i64 nn, .slice a' l' c'] 25)) ∧ (pa ∉ bs) ∧ (p2 < pa) ∧ (SlO u1 25 (a2) l2 c2 (rd) bd) ∧ (bd.Nodup) ∧ (∀ x ∈ bs, x ∉ bd) ∧ (∀ x ∈ bd, p2 < x)) := ⟨grown_trans (L2.out.1) hg, (World.grownBy.block hg _ (lt_of_block (L2.out.2.1)) (by simp)).trans (L2.out.2.1), (World.grownBy.block hg _ (lt_of_block (L2.out.2.2.1)) (by simp)).trans (L2.out.2.2.1), (World.grownBy.block hg _ (lt_of_block (L2.out.2.2.2.1)) (by simp)).trans (L2.out.2.2.2.1), SlO.old (L2.out.2.2.2.2.1) hg, L2.out.2.2.2.2.2.1, L2.out.2.2.2.2.2.2.1, L2.out.2.2.2.2.2.2.2.1, (World.grownBy.block hg _ (lt_of_block (L2.out.2.2.2.2.2.2.2.2.1)) (by simp)).trans (L2.out.2.2.2.2.2.2.2.2.1), L2.out.2.2.2.2.2.2.2.2.2.1, L2.out.2.2.2.2.2.2.2.2.2.2, hnew.1, hnew.2.1, fun x hx hx2 => by have := SlO.lt (L2.out.2.2.2.2.1) x hx; have := hnew.2.2 x hx2; omega, fun x hx => Nat.lt_of_lt_of_le (lt_of_block (L2.out.2.2.2.1)) (hnew.2.2 x hx)⟩
        clear L2
        refine hK.out _ _ (three (L3.out.2.2.2.2.2.2.2.2.1)).1 (fun hH2 => ?_)
        clear hK K hH
        have hH := hH2
        clear hH2 hg hnew
        simp only [Act.put, List.setIfInBounds_toArray, List.set_cons_zero, List.set_cons_succ, List.getElem_toArray, List.getElem_cons_succ, List.getElem_cons_zero]
        refine wpAnyH_ready (rs := [5]) (by kernel_rfl) (by simp) ?_
        refine AllReadyH.cons rfl (fun K hK => ?_) AllReadyH.nil
        go_simp
        have ga := World.grownBy_alloc u1 (.cells #[.int .i64 rk, .int .i64 rn, .slice a2 l2 c2] 25) none
        have ba := three (heap_alloc_new u1 (.cells #[.int .i64 rk, .int .i64 rn, .slice a2 l2 c2] 25))
        have L4 : Hid ((w.grownBy (u1.alloc (.cells #[.int .i64 rk, .int .i64 rn, .slice a2 l2 c2] 25)) none) ∧ ((u1.alloc (.cells #[.int .i64 rk, .int .i64 rn, .slice a2 l2 c2] 25)).heap[p0]? = some (Obj.cells #[.int .i64 k, .int .i64 n, .slice (some ⟨b, o, none⟩) l c] 25)) ∧ ((u1.alloc (.cells #[.int .i64 rk, .int .i64 rn, .slice a2 l2 c2] 25)).heap[p1]? = some (Obj.cells #[.int .i64 0, .int .i64 0, .slice none 0 0] 25)) ∧ ((u1.alloc (.cells #[.int .i64 rk, .int .i64 rn, .slice a2 l2 c2] 25)).heap[p2]? = some (Obj.cells #[.int .i64 k, .int .i64 n, .slice av j cv] 25)) ∧ (SlO (u1.alloc (.cells #[.int .i64 rk, .int .i64 rn, .slice a2 l2 c2] 25)) 25 (av) j cv (P) bs) ∧ (bs.Nodup) ∧ (∀ x ∈ bs, p2 < x) ∧ (cv = 0 → av = none) ∧ ((u1.alloc (.cells #[.int .i64 rk, .int .i64 rn, .slice a2 l2 c2] 25)).heap[pa]? = some (Obj.cells #[.int .i64 kk, .int .i64 nn, .slice a' l' c'] 25)) ∧ (pa ∉ bs) ∧ (p2 < pa) ∧ (SlO (u1.alloc (.cells #[.int .i64 rk, .int .i64 rn, .slice a2 l2 c2] 25)) 25 (a2) l2 c2 (rd) bd) ∧ (bd.Nodup) ∧ (∀ x ∈ bs, x ∉ bd) ∧ (∀ x ∈ bd, p2 < x) ∧ (((u1.alloc (.cells #[.int .i64 rk, .int .i64 rn, .slice a2 l2 c2] 25)).cell? ⟨u1.heap.size, 0, none⟩ = some (.int .i64 rk) ∧ (u1.alloc (.cells #[.int .i64 rk, .int .i64 rn, .slice a2 l2 c2] 25)).cell? ⟨u1.heap.size, 1, none⟩ = some (.int .i64 rn) ∧ (u1.alloc (.cells #[.int .i64 rk, .int .i64 rn, .slice a2 l2 c2] 25)).cell? ⟨u1.heap.size, 2, none⟩ = some (.slice a2 l2 c2)))) := ⟨grown_trans (L3.out.1) ga, (World.grownBy.block ga _ (lt_of_block (L3.out.2.1)) (by simp)).trans (L3.out.2.1), (World.grownBy.block ga _ (lt_of_block (L3.out.2.2.1)) (by simp)).trans (L3.out.2.2.1), (World.grownBy.block ga _ (lt_of_block (L3.out.2.2.2.1)) (by simp)).trans (L3.out.2.2.2.1), SlO.old (L3.out.2.2.2.2.1) ga, L3.out.2.2.2.2.2.1, L3.out.2.2.2.2.2.2.1, L3.out.2.2.2.2.2.2.2.1, (World.grownBy.block ga _ (lt_of_block (L3.out.2.2.2.2.2.2.2.2.1)) (by simp)).trans (L3.out.2.2.2.2.2.2.2.2.1), L3.out.2.2.2.2.2.2.2.2.2.1, L3.out.2.2.2.2.2.2.2.2.2.2.1, SlO.old (L3.out.2.2.2.2.2.2.2.2.2.2.2.1) ga, L3.out.2.2.2.2.2.2.2.2.2.2.2.2.1, L3.out.2.2.2.2.2.2.2.2.2.2.2.2.2.1, L3.out.2.2.2.2.2.2.2.2.2.2.2.2.2.2, ba.1⟩
        clear L3
        clear ga ba
        generalize (u1.alloc (.cells #[.int .i64 rk, .int .i64 rn, .slice a2 l2 c2] 25)) = ub at *
        generalize u1.heap.size = qq at *
        refine hK.out _ _ (three (L4.out.2.2.2.2.2.2.2.2.1)).1 (fun hH2 => ?_)
        clear hK K hH
        have hH := hH2
        clear hH2 
        simp only [Act.put, List.setIfInBounds_toArray, List.set_cons_zero, List.set_cons_succ, List.getElem_toArray, List.getElem_cons_succ, List.getElem_cons_zero]
        refine wpAnyH_ready (rs := [6]) (by kernel_rfl) (by simp) ?_
        refine AllReadyH.cons rfl (fun K hK => ?_) AllReadyH.nil
        obtain ⟨i0, hi, hz0, hz1, hz2⟩ := info_parts infoT
        refine step_pushT rfl (.tmp 31) (.tmp 35) 23 rfl 25 i0 _ Try.underlying23 hi hz0 hz1 hz2 rfl av j cv P bs rfl (L4.out.2.2.2.2.1) (L4.out.2.2.2.2.2.1) (L4.out.2.2.2.2.2.2.2.1) (by omega) ⟨qq, 0, none⟩ rfl (rk) (rn) a2 l2 c2 (news3 (L4.out.2.2.2.2.2.2.2.2.2.2.2.2.2.2.2).1 (L4.out.2.2.2.2.2.2.2.2.2.2.2.2.2.2.2).2.1 (L4.out.2.2.2.2.2.2.2.2.2.2.2.2.2.2.2).2.2) (rd) bd (L4.out.2.2.2.2.2.2.2.2.2.2.2.1) (L4.out.2.2.2.2.2.2.2.2.2.2.2.2.1) (L4.out.2.2.2.2.2.2.2.2.2.2.2.2.2.1) ?_
        intro a3 c3 bs3 u3 h1 h2 h3 h4 h5
        have L5 : Hid ((w.grownBy u3 none) ∧ (u3.heap[p0]? = some (Obj.cells #[.int .i64 k, .int .i64 n, .slice (some ⟨b, o, none⟩) l c] 25)) ∧ (u3.heap[p1]? = some (Obj.cells #[.int .i64 0, .int .i64 0, .slice none 0 0] 25)) ∧ (u3.heap[p2]? = some (Obj.cells #[.int .i64 k, .int .i64 n, .slice av j cv] 25)) ∧ (u3.heap[pa]? = some (Obj.cells #[.int .i64 kk, .int .i64 nn, .slice a' l' c'] 25)) ∧ (p2 < pa) ∧ (SlO u3 25 (a3) (j + 1) c3 (P.app (.cons (rk) (rn) (rd) .nil)) bs3) ∧ (bs3.Nodup) ∧ (∀ x ∈ bs3, p2 < x) ∧ (0 < c3)) := ⟨Tn.fresh (L4.out.1) h4 (fun x hx => by have := (L4.out.2.2.2.2.2.2.1) x hx; have := PP.out; omega), (h4.block _ (lt_of_block (L4.out.2.1)) (fun hx => by have := (L4.out.2.2.2.2.2.2.1) _ hx; have := PP.out; omega)).trans (L4.out.2.1), (h4.block _ (lt_of_block (L4.out.2.2.1)) (fun hx => by have := (L4.out.2.2.2.2.2.2.1) _ hx; have := PP.out; omega)).trans (L4.out.2.2.1), (h4.block _ (lt_of_block (L4.out.2.2.2.1)) (fun hx => by have := (L4.out.2.2.2.2.2.2.1) _ hx; have := PP.out; omega)).trans (L4.out.2.2.2.1), (h4.block _ (lt_of_block (L4.out.2.2.2.2.2.2.2.2.1)) (fun hx => L4.out.2.2.2.2.2.2.2.2.2.1 hx)).trans (L4.out.2.2.2.2.2.2.2.2.1), L4.out.2.2.2.2.2.2.2.2.2.2.1, h1, h2, (fun x hx => (h3 x hx).elim (fun h => (L4.out.2.2.2.2.2.2.1) x h) (fun h => h.elim (fun h => (L4.out.2.2.2.2.2.2.2.2.2.2.2.2.2.2.1) x h) (fun h => Nat.lt_of_lt_of_le (lt_of_block (L4.out.2.2.2.1)) h))), h5⟩
        clear L4
        clear h1 h2 h3 h4 h5 i0 hi hz0 hz1 hz2
        refine hK.out _ _ (three (L5.out.2.2.2.2.1)).1 (fun hH2 => ?_)
        clear hK K hH
        have hH := hH2
        clear hH2 
        simp only [Act.put, List.setIfInBounds_toArray, List.set_cons_zero, List.set_cons_succ, List.getElem_toArray, List.getElem_cons_succ, List.getElem_cons_zero]
        refine wpAnyH_take (i := 7) (v := ?_) rfl (by kernel_rfl) (by kernel_rfl) (by kernel_rfl) (fun _ _ _ h => h) (Or.inl ⟨by rfl, ?_⟩) hH ?_
        rotate_left
        · (intro v hS; go_simp; try with_reducible rfl)
        simp only [Act.put, List.setIfInBounds_toArray, List.set_cons_zero, List.set_cons_succ, List.getElem_toArray, List.getElem_cons_succ, List.getElem_cons_zero]
        refine wpAnyH_ready (rs := [8]) (by kernel_rfl) (by simp) ?_
        refine AllReadyH.cons rfl (fun K hK => ?_) AllReadyH.nil
        have yy := three (L5.out.2.2.2.1)
        obtain ⟨⟨y0, y1, y2⟩, f0, f1, f2⟩ := yy
        go_simp
        have ks := grown_setCell u3 p2 2 (.slice a3 (j + 1) c3)
        have L6 : Hid ((w.grownBy (u3.setCell ⟨p2, 2, none⟩ (.slice a3 (j + 1) c3)) none) ∧ ((u3.setCell ⟨p2, 2, none⟩ (.slice a3 (j + 1) c3)).heap[p0]? = some (Obj.cells #[.int .i64 k, .int .i64 n, .slice (some ⟨b, o, none⟩) l c] 25)) ∧ ((u3.setCell ⟨p2, 2, none⟩ (.slice a3 (j + 1) c3)).heap[p1]? = some (Obj.cells #[.int .i64 0, .int .i64 0, .slice none 0 0] 25)) ∧ ((u3.setCell ⟨p2, 2, none⟩ (.slice a3 (j + 1) c3)).heap[p2]? = some (Obj.cells #[.int .i64 k, .int .i64 n, .slice a3 (j + 1) c3] 25)) ∧ ((u3.setCell ⟨p2, 2, none⟩ (.slice a3 (j + 1) c3)).heap[pa]? = some (Obj.cells #[.int .i64 kk, .int .i64 nn, .slice a' l' c'] 25)) ∧ (p2 < pa) ∧ (SlO (u3.setCell ⟨p2, 2, none⟩ (.slice a3 (j + 1) c3)) 25 (a3) (j + 1) c3 (P.app (.cons (rk) (rn) (rd) .nil)) bs3) ∧ (bs3.Nodup) ∧ (∀ x ∈ bs3, p2 < x) ∧ (0 < c3)) := ⟨grown_into (L5.out.1) ks (by have := PP.out; omega), (ks.block _ (lt_of_block (L5.out.2.1)) (by have := PP.out; simp; omega)).trans (L5.out.2.1), (ks.block _ (lt_of_block (L5.out.2.2.1)) (by have := PP.out; simp; omega)).trans (L5.out.2.2.1), heap_setCell_same u3 p2 2 _ _ _ (L5.out.2.2.2.1), (ks.block _ (lt_of_block (L5.out.2.2.2.2.1)) (by have := L5.out.2.2.2.2.2.1; simp; omega)).trans (L5.out.2.2.2.2.1), L5.out.2.2.2.2.2.1, SlO.kept (L5.out.2.2.2.2.2.2.1) ks (fun x hx => by have := (L5.out.2.2.2.2.2.2.2.2.1) x hx; simp; omega), L5.out.2.2.2.2.2.2.2.1, L5.out.2.2.2.2.2.2.2.2.1, L5.out.2.2.2.2.2.2.2.2.2⟩
        clear L5
        clear ks f0 f1 f2 y0 y1 y2
        generalize (u3.setCell ⟨p2, 2, none⟩ (.slice a3 (j + 1) c3)) = u4 at *
        refine hK.out _ _ (three (L6.out.2.2.2.2.1)).1 (fun hH2 => ?_)
        clear hK K hH
        have hH := hH2
        clear hH2 
        simp only [Act.put, List.setIfInBounds_toArray, List.set_cons_zero, List.set_cons_succ, List.getElem_toArray, List.getElem_cons_succ, List.getElem_cons_zero]
        refine wpAnyH_done (by kernel_rfl) ?_ _
        go_wp2
        go_roundw
        case rel => exact ⟨j + 1, P.app (.cons rk rn rd .nil), R', a3, c3, bs3, by omega, by go_num, by rw [F.app_len, hPl]; rfl, by omega, hRs', ⟨by rw [F.app_assoc]; exact HQ.out.1, HQ.out.2⟩, L6.out.1, L6.out.2.1, L6.out.2.2.1, L6.out.2.2.2.1, L6.out.2.2.2.2.2.2.1, L6.out.2.2.2.2.2.2.2.1, L6.out.2.2.2.2.2.2.2.2.1, fun h0 => absurd h0 (by have := L6.out.2.2.2.2.2.2.2.2.2; omega)⟩
        case measure => simp [intOf]; omega
      refine AllReadyH.cons rfl (fun K hK => ?_) AllReadyH.nil
      go_simp
      refine Calls.mono (HC.out u0 (L2.out.1)) ?_
      rintro e u1 ⟨a2, l2, c2, bd, rfl, hg, hnew, -⟩
      have L7 : Hid ((w.grownBy u1 none) ∧ (u1.heap[p0]? = some (Obj.cells #[.int .i64 k, .int .i64 n, .slice (some ⟨b, o, none⟩) l c] 25)) ∧ (u1.heap[p1]? = some (Obj.cells #[.int .i64 0, .int .i64 0, .slice none 0 0] 25)) ∧ (u1.heap[p2]? = some (Obj.cells #[.int .i64 k, .int .i64 n, .slice av j cv] 25)) ∧ (SlO u1 25 (av) j cv (P) bs) ∧ (bs.Nodup) ∧ (∀ x ∈ bs, p2 < x) ∧ (cv = 0 → av = none) ∧ (u1.heap[pa]? = some (Obj.cells #[.int .i64 kk, .int .i64 nn, .slice a' l' c'] 25)) ∧ (pa ∉ bs) ∧ (p2 < pa) ∧ (SlO u1 25 (a2) l2 c2 (rd) bd) ∧ (bd.Nodup) ∧ (∀ x ∈ bs, x ∉ bd) ∧ (∀ x ∈ bd, p2 < x)) := ⟨grown_trans (L2.out.1) hg, (World.grownBy.block hg _ (lt_of_block (L2.out.2.1)) (by simp)).trans (L2.out.2.1), (World.grownBy.block hg _ (lt_of_block (L2.out.2.2.1)) (by simp)).trans (L2.out.2.2.1), (World.grownBy.block hg _ (lt_of_block (L2.out.2.2.2.1)) (by simp)).trans (L2.out.2.2.2.1), SlO.old (L2.out.2.2.2.2.1) hg, L2.out.2.2.2.2.2.1, L2.out.2.2.2.2.2.2.1, L2.out.2.2.2.2.2.2.2.1, (World.grownBy.block hg _ (lt_of_block (L2.out.2.2.2.2.2.2.2.2.1)) (by simp)).trans (L2.out.2.2.2.2.2.2.2.2.1), L2.out.2.2.2.2.2.2.2.2.2.1, L2.out.2.2.2.2.2.2.2.2.2.2, hnew.1, hnew.2.1, fun x hx hx2 => by have := SlO.lt (L2.out.2.2.2.2.1) x hx; have := hnew.2.2 x hx2; omega, fun x hx => Nat.lt_of_lt_of_le (lt_of_block (L2.out.2.2.2.1)) (hnew.2.2 x hx)⟩
      clear L2
      refine hK.out _ _ (three (L7.out.2.2.2.2.2.2.2.2.1)).1 (fun hH2 => ?_)
      clear hK K hH
      have hH := hH2
      clear hH2 hg hnew
      simp only [Act.put, List.setIfInBounds_toArray, List.set_cons_zero, List.set_cons_succ, List.getElem_toArray, List.getElem_cons_succ, List.getElem_cons_zero]
      refine wpAnyH_ready (rs := [1, 5]) (by kernel_rfl) (by simp) ?_
      refine AllReadyH.cons rfl (fun K hK => ?_) ?_
      · skip
        have yy := three (L7.out.2.2.2.1)
        obtain ⟨⟨y0, y1, y2⟩, -⟩ := yy
        go_simp
        refine hK.out _ _ (three (L7.out.2.2.2.2.2.2.2.2.1)).1 (fun hH2 => ?_)
        clear hK K hH
        have hH := hH2
        clear hH2 y0 y1 y2
        simp only [Act.put, List.setIfInBounds_toArray, List.set_cons_zero, List.set_cons_succ, List.getElem_toArray, List.getElem_cons_succ, List.getElem_cons_zero]
        refine wpAnyH_ready (rs := [5]) (by kernel_rfl) (by simp) ?_
        refine AllReadyH.cons rfl (fun K hK => ?_) AllReadyH.nil
        go_simp
        have ga := World.grownBy_alloc u1 (.cells #[.int .i64 rk, .int .i64 rn, .slice a2 l2 c2] 25) none
        have ba := three (heap_alloc_new u1 (.cells #[.int .i64 rk, .int .i64 rn, .slice a2 l2 c2] 25))
        have L8 : Hid ((w.grownBy (u1.alloc (.cells #[.int .i64 rk, .int .i64 rn, .slice a2 l2 c2] 25)) none) ∧ ((u1.alloc (.cells #[.int .i64 rk, .int .i64 rn, .slice a2 l2 c2] 25)).heap[p0]? = some (Obj.cells #[.int .i64 k, .int .i64 n, .slice (some ⟨b, o, none⟩) l c] 25)) ∧ ((u1.alloc (.cells #[.int .i64 rk, .int .i64 rn, .slice a2 l2 c2] 25)).heap[p1]? = some (Obj.cells #[.int .i64 0, .int .i64 0, .slice none 0 0] 25)) ∧ ((u1.alloc (.cells #[.int .i64 rk, .int .i64 rn, .slice a2 l2 c2] 25)).heap[p2]? = some (Obj.cells #[.int .i64 k, .int .i64 n, .slice av j cv] 25)) ∧ (SlO (u1.alloc (.cells #[.int .i64 rk, .int .i64 rn, .slice a2 l2 c2] 25)) 25 (av) j cv (P) bs) ∧ (bs.Nodup) ∧ (∀ x ∈ bs, p2 < x) ∧ (cv = 0 → av = none) ∧ ((u1.alloc (.cells #[.int .i64 rk, .int .i64 rn, .slice a2 l2 c2] 25)).heap[pa]? = some (Obj.cells #[.int .i64 kk, .int .i64 nn, .slice a' l' c'] 25)) ∧ (pa ∉ bs) ∧ (p2 < pa) ∧ (SlO (u1.alloc (.cells #[.int .i64 rk, .int .i64 rn, .slice a2 l2 c2] 25)) 25 (a2) l2 c2 (rd) bd) ∧ (bd.Nodup) ∧ (∀ x ∈ bs, x ∉ bd) ∧ (∀ x ∈ bd, p2 < x) ∧ (((u1.alloc (.cells #[.int .i64 rk, .int .i64 rn, .slice a2 l2 c2] 25)).cell? ⟨u1.heap.size, 0, none⟩ = some (.int .i64 rk) ∧ (u1.alloc (.cells #[.int .i64 rk, .int .i64 rn, .slice a2 l2 c2] 25)).cell? ⟨u1.heap.size, 1, none⟩ = some (.int .i64 rn) ∧ (u1.alloc (.cells #[.int .i64 rk, .int .i64 rn, .slice a2 l2 c2] 25)).cell? ⟨u1.heap.size, 2, none⟩ = some (.slice a2 l2 c2)))) := ⟨grown_trans (L7.out.1) ga, (World.grownBy.block ga _ (lt_of_block (L7.out.2.1)) (by simp)).trans (L7.out.2.1), (World.grownBy.block ga _ (lt_of_block (L7.out.2.2.1)) (by simp)).trans (L7.out.2.2.1), (World.grownBy.block ga _ (lt_of_block (L7.out.2.2.2.1)) (by simp)).trans (L7.out.2.2.2.1), SlO.old (L7.out.2.2.2.2.1) ga, L7.out.2.2.2.2.2.1, L7.out.2.2.2.2.2.2.1, L7.out.2.2.2.2.2.2.2.1, (World.grownBy.block ga _ (lt_of_block (L7.out.2.2.2.2.2.2.2.2.1)) (by simp)).trans (L7.out.2.2.2.2.2.2.2.2.1), L7.out.2.2.2.2.2.2.2.2.2.1, L7.out.2.2.2.2.2.2.2.2.2.2.1, SlO.old (L7.out.2.2.2.2.2.2.2.2.2.2.2.1) ga, L7.out.2.2.2.2.2.2.2.2.2.2.2.2.1, L7.out.2.2.2.2.2.2.2.2.2.2.2.2.2.1, L7.out.2.2.2.2.2.2.2.2.2.2.2.2.2.2, ba.1⟩
        clear L7
        clear ga ba
        generalize (u1.alloc (.cells #[.int .i64 rk, .int .i64 rn, .slice a2 l2 c2] 25)) = ub at *
        generalize u1.heap.size = qq at *
        refine hK.out _ _ (three (L8.out.2.2.2.2.2.2.2.2.1)).1 (fun hH2 => ?_)
        clear hK K hH
        have hH := hH2
        clear hH2 
        simp only [Act.put, List.setIfInBounds_toArray, List.set_cons_zero, List.set_cons_succ, List.getElem_toArray, List.getElem_cons_succ, List.getElem_cons_zero]
        refine wpAnyH_ready (rs := [6]) (by kernel_rfl) (by simp) ?_
        refine AllReadyH.cons rfl (fun K hK => ?_) AllReadyH.nil
        obtain ⟨i0, hi, hz0, hz1, hz2⟩ := info_parts infoT
        refine step_pushT rfl (.tmp 31) (.tmp 35) 23 rfl 25 i0 _ Try.underlying23 hi hz0 hz1 hz2 rfl av j cv P bs rfl (L8.out.2.2.2.2.1) (L8.out.2.2.2.2.2.1) (L8.out.2.2.2.2.2.2.2.1) (by omega) ⟨qq, 0, none⟩ rfl (rk) (rn) a2 l2 c2 (news3 (L8.out.2.2.2.2.2.2.2.2.2.2.2.2.2.2.2).1 (L8.out.2.2.2.2.2.2.2.2.2.2.2.2.2.2.2).2.1 (L8.out.2.2.2.2.2.2.2.2.2.2.2.2.2.2.2).2.2) (rd) bd (L8.out.2.2.2.2.2.2.2.2.2.2.2.1) (L8.out.2.2.2.2.2.2.2.2.2.2.2.2.1) (L8.out.2.2.2.2.2.2.2.2.2.2.2.2.2.1) ?_
        intro a3 c3 bs3 u3 h1 h2 h3 h4 h5
        have L9 : Hid ((w.grownBy u3 none) ∧ (u3.heap[p0]? = some (Obj.cells #[.int .i64 k, .int .i64 n, .slice (some ⟨b, o, none⟩) l c] 25)) ∧ (u3.heap[p1]? = some (Obj.cells #[.int .i64 0, .int .i64 0, .slice none 0 0] 25)) ∧ (u3.heap[p2]? = some (Obj.cells #[.int .i64 k, .int .i64 n, .slice av j cv] 25)) ∧ (u3.heap[pa]? = some (Obj.cells #[.int .i64 kk, .int .i64 nn, .slice a' l' c'] 25)) ∧ (p2 < pa) ∧ (SlO u3 25 (a3) (j + 1) c3 (P.app (.cons (rk) (rn) (rd) .nil)) bs3) ∧ (bs3.Nodup) ∧ (∀ x ∈ bs3, p2 < x) ∧ (0 < c3)) := ⟨Tn.fresh (L8.out.1) h4 (fun x hx => by have := (L8.out.2.2.2.2.2.2.1) x hx; have := PP.out; omega), (h4.block _ (lt_of_block (L8.out.2.1)) (fun hx => by have := (L8.out.2.2.2.2.2.2.1) _ hx; have := PP.out; omega)).trans (L8.out.2.1), (h4.block _ (lt_of_block (L8.out.2.2.1)) (fun hx => by have := (L8.out.2.2.2.2.2.2.1) _ hx; have := PP.out; omega)).trans (L8.out.2.2.1), (h4.block _ (lt_of_block (L8.out.2.2.2.1)) (fun hx => by have := (L8.out.2.2.2.2.2.2.1) _ hx; have := PP.out; omega)).trans (L8.out.2.2.2.1), (h4.block _ (lt_of_block (L8.out.2.2.2.2.2.2.2.2.1)) (fun hx => L8.out.2.2.2.2.2.2.2.2.2.1 hx)).trans (L8.out.2.2.2.2.2.2.2.2.1), L8.out.2.2.2.2.2.2.2.2.2.2.1, h1, h2, (fun x hx => (h3 x hx).elim (fun h => (L8.out.2.2.2.2.2.2.1) x h) (fun h => h.elim (fun h => (L8.out.2.2.2.2.2.2.2.2.2.2.2.2.2.2.1) x h) (fun h => Nat.lt_of_lt_of_le (lt_of_block (L8.out.2.2.2.1)) h))), h5⟩
        clear L8
        clear h1 h2 h3 h4 h5 i0 hi hz0 hz1 hz2
        refine hK.out _ _ (three (L9.out.2.2.2.2.1)).1 (fun hH2 => ?_)
        clear hK K hH
        have hH := hH2
        clear hH2 
        simp only [Act.put, List.setIfInBounds_toArray, List.set_cons_zero, List.set_cons_succ, List.getElem_toArray, List.getElem_cons_succ, List.getElem_cons_zero]
        refine wpAnyH_take (i := 7) (v := ?_) rfl (by kernel_rfl) (by kernel_rfl) (by kernel_rfl) (fun _ _ _ h => h) (Or.inl ⟨by rfl, ?_⟩) hH ?_
        rotate_left
        · (intro v hS; go_simp; try with_reducible rfl)
        simp only [Act.put, List.setIfInBounds_toArray, List.set_cons_zero, List.set_cons_succ, List.getElem_toArray, List.getElem_cons_succ, List.getElem_cons_zero]
        refine wpAnyH_ready (rs := [8]) (by kernel_rfl) (by simp) ?_
        refine AllReadyH.cons rfl (fun K hK => ?_) AllReadyH.nil
        have yy := three (L9.out.2.2.2.1)
        obtain ⟨⟨y0, y1, y2⟩, f0, f1, f2⟩ := yy
        go_simp
        have ks := grown_setCell u3 p2 2 (.slice a3 (j + 1) c3)
        have L10 : Hid ((w.grownBy (u3.setCell ⟨p2, 2, none⟩ (.slice a3 (j + 1) c3)) none) ∧ ((u3.setCell ⟨p2, 2, none⟩ (.slice a3 (j + 1) c3)).heap[p0]? = some (Obj.cells #[.int .i64 k, .int .i64 n, .slice (some ⟨b, o, none⟩) l c] 25)) ∧ ((u3.setCell ⟨p2, 2, none⟩ (.slice a3 (j + 1) c3)).heap[p1]? = some (Obj.cells #[.int .i64 0, .int .i64 0, .slice none 0 0] 25)) ∧ ((u3.setCell ⟨p2, 2, none⟩ (.slice a3 (j + 1) c3)).heap[p2]? = some (Obj.cells #[.int .i64 k, .int .i64 n, .slice a3 (j + 1) c3] 25)) ∧ ((u3.setCell ⟨p2, 2, none⟩ (.slice a3 (j + 1) c3)).heap[pa]? = some (Obj.cells #[.int .i64 kk, .int .i64 nn, .slice a' l' c'] 25)) ∧ (p2 < pa) ∧ (SlO (u3.setCell ⟨p2, 2, none⟩ (.slice a3 (j + 1) c3)) 25 (a3) (j + 1) c3 (P.app (.cons (rk) (rn) (rd) .nil)) bs3) ∧ (bs3.Nodup) ∧ (∀ x ∈ bs3, p2 < x) ∧ (0 < c3)) := ⟨grown_into (L9.out.1) ks (by have := PP.out; omega), (ks.block _ (lt_of_block (L9.out.2.1)) (by have := PP.out; simp; omega)).trans (L9.out.2.1), (ks.block _ (lt_of_block (L9.out.2.2.1)) (by have := PP.out; simp; omega)).trans (L9.out.2.2.1), heap_setCell_same u3 p2 2 _ _ _ (L9.out.2.2.2.1), (ks.block _ (lt_of_block (L9.out.2.2.2.2.1)) (by have := L9.out.2.2.2.2.2.1; simp; omega)).trans (L9.out.2.2.2.2.1), L9.out.2.2.2.2.2.1, SlO.kept (L9.out.2.2.2.2.2.2.1) ks (fun x hx => by have := (L9.out.2.2.2.2.2.2.2.2.1) x hx; simp; omega), L9.out.2.2.2.2.2.2.2.1, L9.out.2.2.2.2.2.2.2.2.1, L9.out.2.2.2.2.2.2.2.2.2⟩
        clear L9
        clear ks f0 f1 f2 y0 y1 y2
        generalize (u3.setCell ⟨p2, 2, none⟩ (.slice a3 (j + 1) c3)) = u4 at *
        refine hK.out _ _ (three (L10.out.2.2.2.2.1)).1 (fun hH2 => ?_)
        clear hK K hH
        have hH := hH2
        clear hH2 
        simp only [Act.put, List.setIfInBounds_toArray, List.set_cons_zero, List.set_cons_succ, List.getElem_toArray, List.getElem_cons_succ, List.getElem_cons_zero]
        refine wpAnyH_done (by kernel_rfl) ?_ _
        go_wp2
        go_roundw
        case rel => exact ⟨j + 1, P.app (.cons rk rn rd .nil), R', a3, c3, bs3, by omega, by go_num, by rw [F.app_len, hPl]; rfl, by omega, hRs', ⟨by rw [F.app_assoc]; exact HQ.out.1, HQ.out.2⟩, L10.out.1, L10.out.2.1, L10.out.2.2.1, L10.out.2.2.2.1, L10.out.2.2.2.2.2.2.1, L10.out.2.2.2.2.2.2.2.1, L10.out.2.2.2.2.2.2.2.2.1, fun h0 => absurd h0 (by have := L10.out.2.2.2.2.2.2.2.2.2; omega)⟩
        case measure => simp [intOf]; omega
      refine AllReadyH.cons rfl (fun K hK => ?_) AllReadyH.nil
      go_simp
      have ga := World.grownBy_alloc u1 (.cells #[.int .i64 rk, .int .i64 rn, .slice a2 l2 c2] 25) none
      have ba := three (heap_alloc_new u1 (.cells #[.int .i64 rk, .int .i64 rn, .slice a2 l2 c2] 25))
      have L11 : Hid ((w.grownBy (u1.alloc (.cells #[.int .i64 rk, .int .i64 rn, .slice a2 l2 c2] 25)) none) ∧ ((u1.alloc (.cells #[.int .i64 rk, .int .i64 rn, .slice a2 l2 c2] 25)).heap[p0]? = some (Obj.cells #[.int .i64 k, .int .i64 n, .slice (some ⟨b, o, none⟩) l c] 25)) ∧ ((u1.alloc (.cells #[.int .i64 rk, .int .i64 rn, .slice a2 l2 c2] 25)).heap[p1]? = some (Obj.cells #[.int .i64 0, .int .i64 0, .slice none 0 0] 25)) ∧ ((u1.alloc (.cells #[.int .i64 rk, .int .i64 rn, .slice a2 l2 c2] 25)).heap[p2]? = some (Obj.cells #[.int .i64 k, .int .i64 n, .slice av j cv] 25)) ∧ (SlO (u1.alloc (.cells #[.int .i64 rk, .int .i64 rn, .slice a2 l2 c2] 25)) 25 (av) j cv (P) bs) ∧ (bs.Nodup) ∧ (∀ x ∈ bs, p2 < x) ∧ (cv = 0 → av = none) ∧ ((u1.alloc (.cells #[.int .i64 rk, .int .i64 rn, .slice a2 l2 c2] 25)).heap[pa]? = some (Obj.cells #[.int .i64 kk, .int .i64 nn, .slice a' l' c'] 25)) ∧ (pa ∉ bs) ∧ (p2 < pa) ∧ (SlO (u1.alloc (.cells #[.int .i64 rk, .int .i64 rn, .slice a2 l2 c2] 25)) 25 (a2) l2 c2 (rd) bd) ∧ (bd.Nodup) ∧ (∀ x ∈ bs, x ∉ bd) ∧ (∀ x ∈ bd, p2 < x) ∧ (((u1.alloc (.cells #[.int .i64 rk, .int .i64 rn, .slice a2 l2 c2] 25)).cell? ⟨u1.heap.size, 0, none⟩ = some (.int .i64 rk) ∧ (u1.alloc (.cells #[.int .i64 rk, .int .i64 rn, .slice a2 l2 c2] 25)).cell? ⟨u1.heap.size, 1, none⟩ = some (.int .i64 rn) ∧ (u1.alloc (.cells #[.int .i64 rk, .int .i64 rn, .slice a2 l2 c2] 25)).cell? ⟨u1.heap.size, 2, none⟩ = some (.slice a2 l2 c2)))) := ⟨grown_trans (L7.out.1) ga, (World.grownBy.block ga _ (lt_of_block (L7.out.2.1)) (by simp)).trans (L7.out.2.1), (World.grownBy.block ga _ (lt_of_block (L7.out.2.2.1)) (by simp)).trans (L7.out.2.2.1), (World.grownBy.block ga _ (lt_of_block (L7.out.2.2.2.1)) (by simp)).trans (L7.out.2.2.2.1), SlO.old (L7.out.2.2.2.2.1) ga, L7.out.2.2.2.2.2.1, L7.out.2.2.2.2.2.2.1, L7.out.2.2.2.2.2.2.2.1, (World.grownBy.block ga _ (lt_of_block (L7.out.2.2.2.2.2.2.2.2.1)) (by simp)).trans (L7.out.2.2.2.2.2.2.2.2.1), L7.out.2.2.2.2.2.2.2.2.2.1, L7.out.2.2.2.2.2.2.2.2.2.2.1, SlO.old (L7.out.2.2.2.2.2.2.2.2.2.2.2.1) ga, L7.out.2.2.2.2.2.2.2.2.2.2.2.2.1, L7.out.2.2.2.2.2.2.2.2.2.2.2.2.2.1, L7.out.2.2.2.2.2.2.2.2.2.2.2.2.2.2, ba.1⟩
      clear L7
      clear ga ba
      generalize (u1.alloc (.cells #[.int .i64 rk, .int .i64 rn, .slice a2 l2 c2] 25)) = ub at *
      generalize u1.heap.size = qq at *
      refine hK.out _ _ (three (L11.out.2.2.2.2.2.2.2.2.1)).1 (fun hH2 => ?_)
      clear hK K hH
      have hH := hH2
      clear hH2 
      simp only [Act.put, List.setIfInBounds_toArray, List.set_cons_zero, List.set_cons_succ, List.getElem_toArray, List.getElem_cons_succ, List.getElem_cons_zero]
      refine wpAnyH_ready (rs := [1]) (by kernel_rfl) (by simp) ?_
      refine AllReadyH.cons rfl (fun K hK => ?_) AllReadyH.nil
      have yy := three (L11.out.2.2.2.1)
      obtain ⟨⟨y0, y1, y2⟩, -⟩ := yy
      go_simp
      refine hK.out _ _ (three (L11.out.2.2.2.2.2.2.2.2.1)).1 (fun hH2 => ?_)
      clear hK K hH
      have hH := hH2
      clear hH2 y0 y1 y2
      simp only [Act.put, List.setIfInBounds_toArray, List.set_cons_zero, List.set_cons_succ, List.getElem_toArray, List.getElem_cons_succ, List.getElem_cons_zero]
      refine wpAnyH_ready (rs := [6]) (by kernel_rfl) (by simp) ?_
      refine AllReadyH.cons rfl (fun K hK => ?_) AllReadyH.nil
      obtain ⟨i0, hi, hz0, hz1, hz2⟩ := info_parts infoT
      refine step_pushT rfl (.tmp 31) (.tmp 35) 23 rfl 25 i0 _ Try.underlying23 hi hz0 hz1 hz2 rfl av j cv P bs rfl (L11.out.2.2.2.2.1) (L11.out.2.2.2.2.2.1) (L11.out.2.2.2.2.2.2.2.1) (by omega) ⟨qq, 0, none⟩ rfl (rk) (rn) a2 l2 c2 (news3 (L11.out.2.2.2.2.2.2.2.2.2.2.2.2.2.2.2).1 (L11.out.2.2.2.2.2.2.2.2.2.2.2.2.2.2.2).2.1 (L11.out.2.2.2.2.2.2.2.2.2.2.2.2.2.2.2).2.2) (rd) bd (L11.out.2.2.2.2.2.2.2.2.2.2.2.1) (L11.out.2.2.2.2.2.2.2.2.2.2.2.2.1) (L11.out.2.2.2.2.2.2.2.2.2.2.2.2.2.1) ?_
      intro a3 c3 bs3 u3 h1 h2 h3 h4 h5
      have L12 : Hid ((w.grownBy u3 none) ∧ (u3.heap[p0]? = some (Obj.cells #[.int .i64 k, .int .i64 n, .slice (some ⟨b, o, none⟩) l c] 25)) ∧ (u3.heap[p1]? = some (Obj.cells #[.int .i64 0, .int .i64 0, .slice none 0 0] 25)) ∧ (u3.heap[p2]? = some (Obj.cells #[.int .i64 k, .int .i64 n, .slice av j cv] 25)) ∧ (u3.heap[pa]? = some (Obj.cells #[.int .i64 kk, .int .i64 nn, .slice a' l' c'] 25)) ∧ (p2 < pa) ∧ (SlO u3 25 (a3) (j + 1) c3 (P.app (.cons (rk) (rn) (rd) .nil)) bs3) ∧ (bs3.Nodup) ∧ (∀ x ∈ bs3, p2 < x) ∧ (0 < c3)) := ⟨Tn.fresh (L11.out.1) h4 (fun x hx => by have := (L11.out.2.2.2.2.2.2.1) x hx; have := PP.out; omega), (h4.block _ (lt_of_block (L11.out.2.1)) (fun hx => by have := (L11.out.2.2.2.2.2.2.1) _ hx; have := PP.out; omega)).trans (L11.out.2.1), (h4.block _ (lt_of_block (L11.out.2.2.1)) (fun hx => by have := (L11.out.2.2.2.2.2.2.1) _ hx; have := PP.out; omega)).trans (L11.out.2.2.1), (h4.block _ (lt_of_block (L11.out.2.2.2.1)) (fun hx => by have := (L11.out.2.2.2.2.2.2.1) _ hx; have := PP.out; omega)).trans (L11.out.2.2.2.1), (h4.block _ (lt_of_block (L11.out.2.2.2.2.2.2.2.2.1)) (fun hx => L11.out.2.2.2.2.2.2.2.2.2.1 hx)).trans (L11.out.2.2.2.2.2.2.2.2.1), L11.out.2.2.2.2.2.2.2.2.2.2.1, h1, h2, (fun x hx => (h3 x hx).elim (fun h => (L11.out.2.2.2.2.2.2.1) x h) (fun h => h.elim (fun h => (L11.out.2.2.2.2.2.2.2.2.2.2.2.2.2.2.1) x h) (fun h => Nat.lt_of_lt_of_le (lt_of_block (L11.out.2.2.2.1)) h))), h5⟩
      clear L11
      clear h1 h2 h3 h4 h5 i0 hi hz0 hz1 hz2
      refine hK.out _ _ (three (L12.out.2.2.2.2.1)).1 (fun hH2 => ?_)
      clear hK K hH
      have hH := hH2
      clear hH2 
      simp only [Act.put, List.setIfInBounds_toArray, List.set_cons_zero, List.set_cons_succ, List.getElem_toArray, List.getElem_cons_succ, List.getElem_cons_zero]
      refine wpAnyH_take (i := 7) (v := ?_) rfl (by kernel_rfl) (by kernel_rfl) (by kernel_rfl) (fun _ _ _ h => h) (Or.inl ⟨by rfl, ?_⟩) hH ?_
      rotate_left
      · (intro v hS; go_simp; try with_reducible rfl)
      simp only [Act.put, List.setIfInBounds_toArray, List.set_cons_zero, List.set_cons_succ, List.getElem_toArray, List.getElem_cons_succ, List.getElem_cons_zero]
      refine wpAnyH_ready (rs := [8]) (by kernel_rfl) (by simp) ?_
      refine AllReadyH.cons rfl (fun K hK => ?_) AllReadyH.nil
      have yy := three (L12.out.2.2.2.1)
      obtain ⟨⟨y0, y1, y2⟩, f0, f1, f2⟩ := yy
      go_simp
      have ks := grown_setCell u3 p2 2 (.slice a3 (j + 1) c3)
      have L13 : Hid ((w.grownBy (u3.setCell ⟨p2, 2, none⟩ (.slice a3 (j + 1) c3)) none) ∧ ((u3.setCell ⟨p2, 2, none⟩ (.slice a3 (j + 1) c3)).heap[p0]? = some (Obj.cells #[.int .i64 k, .int .i64 n, .slice (some ⟨b, o, none⟩) l c] 25)) ∧ ((u3.setCell ⟨p2, 2, none⟩ (.slice a3 (j + 1) c3)).heap[p1]? = some (Obj.cells #[.int .i64 0, .int .i64 0, .slice none 0 0] 25)) ∧ ((u3.setCell ⟨p2, 2, none⟩ (.slice a3 (j + 1) c3)).heap[p2]? = some (Obj.cells #[.int .i64 k, .int .i64 n, .slice a3 (j + 1) c3] 25)) ∧ ((u3.setCell ⟨p2, 2, none⟩ (.slice a3 (j + 1) c3)).heap[pa]? = some (Obj.cells #[.int .i64 kk, .int .i64 nn, .slice a' l' c'] 25)) ∧ (p2 < pa) ∧ (SlO (u3.setCell ⟨p2, 2, none⟩ (.slice a3 (j + 1) c3)) 25 (a3) (j + 1) c3 (P.app (.cons (rk) (rn) (rd) .nil)) bs3) ∧ (bs3.Nodup) ∧ (∀ x ∈ bs3, p2 < x) ∧ (0 < c3)) := ⟨grown_into (L12.out.1) ks (by have := PP.out; omega), (ks.block _ (lt_of_block (L12.out.2.1)) (by have := PP.out; simp; omega)).trans (L12.out.2.1), (ks.block _ (lt_of_block (L12.out.2.2.1)) (by have := PP.out; simp; omega)).trans (L12.out.2.2.1), heap_setCell_same u3 p2 2 _ _ _ (L12.out.2.2.2.1), (ks.block _ (lt_of_block (L12.out.2.2.2.2.1)) (by have := L12.out.2.2.2.2.2.1; simp; omega)).trans (L12.out.2.2.2.2.1), L12.out.2.2.2.2.2.1, SlO.kept (L12.out.2.2.2.2.2.2.1) ks (fun x hx => by have := (L12.out.2.2.2.2.2.2.2.2.1) x hx; simp; omega), L12.out.2.2.2.2.2.2.2.1, L12.out.2.2.2.2.2.2.2.2.1, L12.out.2.2.2.2.2.2.2.2.2⟩
      clear L12
      clear ks f0 f1 f2 y0 y1 y2
      generalize (u3.setCell ⟨p2, 2, none⟩ (.slice a3 (j + 1) c3)) = u4 at *
      refine hK.out _ _ (three (L13.out.2.2.2.2.1)).1 (fun hH2 => ?_)
      clear hK K hH
      have hH := hH2
      clear hH2 
      simp only [Act.put, List.setIfInBounds_toArray, List.set_cons_zero, List.set_cons_succ, List.getElem_toArray, List.getElem_cons_succ, List.getElem_cons_zero]
      refine wpAnyH_done (by kernel_rfl) ?_ _
      go_wp2
      go_roundw
      case rel => exact ⟨j + 1, P.app (.cons rk rn rd .nil), R', a3, c3, bs3, by omega, by go_num, by rw [F.app_len, hPl]; rfl, by omega, hRs', ⟨by rw [F.app_assoc]; exact HQ.out.1, HQ.out.2⟩, L13.out.1, L13.out.2.1, L13.out.2.2.1, L13.out.2.2.2.1, L13.out.2.2.2.2.2.2.1, L13.out.2.2.2.2.2.2.2.1, L13.out.2.2.2.2.2.2.2.2.1, fun h0 => absurd h0 (by have := L13.out.2.2.2.2.2.2.2.2.2; omega)⟩
      case measure => simp [intOf]; omega
end Go.Proofs.Ytmlganaiajhjeaa.By
