/-
  TySubst of both sides by their contracts. No statement is proved here.
-/
import Derived.Test.YtmlganaiajhjeaaTRepl
import Derived.Test.YtmlganaiajhjeaaTPut
import Derived.Test.YtmlganaiajhjeaaTSize
namespace Go.Proofs.Ytmlganaiajhjeaa.By
open Go.RowKit
set_option linter.unusedVariables false
set_option linter.unusedSimpArgs false

/-- Whether there is an answer, and which. -/
def subOk (E : F) (k n : Int) (d : F) : Bool := okT k n d && (decide (E.len ≤ 60) && (okL E && okT (subT E k n d).1 (subT E k n d).2.1 (subT E k n d).2.2))
def subR (E : F) (k n : Int) (d : F) : Int × Int × F := if subOk E k n d = true then subT E k n d else (0, 0, .nil)
theorem subR_no {E : F} {k n : Int} {d : F} (h : subOk E k n d = false) : subR E k n d = (0, 0, .nil) := by unfold subR; rw [h]; rfl
theorem subR_yes {E : F} {k n : Int} {d : F} (h : subOk E k n d = true) : subR E k n d = subT E k n d := by unfold subR; rw [if_pos h]

set_option maxHeartbeats 400000 in
theorem isNoT (d : F) (k n : Int) (a : Option Addr) (l c : Nat) (w : World) (h : SlF w a l d) :
    Calls Try.prog 41 #[.agg #[.int .i64 k, .int .i64 n, .slice a l c]] w fun e u => e = .returned (.bool (!okT k n d)) ∧ w.grownBy u none := by
  have g0 : w.grownBy (w.alloc (.cells #[.int .i64 k, .int .i64 n, .slice a l c] 25)) none := World.grownBy_alloc _ _ _
  have CC : Hid _ := implTyOkT d k n a l c _ (h.none g0)
  have G0 : Hid _ := g0
  clear h g0
  go_enter Try.func41, Try.ntmps41
  go_wp2_with fail
  refine Calls.mono CC.out ?_
  rintro e u ⟨rfl, hg⟩
  have G : Hid (w.grownBy u none) := grown_trans G0.out hg
  clear hg G0 CC
  simp only []
  go_wp2
  go_ret
  exact ⟨rfl, G.out⟩

/-- Where the first of the list is that is no type; -1: there is none. -/
def NoAt (E : F) (r : Int) : Prop := if okL E = true then r = -1 else 0 ≤ r

set_option maxHeartbeats 1000000 in
theorem indexT (E : F) (a : Option Addr) (l c : Nat) (w : World) (h : SlF w a l E) :
    Calls Try.prog 69 #[.slice a l c, .func (.func 41) #[] #[]] w fun e u => (∃ r : Int, e = .returned (.int .i64 r) ∧ NoAt E r) ∧ w.grownBy u none := by
  have hfl := h.1
  have hl := h.2.1
  rcases h.cases with ⟨rfl, rfl⟩ | ⟨b, o, rfl, hin, -, hpos⟩
  · go_enter Try.func69, Try.ntmps69
    go_wp2
    refine wp_loop_rounds 1 ?_
    rw [rounds_succ]
    go_wp2
    go_ret
    exact ⟨⟨-1, rfl, by unfold NoAt; exact rfl⟩, World.grownBy.refl _ _⟩
  have IN : Hid (InF w E b o) := hin
  clear hin h
  go_enter Try.func69, Try.ntmps69
  go_wp2
  go_loopw [8] (fun i wr => ∃ (j : Nat) (R : F), j ≤ l ∧ i = .int .i64 j ∧ R.len + j = l ∧ Hid (w.grownBy wr none ∧ InF wr R b (o + j * 3) ∧ okL E = okL R)) (fun i _ => l - (intOf i).toNat)
  case atStart => exact ⟨0, E, Nat.zero_le _, rfl, by omega, World.grownBy.refl _ _, by simpa using IN.out, rfl⟩
  case round =>
    obtain ⟨j, R, hj, rfl, hRl, HR⟩ := hrel
    by_cases hlt : j < l
    · obtain ⟨q, hq⟩ : ∃ q, R.len = q + 1 := ⟨R.len - 1, by omega⟩
      obtain ⟨k1, n1, d1, R1, rfl, hR1⟩ := F.cons_of_len hq
      obtain ⟨hg, hR, hv⟩ := HR.out
      obtain ⟨a1, l1, x1, c0, c1, c2, hd, hT⟩ := hR.out
      have e3 : o + j * 3 + 3 = o + (j + 1) * 3 := by omega
      rw [e3] at hT
      have CC : Hid _ := isNoT d1 k1 n1 a1 l1 x1 wr hd
      have FX : Hid (w.grownBy wr none ∧ InF wr R1 b (o + (j + 1) * 3) ∧ okL E = (okT k1 n1 d1 && okL R1)) := ⟨hg, hT, hv⟩
      clear hg hR hv hd hT HR IN
      go_wp2_with fail
      refine Calls.mono CC.out ?_
      rintro e u2 ⟨rfl, hgu⟩
      have FY : Hid (w.grownBy u2 none ∧ InF u2 R1 b (o + (j + 1) * 3) ∧ okL E = (okT k1 n1 d1 && okL R1)) := ⟨grown_trans FX.out.1 hgu, FX.out.2.1.none hgu, FX.out.2.2⟩
      clear FX hgu CC c0 c1 c2
      simp only []
      cases hb : okT k1 n1 d1 with
      | true =>
        have FZ : Hid (w.grownBy u2 none ∧ InF u2 R1 b (o + (j + 1) * 3) ∧ okL E = okL R1) := ⟨FY.out.1, FY.out.2.1, by rw [FY.out.2.2, hb, Bool.true_and]⟩
        clear FY hb
        go_wp2
        go_roundw
        case rel => exact ⟨j + 1, R1, by omega, by go_num, by omega, FZ⟩
        case measure => simp [intOf]; omega
      | false =>
        have FZ : Hid (w.grownBy u2 none ∧ okL E = false) := ⟨FY.out.1, by rw [FY.out.2.2, hb, Bool.false_and]⟩
        clear FY hb
        go_wp2
        go_ret
        exact ⟨⟨(j : Int), rfl, by unfold NoAt; rw [if_neg (by rw [FZ.out.2]; simp)]; omega⟩, FZ.out.1⟩
    · obtain rfl : j = l := by omega
      obtain rfl : R = .nil := F.nil_of_len (by omega)
      have FZ : Hid (w.grownBy wr none ∧ okL E = true) := ⟨HR.out.1, HR.out.2.2⟩
      clear HR
      go_wp2
      go_ret
      exact ⟨⟨-1, rfl, by unfold NoAt; rw [if_pos FZ.out.2]⟩, FZ.out.1⟩

set_option maxHeartbeats 400000 in
theorem containsT (E : F) (a : Option Addr) (l c : Nat) (w : World) (h : SlF w a l E) :
    Calls Try.prog 40 #[.slice a l c, .func (.func 41) #[] #[]] w fun e u => e = .returned (.bool (!okL E)) ∧ w.grownBy u none := by
  have CC : Hid _ := indexT E a l c w h
  clear h
  go_enter Try.func40, Try.ntmps40
  go_wp2_with fail
  refine Calls.mono CC.out ?_
  rintro e u ⟨⟨r, rfl, hr⟩, hg⟩
  have G : Hid (w.grownBy u none) := hg
  clear hg CC
  unfold NoAt at hr
  simp only []
  cases hb : okL E with
  | true =>
    rw [if_pos hb] at hr
    subst hr
    go_wp2
    go_ret
    exact ⟨by rw [hb]; rfl, G.out⟩
  | false =>
    rw [if_neg (by rw [hb]; simp)] at hr
    go_wp2
    go_ret
    exact ⟨by rw [hb]; simp [hr], G.out⟩

set_option maxRecDepth 8000 in
set_option maxHeartbeats 4000000 in
theorem implTySubstT (d : F) (k n : Int) (a : Option Addr) (l c : Nat) (E : F) (ae : Option Addr) (le ce : Nat) (w : World) (h : SlF w a l d) (hE : SlF w ae le E) :
    Calls Try.prog 9 #[.agg #[.int .i64 k, .int .i64 n, .slice a l c], .slice ae le ce] w fun e u => ∃ a' l2 c' bs, e = .returned (.tuple #[.agg #[.int .i64 (subR E k n d).1, .int .i64 (subR E k n d).2.1, .slice a' l2 c'], .bool (subOk E k n d)]) ∧ w.grownBy u none ∧ New w u 25 a' l2 c' (subR E k n d).2.2 bs := by
  obtain ⟨b0, b1, bsz⟩ := alloc2_blocks w (.cells #[.int .i64 k, .int .i64 n, .slice a l c] 25) (.cells #[.int .i64 0, .int .i64 0, .slice none 0 0] 25)
  have g0 := grown_alloc (grown_alloc (World.grownBy.refl w none) (.cells #[.int .i64 k, .int .i64 n, .slice a l c] 25)) (.cells #[.int .i64 0, .int .i64 0, .slice none 0 0] 25)
  have HD : Hid (SlF w a l d ∧ SlF w ae le E) := ⟨h, hE⟩
  have hfl := h.1
  have hlE := hE.1
  have hEm := hE.2.1
  have L0 : Hid (w.grownBy _ none ∧ _ = some (Obj.cells #[.int .i64 k, .int .i64 n, .slice a l c] 25) ∧ _ = some (Obj.cells #[.int .i64 0, .int .i64 0, .slice none 0 0] 25)) := ⟨g0, b0, b1⟩
  clear h hE g0 b0 b1 bsz
  by_cases h60 : (60 : Int) < le
  · have hno : subOk E k n d = false := by unfold subOk; rw [hlE]; simp; omega
    have EN : Hid (subOk E k n d = false ∧ subR E k n d = (0, 0, .nil)) := ⟨hno, subR_no hno⟩
    clear hno HD
    go_enter Try.func9, Try.ntmps9
    go_wp2
    go_returns
    rw [EN.out.1, EN.out.2]
    exact ⟨none, 0, 0, [], by simp, grown_alloc (grown_alloc (World.grownBy.refl _ none) _) _, New.nil _ _ _⟩
  have h60' : decide ((60 : Int) < le) = false := by simp; omega
  have C1 : Hid _ := implTyOkT d k n a l c _ (HD.out.1.none L0.out.1)
  go_enter Try.func9, Try.ntmps9
  go_wp2_with fail
  refine Calls.mono C1.out ?_
  rintro e w1 ⟨rfl, hg⟩
  obtain ⟨g0, b0, b1⟩ := L0.out
  have L1 : Hid (w.grownBy w1 none ∧ _ = some (Obj.cells #[.int .i64 k, .int .i64 n, .slice a l c] 25) ∧ _ = some (Obj.cells #[.int .i64 0, .int .i64 0, .slice none 0 0] 25)) := ⟨grown_trans g0 hg, (hg.block _ (lt_of_block b0) (by simp)).trans b0, (hg.block _ (lt_of_block b1) (by simp)).trans b1⟩
  clear hg g0 b0 b1 L0 C1
  generalize e0 : w.heap.size = p0 at *
  generalize e1 : p0 + 1 = p1 at *
  have PQ : Hid (w.heap.size = p0 ∧ p0 + 1 = p1) := ⟨e0, e1⟩
  clear e0 e1
  simp only []
  have zero : ∀ u, w.grownBy u none → u.heap[p1]? = some (Obj.cells #[.int .i64 0, .int .i64 0, .slice none 0 0] 25) → _ ∧ w.grownBy (((u.setCell ⟨p1, 0, none⟩ (.int .i64 0)).setCell ⟨p1, 1, none⟩ (.int .i64 0)).setCell ⟨p1, 2, none⟩ (.slice none 0 0)) none := fun u hu hp => ⟨(fill3 (.int .i64 0) (.int .i64 0) (.slice none 0 0) hp).1, grown_into hu (fill3 (.int .i64 0) (.int .i64 0) (.slice none 0 0) hp).2 (by have := PQ.out; omega)⟩
  have ZR : Hid _ := zero
  clear zero
  cases hb : okT k n d with
  | false =>
    have hno : subOk E k n d = false := by unfold subOk; rw [hb]; rfl
    have EN : Hid (subOk E k n d = false ∧ subR E k n d = (0, 0, .nil)) := ⟨hno, subR_no hno⟩
    obtain ⟨⟨v0, v1, v2⟩, f0, f1, f2⟩ := three L1.out.2.2
    have FQ : Hid _ := ZR.out w1 L1.out.1 L1.out.2.2
    clear hno HD ZR hb
    go_wp2
    (try simp only [Exit.inBlock, Exit.then])
    refine bodyPost_ret (results_cell2 (P := Try.prog) Try.results9 _ _ p1 _ _ _ _ rfl FQ.out.1 Try.underlying25 rfl (by kernel_rfl)) rfl ?_
    rw [EN.out.1, EN.out.2]
    exact ⟨none, 0, 0, [], rfl, FQ.out.2, New.nil _ _ _⟩
  | true =>
    have C2 : Hid _ := containsT E ae le ce w1 (HD.out.2.none L1.out.1)
    go_wp2_with fail
    refine Calls.mono C2.out ?_
    rintro e w2 ⟨rfl, hg⟩
    have L2 : Hid (w.grownBy w2 none ∧ w2.heap[p0]? = some (Obj.cells #[.int .i64 k, .int .i64 n, .slice a l c] 25) ∧ w2.heap[p1]? = some (Obj.cells #[.int .i64 0, .int .i64 0, .slice none 0 0] 25)) := ⟨grown_trans L1.out.1 hg, (hg.block _ (lt_of_block L1.out.2.1) (by simp)).trans L1.out.2.1, (hg.block _ (lt_of_block L1.out.2.2) (by simp)).trans L1.out.2.2⟩
    clear hg L1 C2
    simp only []
    cases hb2 : okL E with
    | false =>
      have hno : subOk E k n d = false := by unfold subOk; rw [hb2]; simp
      have EN : Hid (subOk E k n d = false ∧ subR E k n d = (0, 0, .nil)) := ⟨hno, subR_no hno⟩
      obtain ⟨⟨v0, v1, v2⟩, f0, f1, f2⟩ := three L2.out.2.2
      have FQ : Hid _ := ZR.out w2 L2.out.1 L2.out.2.2
      clear hno HD ZR hb hb2
      go_wp2
      (try simp only [Exit.inBlock, Exit.then])
      refine bodyPost_ret (results_cell2 (P := Try.prog) Try.results9 _ _ p1 _ _ _ _ rfl FQ.out.1 Try.underlying25 rfl (by kernel_rfl)) rfl ?_
      rw [EN.out.1, EN.out.2]
      exact ⟨none, 0, 0, [], rfl, FQ.out.2, New.nil _ _ _⟩
    | true =>
      have hb' := hb
      simp only [okT, Bool.and_eq_true, decide_eq_true_eq] at hb'
      have C3 : Hid _ := replT E ae le ce (.inr ⟨hb2, fun m => replT .nil none 0 0 (.inl rfl) m⟩) (d.size + 1) d k n a l c 9 w2 (Nat.lt_succ_self _) (by omega) (HD.out.1.none L2.out.1) (HD.out.2.none L2.out.1) (by rw [← hfl]; exact hb'.1.1) hb'.1.2
      have HO : Hid (subOk E k n d = okT (subT E k n d).1 (subT E k n d).2.1 (subT E k n d).2.2) := by show _ = _; unfold subOk; rw [hb, hb2, hlE]; simp; omega
      have HR : Hid (∀ b, okT (subT E k n d).1 (subT E k n d).2.1 (subT E k n d).2.2 = b → subOk E k n d = b ∧ subR E k n d = if b = true then subT E k n d else (0, 0, .nil)) := by
        intro b hbb
        have h1 := HO.out.trans hbb
        exact ⟨h1, by unfold subR; rw [h1]⟩
      obtain ⟨⟨x0, x1, x2⟩, -⟩ := three L2.out.2.1
      generalize subT E k n d = T at *
      obtain ⟨rk, rn, rd⟩ := T
      clear hb' hb hb2 HO
      simp only [] at C3 HR
      go_wp2_with fail
      refine Calls.mono C3.out ?_
      rintro e w3 ⟨a3, l3, c3, bs, rfl, hg, hnew, -⟩
      have ga := World.grownBy_alloc w3 (.cells #[.int .i64 rk, .int .i64 rn, .slice a3 l3 c3] 25) none
      have ba := heap_alloc_new w3 (.cells #[.int .i64 rk, .int .i64 rn, .slice a3 l3 c3] 25)
      have hgg := grown_trans hg ga
      have L3 : Hid (w.grownBy _ none ∧ _ = some (Obj.cells #[.int .i64 0, .int .i64 0, .slice none 0 0] 25) ∧ _ = some (Obj.cells #[.int .i64 rk, .int .i64 rn, .slice a3 l3 c3] 25) ∧ SlO _ 25 a3 l3 c3 rd bs ∧ bs.Nodup ∧ (∀ x ∈ bs, p1 < x)) := ⟨grown_trans L2.out.1 hgg, (hgg.block _ (lt_of_block L2.out.2.2) (by simp)).trans L2.out.2.2, ba, hnew.1.old ga, hnew.2.1, fun x hx => Nat.lt_of_lt_of_le (lt_of_block L2.out.2.2) (hnew.2.2 x hx)⟩
      have C4 : Hid _ := implTyOkT rd rk rn a3 l3 c3 _ L3.out.2.2.2.1.reads
      have hp1 : p1 < w3.heap.size := Nat.lt_of_lt_of_le (lt_of_block L2.out.2.2) hg.size
      clear hg ga ba hgg hnew C3 L2 x0 x1 x2
      simp only []
      go_wp2_with fail
      refine Calls.mono C4.out ?_
      rintro e w4 ⟨rfl, hg⟩
      obtain ⟨g3, b3, br, hs, hnd, hgt⟩ := L3.out
      have L4 : Hid (w.grownBy w4 none ∧ w4.heap[p1]? = some (Obj.cells #[.int .i64 0, .int .i64 0, .slice none 0 0] 25) ∧ _ = some (Obj.cells #[.int .i64 rk, .int .i64 rn, .slice a3 l3 c3] 25) ∧ SlO w4 25 a3 l3 c3 rd bs ∧ bs.Nodup ∧ (∀ x ∈ bs, p1 < x)) := ⟨grown_trans g3 hg, (hg.block _ (lt_of_block b3) (by simp)).trans b3, (hg.block _ (lt_of_block br) (by simp)).trans br, hs.old hg, hnd, hgt⟩
      generalize w3.heap.size = r at *
      have hpr : p1 ≠ r := by omega
      obtain ⟨⟨v0, v1, v2⟩, f0, f1, f2⟩ := three L4.out.2.1
      obtain ⟨⟨y0, y1, y2⟩, -⟩ := three L4.out.2.2.1
      clear hg g3 b3 br hs hnd hgt L3 C4
      simp only []
      cases hb : okT rk rn rd with
      | false =>
        have EN : Hid (subOk E k n d = false ∧ subR E k n d = (0, 0, .nil)) := by have := HR.out false hb; show _ ∧ _; simpa using this
        have FQ : Hid _ := ZR.out w4 L4.out.1 L4.out.2.1
        clear HR HD ZR hb
        go_wp2
        (try simp only [Exit.inBlock, Exit.then])
        refine bodyPost_ret (results_cell2 (P := Try.prog) Try.results9 _ _ p1 _ _ _ _ rfl FQ.out.1 Try.underlying25 rfl (by kernel_rfl)) rfl ?_
        rw [EN.out.1, EN.out.2]
        exact ⟨none, 0, 0, [], rfl, FQ.out.2, New.nil _ _ _⟩
      | true =>
        have EN : Hid (subOk E k n d = true ∧ subR E k n d = (rk, rn, rd)) := by have := HR.out true hb; show _ ∧ _; simpa using this
        obtain ⟨d1, k1⟩ := fill3 (.int .i64 rk) (.int .i64 rn) (.slice a3 l3 c3) L4.out.2.1
        have FQ : Hid _ := And.intro d1 (And.intro (grown_into L4.out.1 k1 (by have := PQ.out; omega)) (show New w _ 25 a3 l3 c3 rd bs from ⟨L4.out.2.2.2.1.kept k1 (fun x hx => by have := L4.out.2.2.2.2.2 x hx; simp; omega), L4.out.2.2.2.2.1, fun x hx => by have := L4.out.2.2.2.2.2 x hx; have := PQ.out; omega⟩))
        clear HR HD ZR hb d1 k1
        go_wp2
        (try simp only [Exit.inBlock, Exit.then])
        refine bodyPost_ret (results_cell2 (P := Try.prog) Try.results9 _ _ p1 _ _ _ _ rfl FQ.out.1 Try.underlying25 rfl (by kernel_rfl)) rfl ?_
        rw [EN.out.1, EN.out.2]
        exact ⟨a3, l3, c3, bs, rfl, FQ.out.2.1, FQ.out.2.2⟩
end Go.Proofs.Ytmlganaiajhjeaa.By
