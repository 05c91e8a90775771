/-
  The specification's TySubst by its contract. No statement is proved here.
-/
import Derived.Test.YtmlganaiajhjeaaTSub
namespace Go.Proofs.Ytmlganaiajhjeaa.By
open Go.RowKit
set_option linter.unusedVariables false
set_option linter.unusedSimpArgs false




theorem infoInt : (Try.prog.info? 3).map (fun i => (i.zero, i.size, i.bytes)) = some (some (.int .i64 0), 1, 8) := by kernel_rfl
/-- The numbers 0, 1, .. as values. -/
def iotaV (j : Nat) : List Value := (List.range j).map (fun (i : Nat) => Value.int .i64 (i : Int))
theorem iotaV_succ (j : Nat) : iotaV j ++ [Value.int .i64 (j : Int)] = iotaV (j + 1) := by simp [iotaV, List.range_succ]
theorem iotaV_len (j : Nat) : (iotaV j).length = j := by simp [iotaV]
theorem iota_of {w : World} {B j : Nat} {v : Value} (h : w.ownsRow B 3 1 v j (iotaV j)) : ∃ a c, v = .slice a j c ∧ Iota w a j := by
  rcases h.2 with ⟨rfl, rfl⟩ | ⟨g, cap, cur, rfl, _, hg, hn, _, hs, ht⟩
  · exact ⟨none, 0, rfl, .inl rfl⟩
  · refine ⟨_, _, rfl, .inr ⟨g, 0, rfl, fun i hi => ?_⟩⟩
    rw [Nat.zero_add, cell_of_row w g i cur 3 (0, 0) hg]
    have h1 : (cur.toList.take (j * 1))[i]? = cur.toList[i]? := by rw [List.getElem?_take_of_lt (by omega)]
    rw [ht] at h1
    rw [← Array.getElem?_toList, ← h1]
    simp [iotaV, hi]

set_option maxRecDepth 8000 in
set_option maxHeartbeats 4000000 in
theorem specTySubstT (d : F) (k n : Int) (a : Option Addr) (l c : Nat) (bsd : List Nat) (E : F) (ae : Option Addr) (le ce : Nat) (w : World) (h : SlO w 25 a l c d bsd) (hE : SlF w ae le E) :
    Calls Try.prog 21 #[.agg #[.int .i64 k, .int .i64 n, .slice a l c], .slice ae le ce] w fun e u => ∃ a' l2 c' bs, e = .returned (.tuple #[.agg #[.int .i64 (subR E k n d).1, .int .i64 (subR E k n d).2.1, .slice a' l2 c'], .bool (subOk E k n d)]) ∧ w.grownBy u none ∧ New w u 25 a' l2 c' (subR E k n d).2.2 bs := by
  obtain ⟨b0, b1, bsz⟩ := alloc2_blocks w (.cells #[.int .i64 k, .int .i64 n, .slice a l c] 25) (.cells #[.int .i64 0, .int .i64 0, .slice none 0 0] 25)
  have g0 := grown_alloc (grown_alloc (World.grownBy.refl w none) (.cells #[.int .i64 k, .int .i64 n, .slice a l c] 25)) (.cells #[.int .i64 0, .int .i64 0, .slice none 0 0] 25)
  have HD : Hid (SlO w 25 a l c d bsd ∧ SlF w ae le E) := ⟨h, hE⟩
  have hfl := h.1
  have hlE := hE.1
  have hEm := hE.2.1
  have L0 : Hid (w.grownBy _ none ∧ _ = some (Obj.cells #[.int .i64 k, .int .i64 n, .slice a l c] 25) ∧ _ = some (Obj.cells #[.int .i64 0, .int .i64 0, .slice none 0 0] 25)) := ⟨g0, b0, b1⟩
  have C1 : Hid _ := specTyOkT d k n a l c _ (h.reads.none g0)
  clear h hE g0 b0 b1 bsz
  go_enter Try.func21, Try.ntmps21
  go_wp2_with fail
  refine Calls.mono C1.out ?_
  rintro e w1 ⟨rfl, hg⟩
  obtain ⟨g0, b0, b1⟩ := L0.out
  have L1 : Hid (w.grownBy w1 none ∧ _ = some (Obj.cells #[.int .i64 k, .int .i64 n, .slice a l c] 25) ∧ _ = some (Obj.cells #[.int .i64 0, .int .i64 0, .slice none 0 0] 25)) := ⟨grown_trans g0 hg, (hg.block _ (lt_of_block b0) (by simp)).trans b0, (hg.block _ (lt_of_block b1) (by simp)).trans b1⟩
  clear hg g0 b0 b1 L0 C1
  generalize e0 : w.heap.size = p0 at *
  generalize e1 : p0 + 1 = p1 at *
  have PQ : Hid (w.heap.size = p0 ∧ p0 + 1 = p1) := ⟨e0, e1⟩
  clear e0 e1
  simp only []
  have zero : ∀ u, w.grownBy u none → u.heap[p1]? = some (Obj.cells #[.int .i64 0, .int .i64 0, .slice none 0 0] 25) → _ ∧ w.grownBy (((u.setCell ⟨p1, 0, none⟩ (.int .i64 0)).setCell ⟨p1, 1, none⟩ (.int .i64 0)).setCell ⟨p1, 2, none⟩ (.slice none 0 0)) none := fun u hu hp => ⟨(fill3 (.int .i64 0) (.int .i64 0) (.slice none 0 0) hp).1, grown_into hu (fill3 (.int .i64 0) (.int .i64 0) (.slice none 0 0) hp).2 (by have := PQ.out; omega)⟩
  have ZR : Hid _ := zero
  clear zero
  cases hb : okT k n d with
  | false =>
    have hno : subOk E k n d = false := by unfold subOk; rw [hb]; rfl
    have EN : Hid (subOk E k n d = false ∧ subR E k n d = (0, 0, .nil)) := ⟨hno, subR_no hno⟩
    obtain ⟨⟨v0, v1, v2⟩, f0, f1, f2⟩ := three L1.out.2.2
    have FQ : Hid _ := ZR.out w1 L1.out.1 L1.out.2.2
    clear hno HD ZR hb
    go_wp2
    (try simp only [Exit.inBlock, Exit.then])
    refine bodyPost_ret (results_cell2 (P := Try.prog) Try.results21 _ _ p1 _ _ _ _ rfl FQ.out.1 Try.underlying25 rfl (by kernel_rfl)) rfl ?_
    rw [EN.out.1, EN.out.2]
    exact ⟨none, 0, 0, [], rfl, FQ.out.2, New.nil _ _ _⟩
  | true =>
    by_cases h60 : (60 : Int) < le
    · have hno : subOk E k n d = false := by unfold subOk; rw [hlE]; simp; omega
      have EN : Hid (subOk E k n d = false ∧ subR E k n d = (0, 0, .nil)) := ⟨hno, subR_no hno⟩
      obtain ⟨⟨v0, v1, v2⟩, f0, f1, f2⟩ := three L1.out.2.2
      have FQ : Hid _ := ZR.out w1 L1.out.1 L1.out.2.2
      clear hno HD ZR hb
      go_wp2
      (try simp only [Exit.inBlock, Exit.then])
      refine bodyPost_ret (results_cell2 (P := Try.prog) Try.results21 _ _ p1 _ _ _ _ rfl FQ.out.1 Try.underlying25 rfl (by kernel_rfl)) rfl ?_
      rw [EN.out.1, EN.out.2]
      exact ⟨none, 0, 0, [], rfl, FQ.out.2, New.nil _ _ _⟩
    have h60' : decide ((60 : Int) < le) = false := by simp; omega
    obtain ⟨i0, hi, hz0, hz1, hz2⟩ := info_parts infoInt
    have HOK : Hid (okT k n d = true ∧ E.len ≤ 60) := ⟨hb, by omega⟩
    have O0 : Hid (w1.ownsRow w1.heap.size 3 1 (.slice none 0 0) 0 (iotaV 0)) := ⟨rfl, .inl ⟨rfl, rfl⟩⟩
    clear hb
    rcases HD.out.2.cases with ⟨hle0, hEnil⟩ | ⟨be, oe, hae, hinE, -, hpos⟩
    · subst hle0
      have HL : Hid (okL E = true) := by show _ = _; rw [hEnil]; rfl
      have HI : Hid (Iota w1 none 0) := .inl rfl
      have LL := L1
      clear O0 L1 hi hz0 hz1 hz2
      go_wp2
      refine wp_loop_rounds 1 ?_
      rw [rounds_succ]
      have hb' := HOK.out.1
      simp only [okT, Bool.and_eq_true, decide_eq_true_eq] at hb'
      have C3 : Hid _ := putT E ae none 0 ce 0 HL.out (d.size + 1) d k n a l c 9 bsd w1 (Nat.lt_succ_self _) (by omega) (HD.out.1.old LL.out.1) (HD.out.2.none LL.out.1) HI.out (by rw [← hfl]; exact hb'.1.1) hb'.1.2
      have HO : Hid (subOk E k n d = okT (subT E k n d).1 (subT E k n d).2.1 (subT E k n d).2.2) := by show _ = _; unfold subOk; rw [HOK.out.1, HL.out]; simp; exact fun _ => HOK.out.2
      have HR : Hid (∀ b, okT (subT E k n d).1 (subT E k n d).2.1 (subT E k n d).2.2 = b → subOk E k n d = b ∧ subR E k n d = if b = true then subT E k n d else (0, 0, .nil)) := by
        intro b hbb
        have h1 := HO.out.trans hbb
        exact ⟨h1, by unfold subR; rw [h1]⟩
      obtain ⟨⟨x0, x1, x2⟩, -⟩ := three LL.out.2.1
      generalize subT E k n d = T at *
      obtain ⟨rk, rn, rd⟩ := T
      clear hb' HO HI
      simp only [] at C3 HR
      go_wp2_with fail
      refine Calls.mono C3.out ?_
      rintro e w3 ⟨a3, l3, c3, bs, rfl, hg, hnew⟩
      have ga := World.grownBy_alloc w3 (.cells #[.int .i64 rk, .int .i64 rn, .slice a3 l3 c3] 25) none
      have ba := heap_alloc_new w3 (.cells #[.int .i64 rk, .int .i64 rn, .slice a3 l3 c3] 25)
      have hgg := grown_trans hg ga
      have L3 : Hid (w.grownBy _ none ∧ _ = some (Obj.cells #[.int .i64 0, .int .i64 0, .slice none 0 0] 25) ∧ _ = some (Obj.cells #[.int .i64 rk, .int .i64 rn, .slice a3 l3 c3] 25) ∧ SlO _ 25 a3 l3 c3 rd bs ∧ bs.Nodup ∧ (∀ x ∈ bs, p1 < x)) := ⟨grown_trans LL.out.1 hgg, (hgg.block _ (lt_of_block LL.out.2.2) (by simp)).trans LL.out.2.2, ba, hnew.1.old ga, hnew.2.1, fun x hx => Nat.lt_of_lt_of_le (lt_of_block LL.out.2.2) (hnew.2.2 x hx)⟩
      have C4 : Hid _ := specTyOkT rd rk rn a3 l3 c3 _ L3.out.2.2.2.1.reads
      have hp1 : p1 < w3.heap.size := Nat.lt_of_lt_of_le (lt_of_block LL.out.2.2) hg.size
      clear hg ga ba hgg hnew C3 LL x0 x1 x2
      simp only []
      go_wp2_with fail
      refine Calls.mono C4.out ?_
      rintro e w4 ⟨rfl, hg⟩
      obtain ⟨g3, b3, br, hs, hnd, hgt⟩ := L3.out
      have L4 : Hid (w.grownBy w4 none ∧ w4.heap[p1]? = some (Obj.cells #[.int .i64 0, .int .i64 0, .slice none 0 0] 25) ∧ _ = some (Obj.cells #[.int .i64 rk, .int .i64 rn, .slice a3 l3 c3] 25) ∧ SlO w4 25 a3 l3 c3 rd bs ∧ bs.Nodup ∧ (∀ x ∈ bs, p1 < x)) := ⟨grown_trans g3 hg, (hg.block _ (lt_of_block b3) (by simp)).trans b3, (hg.block _ (lt_of_block br) (by simp)).trans br, hs.old hg, hnd, hgt⟩
      generalize w3.heap.size = r at *
      have hpr : p1 ≠ r := by omega
      obtain ⟨⟨v0, v1, v2⟩, f0, f1, f2⟩ := three L4.out.2.1
      obtain ⟨⟨y0, y1, y2⟩, -⟩ := three L4.out.2.2.1
      clear hg g3 b3 br hs hnd hgt L3 C4
      simp only []
      cases hb : okT rk rn rd with
      | false =>
        have EN : Hid (subOk E k n d = false ∧ subR E k n d = (0, 0, .nil)) := by have := HR.out false hb; show _ ∧ _; simpa using this
        have FQ : Hid _ := ZR.out w4 L4.out.1 L4.out.2.1
        clear HR HD ZR hb
        go_wp2
        (try simp only [Exit.inBlock, Exit.then])
        refine bodyPost_ret (results_cell2 (P := Try.prog) Try.results21 _ _ p1 _ _ _ _ rfl FQ.out.1 Try.underlying25 rfl (by kernel_rfl)) rfl ?_
        rw [EN.out.1, EN.out.2]
        exact ⟨none, 0, 0, [], rfl, FQ.out.2, New.nil _ _ _⟩
      | true =>
        have EN : Hid (subOk E k n d = true ∧ subR E k n d = (rk, rn, rd)) := by have := HR.out true hb; show _ ∧ _; simpa using this
        obtain ⟨d1, k1⟩ := fill3 (.int .i64 rk) (.int .i64 rn) (.slice a3 l3 c3) L4.out.2.1
        have FQ : Hid _ := And.intro d1 (And.intro (grown_into L4.out.1 k1 (by have := PQ.out; omega)) (show New w _ 25 a3 l3 c3 rd bs from ⟨L4.out.2.2.2.1.kept k1 (fun x hx => by have := L4.out.2.2.2.2.2 x hx; simp; omega), L4.out.2.2.2.2.1, fun x hx => by have := L4.out.2.2.2.2.2 x hx; have := PQ.out; omega⟩))
        clear HR HD ZR hb d1 k1
        go_wp2
        (try simp only [Exit.inBlock, Exit.then])
        refine bodyPost_ret (results_cell2 (P := Try.prog) Try.results21 _ _ p1 _ _ _ _ rfl FQ.out.1 Try.underlying25 rfl (by kernel_rfl)) rfl ?_
        rw [EN.out.1, EN.out.2]
        exact ⟨a3, l3, c3, bs, rfl, FQ.out.2.1, FQ.out.2.2⟩
    have IN : Hid (InF w E be oe) := hinE
    have AE : Hid (ae = some ⟨be, oe, none⟩) := hae
    clear hinE
    subst hae
    go_wp2
    go_loopw [6, 7] (fun v i wr => ∃ (j : Nat) (R : F), j ≤ le ∧ i = .int .i64 j ∧ R.len + j = le ∧ Hid (InF w R be (oe + j * 3)) ∧ Hid (okL E = okL R) ∧ Hid (wr.ownsRow w1.heap.size 3 1 v j (iotaV j)) ∧ Hid (Below w1.heap.size w1 wr)) (fun _ i _ => le - (intOf i).toNat)
    case atStart => exact ⟨0, E, Nat.zero_le _, rfl, by omega, by simpa using IN, rfl, O0, Below.refl _ _⟩
    case round =>
      clear IN O0
      obtain ⟨j, R, hj, rfl, hRl, hR, hv, hO, hB⟩ := hrel
      have hg1 : w.grownBy wr none := grown_trans L1.out.1 (⟨hB.out.os, hB.out.tape, hB.out.output, hB.out.size, fun k hk _ => hB.out.block k hk⟩ : World.grownBy _ _ none)
      have LL : Hid (w.grownBy wr none ∧ wr.heap[p0]? = some (Obj.cells #[.int .i64 k, .int .i64 n, .slice a l c] 25) ∧ wr.heap[p1]? = some (Obj.cells #[.int .i64 0, .int .i64 0, .slice none 0 0] 25)) := ⟨hg1, (hB.out.block _ (lt_of_block L1.out.2.1)).trans L1.out.2.1, (hB.out.block _ (lt_of_block L1.out.2.2)).trans L1.out.2.2⟩
      by_cases hlt : j < le
      · obtain ⟨q, hq⟩ : ∃ q, R.len = q + 1 := ⟨R.len - 1, by omega⟩
        obtain ⟨k1, n1, d1, R1, rfl, hR1⟩ := F.cons_of_len hq
        obtain ⟨a1, l1, x1, c0, c1, c2, hd, hT⟩ := hR.out.out
        have e3 : oe + j * 3 + 3 = oe + (j + 1) * 3 := by omega
        rw [e3] at hT
        have c0 := hg1.cell c0 (by simp)
        have c1 := hg1.cell c1 (by simp)
        have c2 := hg1.cell c2 (by simp)
        have CC : Hid _ := specTyOkT d1 k1 n1 a1 l1 x1 wr (hd.none hg1)
        have FX : Hid (InF w R1 be (oe + (j + 1) * 3) ∧ okL E = (okT k1 n1 d1 && okL R1)) := ⟨hT, hv.out⟩
        clear hR hv hd hT hg1
        go_wp2_with fail
        refine Calls.mono CC.out ?_
        rintro e u ⟨rfl, hg⟩
        have hBu : Hid (Below w1.heap.size w1 u) := hB.out.grown hg (Nat.le_trans (Nat.le_refl _) hB.out.size) (fun x hx => by cases hx)
        have hOu : Hid (u.ownsRow w1.heap.size 3 1 u6 j (iotaV j)) := hO.out.kept hg (Classical.em _)
        have LU : Hid (w.grownBy u none ∧ u.heap[p0]? = some (Obj.cells #[.int .i64 k, .int .i64 n, .slice a l c] 25) ∧ u.heap[p1]? = some (Obj.cells #[.int .i64 0, .int .i64 0, .slice none 0 0] 25)) := ⟨grown_trans LL.out.1 hg, (hg.block _ (lt_of_block LL.out.2.1) (by simp)).trans LL.out.2.1, (hg.block _ (lt_of_block LL.out.2.2) (by simp)).trans LL.out.2.2⟩
        clear hg CC c0 c1 c2 hB hO LL
        simp only []
        cases hb : okT k1 n1 d1 with
        | false =>
          have hno : subOk E k n d = false := by unfold subOk; rw [FX.out.2, hb]; simp
          have EN : Hid (subOk E k n d = false ∧ subR E k n d = (0, 0, .nil)) := ⟨hno, subR_no hno⟩
          obtain ⟨⟨v0, v1, v2⟩, f0, f1, f2⟩ := three LU.out.2.2
          have FQ : Hid _ := ZR.out u LU.out.1 LU.out.2.2
          clear hno HD ZR hb FX
          go_wp2
          (try simp only [Exit.inBlock, Exit.then])
          refine bodyPost_ret (results_cell2 (P := Try.prog) Try.results21 _ _ p1 _ _ _ _ rfl FQ.out.1 Try.underlying25 rfl (by kernel_rfl)) rfl ?_
          rw [EN.out.1, EN.out.2]
          exact ⟨none, 0, 0, [], rfl, FQ.out.2, New.nil _ _ _⟩
        | true =>
          have FZ : Hid (InF w R1 be (oe + (j + 1) * 3) ∧ okL E = okL R1) := ⟨FX.out.1, by rw [FX.out.2, hb, Bool.true_and]⟩
          have hbs := hBu.out.size
          have E1 : Hid (j + 1 ≤ maxLen) := by show _ ≤ _; unfold maxLen; omega
          have E2 : Hid ((j + 1) * 8 ≤ 140737488355328) := by show _ ≤ _; omega
          have E3 : ∀ o, Hid (w1.heap.size ≤ (u.alloc o).heap.size) := by intro o; show _ ≤ _; simp; omega
          clear FX hb
          go_wp2_with (at_builtin; go_must (refine wpList_append_own _ rfl (.tmp 31) (.tmp 33) 33 rfl w1.heap.size 3 i0 (.int .i64 0) 1 8 Try.underlying33 hi hz0 hz1 hz2 rfl (by decide) u6 j (iotaV j) rfl (hOu.out.alloc _) ⟨u.heap.size, 0, none⟩ 1 1 [.int .i64 (j : Int)] rfl rfl (cell_one_new _ _ _) (by simp [Value.oneCell']) E1.out E2.out (E3 _).out ?_); intro v2 w2 hown2 hgrow2 hnil2)
          have O2 : Hid (w2.ownsRow w1.heap.size 3 1 v2 (j + 1) (iotaV (j + 1))) := by show World.ownsRow _ _ _ _ _ _ _; rw [← iotaV_succ]; exact hown2
          have B2 : Hid (Below w1.heap.size w1 w2) := (hBu.out.alloc hbs _).grown hgrow2 (by simp; omega) (fun x hx => (hOu.out.lt x hx).1)
          clear hown2 hgrow2 hnil2
          go_roundw
          case rel => exact ⟨j + 1, R1, by omega, by go_num, by omega, FZ.out.1, FZ.out.2, O2, B2⟩
          case measure => simp [intOf]; omega
      · obtain rfl : j = le := by omega
        obtain rfl : R = .nil := F.nil_of_len (by omega)
        obtain ⟨ai, ci, hvi, hIo⟩ := iota_of hO.out
        subst hvi
        have HL : Hid (okL E = true) := hv.out
        have HI : Hid (Iota wr ai j) := hIo
        clear hR hv hO hB hg1 hIo L1 hi hz0 hz1 hz2 h60'
        have hb' := HOK.out.1
        simp only [okT, Bool.and_eq_true, decide_eq_true_eq] at hb'
        have C3 : Hid _ := putT E (some ⟨be, oe, none⟩) ai j ce ci HL.out (d.size + 1) d k n a l c 9 bsd wr (Nat.lt_succ_self _) (by omega) (HD.out.1.old LL.out.1) (HD.out.2.none LL.out.1) HI.out (by rw [← hfl]; exact hb'.1.1) hb'.1.2
        have HO : Hid (subOk E k n d = okT (subT E k n d).1 (subT E k n d).2.1 (subT E k n d).2.2) := by show _ = _; unfold subOk; rw [HOK.out.1, HL.out]; simp; exact fun _ => HOK.out.2
        have HR : Hid (∀ b, okT (subT E k n d).1 (subT E k n d).2.1 (subT E k n d).2.2 = b → subOk E k n d = b ∧ subR E k n d = if b = true then subT E k n d else (0, 0, .nil)) := by
          intro b hbb
          have h1 := HO.out.trans hbb
          exact ⟨h1, by unfold subR; rw [h1]⟩
        obtain ⟨⟨x0, x1, x2⟩, -⟩ := three LL.out.2.1
        generalize subT E k n d = T at *
        obtain ⟨rk, rn, rd⟩ := T
        clear hb' HO HI
        simp only [] at C3 HR
        go_wp2_with fail
        refine Calls.mono C3.out ?_
        rintro e w3 ⟨a3, l3, c3, bs, rfl, hg, hnew⟩
        have ga := World.grownBy_alloc w3 (.cells #[.int .i64 rk, .int .i64 rn, .slice a3 l3 c3] 25) none
        have ba := heap_alloc_new w3 (.cells #[.int .i64 rk, .int .i64 rn, .slice a3 l3 c3] 25)
        have hgg := grown_trans hg ga
        have L3 : Hid (w.grownBy _ none ∧ _ = some (Obj.cells #[.int .i64 0, .int .i64 0, .slice none 0 0] 25) ∧ _ = some (Obj.cells #[.int .i64 rk, .int .i64 rn, .slice a3 l3 c3] 25) ∧ SlO _ 25 a3 l3 c3 rd bs ∧ bs.Nodup ∧ (∀ x ∈ bs, p1 < x)) := ⟨grown_trans LL.out.1 hgg, (hgg.block _ (lt_of_block LL.out.2.2) (by simp)).trans LL.out.2.2, ba, hnew.1.old ga, hnew.2.1, fun x hx => Nat.lt_of_lt_of_le (lt_of_block LL.out.2.2) (hnew.2.2 x hx)⟩
        have C4 : Hid _ := specTyOkT rd rk rn a3 l3 c3 _ L3.out.2.2.2.1.reads
        have hp1 : p1 < w3.heap.size := Nat.lt_of_lt_of_le (lt_of_block LL.out.2.2) hg.size
        clear hg ga ba hgg hnew C3 LL x0 x1 x2
        simp only []
        go_wp2_with fail
        refine Calls.mono C4.out ?_
        rintro e w4 ⟨rfl, hg⟩
        obtain ⟨g3, b3, br, hs, hnd, hgt⟩ := L3.out
        have L4 : Hid (w.grownBy w4 none ∧ w4.heap[p1]? = some (Obj.cells #[.int .i64 0, .int .i64 0, .slice none 0 0] 25) ∧ _ = some (Obj.cells #[.int .i64 rk, .int .i64 rn, .slice a3 l3 c3] 25) ∧ SlO w4 25 a3 l3 c3 rd bs ∧ bs.Nodup ∧ (∀ x ∈ bs, p1 < x)) := ⟨grown_trans g3 hg, (hg.block _ (lt_of_block b3) (by simp)).trans b3, (hg.block _ (lt_of_block br) (by simp)).trans br, hs.old hg, hnd, hgt⟩
        generalize w3.heap.size = r at *
        have hpr : p1 ≠ r := by omega
        obtain ⟨⟨v0, v1, v2⟩, f0, f1, f2⟩ := three L4.out.2.1
        obtain ⟨⟨y0, y1, y2⟩, -⟩ := three L4.out.2.2.1
        clear hg g3 b3 br hs hnd hgt L3 C4
        simp only []
        cases hb : okT rk rn rd with
        | false =>
          have EN : Hid (subOk E k n d = false ∧ subR E k n d = (0, 0, .nil)) := by have := HR.out false hb; show _ ∧ _; simpa using this
          have FQ : Hid _ := ZR.out w4 L4.out.1 L4.out.2.1
          clear HR HD ZR hb
          go_wp2
          (try simp only [Exit.inBlock, Exit.then])
          refine bodyPost_ret (results_cell2 (P := Try.prog) Try.results21 _ _ p1 _ _ _ _ rfl FQ.out.1 Try.underlying25 rfl (by kernel_rfl)) rfl ?_
          rw [EN.out.1, EN.out.2]
          exact ⟨none, 0, 0, [], rfl, FQ.out.2, New.nil _ _ _⟩
        | true =>
          have EN : Hid (subOk E k n d = true ∧ subR E k n d = (rk, rn, rd)) := by have := HR.out true hb; show _ ∧ _; simpa using this
          obtain ⟨d1, k1⟩ := fill3 (.int .i64 rk) (.int .i64 rn) (.slice a3 l3 c3) L4.out.2.1
          have FQ : Hid _ := And.intro d1 (And.intro (grown_into L4.out.1 k1 (by have := PQ.out; omega)) (show New w _ 25 a3 l3 c3 rd bs from ⟨L4.out.2.2.2.1.kept k1 (fun x hx => by have := L4.out.2.2.2.2.2 x hx; simp; omega), L4.out.2.2.2.2.1, fun x hx => by have := L4.out.2.2.2.2.2 x hx; have := PQ.out; omega⟩))
          clear HR HD ZR hb d1 k1
          go_wp2
          (try simp only [Exit.inBlock, Exit.then])
          refine bodyPost_ret (results_cell2 (P := Try.prog) Try.results21 _ _ p1 _ _ _ _ rfl FQ.out.1 Try.underlying25 rfl (by kernel_rfl)) rfl ?_
          rw [EN.out.1, EN.out.2]
          exact ⟨a3, l3, c3, bs, rfl, FQ.out.2.1, FQ.out.2.2⟩
end Go.Proofs.Ytmlganaiajhjeaa.By
