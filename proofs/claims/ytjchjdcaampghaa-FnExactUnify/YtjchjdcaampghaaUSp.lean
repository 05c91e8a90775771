/-
  spec.Resolve by its contract; what both sides answer, in one form. No statement is proved here.
-/
import Derived.Test.YtjchjdcaampghaaUL
namespace Go.Proofs.Ytjchjdcaampghaa.By
open Go.RowKit
set_option linter.unusedVariables false
set_option linter.unusedSimpArgs false


set_option maxRecDepth 8000 in
set_option maxHeartbeats 2000000 in
theorem specResolveT (f : B) (a : Option Addr) (l c : Nat) (d : F) (k n : Int) (at' : Option Addr) (lt ct : Nat) (w : World) (h : SlB w a l f) (hlc : l ≤ c) (hS : SlF w at' lt d) :
    Calls Try.prog 23 #[.slice a l c, .agg #[.int .i64 k, .int .i64 n, .slice at' lt ct]] w fun e u => RsA w (resOk f k n d) (rsT f (k, n, d)) e u := by
  obtain ⟨b0, b1, bsz⟩ := alloc2_blocks w (.cells #[.int .i64 k, .int .i64 n, .slice at' lt ct] 26) (.cells #[.int .i64 0, .int .i64 0, .slice none 0 0] 26)
  have g0 := grown_alloc (grown_alloc (World.grownBy.refl w none) (.cells #[.int .i64 k, .int .i64 n, .slice at' lt ct] 26)) (.cells #[.int .i64 0, .int .i64 0, .slice none 0 0] 26)
  have C0 : Hid _ := specBindsOkT f a l c _ (h.none g0) hlc
  have L0 : Hid (w.grownBy _ none ∧ _ = some (Obj.cells #[.int .i64 k, .int .i64 n, .slice at' lt ct] 26) ∧ _ = some (Obj.cells #[.int .i64 0, .int .i64 0, .slice none 0 0] 26) ∧ _ = w.heap.size + 1 + 1 ∧ SlF _ at' lt d ∧ SlB _ a l f) := ⟨g0, b0, b1, bsz, hS.none g0, h.none g0⟩
  clear b0 b1 bsz g0 h hS
  go_enter Try.func23, Try.ntmps23
  go_wp2_with fail
  generalize (w.alloc (.cells #[.int .i64 k, .int .i64 n, .slice at' lt ct] 26)).alloc (.cells #[.int .i64 0, .int .i64 0, .slice none 0 0] 26) = W0 at *
  generalize eq : w.heap.size = q at *
  refine Calls.mono C0.out ?_
  rintro e w1 ⟨he, hg⟩
  have FU : Hid (∀ u, w1.grownBy u none → w.grownBy u none ∧ u.heap[q]? = some (Obj.cells #[.int .i64 k, .int .i64 n, .slice at' lt ct] 26) ∧ u.heap[q + 1]? = some (Obj.cells #[.int .i64 0, .int .i64 0, .slice none 0 0] 26) ∧ q + 1 < u.heap.size ∧ SlF u at' lt d ∧ SlB u a l f) := fun u hu0 => by
    have hu := grown_trans hg hu0
    exact ⟨grown_trans L0.out.1 hu, (hu.block _ (lt_of_block L0.out.2.1) (by simp)).trans L0.out.2.1, (hu.block _ (lt_of_block L0.out.2.2.1) (by simp)).trans L0.out.2.2.1, by have h1 := hu.size; have h2 := L0.out.2.2.2.1; omega, L0.out.2.2.2.2.1.none hu, L0.out.2.2.2.2.2.none hu⟩
  clear C0 L0 hg
  subst he
  simp only []
  cases hb : bindsV f with
  | false =>
    have HW : Hid (resOk f k n d = false) := by show _ = _; unfold resOk; rw [hb]; rfl
    clear hb
    have fin := fill3 (.int .i64 0) (.int .i64 0) (.slice none 0 0) (FU.out _ (World.grownBy.refl w1 none)).2.2.1
    have FIN : Hid _ := And.intro (FU.out _ (World.grownBy.refl w1 none)).1 fin
    obtain ⟨⟨z0, z1, z2⟩, f0, f1, f2⟩ := three (FU.out _ (World.grownBy.refl w1 none)).2.2.1
    clear fin FU
    go_wp2
    (try simp only [Exit.inBlock, Exit.then])
    refine bodyPost_ret (results_cell2 (P := Try.prog) Try.results23 _ _ (q + 1) _ _ _ _ rfl FIN.out.2.1 Try.underlying26 rfl (by kernel_rfl)) rfl ?_
    refine ⟨grown_into FIN.out.1 FIN.out.2.2 (by omega), ?_⟩
    rw [HW.out]
    simp
  | true =>
    have HB : Hid (bindsV f = true) := hb
    obtain ⟨⟨y0, y1, y2⟩, -⟩ := three (FU.out _ (World.grownBy.refl w1 none)).2.1
    have C1 : Hid _ := specTyOkT d k n at' lt ct w1 (FU.out _ (World.grownBy.refl w1 none)).2.2.2.2.1
    clear hb
    go_wp2_with fail
    refine Calls.mono C1.out ?_
    rintro e w2 ⟨rfl, hg⟩
    have G2 : Hid (w1.grownBy w2 none) := hg
    clear C1 hg y0 y1 y2
    simp only []
    cases hok : okT k n d with
    | false =>
      have HW : Hid (resOk f k n d = false) := by show _ = _; unfold resOk; rw [hok]; simp
      clear hok
      have fin := fill3 (.int .i64 0) (.int .i64 0) (.slice none 0 0) (FU.out _ G2.out).2.2.1
      have FIN : Hid _ := And.intro (FU.out _ G2.out).1 fin
      obtain ⟨⟨z0, z1, z2⟩, f0, f1, f2⟩ := three (FU.out _ G2.out).2.2.1
      clear fin FU
      go_wp2
      (try simp only [Exit.inBlock, Exit.then])
      refine bodyPost_ret (results_cell2 (P := Try.prog) Try.results23 _ _ (q + 1) _ _ _ _ rfl FIN.out.2.1 Try.underlying26 rfl (by kernel_rfl)) rfl ?_
      refine ⟨grown_into FIN.out.1 FIN.out.2.2 (by omega), ?_⟩
      rw [HW.out]
      simp
    | true =>
      have hok' := (okT_iff k n d).1 hok
      have hwf := bindsV_wf HB.out
      have CR := l4goT f hwf.1 (by omega) 10 d k n at' lt ct a l c w2 (by omega) (FU.out _ G2.out).2.2.2.2.2 (FU.out _ G2.out).2.2.2.2.1 (by rw [← (FU.out _ G2.out).2.2.2.2.1.1]; exact hok'.1) hok'.2.1 (by omega)
      have e1 : (11 : Int) - ((10 : Nat) : Int) = 1 := by omega
      rw [e1] at CR
      have HCR : Hid _ := CR
      have HW0 : Hid (resOk f k n d = wOk f k n d 10 60) := by show _ = _; unfold resOk; rw [HB.out, hok]; rfl
      obtain ⟨⟨y0, y1, y2⟩, -⟩ := three (FU.out _ G2.out).2.1
      clear hok hok' hwf CR e1
      go_wp2_with fail
      refine Calls.mono HCR.out ?_
      rintro e w3 ⟨hg, he⟩
      have G3 : Hid (w1.grownBy w3 none) := grown_trans G2.out hg
      have hq2 : q + 1 < w2.heap.size := (FU.out _ G2.out).2.2.2.1
      have e3 := (FU.out _ G3.out).2.2.1
      have hq3 := lt_of_block e3
      have gw := (FU.out _ G3.out).1
      obtain ⟨⟨z0, z1, z2⟩, f0, f1, f2⟩ := three e3
      clear HCR y0 y1 y2 FU
      cases hwo : wOk f k n d 10 60 with
      | false =>
        rw [hwo] at he
        simp only [Bool.false_eq_true, if_false] at he
        subst he
        have HW : Hid (resOk f k n d = false) := HW0.out.trans hwo
        have fin := fill3 (.int .i64 0) (.int .i64 0) (.slice none 0 0) e3
        have ga := World.grownBy_alloc (((w3.setCell ⟨q + 1, 0, none⟩ (.int .i64 0)).setCell ⟨q + 1, 1, none⟩ (.int .i64 0)).setCell ⟨q + 1, 2, none⟩ (.slice none 0 0)) (.cells #[.int .i64 0, .int .i64 0, .slice none 0 0] 26) none
        have FIN : Hid _ := And.intro ((ga.block _ (lt_of_block fin.1) (by simp)).trans fin.1) (grown_trans (grown_into gw fin.2 (by omega)) ga)
        clear hwo fin ga gw e3 hg
        simp only []
        go_wp2
        (try simp only [Exit.inBlock, Exit.then])
        refine bodyPost_ret (results_cell2 (P := Try.prog) Try.results23 _ _ (q + 1) _ _ _ _ rfl FIN.out.1 Try.underlying26 rfl (by kernel_rfl)) rfl ?_
        refine ⟨FIN.out.2, ?_⟩
        rw [HW.out]
        simp
      | true =>
        rw [hwo, if_pos rfl] at he
        obtain ⟨a', c', bs, he, hN, hna⟩ := he
        have HW : Hid (resOk f k n d = true) := HW0.out.trans hwo
        clear hwo HW0
        generalize eR : rsT f (k, n, d) = R at *
        have ER : Hid (rsT f (k, n, d) = R) := eR
        clear eR
        obtain ⟨rk, rn, rd⟩ := R
        simp only [] at he hN
        subst he
        have fin := fill3 (.int .i64 rk) (.int .i64 rn) (.slice a' rd.len c') e3
        have ga := World.grownBy_alloc (((w3.setCell ⟨q + 1, 0, none⟩ (.int .i64 rk)).setCell ⟨q + 1, 1, none⟩ (.int .i64 rn)).setCell ⟨q + 1, 2, none⟩ (.slice a' rd.len c')) (.cells #[.int .i64 rk, .int .i64 rn, .slice a' rd.len c'] 26) none
        have FIN : Hid _ := And.intro ((ga.block _ (lt_of_block fin.1) (by simp)).trans fin.1) (grown_trans (grown_into gw fin.2 (by omega)) ga)
        have HN : Hid (New w2 (((((w3.setCell ⟨q + 1, 0, none⟩ (.int .i64 rk)).setCell ⟨q + 1, 1, none⟩ (.int .i64 rn)).setCell ⟨q + 1, 2, none⟩ (.slice a' rd.len c'))).alloc (.cells #[.int .i64 rk, .int .i64 rn, .slice a' rd.len c'] 26)) 26 a' rd.len c' rd bs ∧ (c' = 0 → a' = none)) := ⟨⟨(hN.1.kept fin.2 (fun x hx e => by have := hN.2.2 x hx; have h1 : x = q + 1 := (by injection e); omega)).old ga, hN.2.1, hN.2.2⟩, hna⟩
        have hzz : (0 : Int) < ((1 + rd.size : Nat) : Int) := by omega
        have hw2 : w.heap.size ≤ w2.heap.size := by omega
        clear fin ga hN hna gw e3 hg
        generalize ((1 + rd.size : Nat) : Int) = zk at *
        simp only []
        go_wp2
        (try simp only [Exit.inBlock, Exit.then])
        refine bodyPost_ret (results_cell2 (P := Try.prog) Try.results23 _ _ (q + 1) _ _ _ _ rfl FIN.out.1 Try.underlying26 rfl (by kernel_rfl)) rfl ?_
        rw [ER.out]
        refine ⟨FIN.out.2, ?_⟩
        rw [if_pos HW.out]
        exact ⟨a', c', bs, rfl, ⟨HN.out.1.1, HN.out.1.2.1, fun x hx => by have := HN.out.1.2.2 x hx; omega⟩, HN.out.2⟩

/-- One form for both ends. -/
def ResA (w : World) (tb : Bool) (r : Int × Int × F) (e : Ending) (u : World) : Prop :=
  ∃ (a' : Option Addr) (l' c' : Nat) (bs : List Nat), e = .returned (.tuple #[.agg #[.int .i64 r.1, .int .i64 r.2.1, .slice a' l' c'], .bool tb]) ∧ w.grownBy u none ∧ New w u 26 a' l' c' r.2.2 bs
theorem RsA.res {w u : World} {f : B} {k n : Int} {d : F} {e : Ending} (h : RsA w (resOk f k n d) (rsT f (k, n, d)) e u) : ResA w (resOk f k n d) (resV f k n d) e u := by
  obtain ⟨hg, he⟩ := h
  unfold resV
  by_cases hb : resOk f k n d = true
  · rw [if_pos hb] at he ⊢
    obtain ⟨a', c', bs, rfl, hN, _⟩ := he
    exact ⟨a', _, c', bs, by rw [hb], hg, hN⟩
  · rw [if_neg hb] at he ⊢
    subst he
    exact ⟨none, 0, 0, [], by rw [Bool.eq_false_iff.2 hb], hg, New.nil _ _ _⟩
theorem resV_size (f : B) (k n : Int) (d : F) : (resV f k n d).2.2.size ≤ 60 := by
  unfold resV
  by_cases h : resOk f k n d = true
  · rw [if_pos h]
    simp only [resOk, wOk, Bool.and_eq_true, decide_eq_true_eq] at h
    omega
  · rw [if_neg h]; simp [F.size]
end Go.Proofs.Ytjchjdcaampghaa.By
