/-
  The program's Unify, by its contract. No statement is proved here.
-/
import Derived.Test.YtmlganaiajhjeaaUJ
namespace Go.Proofs.Ytmlganaiajhjeaa.By
open Go.RowKit
set_option linter.unusedVariables false
set_option linter.unusedSimpArgs false

/-- What making alike answers. -/
def UnA (w : World) (R : Option B) (e : Ending) (u : World) : Prop :=
  w.grownBy u none ∧ match R with
    | none => e = .returned (.tuple #[.slice none 0 0, .bool false])
    | some L' => ∃ a c bs, e = .returned (.tuple #[.slice a L'.len c, .bool true]) ∧ NewB w u 25 44 a L'.len c L' bs ∧ (c = 0 → a = none)

set_option maxRecDepth 8000 in
set_option maxHeartbeats 2000000 in
theorem implUnifyT (f : B) (a : Option Addr) (l c : Nat) (d d' : F) (k n k' n' : Int) (a1 a2 : Option Addr) (l1 c1 l2 c2 : Nat) (w : World) (h : SlBD w 25 44 a l f) (hS : SlD w 25 a1 l1 d) (hS' : SlD w 25 a2 l2 d') :
    Calls Try.prog 17 #[.slice a l c, .agg #[.int .i64 k, .int .i64 n, .slice a1 l1 c1], .agg #[.int .i64 k', .int .i64 n', .slice a2 l2 c2]] w fun e u => UnA w (uniV f (k, n, d) (k', n', d')) e u := by
  obtain ⟨b0, b1, bsz⟩ := alloc2_blocks w (.cells #[.int .i64 k, .int .i64 n, .slice a1 l1 c1] 25) (.cells #[.int .i64 k', .int .i64 n', .slice a2 l2 c2] 25)
  have g0 := grown_alloc (grown_alloc (World.grownBy.refl w none) (.cells #[.int .i64 k, .int .i64 n, .slice a1 l1 c1] 25)) (.cells #[.int .i64 k', .int .i64 n', .slice a2 l2 c2] 25)
  have C0 : Hid _ := bindsOfT f a l c _ (h.none g0)
  have L0 : Hid (w.grownBy _ none ∧ _ = some (Obj.cells #[.int .i64 k, .int .i64 n, .slice a1 l1 c1] 25) ∧ _ = some (Obj.cells #[.int .i64 k', .int .i64 n', .slice a2 l2 c2] 25) ∧ _ = w.heap.size + 1 + 1 ∧ SlD _ 25 a1 l1 d ∧ SlD _ 25 a2 l2 d') := ⟨g0, b0, b1, bsz, hS.none g0, hS'.none g0⟩
  clear b0 b1 bsz g0 h hS hS'
  go_enter Try.func17, Try.ntmps17
  go_wp2_with fail
  generalize (w.alloc (.cells #[.int .i64 k, .int .i64 n, .slice a1 l1 c1] 25)).alloc (.cells #[.int .i64 k', .int .i64 n', .slice a2 l2 c2] 25) = W0 at *
  generalize eq : w.heap.size = q at *
  have FU : Hid (∀ u, W0.grownBy u none → w.grownBy u none ∧ u.heap[q]? = some (Obj.cells #[.int .i64 k, .int .i64 n, .slice a1 l1 c1] 25) ∧ u.heap[q + 1]? = some (Obj.cells #[.int .i64 k', .int .i64 n', .slice a2 l2 c2] 25) ∧ SlD u 25 a1 l1 d ∧ SlD u 25 a2 l2 d') := fun u hu0 => by
    obtain ⟨r1, r2, r3, r4, r5, r6⟩ := L0.out
    exact ⟨grown_trans r1 hu0, (hu0.block _ (lt_of_block r2) (by simp)).trans r2, (hu0.block _ (lt_of_block r3) (by simp)).trans r3, r5.none hu0, r6.none hu0⟩
  clear L0
  refine Calls.mono C0.out ?_
  rintro e w1 ⟨hg, he⟩
  have G1 : Hid (W0.grownBy w1 none) := hg
  clear C0 hg
  cases hb : bindsV f with
  | false =>
    rw [hb] at he
    simp only [Bool.false_eq_true, if_false] at he
    subst he
    have HV : Hid (uniV f (k, n, d) (k', n', d') = none) := by show _ = _; unfold uniV; rw [hb]; rfl
    clear hb
    simp only []
    go_wp2
    go_ret2
    rw [HV.out]
    exact ⟨(FU.out _ G1.out).1, rfl⟩
  | true =>
    rw [hb, if_pos rfl] at he
    obtain ⟨p, m, oa, oc, he, hBS⟩ := he
    subst he
    have HB : Hid (BS W0.heap.size w1 p m oa oc f ∧ bindsV f = true) := ⟨hBS, hb⟩
    obtain ⟨⟨y0, y1, y2⟩, -⟩ := three (FU.out _ G1.out).2.1
    have C1 : Hid _ := implTyOkT d k n a1 l1 c1 w1 (FU.out _ G1.out).2.2.2.1.reads
    clear hBS hb
    simp only []
    go_wp2_with fail
    refine Calls.mono C1.out ?_
    rintro e w2 ⟨rfl, hg⟩
    have G2 : Hid (W0.grownBy w2 none ∧ w1.grownBy w2 none) := ⟨grown_trans G1.out hg, hg⟩
    clear C1 hg y0 y1 y2
    cases hok : okT k n d with
    | false =>
      have HV : Hid (uniV f (k, n, d) (k', n', d') = none) := by show _ = _; unfold uniV; simp [hok]
      clear hok
      simp only []
      go_wp2
      go_ret2
      rw [HV.out]
      exact ⟨(FU.out _ G2.out.1).1, rfl⟩
    | true =>
    obtain ⟨⟨y0, y1, y2⟩, -⟩ := three (FU.out _ G2.out.1).2.2.1
    have C2 : Hid _ := implTyOkT d' k' n' a2 l2 c2 w2 (FU.out _ G2.out.1).2.2.2.2.reads
    have HK1 : Hid (okT k n d = true) := hok
    clear hok
    simp only []
    go_wp2_with fail
    refine Calls.mono C2.out ?_
    rintro e w3 ⟨rfl, hg⟩
    have G3 : Hid (W0.grownBy w3 none ∧ w1.grownBy w3 none) := ⟨grown_trans G2.out.1 hg, grown_trans G2.out.2 hg⟩
    clear C2 hg y0 y1 y2
    cases hok : okT k' n' d' with
    | false =>
      have HV : Hid (uniV f (k, n, d) (k', n', d') = none) := by show _ = _; unfold uniV; simp [hok]
      clear hok
      simp only []
      go_wp2
      go_ret2
      rw [HV.out]
      exact ⟨(FU.out _ G3.out.1).1, rfl⟩
    | true =>
    have hwf := bindsV_wf HB.out.2
    have ok1 := (okT_iff k n d).1 HK1.out
    have ok2 := (okT_iff k' n' d').1 hok
    obtain ⟨s, hs⟩ := unV_some (a := (k, n, d)) (b := (k', n', d')) hwf.1 (gT_ok HK1.out) (gT_ok hok)
    have CA : Hid _ := alikeT W0.heap.size p m s f oa oc d d' k n k' n' a1 a2 l1 c1 l2 c2 _ w3 hs hwf.1 (gT_ok HK1.out) (gT_ok hok) (by omega) (by omega) (HB.out.1.none G3.out.2) (FU.out _ G3.out.1).2.2.2.1 (FU.out _ G3.out.1).2.2.2.2
    have HW0 : Hid ((unV f (k, n, d) (k', n', d') = none → uniV f (k, n, d) (k', n', d') = none) ∧ ∀ L', unV f (k, n, d) (k', n', d') = some L' → uniV f (k, n, d) (k', n', d') = if wOk L' k n d 10 60 = true then some L' else none) := ⟨fun e => by unfold uniV; simp [HB.out.2, HK1.out, hok, e], fun L' e => by unfold uniV; simp [HB.out.2, HK1.out, hok, e]⟩
    have HWF : Hid (∀ L', unV f (k, n, d) (k', n', d') = some L' → wfB L') := fun L' e => (un_wf s f _ _ L' hwf.1 (gT_ok HK1.out) (gT_ok hok) (by rw [hs, e])).1
    obtain ⟨⟨x0, x1, x2⟩, -⟩ := three (FU.out _ G3.out.1).2.1
    obtain ⟨⟨y0, y1, y2⟩, -⟩ := three (FU.out _ G3.out.1).2.2.1
    have HK2 : Hid (d.size ≤ 59 ∧ gT (k, n, d)) := ⟨by omega, gT_ok HK1.out⟩
    clear hok hs hwf ok1 ok2
    simp only []
    go_wp2_with fail
    refine Calls.mono CA.out ?_
    rintro e w4 ⟨hF, he⟩
    have G4 : Hid (W0.grownBy w4 none) := grownOfFrS ((FrS.grown G3.out.1 (Nat.le_refl _)).trans hF)
    clear CA hF x0 x1 x2 y0 y1 y2
    generalize unV f (k, n, d) (k', n', d') = R at *
    cases R with
    | none =>
      have HV : Hid (uniV f (k, n, d) (k', n', d') = none) := HW0.out.1 rfl
      clear HW0
      simp only [] at he
      subst he
      simp only []
      go_wp2
      go_ret2
      rw [HV.out]
      exact ⟨(FU.out _ G4.out).1, rfl⟩
    | some L' =>
    obtain ⟨he, oa', oc', hB2⟩ := he
    subst he
    have hwf := HWF.out L' rfl
    have hln := wfB_len hwf
    have CR : Hid _ := resolveT W0.heap.size p m oa' oc' L' hwf (by omega) d k n a1 l1 c1 w4 hB2 (FU.out _ G4.out).2.2.2.1 (by rw [← (FU.out _ G4.out).2.2.2.1.1]; exact HK2.out.2.1) HK2.out.2.2 HK2.out.1
    have HB2 : Hid (BS W0.heap.size w4 p m oa' oc' L' ∧ wfB L') := ⟨hB2, hwf⟩
    obtain ⟨⟨x0, x1, x2⟩, -⟩ := three (FU.out _ G4.out).2.1
    clear hB2 hwf hln
    simp only []
    go_wp2_with fail
    refine Calls.mono CR.out ?_
    rintro e w5 hr
    obtain ⟨k1, n1, d1, a3, l3, c3, bs3, he, hg, -, -⟩ := hr.out
    subst he
    have ga := World.grownBy_alloc w5 (.cells #[.int .i64 k1, .int .i64 n1, .slice a3 l3 c3] 25) none
    have G5 : Hid (W0.grownBy (w5.alloc (.cells #[.int .i64 k1, .int .i64 n1, .slice a3 l3 c3] 25)) none ∧ w4.grownBy (w5.alloc (.cells #[.int .i64 k1, .int .i64 n1, .slice a3 l3 c3] 25)) none) := ⟨grown_trans (grown_trans G4.out hg) ga, grown_trans hg ga⟩
    clear CR hr hg ga x0 x1 x2
    cases hwo : wOk L' k n d 10 60 with
    | false =>
      have HV : Hid (uniV f (k, n, d) (k', n', d') = none) := by show _ = _; rw [HW0.out.2 L' rfl]; simp [hwo]
      clear hwo
      simp only []
      go_wp2
      go_ret2
      rw [HV.out]
      exact ⟨(FU.out _ G5.out.1).1, rfl⟩
    | true =>
      have HV : Hid (uniV f (k, n, d) (k', n', d') = some L') := by show _ = _; rw [HW0.out.2 L' rfl]; simp [hwo]
      have CL : Hid _ := listT W0.heap.size p m oa' oc' L' (w5.alloc (.cells #[.int .i64 k1, .int .i64 n1, .slice a3 l3 c3] 25)) HB2.out.2 (HB2.out.1.none G5.out.2)
      clear hwo
      simp only []
      go_wp2_with fail
      refine Calls.mono CL.out ?_
      rintro e w6 ⟨a6, c6, bs6, rfl, hN, hg, hna⟩
      have HE : Hid (NewB (w5.alloc (.cells #[.int .i64 k1, .int .i64 n1, .slice a3 l3 c3] 25)) w6 25 44 a6 L'.len c6 L' bs6 ∧ w.grownBy w6 none ∧ (c6 = 0 → a6 = none) ∧ w.heap.size ≤ (w5.alloc (.cells #[.int .i64 k1, .int .i64 n1, .slice a3 l3 c3] 25)).heap.size) := ⟨hN, grown_trans (FU.out _ G5.out.1).1 hg, hna, (FU.out _ G5.out.1).1.size⟩
      clear CL hN hg hna
      simp only []
      go_wp2
      go_ret2
      rw [HV.out]
      exact ⟨HE.out.2.1, a6, c6, bs6, rfl, ⟨HE.out.1.1, HE.out.1.2.1, fun x hx => Nat.le_trans HE.out.2.2.2 (HE.out.1.2.2 x hx)⟩, HE.out.2.2.1⟩
end Go.Proofs.Ytmlganaiajhjeaa.By
