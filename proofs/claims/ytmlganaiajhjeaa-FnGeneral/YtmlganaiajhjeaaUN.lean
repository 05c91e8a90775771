/-
  The program's own way to make two trees alike, by its contract. No statement is proved here.
-/
import Derived.Test.YtmlganaiajhjeaaUQ
import Derived.Test.YtmlganaiajhjeaaUV
namespace Go.Proofs.Ytmlganaiajhjeaa.By
open Go.RowKit
set_option linter.unusedVariables false
set_option linter.unusedSimpArgs false

/-- What making alike answers. -/
def AlA (B0 : Nat) (w : World) (p m : Nat) (R : Option B) (e : Ending) (u : World) : Prop :=
  FrS B0 w u ∧ match R with
    | none => e = .returned (.bool false)
    | some L' => e = .returned (.bool true) ∧ ∃ oa' oc', BS B0 u p m oa' oc' L'
/-- One form for what was resolved. -/
theorem RsA.out {w u : World} {ok : Bool} {r : Int × Int × F} {e : Ending} (h : RsA w ok r e u) : ∃ (k1 n1 : Int) (d1 : F) (a1 : Option Addr) (l1 c1 : Nat) (bs : List Nat), e = .returned (.tuple #[.agg #[.int .i64 k1, .int .i64 n1, .slice a1 l1 c1], .bool ok]) ∧ w.grownBy u none ∧ New w u 25 a1 l1 c1 d1 bs ∧ (ok = true → r = (k1, n1, d1)) := by
  obtain ⟨hg, he⟩ := h
  cases ok with
  | false =>
    simp only [Bool.false_eq_true, if_false] at he
    exact ⟨0, 0, .nil, none, 0, 0, [], he, hg, New.nil _ _ _, fun e => by cases e⟩
  | true =>
    rw [if_pos rfl] at he
    obtain ⟨a', c', bs, he, hN, _⟩ := he
    obtain ⟨rk, rn, rd⟩ := r
    exact ⟨rk, rn, rd, a', _, c', bs, he, hg, hN, fun _ => rfl⟩
theorem any_bad {L : B} {v : Int} {t : Int × Int × F} (h : ∀ x ∈ L.dom, x ∉ vTt t) : (vT t.1 t.2.1 t.2.2).any (badX L v) = decide (v ∈ vTt t) := by
  rw [Bool.eq_iff_iff, List.any_eq_true, decide_eq_true_eq]
  constructor
  · rintro ⟨x, hx, hb⟩
    simp only [badX, Bool.or_eq_true, decide_eq_true_eq] at hb
    rcases hb with rfl | hb
    · exact hx
    · exact absurd hx (h x (List.contains_iff_mem.1 hb))
  · intro hv
    exact ⟨v, hv, by simp [badX]⟩
theorem un_step {s : Nat} {L : B} {a b : Int × Int × F} (R : Option B) (h : un (s + 1) L a b = some R) :
    ((wOk L a.1 a.2.1 a.2.2 10 60 && wOk L b.1 b.2.1 b.2.2 10 60) = false ∧ R = none) ∨
    ((wOk L a.1 a.2.1 a.2.2 10 60 = true ∧ wOk L b.1 b.2.1 b.2.2 10 60 = true) ∧
      ((((rsT L a).1 = 7 ∧ (rsT L b).1 = 7 ∧ (rsT L a).2.1 = (rsT L b).2.1) ∧ R = some L) ∨
       (((rsT L a).1 = 7 ∧ ¬ ((rsT L b).1 = 7 ∧ (rsT L a).2.1 = (rsT L b).2.1)) ∧ R = bindU L (rsT L a).2.1 (rsT L b)) ∨
       ((¬ (rsT L a).1 = 7 ∧ (rsT L b).1 = 7) ∧ R = bindU L (rsT L b).2.1 (rsT L a)) ∨
       ((¬ (rsT L a).1 = 7 ∧ ¬ (rsT L b).1 = 7) ∧ ((((rsT L a).1 = (rsT L b).1 ∧ (rsT L a).2.1 = (rsT L b).2.1 ∧ (rsT L a).2.2.len = (rsT L b).2.2.len) ∧ unL (un s) L (rsT L a).2.2 (rsT L b).2.2 = some R) ∨
         (¬ ((rsT L a).1 = (rsT L b).1 ∧ (rsT L a).2.1 = (rsT L b).2.1 ∧ (rsT L a).2.2.len = (rsT L b).2.2.len) ∧ R = none))))) := by
  rw [un] at h
  split at h
  rotate_left
  · rename_i h1
    injection h with h
    exact .inl ⟨Bool.eq_false_iff.2 h1, h.symm⟩
  rename_i h1
  simp only [Bool.and_eq_true] at h1
  refine .inr ⟨h1, ?_⟩
  split at h
  · rename_i h2
    injection h with h
    exact .inl ⟨h2, h.symm⟩
  rename_i h2
  split at h
  · rename_i h3
    injection h with h
    exact .inr (.inl ⟨⟨h3, fun x => h2 ⟨h3, x⟩⟩, h.symm⟩)
  rename_i h3
  split at h
  · rename_i h4
    injection h with h
    exact .inr (.inr (.inl ⟨⟨h3, h4⟩, h.symm⟩))
  rename_i h4
  split at h
  · rename_i h5
    exact .inr (.inr (.inr ⟨⟨h3, h4⟩, .inl ⟨h5, h⟩⟩))
  · rename_i h5
    injection h with h
    exact .inr (.inr (.inr ⟨⟨h3, h4⟩, .inr ⟨h5, h.symm⟩⟩))

theorem bindU_ans {B0 p m : Nat} {w W u : World} {L : B} {v : Int} {t : Int × Int × F} {e : Ending} (hg : w.grownBy W none) (hB : B0 ≤ w.heap.size) (hx : ∀ x ∈ L.dom, x ∉ vTt t) (he : e = .returned (.bool (!(vT t.1 t.2.1 t.2.2).any (badX L v)))) (hf : FrS B0 W u) (hb : (vT t.1 t.2.1 t.2.2).any (badX L v) = false → ∃ oa' oc', BS B0 u p m oa' oc' (L.app (.cons v t.1 t.2.1 t.2.2 .nil))) : AlA B0 w p m (bindU L v t) e u := by
  refine ⟨(FrS.grown hg hB).trans hf, ?_⟩
  have hab := any_bad (v := v) hx
  rw [hab] at he hb
  unfold bindU
  by_cases hm : v ∈ vTt t
  · rw [if_pos hm]
    rw [decide_eq_true hm] at he
    exact he
  · rw [if_neg hm]
    rw [decide_eq_false hm] at he
    exact ⟨he, hb (decide_eq_false hm)⟩

theorem InD.none' {w u : World} {t : TypeId} {f : F} {b off : Nat} (h : InD w t f b off) (hg : w.grownBy u Option.none) (hb : b < w.heap.size) : InD u t f b off :=
  h.fix (hg.block _ hb (by simp)) fun i cur hc => hg.block i (lt_of_block hc) (by simp)



set_option maxRecDepth 8000 in
set_option maxHeartbeats 8000000 in
theorem alikeT (B0 p m : Nat) (s : Nat) : ∀ (L : B) (oa : Option Addr) (oc : Nat) (d d' : F) (k n k' n' : Int) (a a' : Option Addr) (l c l' c' : Nat) (R : Option B) (w : World), un s L (k, n, d) (k', n', d') = some R → wfB L → gT (k, n, d) → gT (k', n', d') → d.size ≤ 59 → d'.size ≤ 59 → BS B0 w p m oa oc L → SlD w 25 a l d → SlD w 25 a' l' d' →
    Calls Try.prog 55 #[.pointer (some ⟨p, 0, none⟩), .agg #[.int .i64 k, .int .i64 n, .slice a l c], .agg #[.int .i64 k', .int .i64 n', .slice a' l' c']] w fun e u => AlA B0 w p m R e u := by
  induction s with
  | zero => intro L oa oc d d' k n k' n' a a' l c l' c' R w h; cases h
  | succ s ih =>
    intro L oa oc d d' k n k' n' a a' l c l' c' R w hun hL hga hgb hds hds' hBS hS hS'
    have IH : Hid _ := ih
    have HU := un_step R hun
    dsimp only at HU
    have HU : Hid _ := HU
    have HL : Hid (wfB L) := hL
    have hlen := wfB_len hL
    obtain ⟨b0, b1, bsz⟩ := alloc2_blocks w (.cells #[.int .i64 k, .int .i64 n, .slice a l c] 25) (.cells #[.int .i64 k', .int .i64 n', .slice a' l' c'] 25)
    have g0 := grown_alloc (grown_alloc (World.grownBy.refl w none) (.cells #[.int .i64 k, .int .i64 n, .slice a l c] 25)) (.cells #[.int .i64 k', .int .i64 n', .slice a' l' c'] 25)
    have L0 : Hid (w.grownBy _ none ∧ _ = some (Obj.cells #[.int .i64 k, .int .i64 n, .slice a l c] 25) ∧ _ = some (Obj.cells #[.int .i64 k', .int .i64 n', .slice a' l' c'] 25) ∧ _ = w.heap.size + 1 + 1) := ⟨g0, b0, b1, bsz⟩
    have CA : Hid _ := resolveT B0 p m oa oc L hL (by omega) d k n a l c _ (hBS.none g0) (hS.none g0) (by rw [← hS.1]; exact hga.1) hga.2 hds
    have HW : Hid (BS B0 w p m oa oc L ∧ SlD w 25 a l d ∧ SlD w 25 a' l' d' ∧ gT (k, n, d) ∧ gT (k', n', d') ∧ d'.size ≤ 59) := ⟨hBS, hS, hS', hga, hgb, hds'⟩
    have hB0 := hBS.sz
    clear ih hun hL hga hgb hds hds' hBS hS hS' b0 b1 bsz g0
    go_enter Try.func55, Try.ntmps55
    go_wp2_with fail
    generalize (w.alloc (.cells #[.int .i64 k, .int .i64 n, .slice a l c] 25)).alloc (.cells #[.int .i64 k', .int .i64 n', .slice a' l' c'] 25) = W0 at *
    generalize eq : w.heap.size = q at *
    refine Calls.mono CA.out ?_
    intro e u hr
    obtain ⟨k1, n1, d1, a1, l1, c1, bs1, he, hg, hN1, hok1⟩ := hr.out
    subst he
    have e3 := (hg.block _ (lt_of_block L0.out.2.1) (by simp)).trans L0.out.2.1
    have e4 := (hg.block _ (lt_of_block L0.out.2.2.1) (by simp)).trans L0.out.2.2.1
    have fin := fill3 (.int .i64 k1) (.int .i64 n1) (.slice a1 l1 c1) e3
    have hs0 := L0.out.2.2.2
    have H1 : Hid (w.grownBy (((u.setCell ⟨q, 0, none⟩ (.int .i64 k1)).setCell ⟨q, 1, none⟩ (.int .i64 n1)).setCell ⟨q, 2, none⟩ (.slice a1 l1 c1)) none ∧ (((u.setCell ⟨q, 0, none⟩ (.int .i64 k1)).setCell ⟨q, 1, none⟩ (.int .i64 n1)).setCell ⟨q, 2, none⟩ (.slice a1 l1 c1)).heap[q]? = some (Obj.cells #[.int .i64 k1, .int .i64 n1, .slice a1 l1 c1] 25) ∧ (((u.setCell ⟨q, 0, none⟩ (.int .i64 k1)).setCell ⟨q, 1, none⟩ (.int .i64 n1)).setCell ⟨q, 2, none⟩ (.slice a1 l1 c1)).heap[q + 1]? = some (Obj.cells #[.int .i64 k', .int .i64 n', .slice a' l' c'] 25) ∧ SlO (((u.setCell ⟨q, 0, none⟩ (.int .i64 k1)).setCell ⟨q, 1, none⟩ (.int .i64 n1)).setCell ⟨q, 2, none⟩ (.slice a1 l1 c1)) 25 a1 l1 c1 d1 bs1 ∧ (∀ x ∈ bs1, q + 1 < x)) :=
      ⟨grown_into (grown_trans L0.out.1 hg) fin.2 (by omega), fin.1, (fin.2.block _ (lt_of_block e4) (by simp)).trans e4, hN1.1.kept fin.2 (fun x hx e => by have := hN1.2.2 x hx; have h1 : x = q := (by injection e); omega), fun x hx => by have := hN1.2.2 x hx; omega⟩
    have HK1 : Hid (wOk L k n d 10 60 = true → rsT L (k, n, d) = (k1, n1, d1)) := hok1
    obtain ⟨⟨z0, z1, z2⟩, f0, f1, f2⟩ := three e3
    obtain ⟨⟨y0, y1, y2⟩, -⟩ := three e4
    have hqu := lt_of_block e3
    have hq1u := lt_of_block e4
    clear fin e3 e4 hg hN1 hok1 CA L0 hr hs0
    simp only []
    generalize eo1 : wOk L k n d 10 60 = ok1 at *
    have EO1 : Hid (wOk L k n d 10 60 = ok1) := eo1
    clear eo1
    go_wp2_with fail
    generalize (((u.setCell ⟨q, 0, none⟩ (.int .i64 k1)).setCell ⟨q, 1, none⟩ (.int .i64 n1)).setCell ⟨q, 2, none⟩ (.slice a1 l1 c1)) = W1 at *
    clear z0 z1 z2 f0 f1 f2 y0 y1 y2 hqu hq1u
    refine Calls.mono (resolveT B0 p m oa oc L HL.out (by omega) d' k' n' a' l' c' W1 (HW.out.1.none H1.out.1) (HW.out.2.2.1.none H1.out.1) (by rw [← HW.out.2.2.1.1]; exact HW.out.2.2.2.2.1.1) HW.out.2.2.2.2.1.2 HW.out.2.2.2.2.2) ?_
    intro e u2 hr
    obtain ⟨k2, n2, d2, a2, l2, c2, bs2, he, hg, hN2, hok2⟩ := hr.out
    subst he
    have e3 := (hg.block _ (lt_of_block H1.out.2.1) (by simp)).trans H1.out.2.1
    have e4 := (hg.block _ (lt_of_block H1.out.2.2.1) (by simp)).trans H1.out.2.2.1
    have fin := fill3 (.int .i64 k2) (.int .i64 n2) (.slice a2 l2 c2) e4
    have hs1 := lt_of_block H1.out.2.2.1
    have s1 := (H1.out.2.2.2.1.kept hg (by simp)).kept fin.2 (fun x hx e => by have := H1.out.2.2.2.2 x hx; have h1 : x = q + 1 := (by injection e); omega)
    have s2 := hN2.1.kept fin.2 (fun x hx e => by have := hN2.2.2 x hx; have h1 : x = q + 1 := (by injection e); omega)
    have H2 : Hid (w.grownBy (((u2.setCell ⟨q + 1, 0, none⟩ (.int .i64 k2)).setCell ⟨q + 1, 1, none⟩ (.int .i64 n2)).setCell ⟨q + 1, 2, none⟩ (.slice a2 l2 c2)) none ∧ (((u2.setCell ⟨q + 1, 0, none⟩ (.int .i64 k2)).setCell ⟨q + 1, 1, none⟩ (.int .i64 n2)).setCell ⟨q + 1, 2, none⟩ (.slice a2 l2 c2)).heap[q]? = some (Obj.cells #[.int .i64 k1, .int .i64 n1, .slice a1 l1 c1] 25) ∧ (((u2.setCell ⟨q + 1, 0, none⟩ (.int .i64 k2)).setCell ⟨q + 1, 1, none⟩ (.int .i64 n2)).setCell ⟨q + 1, 2, none⟩ (.slice a2 l2 c2)).heap[q + 1]? = some (Obj.cells #[.int .i64 k2, .int .i64 n2, .slice a2 l2 c2] 25) ∧ SlD (((u2.setCell ⟨q + 1, 0, none⟩ (.int .i64 k2)).setCell ⟨q + 1, 1, none⟩ (.int .i64 n2)).setCell ⟨q + 1, 2, none⟩ (.slice a2 l2 c2)) 25 a1 l1 d1 ∧ SlD (((u2.setCell ⟨q + 1, 0, none⟩ (.int .i64 k2)).setCell ⟨q + 1, 1, none⟩ (.int .i64 n2)).setCell ⟨q + 1, 2, none⟩ (.slice a2 l2 c2)) 25 a2 l2 d2) :=
      ⟨grown_into (grown_trans H1.out.1 hg) fin.2 (by omega), (fin.2.block _ (lt_of_block e3) (fun e => by have : q = q + 1 := (by injection e); omega)).trans e3, fin.1, s1.typed, s2.typed⟩
    have HK2 : Hid (wOk L k' n' d' 10 60 = true → rsT L (k', n', d') = (k2, n2, d2)) := hok2
    obtain ⟨⟨z0, z1, z2⟩, -⟩ := three e3
    obtain ⟨⟨y0, y1, y2⟩, f0, f1, f2⟩ := three e4
    have hqu := lt_of_block e3
    have hq1u := lt_of_block e4
    have hl1 := s1.typed.2.1
    have hl2 := s2.typed.2.1
    have hm1 := s1.typed.1
    have hm2 := s2.typed.1
    have HM : Hid (d1.len = l1 ∧ d2.len = l2) := ⟨hm1, hm2⟩
    clear fin e3 e4 hg hN2 hok2 H1 hr hs1 s1 s2 hm1 hm2
    simp only []
    generalize eo2 : wOk L k' n' d' 10 60 = ok2 at *
    have EO2 : Hid (wOk L k' n' d' 10 60 = ok2) := eo2
    clear eo2
    by_cases hoks : ok1 = true ∧ ok2 = true
    rotate_left
    · have hR : R = none := by
        rcases HU.out with h | ⟨⟨h1, h2⟩, -⟩
        · exact h.2
        · exact absurd ⟨h1, h2⟩ hoks
      have HR : Hid (R = none) := hR
      clear hR HU IH HK1 HK2
      have hoks' : (ok1 = false ∧ ok2 = false) ∨ (ok1 = false ∧ ok2 = true) ∨ (ok1 = true ∧ ok2 = false) := by
        revert hoks; cases ok1 <;> cases ok2 <;> simp
      clear hoks
      rcases hoks' with ⟨rfl, rfl⟩ | ⟨rfl, rfl⟩ | ⟨rfl, rfl⟩
      all_goals
        go_wp2
        go_ret
        rw [HR.out]
        exact ⟨FrS.grown H2.out.1 (by omega), rfl⟩
    obtain ⟨rfl, rfl⟩ := hoks
    have r1 := HK1.out rfl
    have r2 := HK2.out rfl
    have o1 : okT k1 n1 d1 = true := by have := wOk_ok (t := (k, n, d)) HL.out HW.out.2.2.2.1 EO1.out; rw [r1] at this; exact this
    have o2 : okT k2 n2 d2 = true := by have := wOk_ok (t := (k', n', d')) HL.out HW.out.2.2.2.2.1 EO2.out; rw [r2] at this; exact this
    have v1 : ∀ x ∈ L.dom, x ∉ vTt (k1, n1, d1) := by have := rsT_vars (t := (k, n, d)) HL.out; rw [r1] at this; exact this
    have v2 : ∀ x ∈ L.dom, x ∉ vTt (k2, n2, d2) := by have := rsT_vars (t := (k', n', d')) HL.out; rw [r2] at this; exact this
    have HO : Hid (okT k1 n1 d1 = true ∧ okT k2 n2 d2 = true ∧ (∀ x ∈ L.dom, x ∉ vTt (k1, n1, d1)) ∧ (∀ x ∈ L.dom, x ∉ vTt (k2, n2, d2))) := ⟨o1, o2, v1, v2⟩
    have HU2 := HU.out
    rw [r1, r2] at HU2
    clear HU HK1 HK2 EO1 EO2 r1 r2 o1 o2 v1 v2
    dsimp only at HU2
    rcases HU2 with ⟨h, -⟩ | ⟨-, HU2⟩
    · cases h
    rcases HU2 with ⟨⟨h71, h72, hnn⟩, hR⟩ | ⟨⟨h71, hne⟩, hR⟩ | ⟨⟨h71, h72⟩, hR⟩ | ⟨⟨h71, h72⟩, HU2⟩
    · have hk1 : (k1 == 7) = true := by simpa using h71
      have hk2 : (k2 == 7) = true := by simpa using h72
      have hn12 : (n1 == n2) = true := by simpa using hnn
      have HR : Hid (R = some L) := hR
      clear h71 h72 hnn hR IH
      go_wp2
      go_ret
      rw [HR.out]
      exact ⟨FrS.grown H2.out.1 (by omega), rfl, oa, oc, HW.out.1.none H2.out.1⟩
    · have hk1 : (k1 == 7) = true := by simpa using h71
      have hvr := okT_var HO.out.1 h71
      have CT : Hid _ := tryT B0 p m oa oc L n1 k2 n2 d2 a2 l2 c2 _ (HW.out.1.none H2.out.1) H2.out.2.2.2.2 (by unfold I64x; omega) (by
        rw [Bool.eq_false_iff]; intro hc; exact HO.out.2.2.1 n1 (List.contains_iff_mem.1 hc) (by simp [vTt, vT, h71])) (by have := okT_size HO.out.2.1; omega) (by have := wfB_len HL.out; omega) (vT_I64 HO.out.2.1)
      have HR : Hid (R = bindU L n1 (k2, n2, d2)) := hR
      have hc2 : (k2 == 7) = false ∨ ((k2 == 7) = true ∧ (n1 == n2) = false) := by
        by_cases h : k2 = 7
        · exact .inr ⟨by simpa using h, by simpa using fun e => hne ⟨h, e⟩⟩
        · exact .inl (by simpa using h)
      clear hR hne IH h71 hvr
      rcases hc2 with hc2 | ⟨hc2, hc3⟩
      all_goals
        go_wp2_with fail
        refine Calls.mono CT.out ?_
        rintro e u3 ⟨rfl, hfr, hbs⟩
        have HF : Hid _ := bindU_ans (v := n1) (t := (k2, n2, d2)) H2.out.1 (by omega) HO.out.2.2.2 rfl hfr hbs
        clear hfr hbs CT
        simp only []
        go_wp2
        go_ret
        rw [HR.out]
        exact HF.out
    · have hk1 : (k1 == 7) = false := by simpa using h71
      have hk2 : (k2 == 7) = true := by simpa using h72
      have hvr := okT_var HO.out.2.1 h72
      have CT : Hid _ := tryT B0 p m oa oc L n2 k1 n1 d1 a1 l1 c1 _ (HW.out.1.none H2.out.1) H2.out.2.2.2.1 (by unfold I64x; omega) (by
        rw [Bool.eq_false_iff]; intro hc; exact HO.out.2.2.2 n2 (List.contains_iff_mem.1 hc) (by simp [vTt, vT, h72])) (by have := okT_size HO.out.1; omega) (by have := wfB_len HL.out; omega) (vT_I64 HO.out.1)
      have HR : Hid (R = bindU L n2 (k1, n1, d1)) := hR
      clear hR IH h71 h72 hvr
      go_wp2_with fail
      refine Calls.mono CT.out ?_
      rintro e u3 ⟨rfl, hfr, hbs⟩
      have HF : Hid _ := bindU_ans (v := n2) (t := (k1, n1, d1)) H2.out.1 (by omega) HO.out.2.2.1 rfl hfr hbs
      clear hfr hbs CT
      simp only []
      go_wp2
      go_ret
      rw [HR.out]
      exact HF.out
    have hk1 : (k1 == 7) = false := by simpa using h71
    have hk2 : (k2 == 7) = false := by simpa using h72
    clear h71 h72
    rcases HU2 with ⟨⟨e1, e2, e3⟩, hR⟩ | ⟨hne, hR⟩
    rotate_left
    · have HR : Hid (R = none) := hR
      by_cases h1 : k1 = k2
      · subst h1
        by_cases h2 : n1 = n2
        · subst h2
          have h3 : ¬ (l1 = l2) := fun e => hne ⟨rfl, rfl, by rw [HM.out.1, HM.out.2]; exact e⟩
          clear hR hne IH
          go_wp2
          go_ret
          rw [HR.out]
          exact ⟨FrS.grown H2.out.1 (by omega), rfl⟩
        · clear hR hne IH
          go_wp2
          go_ret
          rw [HR.out]
          exact ⟨FrS.grown H2.out.1 (by omega), rfl⟩
      · clear hR hne IH
        go_wp2
        go_ret
        rw [HR.out]
        exact ⟨FrS.grown H2.out.1 (by omega), rfl⟩
    subst e1 e2
    have hl12 : l1 = l2 := by rw [← HM.out.1, ← HM.out.2]; exact e3
    have HR : Hid (unL (un s) L d1 d2 = some R) := hR
    clear e3 hR
    subst hl12
    have hz1 := okT_size HO.out.1
    have hz2 := okT_size HO.out.2.1
    have hft := HO.out
    have HG : Hid (fitF d1 = true ∧ fitF d2 = true) := ⟨(gT_ok hft.1).2, (gT_ok hft.2.1).2⟩
    clear hft
    by_cases hl0 : l1 = 0
    · subst hl0
      have hRL : R = some L := by
        have := HR.out
        have hd : d1 = .nil := F.nil_of_len HM.out.1
        rw [hd] at this
        cases d2 <;> (cases this; rfl)
      have HR : Hid (R = some L) := hRL
      clear hRL IH
      go_wp2
      refine wp_loop_rounds 1 ?_
      rw [rounds_succ]
      go_wp2
      go_ret
      rw [HR.out]
      exact ⟨FrS.grown H2.out.1 (by omega), rfl, oa, oc, HW.out.1.none H2.out.1⟩
    obtain ⟨b, o, rfl, ⟨cu1, hcu1⟩, hI1⟩ := H2.out.2.2.2.1.2.2.resolve_left hl0
    obtain ⟨b', o', rfl, ⟨cu2, hcu2⟩, hI2⟩ := H2.out.2.2.2.2.2.2.resolve_left hl0
    have H3 : Hid (InD _ 25 d1 b o ∧ InD _ 25 d2 b' o' ∧ _ = some (Obj.cells cu1 25 (0, 0)) ∧ _ = some (Obj.cells cu2 25 (0, 0))) := ⟨hI1, hI2, hcu1, hcu2⟩
    clear hI1 hI2 hcu1 hcu2
    go_wp2_with fail
    generalize (((u2.setCell ⟨q + 1, 0, none⟩ (.int .i64 k1)).setCell ⟨q + 1, 1, none⟩ (.int .i64 n1)).setCell ⟨q + 1, 2, none⟩ (.slice (some ⟨b', o', none⟩) l1 c2)) = W2 at *
    clear z0 z1 z2 y0 y1 y2 f0 f1 f2 hqu hq1u
    go_loopw [89] (fun i wr => ∃ (j : Nat) (D E : F) (Lj : B) (oa' : Option Addr) (oc' : Nat), j ≤ l1 ∧ i = .int .i64 j ∧ FrS B0 W2 wr ∧ BS B0 wr p m oa' oc' Lj ∧ wfB Lj ∧ unL (un s) Lj D E = some R ∧ InD wr 25 D b (o + j * 3) ∧ InD wr 25 E b' (o' + j * 3) ∧ (fitF D = true ∧ fitF E = true) ∧ (D.size ≤ 59 ∧ E.size ≤ 59) ∧ D.len + j = l1 ∧ E.len + j = l1) (fun i _ => l1 - (intOf i).toNat)
    case atStart =>
      exact ⟨0, d1, d2, L, oa, oc, Nat.zero_le _, rfl, FrS.refl _ _, HW.out.1.none H2.out.1, HL.out, HR.out, by simpa using H3.out.1, by simpa using H3.out.2.1, HG.out, by omega, by have := HM.out; omega, by have := HM.out; omega⟩
    case round =>
      obtain ⟨j, D, E, Lj, oa', oc', hj, rfl, hF, hB, hLj, hUL, hD, hE, hfit, hsz, hDl, hEl⟩ := hrel
      by_cases hlt : j < l1
      · obtain ⟨q1, hq1⟩ : ∃ q1, D.len = q1 + 1 := ⟨D.len - 1, by omega⟩
        obtain ⟨kk, nn, dd, D1, rfl, hD1⟩ := F.cons_of_len hq1
        obtain ⟨q2, hq2⟩ : ∃ q2, E.len = q2 + 1 := ⟨E.len - 1, by omega⟩
        obtain ⟨kk', nn', ee, E1, rfl, hE1⟩ := F.cons_of_len hq2
        obtain ⟨a3, l3, x3, c0, c1', c2', hd3, hD2⟩ := hD.out
        obtain ⟨a4, l4, x4, e0, e1, e2, hd4, hE2⟩ := hE.out
        have e3 : o + j * 3 + 3 = o + (j + 1) * 3 := by omega
        have e3' : o' + j * 3 + 3 = o' + (j + 1) * 3 := by omega
        rw [e3] at hD2
        rw [e3'] at hE2
        have bq := hF.other _ _ _ _ H2.out.2.2.1 (by decide) (by decide)
        obtain ⟨⟨y0, y1, y2⟩, -⟩ := three bq
        have hq1u := lt_of_block bq
        simp only [unL] at hUL
        cases hgg : un s Lj (kk, nn, dd) (kk', nn', ee) with
        | none => rw [hgg] at hUL; cases hUL
        | some R1 =>
        rw [hgg] at hUL
        have ga := grown_drew (World.grownBy_alloc wr (.cells #[.int .i64 kk, .int .i64 nn, .slice a3 l3 x3] 25) none)
        have bn : (wr.alloc (.cells #[.int .i64 kk, .int .i64 nn, .slice a3 l3 x3] 25)).drew.heap[wr.heap.size]? = some (Obj.cells #[.int .i64 kk, .int .i64 nn, .slice a3 l3 x3] 25) := heap_alloc_new wr _
        have bc := hF.other _ _ _ _ H3.out.2.2.2 (by decide) (by decide)
        simp only [fitF, Bool.and_eq_true] at hfit
        simp only [F.size] at hsz
        simp only [F.len] at hDl hEl
        have CC : Hid _ := IH.out Lj oa' oc' dd ee kk nn kk' nn' a3 a4 l3 x3 l4 x4 R1 _ hgg hLj ⟨hfit.1.1, hfit.1.2.1⟩ ⟨hfit.2.1, hfit.2.2.1⟩ (by omega) (by omega) (hB.none ga) (hd3.none ga) (hd4.none ga)
        have HD : Hid (FrS B0 W2 (wr.alloc (.cells #[.int .i64 kk, .int .i64 nn, .slice a3 l3 x3] 25)).drew ∧ InD (wr.alloc (.cells #[.int .i64 kk, .int .i64 nn, .slice a3 l3 x3] 25)).drew 25 D1 b (o + (j + 1) * 3) ∧ InD (wr.alloc (.cells #[.int .i64 kk, .int .i64 nn, .slice a3 l3 x3] 25)).drew 25 E1 b' (o' + (j + 1) * 3)) :=
          ⟨hF.trans (FrS.grown ga hB.sz), hD2.none' ga (lt_of_block (hF.other _ _ _ _ H3.out.2.2.1 (by decide) (by decide))), hE2.none' ga (lt_of_block bc)⟩
        have HV : Hid (∀ u, FrS B0 (wr.alloc (.cells #[.int .i64 kk, .int .i64 nn, .slice a3 l3 x3] 25)).drew u → (Tri wr.heap.size 0 (.int .i64 kk) (.int .i64 nn) (.slice a3 l3 x3) u ∧ u.cell? ⟨q + 1, 2, none⟩ = some (.slice (some ⟨b', o', none⟩) l1 c2) ∧ Tri b' (o' + j * 3) (.int .i64 kk') (.int .i64 nn') (.slice a4 l4 x4) u)) := by
          intro u hu
          have g1 := (hu.other _ _ _ _ bn (by decide) (by decide))
          have g2 := (hu.other _ _ _ _ ((ga.block _ (lt_of_block bq) (by simp)).trans bq) (by decide) (by decide))
          have g3 := (hu.other _ _ _ _ ((ga.block _ (lt_of_block bc) (by simp)).trans bc) (by decide) (by decide)).trans bc.symm
          exact ⟨(three g1).1, (three g2).1.2.2, (cell_of_heap g3).trans e0, (cell_of_heap g3).trans e1, (cell_of_heap g3).trans e2⟩
        have HU3 : Hid (((R1 = none → R = none) ∧ (∀ L', R1 = some L' → unL (un s) L' D1 E1 = some R)) ∧ (fitF D1 = true ∧ fitF E1 = true) ∧ (∀ L', R1 = some L' → wfB L')) := ⟨⟨fun e => (by rw [e] at hUL; injection hUL with h; exact h.symm), fun L' e => (by rw [e] at hUL; exact hUL)⟩, ⟨hfit.1.2.2, hfit.2.2.2⟩, fun L' e => (un_wf s Lj _ _ L' hLj ⟨hfit.1.1, hfit.1.2.1⟩ ⟨hfit.2.1, hfit.2.2.1⟩ (by rw [hgg, e])).1⟩
        clear hgg hUL ga bn bc hfit hd3 hd4 hD hE hD2 hE2 hF hB hLj bq e0 e1 e2 IH
        go_wp2_with fail
        refine wp_region_held_drew (S := (fun u => Tri wr.heap.size 0 (.int .i64 kk) (.int .i64 nn) (.slice a3 l3 x3) u ∧ u.cell? ⟨q + 1, 2, none⟩ = some (.slice (some ⟨b', o', none⟩) l1 c2) ∧ Tri b' (o' + j * 3) (.int .i64 kk') (.int .i64 nn') (.slice a4 l4 x4) u)) (by kernel_rfl) (HV.out _ (FrS.refl _ _)) (fun hH => ?_)
        generalize (wr.alloc (.cells #[.int .i64 kk, .int .i64 nn, .slice a3 l3 x3] 25)).drew = t0 at *
        generalize wr.heap.size = qn at *
        simp only [List.size_toArray, List.length_cons, List.length_nil, Nat.reduceAdd, Array.replicate, List.replicate]
        refine wpAnyH_take (i := 0) (v := ?_) rfl (by kernel_rfl) (by kernel_rfl) (by kernel_rfl) (fun _ _ _ h => h) (Or.inl ⟨by rfl, ?_⟩) hH ?_
        rotate_left
        · (intro v hS; obtain ⟨⟨s0, s1, s2⟩, s3, t0', t1, t2⟩ := hS; go_simp; try with_reducible rfl)
        simp only [Act.put, List.setIfInBounds_toArray, List.set_cons_zero, List.set_cons_succ, List.getElem_toArray, List.getElem_cons_succ, List.getElem_cons_zero]
        refine wpAnyH_take (i := 1) (v := ?_) rfl (by kernel_rfl) (by kernel_rfl) (by kernel_rfl) (fun _ _ _ h => h) (Or.inl ⟨by rfl, ?_⟩) hH ?_
        rotate_left
        · (intro v hS; obtain ⟨⟨s0, s1, s2⟩, s3, t0', t1, t2⟩ := hS; go_simp; try with_reducible rfl)
        simp only [Act.put, List.setIfInBounds_toArray, List.set_cons_zero, List.set_cons_succ, List.getElem_toArray, List.getElem_cons_succ, List.getElem_cons_zero]
        refine wpAnyH_take (i := 2) (v := ?_) rfl (by kernel_rfl) (by kernel_rfl) (by kernel_rfl) (fun _ _ _ h => h) (Or.inl ⟨by rfl, ?_⟩) hH ?_
        rotate_left
        · (intro v hS; obtain ⟨⟨s0, s1, s2⟩, s3, t0', t1, t2⟩ := hS; go_simp; try with_reducible rfl)
        simp only [Act.put, List.setIfInBounds_toArray, List.set_cons_zero, List.set_cons_succ, List.getElem_toArray, List.getElem_cons_succ, List.getElem_cons_zero]
        refine wpAnyH_take (i := 3) (v := ?_) rfl (by kernel_rfl) (by kernel_rfl) (by kernel_rfl) (fun _ _ _ h => h) (Or.inl ⟨by rfl, ?_⟩) hH ?_
        rotate_left
        · (intro v hS; obtain ⟨⟨s0, s1, s2⟩, s3, t0', t1, t2⟩ := hS; go_simp; try with_reducible rfl)
        simp only [Act.put, List.setIfInBounds_toArray, List.set_cons_zero, List.set_cons_succ, List.getElem_toArray, List.getElem_cons_succ, List.getElem_cons_zero]
        refine wpAnyH_take (i := 4) (v := ?_) rfl (by kernel_rfl) (by kernel_rfl) (by kernel_rfl) (fun _ _ _ h => h) (Or.inl ⟨by rfl, ?_⟩) hH ?_
        rotate_left
        · (intro v hS; obtain ⟨⟨s0, s1, s2⟩, s3, t0', t1, t2⟩ := hS; go_simp; try with_reducible rfl)
        simp only [Act.put, List.setIfInBounds_toArray, List.set_cons_zero, List.set_cons_succ, List.getElem_toArray, List.getElem_cons_succ, List.getElem_cons_zero]
        refine wpAnyH_take (i := 5) (v := ?_) rfl (by kernel_rfl) (by kernel_rfl) (by kernel_rfl) (fun _ _ _ h => h) (Or.inl ⟨by rfl, ?_⟩) hH ?_
        rotate_left
        · (intro v hS; obtain ⟨⟨s0, s1, s2⟩, s3, t0', t1, t2⟩ := hS; go_simp; try with_reducible rfl)
        simp only [Act.put, List.setIfInBounds_toArray, List.set_cons_zero, List.set_cons_succ, List.getElem_toArray, List.getElem_cons_succ, List.getElem_cons_zero]
        refine wpAnyH_take (i := 6) (v := ?_) rfl (by kernel_rfl) (by kernel_rfl) (by kernel_rfl) (fun _ _ _ h => h) (Or.inl ⟨by rfl, ?_⟩) hH ?_
        rotate_left
        · (intro v hS; obtain ⟨⟨s0, s1, s2⟩, s3, t0', t1, t2⟩ := hS; go_simp; try with_reducible rfl)
        simp only [Act.put, List.setIfInBounds_toArray, List.set_cons_zero, List.set_cons_succ, List.getElem_toArray, List.getElem_cons_succ, List.getElem_cons_zero]
        refine wpAnyH_ready (rs := [7]) (by kernel_rfl) (by simp) ?_
        refine AllReadyH.cons rfl (fun K hK => ?_) AllReadyH.nil
        go_simp
        refine Calls.mono CC.out ?_
        rintro e u3 ⟨hfu, he⟩
        cases R1 with
        | none =>
          simp only [] at he
          subst he
          refine hK.out _ _ (HV.out _ hfu) (fun hH2 => ?_)
          have HR2 : Hid (R = none) := HU3.out.1.1 rfl
          have HF2 : Hid (FrS B0 W2 u3) := HD.out.1.trans hfu
          clear HU3 hfu CC HD HV
          clear hK K hH
          have hH := hH2
          clear hH2
          simp only [Act.put, List.setIfInBounds_toArray, List.set_cons_zero, List.set_cons_succ, List.getElem_toArray, List.getElem_cons_succ, List.getElem_cons_zero]
          refine wpAnyH_take (i := 8) (v := ?_) rfl (by kernel_rfl) (by kernel_rfl) (by kernel_rfl) (fun _ _ _ h => h) (Or.inl ⟨by rfl, ?_⟩) hH ?_
          rotate_left
          · (intro v hS; go_simp; try with_reducible rfl)
          simp only [Act.put, List.setIfInBounds_toArray, List.set_cons_zero, List.set_cons_succ, List.getElem_toArray, List.getElem_cons_succ, List.getElem_cons_zero]
          refine wpAnyH_done (by kernel_rfl) ?_ _
          go_wp2
          go_ret
          rw [HR2.out]
          exact ⟨(FrS.grown H2.out.1 (by omega)).trans HF2.out, rfl⟩
        | some L' =>
          simp only [] at he
          obtain ⟨he, oa'', oc'', hB2⟩ := he
          subst he
          refine hK.out _ _ (HV.out _ hfu) (fun hH2 => ?_)
          have bcw := HD.out.1.other _ _ _ _ H3.out.2.2.2 (by decide) (by decide)
          have bcv := HD.out.1.other _ _ _ _ H3.out.2.2.1 (by decide) (by decide)
          have HN : Hid (FrS B0 W2 u3 ∧ BS B0 u3 p m oa'' oc'' L' ∧ wfB L' ∧ unL (un s) L' D1 E1 = some R ∧ InD u3 25 D1 b (o + (j + 1) * 3) ∧ InD u3 25 E1 b' (o' + (j + 1) * 3) ∧ (fitF D1 = true ∧ fitF E1 = true)) :=
            ⟨HD.out.1.trans hfu, hB2, HU3.out.2.2 _ rfl, HU3.out.1.2 _ rfl, HD.out.2.1.fix (hfu.ty (by decide) (by decide) _ _ bcv) (hfu.ty (by decide) (by decide)), HD.out.2.2.fix (hfu.ty (by decide) (by decide) _ _ bcw) (hfu.ty (by decide) (by decide)), HU3.out.2.1⟩
          clear HU3 hfu CC HD HV bcw bcv hB2
          clear hK K hH
          have hH := hH2
          clear hH2
          simp only [Act.put, List.setIfInBounds_toArray, List.set_cons_zero, List.set_cons_succ, List.getElem_toArray, List.getElem_cons_succ, List.getElem_cons_zero]
          refine wpAnyH_take (i := 8) (v := ?_) rfl (by kernel_rfl) (by kernel_rfl) (by kernel_rfl) (fun _ _ _ h => h) (Or.inl ⟨by rfl, ?_⟩) hH ?_
          rotate_left
          · (intro v hS; go_simp; try with_reducible rfl)
          simp only [Act.put, List.setIfInBounds_toArray, List.set_cons_zero, List.set_cons_succ, List.getElem_toArray, List.getElem_cons_succ, List.getElem_cons_zero]
          refine wpAnyH_done (by kernel_rfl) ?_ _
          go_wp2
          go_roundw
          case rel => exact ⟨j + 1, D1, E1, L', oa'', oc'', by omega, by go_num, HN.out.1, HN.out.2.1, HN.out.2.2.1, HN.out.2.2.2.1, HN.out.2.2.2.2.1, HN.out.2.2.2.2.2.1, HN.out.2.2.2.2.2.2, by omega, by omega, by omega⟩
          case measure => simp [intOf]; omega
      · obtain rfl : j = l1 := by omega
        have hRL : R = some Lj := by
          have hd0 : D = .nil := F.nil_of_len (by omega)
          rw [hd0] at hUL
          cases E <;> (cases hUL; rfl)
        have HR2 : Hid (R = some Lj) := hRL
        clear hRL IH
        go_wp2
        go_ret
        rw [HR2.out]
        exact ⟨(FrS.grown H2.out.1 (by omega)).trans hF, rfl, oa', oc', hB⟩
end Go.Proofs.Ytmlganaiajhjeaa.By
