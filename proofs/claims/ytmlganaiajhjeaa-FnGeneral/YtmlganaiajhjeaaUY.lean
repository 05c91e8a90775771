/-
  The specification's way to make two trees alike, by its contract. No statement is proved here.
-/
import Derived.Test.YtmlganaiajhjeaaUN
import Derived.Test.YtmlganaiajhjeaaUX
import Derived.Test.YtmlganaiajhjeaaUL
namespace Go.Proofs.Ytmlganaiajhjeaa.By
open Go.RowKit
set_option linter.unusedVariables false
set_option linter.unusedSimpArgs false

/-- What making alike answers: the list is our own. -/
def LuA (w : World) (bs : List Nat) (R : Option B) (e : Ending) (u : World) : Prop :=
  Tn w u bs ∧ match R with
    | none => e = .returned (.tuple #[.slice none 0 0, .bool false])
    | some L' => ∃ a c bs', e = .returned (.tuple #[.slice a L'.len c, .bool true]) ∧ SlOB u 25 44 a L'.len c L' bs' ∧ bs'.Nodup ∧ (∀ x ∈ bs', x ∈ bs ∨ w.heap.size ≤ x) ∧ (c = 0 → a = none)
/-- One form for what was resolved. -/
theorem RgA.out {w u : World} {ok : Bool} {r : Int × Int × F} {e : Ending} (h : RgA w ok r e u) : ∃ (k1 n1 z : Int) (d1 : F) (a1 : Option Addr) (l1 c1 : Nat) (bs : List Nat), e = .returned (.tuple #[.agg #[.int .i64 k1, .int .i64 n1, .slice a1 l1 c1], .int .i64 z]) ∧ w.grownBy u none ∧ New w u 25 a1 l1 c1 d1 bs ∧ (ok = true → ¬ (z < 0) ∧ r = (k1, n1, d1)) ∧ (ok = false → z < 0) := by
  obtain ⟨hg, he⟩ := h
  cases ok with
  | false =>
    simp only [Bool.false_eq_true, if_false] at he
    exact ⟨0, 0, -1, .nil, none, 0, 0, [], he, hg, New.nil _ _ _, ⟨fun e => (by cases e), fun _ => (by omega)⟩⟩
  | true =>
    rw [if_pos rfl] at he
    obtain ⟨a', c', bs, he, hN, _⟩ := he
    obtain ⟨rk, rn, rd⟩ := r
    exact ⟨rk, rn, _, rd, a', _, c', bs, he, hg, hN, ⟨fun _ => ⟨(by omega), rfl⟩, fun e => (by cases e)⟩⟩

theorem Tn.comp {a b c : World} {bs bs' : List Nat} (h : Tn a b bs) (k : Tn b c bs') (hb : ∀ x ∈ bs', x ∈ bs ∨ a.heap.size ≤ x) : Tn a c bs :=
  ⟨k.os.trans h.os, k.tape.trans h.tape, k.output.trans h.output, Nat.le_trans h.size k.size, fun i hi hn => (k.block i (Nat.lt_of_lt_of_le hi h.size) (fun hx => (hb i hx).elim hn (fun hh => by omega))).trans (h.block i hi hn)⟩
theorem nth_mid {k n : Int} {d r : F} : ∀ {P : F}, (P.app (.cons k n d r)).nth P.len = some (k, n, d) := by
  intro P
  induction P with
  | nil => rfl
  | cons a b c r' _ ih => simp only [F.app, F.len]; first | exact ih | (rw [Nat.add_comm]; exact ih)



set_option maxRecDepth 8000 in
set_option maxHeartbeats 3000000 in
theorem l4unifyT (s : Nat) : ∀ (L : B) (al : Option Addr) (cl : Nat) (bs : List Nat) (d d' : F) (k n k' n' : Int) (a a' : Option Addr) (l c l' c' : Nat) (R : Option B) (w : World), un s L (k, n, d) (k', n', d') = some R → wfB L → gT (k, n, d) → gT (k', n', d') → d.size ≤ 59 → d'.size ≤ 59 → SlOB w 25 44 al L.len cl L bs → bs.Nodup → (cl = 0 → al = none) → SlF w a l d → SlF w a' l' d' →
    Calls Try.prog 61 #[.slice al L.len cl, .agg #[.int .i64 k, .int .i64 n, .slice a l c], .agg #[.int .i64 k', .int .i64 n', .slice a' l' c']] w fun e u => LuA w bs R e u := by
  induction s with
  | zero => intro L al cl bs d d' k n k' n' a a' l c l' c' R w h; cases h
  | succ s ih =>
    intro L al cl bs d d' k n k' n' a a' l c l' c' R w hun hL hga hgb hds hds' hO hnd hna hS hS'
    have IH : Hid _ := ih
    have HU := un_step R hun
    dsimp only at HU
    have HU : Hid _ := HU
    have HL : Hid (wfB L) := hL
    have hlen := wfB_len hL
    obtain ⟨b0, b1, bsz⟩ := alloc2_blocks w (.cells #[.int .i64 k, .int .i64 n, .slice a l c] 25) (.cells #[.int .i64 k', .int .i64 n', .slice a' l' c'] 25)
    have g0 := grown_alloc (grown_alloc (World.grownBy.refl w none) (.cells #[.int .i64 k, .int .i64 n, .slice a l c] 25)) (.cells #[.int .i64 k', .int .i64 n', .slice a' l' c'] 25)
    have L0 : Hid (w.grownBy _ none ∧ _ = some (Obj.cells #[.int .i64 k, .int .i64 n, .slice a l c] 25) ∧ _ = some (Obj.cells #[.int .i64 k', .int .i64 n', .slice a' l' c'] 25) ∧ _ = w.heap.size + 1 + 1) := ⟨g0, b0, b1, bsz⟩
    have CA := l4goT L hL (by omega) 10 d k n a l c al L.len cl _ (by omega) (hO.old g0).reads (hS.none g0) (by rw [← hS.1]; exact hga.1) hga.2 hds
    have e1 : (11 : Int) - ((10 : Nat) : Int) = 1 := by omega
    rw [e1] at CA
    have CA : Hid _ := CA
    have HW : Hid (SlOB w 25 44 al L.len cl L bs ∧ SlF w a l d ∧ SlF w a' l' d' ∧ gT (k, n, d) ∧ gT (k', n', d') ∧ d'.size ≤ 59 ∧ bs.Nodup ∧ (cl = 0 → al = none)) := ⟨hO, hS, hS', hga, hgb, hds', hnd, hna⟩
    clear ih hun hL hga hgb hds hds' hO hnd hna hS hS' b0 b1 bsz g0 e1
    go_enter Try.func61, Try.ntmps61
    go_wp2_with fail
    generalize (w.alloc (.cells #[.int .i64 k, .int .i64 n, .slice a l c] 25)).alloc (.cells #[.int .i64 k', .int .i64 n', .slice a' l' c'] 25) = W0 at *
    generalize eq : w.heap.size = q at *
    refine Calls.mono CA.out ?_
    intro e u hr
    obtain ⟨k1, n1, z1, d1, a1, l1, c1, bs1, he, hg, hN1, hok1, hno1⟩ := hr.out
    subst he
    have e3 := (hg.block _ (lt_of_block L0.out.2.1) (by simp)).trans L0.out.2.1
    have e4 := (hg.block _ (lt_of_block L0.out.2.2.1) (by simp)).trans L0.out.2.2.1
    have fin := fill3 (.int .i64 k1) (.int .i64 n1) (.slice a1 l1 c1) e3
    have hs0 := L0.out.2.2.2
    have H1 : Hid (w.grownBy (((u.setCell ⟨q, 0, none⟩ (.int .i64 k1)).setCell ⟨q, 1, none⟩ (.int .i64 n1)).setCell ⟨q, 2, none⟩ (.slice a1 l1 c1)) none ∧ (((u.setCell ⟨q, 0, none⟩ (.int .i64 k1)).setCell ⟨q, 1, none⟩ (.int .i64 n1)).setCell ⟨q, 2, none⟩ (.slice a1 l1 c1)).heap[q]? = some (Obj.cells #[.int .i64 k1, .int .i64 n1, .slice a1 l1 c1] 25) ∧ (((u.setCell ⟨q, 0, none⟩ (.int .i64 k1)).setCell ⟨q, 1, none⟩ (.int .i64 n1)).setCell ⟨q, 2, none⟩ (.slice a1 l1 c1)).heap[q + 1]? = some (Obj.cells #[.int .i64 k', .int .i64 n', .slice a' l' c'] 25) ∧ SlO (((u.setCell ⟨q, 0, none⟩ (.int .i64 k1)).setCell ⟨q, 1, none⟩ (.int .i64 n1)).setCell ⟨q, 2, none⟩ (.slice a1 l1 c1)) 25 a1 l1 c1 d1 bs1 ∧ (∀ x ∈ bs1, q + 1 < x)) :=
      ⟨grown_into (grown_trans L0.out.1 hg) fin.2 (by omega), fin.1, (fin.2.block _ (lt_of_block e4) (by simp)).trans e4, hN1.1.kept fin.2 (fun x hx e => by have := hN1.2.2 x hx; have h1 : x = q := (by injection e); omega), fun x hx => by have := hN1.2.2 x hx; omega⟩
    obtain ⟨⟨z0', z1', z2'⟩, f0, f1, f2⟩ := three e3
    obtain ⟨⟨y0, y1, y2⟩, -⟩ := three e4
    have hqu := lt_of_block e3
    have hq1u := lt_of_block e4
    have HK1 : Hid ((wOk L k n d 10 60 = true → ¬ (z1 < 0) ∧ rsT L (k, n, d) = (k1, n1, d1)) ∧ (wOk L k n d 10 60 = false → z1 < 0)) := ⟨hok1, hno1⟩
    clear fin e3 e4 hg hN1 hok1 hno1 CA L0 hr hs0
    simp only []
    go_wp2_with fail
    generalize (((u.setCell ⟨q, 0, none⟩ (.int .i64 k1)).setCell ⟨q, 1, none⟩ (.int .i64 n1)).setCell ⟨q, 2, none⟩ (.slice a1 l1 c1)) = W1 at *
    clear z0' z1' z2' f0 f1 f2 y0 y1 y2 hqu hq1u
    have CB := l4goT L HL.out (by omega) 10 d' k' n' a' l' c' al L.len cl W1 (by omega) (HW.out.1.old H1.out.1).reads (HW.out.2.2.1.none H1.out.1) (by rw [← HW.out.2.2.1.1]; exact HW.out.2.2.2.2.1.1) HW.out.2.2.2.2.1.2 HW.out.2.2.2.2.2.1
    have e1 : (11 : Int) - ((10 : Nat) : Int) = 1 := by omega
    rw [e1] at CB
    refine Calls.mono CB ?_
    clear CB e1
    intro e u2 hr
    obtain ⟨k2, n2, z2, d2, a2, l2, c2, bs2, he, hg, hN2, hok2, hno2⟩ := hr.out
    subst he
    have e3 := (hg.block _ (lt_of_block H1.out.2.1) (by simp)).trans H1.out.2.1
    have e4 := (hg.block _ (lt_of_block H1.out.2.2.1) (by simp)).trans H1.out.2.2.1
    have fin := fill3 (.int .i64 k2) (.int .i64 n2) (.slice a2 l2 c2) e4
    have hs1 := lt_of_block H1.out.2.2.1
    have s1 := (H1.out.2.2.2.1.kept hg (by simp)).kept fin.2 (fun x hx e => by have := H1.out.2.2.2.2 x hx; have h1 : x = q + 1 := (by injection e); omega)
    have s2 := hN2.1.kept fin.2 (fun x hx e => by have := hN2.2.2 x hx; have h1 : x = q + 1 := (by injection e); omega)
    have H2 : Hid (w.grownBy (((u2.setCell ⟨q + 1, 0, none⟩ (.int .i64 k2)).setCell ⟨q + 1, 1, none⟩ (.int .i64 n2)).setCell ⟨q + 1, 2, none⟩ (.slice a2 l2 c2)) none ∧ (((u2.setCell ⟨q + 1, 0, none⟩ (.int .i64 k2)).setCell ⟨q + 1, 1, none⟩ (.int .i64 n2)).setCell ⟨q + 1, 2, none⟩ (.slice a2 l2 c2)).heap[q]? = some (Obj.cells #[.int .i64 k1, .int .i64 n1, .slice a1 l1 c1] 25) ∧ (((u2.setCell ⟨q + 1, 0, none⟩ (.int .i64 k2)).setCell ⟨q + 1, 1, none⟩ (.int .i64 n2)).setCell ⟨q + 1, 2, none⟩ (.slice a2 l2 c2)).heap[q + 1]? = some (Obj.cells #[.int .i64 k2, .int .i64 n2, .slice a2 l2 c2] 25) ∧ SlO (((u2.setCell ⟨q + 1, 0, none⟩ (.int .i64 k2)).setCell ⟨q + 1, 1, none⟩ (.int .i64 n2)).setCell ⟨q + 1, 2, none⟩ (.slice a2 l2 c2)) 25 a1 l1 c1 d1 bs1 ∧ SlO (((u2.setCell ⟨q + 1, 0, none⟩ (.int .i64 k2)).setCell ⟨q + 1, 1, none⟩ (.int .i64 n2)).setCell ⟨q + 1, 2, none⟩ (.slice a2 l2 c2)) 25 a2 l2 c2 d2 bs2 ∧ (∀ x ∈ bs1, q + 1 < x) ∧ (∀ x ∈ bs2, q + 1 < x)) :=
      ⟨grown_into (grown_trans H1.out.1 hg) fin.2 (by omega), (fin.2.block _ (lt_of_block e3) (fun e => by have : q = q + 1 := (by injection e); omega)).trans e3, fin.1, s1, s2, H1.out.2.2.2.2, fun x hx => by have := hN2.2.2 x hx; omega⟩
    obtain ⟨⟨x0, x1, x2⟩, -⟩ := three e3
    obtain ⟨⟨y0, y1, y2⟩, f0, f1, f2⟩ := three e4
    have hqu := lt_of_block e3
    have hq1u := lt_of_block e4
    have hl1 := s1.2.1
    have hl2 := s2.2.1
    have HM : Hid (d1.len = l1 ∧ d2.len = l2) := ⟨s1.1, s2.1⟩
    have HK2 : Hid ((wOk L k' n' d' 10 60 = true → ¬ (z2 < 0) ∧ rsT L (k', n', d') = (k2, n2, d2)) ∧ (wOk L k' n' d' 10 60 = false → z2 < 0)) := ⟨hok2, hno2⟩
    clear fin e3 e4 hg hN2 hok2 hno2 H1 hr hs1 s1 s2
    simp only []
    go_upto_region 3 with fail
    generalize (((u2.setCell ⟨q + 1, 0, none⟩ (.int .i64 k2)).setCell ⟨q + 1, 1, none⟩ (.int .i64 n2)).setCell ⟨q + 1, 2, none⟩ (.slice a2 l2 c2)) = W2 at *
    clear x0 x1 x2 y0 y1 y2 f0 f1 f2 hqu hq1u
    obtain ⟨⟨x0, x1, x2⟩, g0, g1, g2⟩ := three H2.out.2.1
    obtain ⟨⟨y0, y1, y2⟩, f0, f1, f2⟩ := three H2.out.2.2.1
    have hqu := lt_of_block H2.out.2.1
    have hq1u := lt_of_block H2.out.2.2.1
    generalize eo1 : wOk L k n d 10 60 = ok1 at *
    have EO1 : Hid (wOk L k n d 10 60 = ok1) := eo1
    clear eo1
    generalize eo2 : wOk L k' n' d' 10 60 = ok2 at *
    have EO2 : Hid (wOk L k' n' d' 10 60 = ok2) := eo2
    clear eo2
    by_cases hoks : ok1 = true ∧ ok2 = true
    rotate_left
    · have hR : R = none := by
        rcases HU.out with h | ⟨⟨h1, h2⟩, -⟩
        · exact h.2
        · exact absurd ⟨h1, h2⟩ hoks
      have HR : Hid (R = none) := hR
      have hzz : (z1 < 0) ∨ (¬ (z1 < 0) ∧ z2 < 0) := by
        by_cases h1 : ok1 = true
        · have h2 : ok2 = false := by cases ok2 with | false => rfl | true => exact absurd ⟨h1, rfl⟩ hoks
          exact .inr ⟨(by have := (HK1.out.1 h1).1; omega), HK2.out.2 h2⟩
        · exact .inl (HK1.out.2 (Bool.eq_false_iff.2 h1))
      clear hR HU IH HK1 HK2 hoks
      rcases hzz with hzz | ⟨hzz, hzy⟩
      all_goals
        go_wp2
        go_ret2
        rw [HR.out]
        exact ⟨Tn.grown H2.out.1 _, rfl⟩
    obtain ⟨rfl, rfl⟩ := hoks
    obtain ⟨hz1, r1⟩ := HK1.out.1 rfl
    obtain ⟨hz2, r2⟩ := HK2.out.1 rfl
    have o1 : okT k1 n1 d1 = true := by have := wOk_ok (t := (k, n, d)) HL.out HW.out.2.2.2.1 EO1.out; rw [r1] at this; exact this
    have o2 : okT k2 n2 d2 = true := by have := wOk_ok (t := (k', n', d')) HL.out HW.out.2.2.2.2.1 EO2.out; rw [r2] at this; exact this
    have v1 : ∀ x ∈ L.dom, x ∉ vTt (k1, n1, d1) := by have := rsT_vars (t := (k, n, d)) HL.out; rw [r1] at this; exact this
    have v2 : ∀ x ∈ L.dom, x ∉ vTt (k2, n2, d2) := by have := rsT_vars (t := (k', n', d')) HL.out; rw [r2] at this; exact this
    have HO : Hid (okT k1 n1 d1 = true ∧ okT k2 n2 d2 = true ∧ (∀ x ∈ L.dom, x ∉ vTt (k1, n1, d1)) ∧ (∀ x ∈ L.dom, x ∉ vTt (k2, n2, d2))) := ⟨o1, o2, v1, v2⟩
    have HU2 := HU.out
    rw [r1, r2] at HU2
    clear HU HK1 HK2 EO1 EO2 r1 r2 o1 o2 v1 v2
    dsimp only at HU2
    rcases HU2 with ⟨h, -⟩ | ⟨-, HU2⟩
    · cases h
    rcases HU2 with ⟨⟨h71, h72, hnn⟩, hR⟩ | ⟨⟨h71, hne⟩, hR⟩ | ⟨⟨h71, h72⟩, hR⟩ | ⟨⟨h71, h72⟩, HU2⟩
    · have hk1 : (k1 == 7) = true := by simpa using h71
      have hk2 : (k2 == 7) = true := by simpa using h72
      have hn12 : (n1 == n2) = true := by simpa using hnn
      have HR : Hid (R = some L) := hR
      clear h71 h72 hnn hR IH
      go_wp2
      go_ret2
      rw [HR.out]
      exact ⟨Tn.grown H2.out.1 _, al, cl, bs, rfl, HW.out.1.old H2.out.1, HW.out.2.2.2.2.2.2.1, fun x hx => .inl hx, HW.out.2.2.2.2.2.2.2⟩
    · have hk1 : (k1 == 7) = true := by simpa using h71
      have HR : Hid (R = bindU L n1 (k2, n2, d2)) := hR
      have hc2 : (k2 == 7) = false ∨ ((k2 == 7) = true ∧ (n1 == n2) = false) := by
        by_cases h : k2 = 7
        · exact .inr ⟨by simpa using h, by simpa using fun e => hne ⟨h, e⟩⟩
        · exact .inl (by simpa using h)
      clear hR hne IH
      rcases hc2 with hc2 | ⟨hc2, hc3⟩
      · go_upto_region 9 with fail
        have HX : Hid (w.grownBy W2 none ∧ W2.heap[q]? = some (Obj.cells #[.int .i64 k1, .int .i64 n1, .slice a1 l1 c1] 25) ∧ W2.heap[q + 1]? = some (Obj.cells #[.int .i64 k2, .int .i64 n2, .slice a2 l2 c2] 25) ∧ SlO W2 25 a2 l2 c2 d2 bs2) := ⟨H2.out.1, H2.out.2.1, H2.out.2.2.1, H2.out.2.2.2.2.1⟩
        have hdz := okT_size HO.out.2.1
        have CV : Hid _ := l3varsT W2.heap.size (d2.size + 1) d2 k2 n2 a2 l2 c2 none 0 0 [] W2 (Nat.lt_succ_self _) HX.out.2.2.2.reads (OwI.nil _ _) (Nat.le_refl _) (by simp; omega)
        (try clear g0 g1 g2 f0 f1 f2)
        go_wp2_with fail
        refine Calls.mono CV.out ?_
        rintro e w5 ⟨av, cv, rfl, hg5, hOw⟩
        have hzm : ∀ x, x ∈ insL [] (vT k2 n2 d2) ↔ x ∈ vTt (k2, n2, d2) := fun x => (by rw [insL_mem]; simp [vTt])
        have hzl : (insL [] (vT k2 n2 d2)).length ≤ 1000 := by have h1 := insL_len (vT k2 n2 d2) []; have h2 := vT_len k2 n2 d2; simp at h1; omega
        have b5 := (hg5.block _ (lt_of_block HX.out.2.1) (by simp)).trans HX.out.2.1
        have b6 := (hg5.block _ (lt_of_block HX.out.2.2.1) (by simp)).trans HX.out.2.2.1
        generalize insL [] (vT k2 n2 d2) = zs at *
        have HZ : Hid (∀ x, x ∈ zs ↔ x ∈ vTt (k2, n2, d2)) := hzm
        have H5 : Hid (w.grownBy w5 none ∧ SlO w5 25 a2 l2 c2 d2 _ ∧ ReadsI w5 av zs.length zs ∧ _ = some (Obj.cells _ 25 (0, 0)) ∧ _ = some (Obj.cells _ 25 (0, 0))) := ⟨grown_trans HX.out.1 hg5, HX.out.2.2.2.kept hg5 (by simp), hOw.reads, b5, b6⟩
        clear hzm CV hg5 hOw HX x0 x1 x2 y0 y1 y2 hdz b5 b6
        simp only []
        go_wp2_with fail
        go_loopw [11] (fun i wr => ∃ j : Nat, j ≤ zs.length ∧ i = .int .i64 j ∧ Hid (w5.grownBy wr none ∧ ∀ x ∈ zs.take j, x ≠ n1)) (fun i _ => zs.length - (intOf i).toNat)
        case atStart => exact ⟨0, Nat.zero_le _, rfl, World.grownBy.refl _ _, by simp⟩
        case round =>
          obtain ⟨j, hj, rfl, HQ⟩ := hrel
          have gd := grown_drew HQ.out.1
          by_cases hlt : j < zs.length
          · have hlt' : (j : Int) < zs.length := by omega
            have hr := H5.out.2.2.1.none gd
            rcases hr.2 with h0 | ⟨bv, ov, rfl, hc⟩
            · omega
            have c0 := hc j hlt
            have hmem : zs.getD j 0 ∈ zs := by
              rw [List.getD_eq_getElem?_getD, List.getElem?_eq_getElem hlt]; exact List.getElem_mem hlt
            have HT : Hid (∀ y ∈ zs.take (j + 1), y ∈ zs.take j ∨ y = zs.getD j 0) := fun y hy => by
              rw [List.take_succ_eq_append_getElem hlt] at hy
              rcases List.mem_append.1 hy with h | h
              · exact .inl h
              · exact .inr (by simpa [List.getElem?_eq_getElem hlt] using h)
            generalize zs.getD j 0 = x at *
            have q1 := (three ((gd.block _ (lt_of_block H5.out.2.2.2.1) (by simp)).trans H5.out.2.2.2.1)).1
            have SS : Hid (wr.drew.cell? ⟨bv, ov + j, none⟩ = some (.int .i64 x) ∧ wr.drew.cell? ⟨q, 1, none⟩ = some (.int .i64 n1) ∧ w5.grownBy wr.drew none) := ⟨c0, q1.2.1, gd⟩
            clear c0 hc hr q1 gd
            by_cases hx : x = n1
            · have hxb : (x == n1) = true := by simpa using hx
              have HRN : Hid (R = none) := by
                show _ = _
                rw [HR.out]; unfold bindU; rw [if_pos ((HZ.out _).1 (hx ▸ hmem))]
              clear hx
              go_wp2_with fail
              refine wp_region_held_drew (S := (fun u => u.cell? ⟨bv, ov + j, none⟩ = some (.int .i64 x) ∧ u.cell? ⟨q, 1, none⟩ = some (.int .i64 n1))) (by kernel_rfl) (And.intro SS.out.1 SS.out.2.1) (fun hH => ?_)
              generalize wr.drew = t0 at *
              simp only [List.size_toArray, List.length_cons, List.length_nil, Nat.reduceAdd, Array.replicate, List.replicate]
              refine wpAnyH_take (i := 0) (v := ?_) rfl (by kernel_rfl) (by kernel_rfl) (by kernel_rfl) (fun _ _ _ h => h) (Or.inl ⟨by rfl, ?_⟩) hH ?_
              rotate_left
              · (intro v hS; obtain ⟨s0, s1⟩ := hS; go_simp; try with_reducible rfl)
              simp only [Act.put, List.setIfInBounds_toArray, List.set_cons_zero, List.set_cons_succ, List.getElem_toArray, List.getElem_cons_succ, List.getElem_cons_zero]
              refine wpAnyH_take (i := 1) (v := ?_) rfl (by kernel_rfl) (by kernel_rfl) (by kernel_rfl) (fun _ _ _ h => h) (Or.inl ⟨by rfl, ?_⟩) hH ?_
              rotate_left
              · (intro v hS; obtain ⟨s0, s1⟩ := hS; go_simp; try with_reducible rfl)
              simp only [Act.put, List.setIfInBounds_toArray, List.set_cons_zero, List.set_cons_succ, List.getElem_toArray, List.getElem_cons_succ, List.getElem_cons_zero]
              refine wpAnyH_take (i := 2) (v := ?_) rfl (by kernel_rfl) (by kernel_rfl) (by kernel_rfl) (fun _ _ _ h => h) (Or.inl ⟨by rfl, ?_⟩) hH ?_
              rotate_left
              · (intro v hS; obtain ⟨s0, s1⟩ := hS; go_simp; try with_reducible rfl)
              simp only [Act.put, List.setIfInBounds_toArray, List.set_cons_zero, List.set_cons_succ, List.getElem_toArray, List.getElem_cons_succ, List.getElem_cons_zero]
              refine wpAnyH_take (i := 3) (v := ?_) rfl (by kernel_rfl) (by kernel_rfl) (by kernel_rfl) (fun _ _ _ h => h) (Or.inl ⟨by rfl, ?_⟩) hH ?_
              rotate_left
              · (intro v hS; obtain ⟨s0, s1⟩ := hS; go_simp; try with_reducible rfl)
              simp only [Act.put, List.setIfInBounds_toArray, List.set_cons_zero, List.set_cons_succ, List.getElem_toArray, List.getElem_cons_succ, List.getElem_cons_zero]
              refine wpAnyH_take (i := 4) (v := ?_) rfl (by kernel_rfl) (by kernel_rfl) (by kernel_rfl) (fun _ _ _ h => h) (Or.inl ⟨by rfl, ?_⟩) hH ?_
              rotate_left
              · (intro v hS; obtain ⟨s0, s1⟩ := hS; go_simp; try with_reducible rfl)
              simp only [Act.put, List.setIfInBounds_toArray, List.set_cons_zero, List.set_cons_succ, List.getElem_toArray, List.getElem_cons_succ, List.getElem_cons_zero]
              refine wpAnyH_take (i := 5) (v := ?_) rfl (by kernel_rfl) (by kernel_rfl) (by kernel_rfl) (fun _ _ _ h => h) (Or.inl ⟨by rfl, ?_⟩) hH ?_
              rotate_left
              · (intro v hS; obtain ⟨s0, s1⟩ := hS; go_simp; try with_reducible rfl)
              simp only [Act.put, List.setIfInBounds_toArray, List.set_cons_zero, List.set_cons_succ, List.getElem_toArray, List.getElem_cons_succ, List.getElem_cons_zero]
              refine wpAnyH_take (i := 6) (v := ?_) rfl (by kernel_rfl) (by kernel_rfl) (by kernel_rfl) (fun _ _ _ h => h) (Or.inl ⟨by rfl, ?_⟩) hH ?_
              rotate_left
              · (intro v hS; obtain ⟨s0, s1⟩ := hS; go_simp; try with_reducible rfl)
              simp only [Act.put, List.setIfInBounds_toArray, List.set_cons_zero, List.set_cons_succ, List.getElem_toArray, List.getElem_cons_succ, List.getElem_cons_zero]
              refine wpAnyH_done (by kernel_rfl) ?_ _
              go_wp2
              go_ret2
              rw [HRN.out]
              exact ⟨Tn.grown (grown_trans H5.out.1 SS.out.2.2) _, rfl⟩
            · have hxb : (x == n1) = false := by simpa using hx
              have HX2 : Hid (x ≠ n1) := hx
              clear hx
              go_wp2_with fail
              refine wp_region_held_drew (S := (fun u => u.cell? ⟨bv, ov + j, none⟩ = some (.int .i64 x) ∧ u.cell? ⟨q, 1, none⟩ = some (.int .i64 n1))) (by kernel_rfl) (And.intro SS.out.1 SS.out.2.1) (fun hH => ?_)
              generalize wr.drew = t0 at *
              simp only [List.size_toArray, List.length_cons, List.length_nil, Nat.reduceAdd, Array.replicate, List.replicate]
              refine wpAnyH_take (i := 0) (v := ?_) rfl (by kernel_rfl) (by kernel_rfl) (by kernel_rfl) (fun _ _ _ h => h) (Or.inl ⟨by rfl, ?_⟩) hH ?_
              rotate_left
              · (intro v hS; obtain ⟨s0, s1⟩ := hS; go_simp; try with_reducible rfl)
              simp only [Act.put, List.setIfInBounds_toArray, List.set_cons_zero, List.set_cons_succ, List.getElem_toArray, List.getElem_cons_succ, List.getElem_cons_zero]
              refine wpAnyH_take (i := 1) (v := ?_) rfl (by kernel_rfl) (by kernel_rfl) (by kernel_rfl) (fun _ _ _ h => h) (Or.inl ⟨by rfl, ?_⟩) hH ?_
              rotate_left
              · (intro v hS; obtain ⟨s0, s1⟩ := hS; go_simp; try with_reducible rfl)
              simp only [Act.put, List.setIfInBounds_toArray, List.set_cons_zero, List.set_cons_succ, List.getElem_toArray, List.getElem_cons_succ, List.getElem_cons_zero]
              refine wpAnyH_take (i := 2) (v := ?_) rfl (by kernel_rfl) (by kernel_rfl) (by kernel_rfl) (fun _ _ _ h => h) (Or.inl ⟨by rfl, ?_⟩) hH ?_
              rotate_left
              · (intro v hS; obtain ⟨s0, s1⟩ := hS; go_simp; try with_reducible rfl)
              simp only [Act.put, List.setIfInBounds_toArray, List.set_cons_zero, List.set_cons_succ, List.getElem_toArray, List.getElem_cons_succ, List.getElem_cons_zero]
              refine wpAnyH_take (i := 3) (v := ?_) rfl (by kernel_rfl) (by kernel_rfl) (by kernel_rfl) (fun _ _ _ h => h) (Or.inl ⟨by rfl, ?_⟩) hH ?_
              rotate_left
              · (intro v hS; obtain ⟨s0, s1⟩ := hS; go_simp; try with_reducible rfl)
              simp only [Act.put, List.setIfInBounds_toArray, List.set_cons_zero, List.set_cons_succ, List.getElem_toArray, List.getElem_cons_succ, List.getElem_cons_zero]
              refine wpAnyH_take (i := 4) (v := ?_) rfl (by kernel_rfl) (by kernel_rfl) (by kernel_rfl) (fun _ _ _ h => h) (Or.inl ⟨by rfl, ?_⟩) hH ?_
              rotate_left
              · (intro v hS; obtain ⟨s0, s1⟩ := hS; go_simp; try with_reducible rfl)
              simp only [Act.put, List.setIfInBounds_toArray, List.set_cons_zero, List.set_cons_succ, List.getElem_toArray, List.getElem_cons_succ, List.getElem_cons_zero]
              refine wpAnyH_take (i := 5) (v := ?_) rfl (by kernel_rfl) (by kernel_rfl) (by kernel_rfl) (fun _ _ _ h => h) (Or.inl ⟨by rfl, ?_⟩) hH ?_
              rotate_left
              · (intro v hS; obtain ⟨s0, s1⟩ := hS; go_simp; try with_reducible rfl)
              simp only [Act.put, List.setIfInBounds_toArray, List.set_cons_zero, List.set_cons_succ, List.getElem_toArray, List.getElem_cons_succ, List.getElem_cons_zero]
              refine wpAnyH_take (i := 6) (v := ?_) rfl (by kernel_rfl) (by kernel_rfl) (by kernel_rfl) (fun _ _ _ h => h) (Or.inl ⟨by rfl, ?_⟩) hH ?_
              rotate_left
              · (intro v hS; obtain ⟨s0, s1⟩ := hS; go_simp; try with_reducible rfl)
              simp only [Act.put, List.setIfInBounds_toArray, List.set_cons_zero, List.set_cons_succ, List.getElem_toArray, List.getElem_cons_succ, List.getElem_cons_zero]
              refine wpAnyH_done (by kernel_rfl) ?_ _
              go_wp2
              go_roundw
              case rel => exact ⟨j + 1, by omega, by go_num, SS.out.2.2, fun y hy => (HT.out y hy).elim (fun h => HQ.out.2 y h) (fun h => h ▸ HX2.out)⟩
              case measure => simp [intOf]; omega
          · obtain rfl : j = zs.length := by omega
            have hnin : n1 ∉ vTt (k2, n2, d2) := fun h => HQ.out.2 n1 (by rw [List.take_length]; exact (HZ.out _).2 h) rfl
            have HRS : Hid (R = some (L.app (.cons n1 k2 n2 d2 .nil)) ∧ (L.app (.cons n1 k2 n2 d2 .nil)).len = L.len + 1) := ⟨by rw [HR.out]; unfold bindU; rw [if_neg hnin], by rw [B.app_len]; rfl⟩
            have HV : Hid (∀ u, w5.grownBy u none → u.cell? ⟨q, 1, none⟩ = some (.int .i64 n1) ∧ Tri (q + 1) 0 (.int .i64 k2) (.int .i64 n2) (.slice a2 l2 c2) u) := fun u hu =>
              ⟨(three ((hu.block _ (lt_of_block H5.out.2.2.2.1) (by simp)).trans H5.out.2.2.2.1)).1.2.1, (three ((hu.block _ (lt_of_block H5.out.2.2.2.2) (by simp)).trans H5.out.2.2.2.2)).1⟩
            have hdz := okT_size HO.out.2.1
            have CC : Hid _ := l3copyT (d2.size + 1) d2 k2 n2 a2 l2 c2 wr.drew (Nat.lt_succ_self _) (by omega) (H5.out.2.1.reads.none gd)
            have GD : Hid (w5.grownBy wr.drew none ∧ w.grownBy wr.drew none) := ⟨gd, grown_trans H5.out.1 gd⟩
            have hjL : L.len ≤ 200000 := by omega
            clear hnin gd hdz HQ
            go_wp2_with fail
            refine wp_region_held_drew (S := (fun u => u.cell? ⟨q, 1, none⟩ = some (.int .i64 n1) ∧ Tri (q + 1) 0 (.int .i64 k2) (.int .i64 n2) (.slice a2 l2 c2) u)) (by kernel_rfl) (HV.out _ GD.out.1) (fun hH => ?_)
            generalize wr.drew = t0 at *
            simp only [List.size_toArray, List.length_cons, List.length_nil, Nat.reduceAdd, Array.replicate, List.replicate]
            refine wpAnyH_take (i := 0) (v := ?_) rfl (by kernel_rfl) (by kernel_rfl) (by kernel_rfl) (fun _ _ _ h => h) (Or.inl ⟨by rfl, ?_⟩) hH ?_
            rotate_left
            · (intro v hS; obtain ⟨s0, s1, s2, s3⟩ := hS; go_simp; try with_reducible rfl)
            simp only [Act.put, List.setIfInBounds_toArray, List.set_cons_zero, List.set_cons_succ, List.getElem_toArray, List.getElem_cons_succ, List.getElem_cons_zero]
            refine wpAnyH_take (i := 1) (v := ?_) rfl (by kernel_rfl) (by kernel_rfl) (by kernel_rfl) (fun _ _ _ h => h) (Or.inl ⟨by rfl, ?_⟩) hH ?_
            rotate_left
            · (intro v hS; obtain ⟨s0, s1, s2, s3⟩ := hS; go_simp; try with_reducible rfl)
            simp only [Act.put, List.setIfInBounds_toArray, List.set_cons_zero, List.set_cons_succ, List.getElem_toArray, List.getElem_cons_succ, List.getElem_cons_zero]
            refine wpAnyH_take (i := 2) (v := ?_) rfl (by kernel_rfl) (by kernel_rfl) (by kernel_rfl) (fun _ _ _ h => h) (Or.inl ⟨by rfl, ?_⟩) hH ?_
            rotate_left
            · (intro v hS; obtain ⟨s0, s1, s2, s3⟩ := hS; go_simp; try with_reducible rfl)
            simp only [Act.put, List.setIfInBounds_toArray, List.set_cons_zero, List.set_cons_succ, List.getElem_toArray, List.getElem_cons_succ, List.getElem_cons_zero]
            refine wpAnyH_take (i := 3) (v := ?_) rfl (by kernel_rfl) (by kernel_rfl) (by kernel_rfl) (fun _ _ _ h => h) (Or.inl ⟨by rfl, ?_⟩) hH ?_
            rotate_left
            · (intro v hS; obtain ⟨s0, s1, s2, s3⟩ := hS; go_simp; try with_reducible rfl)
            simp only [Act.put, List.setIfInBounds_toArray, List.set_cons_zero, List.set_cons_succ, List.getElem_toArray, List.getElem_cons_succ, List.getElem_cons_zero]
            refine wpAnyH_ready (rs := [4]) (by kernel_rfl) (by simp) ?_
            refine AllReadyH.cons rfl (fun K hK => ?_) AllReadyH.nil
            go_simp
            refine Calls.mono CC.out ?_
            rintro e u6 ⟨a6, c6, bd, rfl, hg, hN, hna⟩
            refine hK.out _ _ (HV.out _ (grown_trans GD.out.1 hg)) (fun hH2 => ?_)
            have ga := World.grownBy_alloc u6 (.cells #[.int .i64 n1, .int .i64 k2, .int .i64 n2, .slice a6 l2 c6] 44) none
            have hsw := GD.out.2.size
            have LB : Hid (SlOB (u6.alloc (.cells #[.int .i64 n1, .int .i64 k2, .int .i64 n2, .slice a6 l2 c6] 44)) 25 44 al L.len cl L bs ∧ bs.Nodup ∧ (cl = 0 → al = none) ∧ SlO (u6.alloc (.cells #[.int .i64 n1, .int .i64 k2, .int .i64 n2, .slice a6 l2 c6] 44)) 25 a6 l2 c6 d2 bd ∧ bd.Nodup ∧ (∀ x ∈ bd, w.heap.size ≤ x) ∧ (∀ x ∈ bs, x ∉ bd) ∧ w.grownBy (u6.alloc (.cells #[.int .i64 n1, .int .i64 k2, .int .i64 n2, .slice a6 l2 c6] 44)) none ∧ w5.grownBy (u6.alloc (.cells #[.int .i64 n1, .int .i64 k2, .int .i64 n2, .slice a6 l2 c6] 44)) none) := by
              have gg := grown_trans (grown_trans GD.out.2 hg) ga
              refine ⟨HW.out.1.old gg, HW.out.2.2.2.2.2.2.1, HW.out.2.2.2.2.2.2.2, hN.1.kept ga (by simp), hN.2.1, fun x hx => by have := hN.2.2 x hx; omega, fun x hx hx' => by have h1 := hN.2.2 x hx'; have h2 := HW.out.1.lt x hx; omega, gg, grown_trans (grown_trans GD.out.1 hg) ga⟩
            have NW : Hid _ := news4 (q := u6.heap.size) (u := (u6.alloc (.cells #[.int .i64 n1, .int .i64 k2, .int .i64 n2, .slice a6 l2 c6] 44))) (v0 := .int .i64 n1) (v1 := .int .i64 k2) (v2 := .int .i64 n2) (v3 := .slice a6 l2 c6) (four (heap_alloc_new u6 _)).1
            obtain ⟨i0, hi, hz0, hzi1, hzi2⟩ := info_parts infoB
            clear ga hN hg hna hsw CC
            clear hK K hH
            have hH := hH2
            clear hH2
            simp only [Act.put, List.setIfInBounds_toArray, List.set_cons_zero, List.set_cons_succ, List.getElem_toArray, List.getElem_cons_succ, List.getElem_cons_zero]
            refine wpAnyH_take (i := 5) (v := ?_) rfl (by kernel_rfl) (by kernel_rfl) (by kernel_rfl) (fun _ _ _ h => h) (Or.inl ⟨by rfl, ?_⟩) hH ?_
            rotate_left
            · (intro v hS; go_simp; try with_reducible rfl)
            simp only [Act.put, List.setIfInBounds_toArray, List.set_cons_zero, List.set_cons_succ, List.getElem_toArray, List.getElem_cons_succ, List.getElem_cons_zero]
            refine wpAnyH_ready (rs := [6]) (by kernel_rfl) (by simp) ?_
            refine AllReadyH.cons rfl (fun K hK => ?_) AllReadyH.nil
            go_simp
            refine hK.out _ _ (HV.out _ LB.out.2.2.2.2.2.2.2.2) (fun hH2 => ?_)
            generalize (u6.alloc (.cells #[.int .i64 n1, .int .i64 k2, .int .i64 n2, .slice a6 l2 c6] 44)) = ub at *
            generalize u6.heap.size = qq at *
            clear hK K hH
            have hH := hH2
            clear hH2
            simp only [Act.put, List.setIfInBounds_toArray, List.set_cons_zero, List.set_cons_succ, List.getElem_toArray, List.getElem_cons_succ, List.getElem_cons_zero]
            refine wpAnyH_ready (rs := [7]) (by kernel_rfl) (by simp) ?_
            refine AllReadyH.cons rfl (fun K hK => ?_) AllReadyH.nil
            refine step_pushB rfl (.tmp 77) (.tmp 83) 37 rfl 44 25 i0 _ Try.underlying37 hi hz0 hzi1 hzi2 rfl al L.len cl L bs rfl LB.out.1 LB.out.2.1 LB.out.2.2.1 hjL ⟨qq, 0, none⟩ rfl n1 k2 n2 a6 l2 c6 NW.out d2 bd LB.out.2.2.2.1 LB.out.2.2.2.2.1 LB.out.2.2.2.2.2.2.1 ?_
            intro a3 c3 bs3 u3 h1 h2 h3 h4 h5
            have HE : Hid (Tn w u3 bs ∧ SlOB u3 25 44 a3 (L.len + 1) c3 (L.app (.cons n1 k2 n2 d2 .nil)) bs3 ∧ bs3.Nodup ∧ (∀ x ∈ bs3, x ∈ bs ∨ w.heap.size ≤ x) ∧ 0 < c3) := ⟨(Tn.grown LB.out.2.2.2.2.2.2.2.1 bs).trans h4, h1, h2, fun x hx => by
              rcases h3 x hx with h | h | h
              · exact .inl h
              · exact .inr (LB.out.2.2.2.2.2.1 x h)
              · exact .inr (by have := LB.out.2.2.2.2.2.2.2.1.size; omega), h5⟩
            have hSS : u3.cell? ⟨q, 1, none⟩ = some (.int .i64 n1) ∧ Tri (q + 1) 0 (.int .i64 k2) (.int .i64 n2) (.slice a2 l2 c2) u3 := by
              have hbl := fun x hx => HW.out.1.lt x hx
              have e1 := h4.block q (by have := lt_of_block H5.out.2.2.2.1; have := LB.out.2.2.2.2.2.2.2.2.size; omega) (fun hx => by have := hbl _ hx; omega)
              have e2 := h4.block (q + 1) (by have := lt_of_block H5.out.2.2.2.2; have := LB.out.2.2.2.2.2.2.2.2.size; omega) (fun hx => by have := hbl _ hx; omega)
              have r := HV.out _ LB.out.2.2.2.2.2.2.2.2
              exact ⟨(cell_of_heap e1).trans r.1, (cell_of_heap e2).trans r.2.1, (cell_of_heap e2).trans r.2.2.1, (cell_of_heap e2).trans r.2.2.2⟩
            clear h1 h2 h3 h4 h5 LB NW
            refine hK.out _ _ hSS (fun hH2 => ?_)
            clear hK K hH
            have hH := hH2
            clear hH2
            simp only [Act.put, List.setIfInBounds_toArray, List.set_cons_zero, List.set_cons_succ, List.getElem_toArray, List.getElem_cons_succ, List.getElem_cons_zero]
            refine wpAnyH_take (i := 8) (v := ?_) rfl (by kernel_rfl) (by kernel_rfl) (by kernel_rfl) (fun _ _ _ h => h) (Or.inl ⟨by rfl, ?_⟩) hH ?_
            rotate_left
            · (intro v hS; go_simp; try with_reducible rfl)
            simp only [Act.put, List.setIfInBounds_toArray, List.set_cons_zero, List.set_cons_succ, List.getElem_toArray, List.getElem_cons_succ, List.getElem_cons_zero]
            refine wpAnyH_take (i := 9) (v := ?_) rfl (by kernel_rfl) (by kernel_rfl) (by kernel_rfl) (fun _ _ _ h => h) (Or.inl ⟨by rfl, ?_⟩) hH ?_
            rotate_left
            · (intro v hS; go_simp; try with_reducible rfl)
            simp only [Act.put, List.setIfInBounds_toArray, List.set_cons_zero, List.set_cons_succ, List.getElem_toArray, List.getElem_cons_succ, List.getElem_cons_zero]
            refine wpAnyH_done (by kernel_rfl) ?_ _
            go_wp2
            go_ret2
            rw [HRS.out.1]
            refine ⟨HE.out.1, ?_⟩
            simp only []
            rw [HRS.out.2]
            exact ⟨a3, c3, bs3, rfl, HE.out.2.1, HE.out.2.2.1, HE.out.2.2.2.1, fun e => by have := HE.out.2.2.2.2; omega⟩
      · go_upto_region 9 with fail
        have HX : Hid (w.grownBy W2 none ∧ W2.heap[q]? = some (Obj.cells #[.int .i64 k1, .int .i64 n1, .slice a1 l1 c1] 25) ∧ W2.heap[q + 1]? = some (Obj.cells #[.int .i64 k2, .int .i64 n2, .slice a2 l2 c2] 25) ∧ SlO W2 25 a2 l2 c2 d2 bs2) := ⟨H2.out.1, H2.out.2.1, H2.out.2.2.1, H2.out.2.2.2.2.1⟩
        have hdz := okT_size HO.out.2.1
        have CV : Hid _ := l3varsT W2.heap.size (d2.size + 1) d2 k2 n2 a2 l2 c2 none 0 0 [] W2 (Nat.lt_succ_self _) HX.out.2.2.2.reads (OwI.nil _ _) (Nat.le_refl _) (by simp; omega)
        (try clear g0 g1 g2 f0 f1 f2)
        go_wp2_with fail
        refine Calls.mono CV.out ?_
        rintro e w5 ⟨av, cv, rfl, hg5, hOw⟩
        have hzm : ∀ x, x ∈ insL [] (vT k2 n2 d2) ↔ x ∈ vTt (k2, n2, d2) := fun x => (by rw [insL_mem]; simp [vTt])
        have hzl : (insL [] (vT k2 n2 d2)).length ≤ 1000 := by have h1 := insL_len (vT k2 n2 d2) []; have h2 := vT_len k2 n2 d2; simp at h1; omega
        have b5 := (hg5.block _ (lt_of_block HX.out.2.1) (by simp)).trans HX.out.2.1
        have b6 := (hg5.block _ (lt_of_block HX.out.2.2.1) (by simp)).trans HX.out.2.2.1
        generalize insL [] (vT k2 n2 d2) = zs at *
        have HZ : Hid (∀ x, x ∈ zs ↔ x ∈ vTt (k2, n2, d2)) := hzm
        have H5 : Hid (w.grownBy w5 none ∧ SlO w5 25 a2 l2 c2 d2 _ ∧ ReadsI w5 av zs.length zs ∧ _ = some (Obj.cells _ 25 (0, 0)) ∧ _ = some (Obj.cells _ 25 (0, 0))) := ⟨grown_trans HX.out.1 hg5, HX.out.2.2.2.kept hg5 (by simp), hOw.reads, b5, b6⟩
        clear hzm CV hg5 hOw HX x0 x1 x2 y0 y1 y2 hdz b5 b6
        simp only []
        go_wp2_with fail
        go_loopw [11] (fun i wr => ∃ j : Nat, j ≤ zs.length ∧ i = .int .i64 j ∧ Hid (w5.grownBy wr none ∧ ∀ x ∈ zs.take j, x ≠ n1)) (fun i _ => zs.length - (intOf i).toNat)
        case atStart => exact ⟨0, Nat.zero_le _, rfl, World.grownBy.refl _ _, by simp⟩
        case round =>
          obtain ⟨j, hj, rfl, HQ⟩ := hrel
          have gd := grown_drew HQ.out.1
          by_cases hlt : j < zs.length
          · have hlt' : (j : Int) < zs.length := by omega
            have hr := H5.out.2.2.1.none gd
            rcases hr.2 with h0 | ⟨bv, ov, rfl, hc⟩
            · omega
            have c0 := hc j hlt
            have hmem : zs.getD j 0 ∈ zs := by
              rw [List.getD_eq_getElem?_getD, List.getElem?_eq_getElem hlt]; exact List.getElem_mem hlt
            have HT : Hid (∀ y ∈ zs.take (j + 1), y ∈ zs.take j ∨ y = zs.getD j 0) := fun y hy => by
              rw [List.take_succ_eq_append_getElem hlt] at hy
              rcases List.mem_append.1 hy with h | h
              · exact .inl h
              · exact .inr (by simpa [List.getElem?_eq_getElem hlt] using h)
            generalize zs.getD j 0 = x at *
            have q1 := (three ((gd.block _ (lt_of_block H5.out.2.2.2.1) (by simp)).trans H5.out.2.2.2.1)).1
            have SS : Hid (wr.drew.cell? ⟨bv, ov + j, none⟩ = some (.int .i64 x) ∧ wr.drew.cell? ⟨q, 1, none⟩ = some (.int .i64 n1) ∧ w5.grownBy wr.drew none) := ⟨c0, q1.2.1, gd⟩
            clear c0 hc hr q1 gd
            by_cases hx : x = n1
            · have hxb : (x == n1) = true := by simpa using hx
              have HRN : Hid (R = none) := by
                show _ = _
                rw [HR.out]; unfold bindU; rw [if_pos ((HZ.out _).1 (hx ▸ hmem))]
              clear hx
              go_wp2_with fail
              refine wp_region_held_drew (S := (fun u => u.cell? ⟨bv, ov + j, none⟩ = some (.int .i64 x) ∧ u.cell? ⟨q, 1, none⟩ = some (.int .i64 n1))) (by kernel_rfl) (And.intro SS.out.1 SS.out.2.1) (fun hH => ?_)
              generalize wr.drew = t0 at *
              simp only [List.size_toArray, List.length_cons, List.length_nil, Nat.reduceAdd, Array.replicate, List.replicate]
              refine wpAnyH_take (i := 0) (v := ?_) rfl (by kernel_rfl) (by kernel_rfl) (by kernel_rfl) (fun _ _ _ h => h) (Or.inl ⟨by rfl, ?_⟩) hH ?_
              rotate_left
              · (intro v hS; obtain ⟨s0, s1⟩ := hS; go_simp; try with_reducible rfl)
              simp only [Act.put, List.setIfInBounds_toArray, List.set_cons_zero, List.set_cons_succ, List.getElem_toArray, List.getElem_cons_succ, List.getElem_cons_zero]
              refine wpAnyH_take (i := 1) (v := ?_) rfl (by kernel_rfl) (by kernel_rfl) (by kernel_rfl) (fun _ _ _ h => h) (Or.inl ⟨by rfl, ?_⟩) hH ?_
              rotate_left
              · (intro v hS; obtain ⟨s0, s1⟩ := hS; go_simp; try with_reducible rfl)
              simp only [Act.put, List.setIfInBounds_toArray, List.set_cons_zero, List.set_cons_succ, List.getElem_toArray, List.getElem_cons_succ, List.getElem_cons_zero]
              refine wpAnyH_take (i := 2) (v := ?_) rfl (by kernel_rfl) (by kernel_rfl) (by kernel_rfl) (fun _ _ _ h => h) (Or.inl ⟨by rfl, ?_⟩) hH ?_
              rotate_left
              · (intro v hS; obtain ⟨s0, s1⟩ := hS; go_simp; try with_reducible rfl)
              simp only [Act.put, List.setIfInBounds_toArray, List.set_cons_zero, List.set_cons_succ, List.getElem_toArray, List.getElem_cons_succ, List.getElem_cons_zero]
              refine wpAnyH_take (i := 3) (v := ?_) rfl (by kernel_rfl) (by kernel_rfl) (by kernel_rfl) (fun _ _ _ h => h) (Or.inl ⟨by rfl, ?_⟩) hH ?_
              rotate_left
              · (intro v hS; obtain ⟨s0, s1⟩ := hS; go_simp; try with_reducible rfl)
              simp only [Act.put, List.setIfInBounds_toArray, List.set_cons_zero, List.set_cons_succ, List.getElem_toArray, List.getElem_cons_succ, List.getElem_cons_zero]
              refine wpAnyH_take (i := 4) (v := ?_) rfl (by kernel_rfl) (by kernel_rfl) (by kernel_rfl) (fun _ _ _ h => h) (Or.inl ⟨by rfl, ?_⟩) hH ?_
              rotate_left
              · (intro v hS; obtain ⟨s0, s1⟩ := hS; go_simp; try with_reducible rfl)
              simp only [Act.put, List.setIfInBounds_toArray, List.set_cons_zero, List.set_cons_succ, List.getElem_toArray, List.getElem_cons_succ, List.getElem_cons_zero]
              refine wpAnyH_take (i := 5) (v := ?_) rfl (by kernel_rfl) (by kernel_rfl) (by kernel_rfl) (fun _ _ _ h => h) (Or.inl ⟨by rfl, ?_⟩) hH ?_
              rotate_left
              · (intro v hS; obtain ⟨s0, s1⟩ := hS; go_simp; try with_reducible rfl)
              simp only [Act.put, List.setIfInBounds_toArray, List.set_cons_zero, List.set_cons_succ, List.getElem_toArray, List.getElem_cons_succ, List.getElem_cons_zero]
              refine wpAnyH_take (i := 6) (v := ?_) rfl (by kernel_rfl) (by kernel_rfl) (by kernel_rfl) (fun _ _ _ h => h) (Or.inl ⟨by rfl, ?_⟩) hH ?_
              rotate_left
              · (intro v hS; obtain ⟨s0, s1⟩ := hS; go_simp; try with_reducible rfl)
              simp only [Act.put, List.setIfInBounds_toArray, List.set_cons_zero, List.set_cons_succ, List.getElem_toArray, List.getElem_cons_succ, List.getElem_cons_zero]
              refine wpAnyH_done (by kernel_rfl) ?_ _
              go_wp2
              go_ret2
              rw [HRN.out]
              exact ⟨Tn.grown (grown_trans H5.out.1 SS.out.2.2) _, rfl⟩
            · have hxb : (x == n1) = false := by simpa using hx
              have HX2 : Hid (x ≠ n1) := hx
              clear hx
              go_wp2_with fail
              refine wp_region_held_drew (S := (fun u => u.cell? ⟨bv, ov + j, none⟩ = some (.int .i64 x) ∧ u.cell? ⟨q, 1, none⟩ = some (.int .i64 n1))) (by kernel_rfl) (And.intro SS.out.1 SS.out.2.1) (fun hH => ?_)
              generalize wr.drew = t0 at *
              simp only [List.size_toArray, List.length_cons, List.length_nil, Nat.reduceAdd, Array.replicate, List.replicate]
              refine wpAnyH_take (i := 0) (v := ?_) rfl (by kernel_rfl) (by kernel_rfl) (by kernel_rfl) (fun _ _ _ h => h) (Or.inl ⟨by rfl, ?_⟩) hH ?_
              rotate_left
              · (intro v hS; obtain ⟨s0, s1⟩ := hS; go_simp; try with_reducible rfl)
              simp only [Act.put, List.setIfInBounds_toArray, List.set_cons_zero, List.set_cons_succ, List.getElem_toArray, List.getElem_cons_succ, List.getElem_cons_zero]
              refine wpAnyH_take (i := 1) (v := ?_) rfl (by kernel_rfl) (by kernel_rfl) (by kernel_rfl) (fun _ _ _ h => h) (Or.inl ⟨by rfl, ?_⟩) hH ?_
              rotate_left
              · (intro v hS; obtain ⟨s0, s1⟩ := hS; go_simp; try with_reducible rfl)
              simp only [Act.put, List.setIfInBounds_toArray, List.set_cons_zero, List.set_cons_succ, List.getElem_toArray, List.getElem_cons_succ, List.getElem_cons_zero]
              refine wpAnyH_take (i := 2) (v := ?_) rfl (by kernel_rfl) (by kernel_rfl) (by kernel_rfl) (fun _ _ _ h => h) (Or.inl ⟨by rfl, ?_⟩) hH ?_
              rotate_left
              · (intro v hS; obtain ⟨s0, s1⟩ := hS; go_simp; try with_reducible rfl)
              simp only [Act.put, List.setIfInBounds_toArray, List.set_cons_zero, List.set_cons_succ, List.getElem_toArray, List.getElem_cons_succ, List.getElem_cons_zero]
              refine wpAnyH_take (i := 3) (v := ?_) rfl (by kernel_rfl) (by kernel_rfl) (by kernel_rfl) (fun _ _ _ h => h) (Or.inl ⟨by rfl, ?_⟩) hH ?_
              rotate_left
              · (intro v hS; obtain ⟨s0, s1⟩ := hS; go_simp; try with_reducible rfl)
              simp only [Act.put, List.setIfInBounds_toArray, List.set_cons_zero, List.set_cons_succ, List.getElem_toArray, List.getElem_cons_succ, List.getElem_cons_zero]
              refine wpAnyH_take (i := 4) (v := ?_) rfl (by kernel_rfl) (by kernel_rfl) (by kernel_rfl) (fun _ _ _ h => h) (Or.inl ⟨by rfl, ?_⟩) hH ?_
              rotate_left
              · (intro v hS; obtain ⟨s0, s1⟩ := hS; go_simp; try with_reducible rfl)
              simp only [Act.put, List.setIfInBounds_toArray, List.set_cons_zero, List.set_cons_succ, List.getElem_toArray, List.getElem_cons_succ, List.getElem_cons_zero]
              refine wpAnyH_take (i := 5) (v := ?_) rfl (by kernel_rfl) (by kernel_rfl) (by kernel_rfl) (fun _ _ _ h => h) (Or.inl ⟨by rfl, ?_⟩) hH ?_
              rotate_left
              · (intro v hS; obtain ⟨s0, s1⟩ := hS; go_simp; try with_reducible rfl)
              simp only [Act.put, List.setIfInBounds_toArray, List.set_cons_zero, List.set_cons_succ, List.getElem_toArray, List.getElem_cons_succ, List.getElem_cons_zero]
              refine wpAnyH_take (i := 6) (v := ?_) rfl (by kernel_rfl) (by kernel_rfl) (by kernel_rfl) (fun _ _ _ h => h) (Or.inl ⟨by rfl, ?_⟩) hH ?_
              rotate_left
              · (intro v hS; obtain ⟨s0, s1⟩ := hS; go_simp; try with_reducible rfl)
              simp only [Act.put, List.setIfInBounds_toArray, List.set_cons_zero, List.set_cons_succ, List.getElem_toArray, List.getElem_cons_succ, List.getElem_cons_zero]
              refine wpAnyH_done (by kernel_rfl) ?_ _
              go_wp2
              go_roundw
              case rel => exact ⟨j + 1, by omega, by go_num, SS.out.2.2, fun y hy => (HT.out y hy).elim (fun h => HQ.out.2 y h) (fun h => h ▸ HX2.out)⟩
              case measure => simp [intOf]; omega
          · obtain rfl : j = zs.length := by omega
            have hnin : n1 ∉ vTt (k2, n2, d2) := fun h => HQ.out.2 n1 (by rw [List.take_length]; exact (HZ.out _).2 h) rfl
            have HRS : Hid (R = some (L.app (.cons n1 k2 n2 d2 .nil)) ∧ (L.app (.cons n1 k2 n2 d2 .nil)).len = L.len + 1) := ⟨by rw [HR.out]; unfold bindU; rw [if_neg hnin], by rw [B.app_len]; rfl⟩
            have HV : Hid (∀ u, w5.grownBy u none → u.cell? ⟨q, 1, none⟩ = some (.int .i64 n1) ∧ Tri (q + 1) 0 (.int .i64 k2) (.int .i64 n2) (.slice a2 l2 c2) u) := fun u hu =>
              ⟨(three ((hu.block _ (lt_of_block H5.out.2.2.2.1) (by simp)).trans H5.out.2.2.2.1)).1.2.1, (three ((hu.block _ (lt_of_block H5.out.2.2.2.2) (by simp)).trans H5.out.2.2.2.2)).1⟩
            have hdz := okT_size HO.out.2.1
            have CC : Hid _ := l3copyT (d2.size + 1) d2 k2 n2 a2 l2 c2 wr.drew (Nat.lt_succ_self _) (by omega) (H5.out.2.1.reads.none gd)
            have GD : Hid (w5.grownBy wr.drew none ∧ w.grownBy wr.drew none) := ⟨gd, grown_trans H5.out.1 gd⟩
            have hjL : L.len ≤ 200000 := by omega
            clear hnin gd hdz HQ
            go_wp2_with fail
            refine wp_region_held_drew (S := (fun u => u.cell? ⟨q, 1, none⟩ = some (.int .i64 n1) ∧ Tri (q + 1) 0 (.int .i64 k2) (.int .i64 n2) (.slice a2 l2 c2) u)) (by kernel_rfl) (HV.out _ GD.out.1) (fun hH => ?_)
            generalize wr.drew = t0 at *
            simp only [List.size_toArray, List.length_cons, List.length_nil, Nat.reduceAdd, Array.replicate, List.replicate]
            refine wpAnyH_take (i := 0) (v := ?_) rfl (by kernel_rfl) (by kernel_rfl) (by kernel_rfl) (fun _ _ _ h => h) (Or.inl ⟨by rfl, ?_⟩) hH ?_
            rotate_left
            · (intro v hS; obtain ⟨s0, s1, s2, s3⟩ := hS; go_simp; try with_reducible rfl)
            simp only [Act.put, List.setIfInBounds_toArray, List.set_cons_zero, List.set_cons_succ, List.getElem_toArray, List.getElem_cons_succ, List.getElem_cons_zero]
            refine wpAnyH_take (i := 1) (v := ?_) rfl (by kernel_rfl) (by kernel_rfl) (by kernel_rfl) (fun _ _ _ h => h) (Or.inl ⟨by rfl, ?_⟩) hH ?_
            rotate_left
            · (intro v hS; obtain ⟨s0, s1, s2, s3⟩ := hS; go_simp; try with_reducible rfl)
            simp only [Act.put, List.setIfInBounds_toArray, List.set_cons_zero, List.set_cons_succ, List.getElem_toArray, List.getElem_cons_succ, List.getElem_cons_zero]
            refine wpAnyH_take (i := 2) (v := ?_) rfl (by kernel_rfl) (by kernel_rfl) (by kernel_rfl) (fun _ _ _ h => h) (Or.inl ⟨by rfl, ?_⟩) hH ?_
            rotate_left
            · (intro v hS; obtain ⟨s0, s1, s2, s3⟩ := hS; go_simp; try with_reducible rfl)
            simp only [Act.put, List.setIfInBounds_toArray, List.set_cons_zero, List.set_cons_succ, List.getElem_toArray, List.getElem_cons_succ, List.getElem_cons_zero]
            refine wpAnyH_take (i := 3) (v := ?_) rfl (by kernel_rfl) (by kernel_rfl) (by kernel_rfl) (fun _ _ _ h => h) (Or.inl ⟨by rfl, ?_⟩) hH ?_
            rotate_left
            · (intro v hS; obtain ⟨s0, s1, s2, s3⟩ := hS; go_simp; try with_reducible rfl)
            simp only [Act.put, List.setIfInBounds_toArray, List.set_cons_zero, List.set_cons_succ, List.getElem_toArray, List.getElem_cons_succ, List.getElem_cons_zero]
            refine wpAnyH_ready (rs := [4]) (by kernel_rfl) (by simp) ?_
            refine AllReadyH.cons rfl (fun K hK => ?_) AllReadyH.nil
            go_simp
            refine Calls.mono CC.out ?_
            rintro e u6 ⟨a6, c6, bd, rfl, hg, hN, hna⟩
            refine hK.out _ _ (HV.out _ (grown_trans GD.out.1 hg)) (fun hH2 => ?_)
            have ga := World.grownBy_alloc u6 (.cells #[.int .i64 n1, .int .i64 k2, .int .i64 n2, .slice a6 l2 c6] 44) none
            have hsw := GD.out.2.size
            have LB : Hid (SlOB (u6.alloc (.cells #[.int .i64 n1, .int .i64 k2, .int .i64 n2, .slice a6 l2 c6] 44)) 25 44 al L.len cl L bs ∧ bs.Nodup ∧ (cl = 0 → al = none) ∧ SlO (u6.alloc (.cells #[.int .i64 n1, .int .i64 k2, .int .i64 n2, .slice a6 l2 c6] 44)) 25 a6 l2 c6 d2 bd ∧ bd.Nodup ∧ (∀ x ∈ bd, w.heap.size ≤ x) ∧ (∀ x ∈ bs, x ∉ bd) ∧ w.grownBy (u6.alloc (.cells #[.int .i64 n1, .int .i64 k2, .int .i64 n2, .slice a6 l2 c6] 44)) none ∧ w5.grownBy (u6.alloc (.cells #[.int .i64 n1, .int .i64 k2, .int .i64 n2, .slice a6 l2 c6] 44)) none) := by
              have gg := grown_trans (grown_trans GD.out.2 hg) ga
              refine ⟨HW.out.1.old gg, HW.out.2.2.2.2.2.2.1, HW.out.2.2.2.2.2.2.2, hN.1.kept ga (by simp), hN.2.1, fun x hx => by have := hN.2.2 x hx; omega, fun x hx hx' => by have h1 := hN.2.2 x hx'; have h2 := HW.out.1.lt x hx; omega, gg, grown_trans (grown_trans GD.out.1 hg) ga⟩
            have NW : Hid _ := news4 (q := u6.heap.size) (u := (u6.alloc (.cells #[.int .i64 n1, .int .i64 k2, .int .i64 n2, .slice a6 l2 c6] 44))) (v0 := .int .i64 n1) (v1 := .int .i64 k2) (v2 := .int .i64 n2) (v3 := .slice a6 l2 c6) (four (heap_alloc_new u6 _)).1
            obtain ⟨i0, hi, hz0, hzi1, hzi2⟩ := info_parts infoB
            clear ga hN hg hna hsw CC
            clear hK K hH
            have hH := hH2
            clear hH2
            simp only [Act.put, List.setIfInBounds_toArray, List.set_cons_zero, List.set_cons_succ, List.getElem_toArray, List.getElem_cons_succ, List.getElem_cons_zero]
            refine wpAnyH_take (i := 5) (v := ?_) rfl (by kernel_rfl) (by kernel_rfl) (by kernel_rfl) (fun _ _ _ h => h) (Or.inl ⟨by rfl, ?_⟩) hH ?_
            rotate_left
            · (intro v hS; go_simp; try with_reducible rfl)
            simp only [Act.put, List.setIfInBounds_toArray, List.set_cons_zero, List.set_cons_succ, List.getElem_toArray, List.getElem_cons_succ, List.getElem_cons_zero]
            refine wpAnyH_ready (rs := [6]) (by kernel_rfl) (by simp) ?_
            refine AllReadyH.cons rfl (fun K hK => ?_) AllReadyH.nil
            go_simp
            refine hK.out _ _ (HV.out _ LB.out.2.2.2.2.2.2.2.2) (fun hH2 => ?_)
            generalize (u6.alloc (.cells #[.int .i64 n1, .int .i64 k2, .int .i64 n2, .slice a6 l2 c6] 44)) = ub at *
            generalize u6.heap.size = qq at *
            clear hK K hH
            have hH := hH2
            clear hH2
            simp only [Act.put, List.setIfInBounds_toArray, List.set_cons_zero, List.set_cons_succ, List.getElem_toArray, List.getElem_cons_succ, List.getElem_cons_zero]
            refine wpAnyH_ready (rs := [7]) (by kernel_rfl) (by simp) ?_
            refine AllReadyH.cons rfl (fun K hK => ?_) AllReadyH.nil
            refine step_pushB rfl (.tmp 77) (.tmp 83) 37 rfl 44 25 i0 _ Try.underlying37 hi hz0 hzi1 hzi2 rfl al L.len cl L bs rfl LB.out.1 LB.out.2.1 LB.out.2.2.1 hjL ⟨qq, 0, none⟩ rfl n1 k2 n2 a6 l2 c6 NW.out d2 bd LB.out.2.2.2.1 LB.out.2.2.2.2.1 LB.out.2.2.2.2.2.2.1 ?_
            intro a3 c3 bs3 u3 h1 h2 h3 h4 h5
            have HE : Hid (Tn w u3 bs ∧ SlOB u3 25 44 a3 (L.len + 1) c3 (L.app (.cons n1 k2 n2 d2 .nil)) bs3 ∧ bs3.Nodup ∧ (∀ x ∈ bs3, x ∈ bs ∨ w.heap.size ≤ x) ∧ 0 < c3) := ⟨(Tn.grown LB.out.2.2.2.2.2.2.2.1 bs).trans h4, h1, h2, fun x hx => by
              rcases h3 x hx with h | h | h
              · exact .inl h
              · exact .inr (LB.out.2.2.2.2.2.1 x h)
              · exact .inr (by have := LB.out.2.2.2.2.2.2.2.1.size; omega), h5⟩
            have hSS : u3.cell? ⟨q, 1, none⟩ = some (.int .i64 n1) ∧ Tri (q + 1) 0 (.int .i64 k2) (.int .i64 n2) (.slice a2 l2 c2) u3 := by
              have hbl := fun x hx => HW.out.1.lt x hx
              have e1 := h4.block q (by have := lt_of_block H5.out.2.2.2.1; have := LB.out.2.2.2.2.2.2.2.2.size; omega) (fun hx => by have := hbl _ hx; omega)
              have e2 := h4.block (q + 1) (by have := lt_of_block H5.out.2.2.2.2; have := LB.out.2.2.2.2.2.2.2.2.size; omega) (fun hx => by have := hbl _ hx; omega)
              have r := HV.out _ LB.out.2.2.2.2.2.2.2.2
              exact ⟨(cell_of_heap e1).trans r.1, (cell_of_heap e2).trans r.2.1, (cell_of_heap e2).trans r.2.2.1, (cell_of_heap e2).trans r.2.2.2⟩
            clear h1 h2 h3 h4 h5 LB NW
            refine hK.out _ _ hSS (fun hH2 => ?_)
            clear hK K hH
            have hH := hH2
            clear hH2
            simp only [Act.put, List.setIfInBounds_toArray, List.set_cons_zero, List.set_cons_succ, List.getElem_toArray, List.getElem_cons_succ, List.getElem_cons_zero]
            refine wpAnyH_take (i := 8) (v := ?_) rfl (by kernel_rfl) (by kernel_rfl) (by kernel_rfl) (fun _ _ _ h => h) (Or.inl ⟨by rfl, ?_⟩) hH ?_
            rotate_left
            · (intro v hS; go_simp; try with_reducible rfl)
            simp only [Act.put, List.setIfInBounds_toArray, List.set_cons_zero, List.set_cons_succ, List.getElem_toArray, List.getElem_cons_succ, List.getElem_cons_zero]
            refine wpAnyH_take (i := 9) (v := ?_) rfl (by kernel_rfl) (by kernel_rfl) (by kernel_rfl) (fun _ _ _ h => h) (Or.inl ⟨by rfl, ?_⟩) hH ?_
            rotate_left
            · (intro v hS; go_simp; try with_reducible rfl)
            simp only [Act.put, List.setIfInBounds_toArray, List.set_cons_zero, List.set_cons_succ, List.getElem_toArray, List.getElem_cons_succ, List.getElem_cons_zero]
            refine wpAnyH_done (by kernel_rfl) ?_ _
            go_wp2
            go_ret2
            rw [HRS.out.1]
            refine ⟨HE.out.1, ?_⟩
            simp only []
            rw [HRS.out.2]
            exact ⟨a3, c3, bs3, rfl, HE.out.2.1, HE.out.2.2.1, HE.out.2.2.2.1, fun e => by have := HE.out.2.2.2.2; omega⟩
    · have hk1 : (k1 == 7) = false := by simpa using h71
      have hk2 : (k2 == 7) = true := by simpa using h72
      have HR : Hid (R = bindU L n2 (k1, n1, d1)) := hR
      have i1 := fill3 (.int .i64 k2) (.int .i64 n2) (.slice a2 l2 c2) H2.out.2.1
      have i2 := fill3 (.int .i64 k1) (.int .i64 n1) (.slice a1 l1 c1) ((i1.2.block _ hq1u (fun e => by have : q + 1 = q := (by injection e); omega)).trans H2.out.2.2.1)
      have HX : Hid (w.grownBy ((((((W2.setCell ⟨q, 0, none⟩ (.int .i64 k2)).setCell ⟨q, 1, none⟩ (.int .i64 n2)).setCell ⟨q, 2, none⟩ (.slice a2 l2 c2)).setCell ⟨q + 1, 0, none⟩ (.int .i64 k1)).setCell ⟨q + 1, 1, none⟩ (.int .i64 n1)).setCell ⟨q + 1, 2, none⟩ (.slice a1 l1 c1)) none ∧ ((((((W2.setCell ⟨q, 0, none⟩ (.int .i64 k2)).setCell ⟨q, 1, none⟩ (.int .i64 n2)).setCell ⟨q, 2, none⟩ (.slice a2 l2 c2)).setCell ⟨q + 1, 0, none⟩ (.int .i64 k1)).setCell ⟨q + 1, 1, none⟩ (.int .i64 n1)).setCell ⟨q + 1, 2, none⟩ (.slice a1 l1 c1)).heap[q]? = some (Obj.cells #[.int .i64 k2, .int .i64 n2, .slice a2 l2 c2] 25) ∧ ((((((W2.setCell ⟨q, 0, none⟩ (.int .i64 k2)).setCell ⟨q, 1, none⟩ (.int .i64 n2)).setCell ⟨q, 2, none⟩ (.slice a2 l2 c2)).setCell ⟨q + 1, 0, none⟩ (.int .i64 k1)).setCell ⟨q + 1, 1, none⟩ (.int .i64 n1)).setCell ⟨q + 1, 2, none⟩ (.slice a1 l1 c1)).heap[q + 1]? = some (Obj.cells #[.int .i64 k1, .int .i64 n1, .slice a1 l1 c1] 25) ∧ SlO ((((((W2.setCell ⟨q, 0, none⟩ (.int .i64 k2)).setCell ⟨q, 1, none⟩ (.int .i64 n2)).setCell ⟨q, 2, none⟩ (.slice a2 l2 c2)).setCell ⟨q + 1, 0, none⟩ (.int .i64 k1)).setCell ⟨q + 1, 1, none⟩ (.int .i64 n1)).setCell ⟨q + 1, 2, none⟩ (.slice a1 l1 c1)) 25 a1 l1 c1 d1 bs1) :=
        ⟨grown_into (grown_into H2.out.1 i1.2 (by omega)) i2.2 (by omega), (i2.2.block _ (lt_of_block i1.1) (fun e => by have : q = q + 1 := (by injection e); omega)).trans i1.1, i2.1, (H2.out.2.2.2.1.kept i1.2 (fun x hx e => by have := H2.out.2.2.2.2.2.1 x hx; have h1 : x = q := (by injection e); omega)).kept i2.2 (fun x hx e => by have := H2.out.2.2.2.2.2.1 x hx; have h1 : x = q + 1 := (by injection e); omega)⟩
      clear hR IH h72 i1 i2
      go_upto_region 9 with fail
      generalize ((((((W2.setCell ⟨q, 0, none⟩ (.int .i64 k2)).setCell ⟨q, 1, none⟩ (.int .i64 n2)).setCell ⟨q, 2, none⟩ (.slice a2 l2 c2)).setCell ⟨q + 1, 0, none⟩ (.int .i64 k1)).setCell ⟨q + 1, 1, none⟩ (.int .i64 n1)).setCell ⟨q + 1, 2, none⟩ (.slice a1 l1 c1)) = W4 at *
      clear x0 x1 x2 y0 y1 y2 f0 f1 f2 g0 g1 g2 hqu hq1u
      obtain ⟨⟨x0, x1, x2⟩, -⟩ := three HX.out.2.1
      obtain ⟨⟨y0, y1, y2⟩, -⟩ := three HX.out.2.2.1
      have hdz := okT_size HO.out.1
      have CV : Hid _ := l3varsT W4.heap.size (d1.size + 1) d1 k1 n1 a1 l1 c1 none 0 0 [] W4 (Nat.lt_succ_self _) HX.out.2.2.2.reads (OwI.nil _ _) (Nat.le_refl _) (by simp; omega)
      (try clear g0 g1 g2 f0 f1 f2)
      go_wp2_with fail
      refine Calls.mono CV.out ?_
      rintro e w5 ⟨av, cv, rfl, hg5, hOw⟩
      have hzm : ∀ x, x ∈ insL [] (vT k1 n1 d1) ↔ x ∈ vTt (k1, n1, d1) := fun x => (by rw [insL_mem]; simp [vTt])
      have hzl : (insL [] (vT k1 n1 d1)).length ≤ 1000 := by have h1 := insL_len (vT k1 n1 d1) []; have h2 := vT_len k1 n1 d1; simp at h1; omega
      have b5 := (hg5.block _ (lt_of_block HX.out.2.1) (by simp)).trans HX.out.2.1
      have b6 := (hg5.block _ (lt_of_block HX.out.2.2.1) (by simp)).trans HX.out.2.2.1
      generalize insL [] (vT k1 n1 d1) = zs at *
      have HZ : Hid (∀ x, x ∈ zs ↔ x ∈ vTt (k1, n1, d1)) := hzm
      have H5 : Hid (w.grownBy w5 none ∧ SlO w5 25 a1 l1 c1 d1 _ ∧ ReadsI w5 av zs.length zs ∧ _ = some (Obj.cells _ 25 (0, 0)) ∧ _ = some (Obj.cells _ 25 (0, 0))) := ⟨grown_trans HX.out.1 hg5, HX.out.2.2.2.kept hg5 (by simp), hOw.reads, b5, b6⟩
      clear hzm CV hg5 hOw HX x0 x1 x2 y0 y1 y2 hdz b5 b6
      simp only []
      go_wp2_with fail
      go_loopw [11] (fun i wr => ∃ j : Nat, j ≤ zs.length ∧ i = .int .i64 j ∧ Hid (w5.grownBy wr none ∧ ∀ x ∈ zs.take j, x ≠ n2)) (fun i _ => zs.length - (intOf i).toNat)
      case atStart => exact ⟨0, Nat.zero_le _, rfl, World.grownBy.refl _ _, by simp⟩
      case round =>
        obtain ⟨j, hj, rfl, HQ⟩ := hrel
        have gd := grown_drew HQ.out.1
        by_cases hlt : j < zs.length
        · have hlt' : (j : Int) < zs.length := by omega
          have hr := H5.out.2.2.1.none gd
          rcases hr.2 with h0 | ⟨bv, ov, rfl, hc⟩
          · omega
          have c0 := hc j hlt
          have hmem : zs.getD j 0 ∈ zs := by
            rw [List.getD_eq_getElem?_getD, List.getElem?_eq_getElem hlt]; exact List.getElem_mem hlt
          have HT : Hid (∀ y ∈ zs.take (j + 1), y ∈ zs.take j ∨ y = zs.getD j 0) := fun y hy => by
            rw [List.take_succ_eq_append_getElem hlt] at hy
            rcases List.mem_append.1 hy with h | h
            · exact .inl h
            · exact .inr (by simpa [List.getElem?_eq_getElem hlt] using h)
          generalize zs.getD j 0 = x at *
          have q1 := (three ((gd.block _ (lt_of_block H5.out.2.2.2.1) (by simp)).trans H5.out.2.2.2.1)).1
          have SS : Hid (wr.drew.cell? ⟨bv, ov + j, none⟩ = some (.int .i64 x) ∧ wr.drew.cell? ⟨q, 1, none⟩ = some (.int .i64 n2) ∧ w5.grownBy wr.drew none) := ⟨c0, q1.2.1, gd⟩
          clear c0 hc hr q1 gd
          by_cases hx : x = n2
          · have hxb : (x == n2) = true := by simpa using hx
            have HRN : Hid (R = none) := by
              show _ = _
              rw [HR.out]; unfold bindU; rw [if_pos ((HZ.out _).1 (hx ▸ hmem))]
            clear hx
            go_wp2_with fail
            refine wp_region_held_drew (S := (fun u => u.cell? ⟨bv, ov + j, none⟩ = some (.int .i64 x) ∧ u.cell? ⟨q, 1, none⟩ = some (.int .i64 n2))) (by kernel_rfl) (And.intro SS.out.1 SS.out.2.1) (fun hH => ?_)
            generalize wr.drew = t0 at *
            simp only [List.size_toArray, List.length_cons, List.length_nil, Nat.reduceAdd, Array.replicate, List.replicate]
            refine wpAnyH_take (i := 0) (v := ?_) rfl (by kernel_rfl) (by kernel_rfl) (by kernel_rfl) (fun _ _ _ h => h) (Or.inl ⟨by rfl, ?_⟩) hH ?_
            rotate_left
            · (intro v hS; obtain ⟨s0, s1⟩ := hS; go_simp; try with_reducible rfl)
            simp only [Act.put, List.setIfInBounds_toArray, List.set_cons_zero, List.set_cons_succ, List.getElem_toArray, List.getElem_cons_succ, List.getElem_cons_zero]
            refine wpAnyH_take (i := 1) (v := ?_) rfl (by kernel_rfl) (by kernel_rfl) (by kernel_rfl) (fun _ _ _ h => h) (Or.inl ⟨by rfl, ?_⟩) hH ?_
            rotate_left
            · (intro v hS; obtain ⟨s0, s1⟩ := hS; go_simp; try with_reducible rfl)
            simp only [Act.put, List.setIfInBounds_toArray, List.set_cons_zero, List.set_cons_succ, List.getElem_toArray, List.getElem_cons_succ, List.getElem_cons_zero]
            refine wpAnyH_take (i := 2) (v := ?_) rfl (by kernel_rfl) (by kernel_rfl) (by kernel_rfl) (fun _ _ _ h => h) (Or.inl ⟨by rfl, ?_⟩) hH ?_
            rotate_left
            · (intro v hS; obtain ⟨s0, s1⟩ := hS; go_simp; try with_reducible rfl)
            simp only [Act.put, List.setIfInBounds_toArray, List.set_cons_zero, List.set_cons_succ, List.getElem_toArray, List.getElem_cons_succ, List.getElem_cons_zero]
            refine wpAnyH_take (i := 3) (v := ?_) rfl (by kernel_rfl) (by kernel_rfl) (by kernel_rfl) (fun _ _ _ h => h) (Or.inl ⟨by rfl, ?_⟩) hH ?_
            rotate_left
            · (intro v hS; obtain ⟨s0, s1⟩ := hS; go_simp; try with_reducible rfl)
            simp only [Act.put, List.setIfInBounds_toArray, List.set_cons_zero, List.set_cons_succ, List.getElem_toArray, List.getElem_cons_succ, List.getElem_cons_zero]
            refine wpAnyH_take (i := 4) (v := ?_) rfl (by kernel_rfl) (by kernel_rfl) (by kernel_rfl) (fun _ _ _ h => h) (Or.inl ⟨by rfl, ?_⟩) hH ?_
            rotate_left
            · (intro v hS; obtain ⟨s0, s1⟩ := hS; go_simp; try with_reducible rfl)
            simp only [Act.put, List.setIfInBounds_toArray, List.set_cons_zero, List.set_cons_succ, List.getElem_toArray, List.getElem_cons_succ, List.getElem_cons_zero]
            refine wpAnyH_take (i := 5) (v := ?_) rfl (by kernel_rfl) (by kernel_rfl) (by kernel_rfl) (fun _ _ _ h => h) (Or.inl ⟨by rfl, ?_⟩) hH ?_
            rotate_left
            · (intro v hS; obtain ⟨s0, s1⟩ := hS; go_simp; try with_reducible rfl)
            simp only [Act.put, List.setIfInBounds_toArray, List.set_cons_zero, List.set_cons_succ, List.getElem_toArray, List.getElem_cons_succ, List.getElem_cons_zero]
            refine wpAnyH_take (i := 6) (v := ?_) rfl (by kernel_rfl) (by kernel_rfl) (by kernel_rfl) (fun _ _ _ h => h) (Or.inl ⟨by rfl, ?_⟩) hH ?_
            rotate_left
            · (intro v hS; obtain ⟨s0, s1⟩ := hS; go_simp; try with_reducible rfl)
            simp only [Act.put, List.setIfInBounds_toArray, List.set_cons_zero, List.set_cons_succ, List.getElem_toArray, List.getElem_cons_succ, List.getElem_cons_zero]
            refine wpAnyH_done (by kernel_rfl) ?_ _
            go_wp2
            go_ret2
            rw [HRN.out]
            exact ⟨Tn.grown (grown_trans H5.out.1 SS.out.2.2) _, rfl⟩
          · have hxb : (x == n2) = false := by simpa using hx
            have HX2 : Hid (x ≠ n2) := hx
            clear hx
            go_wp2_with fail
            refine wp_region_held_drew (S := (fun u => u.cell? ⟨bv, ov + j, none⟩ = some (.int .i64 x) ∧ u.cell? ⟨q, 1, none⟩ = some (.int .i64 n2))) (by kernel_rfl) (And.intro SS.out.1 SS.out.2.1) (fun hH => ?_)
            generalize wr.drew = t0 at *
            simp only [List.size_toArray, List.length_cons, List.length_nil, Nat.reduceAdd, Array.replicate, List.replicate]
            refine wpAnyH_take (i := 0) (v := ?_) rfl (by kernel_rfl) (by kernel_rfl) (by kernel_rfl) (fun _ _ _ h => h) (Or.inl ⟨by rfl, ?_⟩) hH ?_
            rotate_left
            · (intro v hS; obtain ⟨s0, s1⟩ := hS; go_simp; try with_reducible rfl)
            simp only [Act.put, List.setIfInBounds_toArray, List.set_cons_zero, List.set_cons_succ, List.getElem_toArray, List.getElem_cons_succ, List.getElem_cons_zero]
            refine wpAnyH_take (i := 1) (v := ?_) rfl (by kernel_rfl) (by kernel_rfl) (by kernel_rfl) (fun _ _ _ h => h) (Or.inl ⟨by rfl, ?_⟩) hH ?_
            rotate_left
            · (intro v hS; obtain ⟨s0, s1⟩ := hS; go_simp; try with_reducible rfl)
            simp only [Act.put, List.setIfInBounds_toArray, List.set_cons_zero, List.set_cons_succ, List.getElem_toArray, List.getElem_cons_succ, List.getElem_cons_zero]
            refine wpAnyH_take (i := 2) (v := ?_) rfl (by kernel_rfl) (by kernel_rfl) (by kernel_rfl) (fun _ _ _ h => h) (Or.inl ⟨by rfl, ?_⟩) hH ?_
            rotate_left
            · (intro v hS; obtain ⟨s0, s1⟩ := hS; go_simp; try with_reducible rfl)
            simp only [Act.put, List.setIfInBounds_toArray, List.set_cons_zero, List.set_cons_succ, List.getElem_toArray, List.getElem_cons_succ, List.getElem_cons_zero]
            refine wpAnyH_take (i := 3) (v := ?_) rfl (by kernel_rfl) (by kernel_rfl) (by kernel_rfl) (fun _ _ _ h => h) (Or.inl ⟨by rfl, ?_⟩) hH ?_
            rotate_left
            · (intro v hS; obtain ⟨s0, s1⟩ := hS; go_simp; try with_reducible rfl)
            simp only [Act.put, List.setIfInBounds_toArray, List.set_cons_zero, List.set_cons_succ, List.getElem_toArray, List.getElem_cons_succ, List.getElem_cons_zero]
            refine wpAnyH_take (i := 4) (v := ?_) rfl (by kernel_rfl) (by kernel_rfl) (by kernel_rfl) (fun _ _ _ h => h) (Or.inl ⟨by rfl, ?_⟩) hH ?_
            rotate_left
            · (intro v hS; obtain ⟨s0, s1⟩ := hS; go_simp; try with_reducible rfl)
            simp only [Act.put, List.setIfInBounds_toArray, List.set_cons_zero, List.set_cons_succ, List.getElem_toArray, List.getElem_cons_succ, List.getElem_cons_zero]
            refine wpAnyH_take (i := 5) (v := ?_) rfl (by kernel_rfl) (by kernel_rfl) (by kernel_rfl) (fun _ _ _ h => h) (Or.inl ⟨by rfl, ?_⟩) hH ?_
            rotate_left
            · (intro v hS; obtain ⟨s0, s1⟩ := hS; go_simp; try with_reducible rfl)
            simp only [Act.put, List.setIfInBounds_toArray, List.set_cons_zero, List.set_cons_succ, List.getElem_toArray, List.getElem_cons_succ, List.getElem_cons_zero]
            refine wpAnyH_take (i := 6) (v := ?_) rfl (by kernel_rfl) (by kernel_rfl) (by kernel_rfl) (fun _ _ _ h => h) (Or.inl ⟨by rfl, ?_⟩) hH ?_
            rotate_left
            · (intro v hS; obtain ⟨s0, s1⟩ := hS; go_simp; try with_reducible rfl)
            simp only [Act.put, List.setIfInBounds_toArray, List.set_cons_zero, List.set_cons_succ, List.getElem_toArray, List.getElem_cons_succ, List.getElem_cons_zero]
            refine wpAnyH_done (by kernel_rfl) ?_ _
            go_wp2
            go_roundw
            case rel => exact ⟨j + 1, by omega, by go_num, SS.out.2.2, fun y hy => (HT.out y hy).elim (fun h => HQ.out.2 y h) (fun h => h ▸ HX2.out)⟩
            case measure => simp [intOf]; omega
        · obtain rfl : j = zs.length := by omega
          have hnin : n2 ∉ vTt (k1, n1, d1) := fun h => HQ.out.2 n2 (by rw [List.take_length]; exact (HZ.out _).2 h) rfl
          have HRS : Hid (R = some (L.app (.cons n2 k1 n1 d1 .nil)) ∧ (L.app (.cons n2 k1 n1 d1 .nil)).len = L.len + 1) := ⟨by rw [HR.out]; unfold bindU; rw [if_neg hnin], by rw [B.app_len]; rfl⟩
          have HV : Hid (∀ u, w5.grownBy u none → u.cell? ⟨q, 1, none⟩ = some (.int .i64 n2) ∧ Tri (q + 1) 0 (.int .i64 k1) (.int .i64 n1) (.slice a1 l1 c1) u) := fun u hu =>
            ⟨(three ((hu.block _ (lt_of_block H5.out.2.2.2.1) (by simp)).trans H5.out.2.2.2.1)).1.2.1, (three ((hu.block _ (lt_of_block H5.out.2.2.2.2) (by simp)).trans H5.out.2.2.2.2)).1⟩
          have hdz := okT_size HO.out.1
          have CC : Hid _ := l3copyT (d1.size + 1) d1 k1 n1 a1 l1 c1 wr.drew (Nat.lt_succ_self _) (by omega) (H5.out.2.1.reads.none gd)
          have GD : Hid (w5.grownBy wr.drew none ∧ w.grownBy wr.drew none) := ⟨gd, grown_trans H5.out.1 gd⟩
          have hjL : L.len ≤ 200000 := by omega
          clear hnin gd hdz HQ
          go_wp2_with fail
          refine wp_region_held_drew (S := (fun u => u.cell? ⟨q, 1, none⟩ = some (.int .i64 n2) ∧ Tri (q + 1) 0 (.int .i64 k1) (.int .i64 n1) (.slice a1 l1 c1) u)) (by kernel_rfl) (HV.out _ GD.out.1) (fun hH => ?_)
          generalize wr.drew = t0 at *
          simp only [List.size_toArray, List.length_cons, List.length_nil, Nat.reduceAdd, Array.replicate, List.replicate]
          refine wpAnyH_take (i := 0) (v := ?_) rfl (by kernel_rfl) (by kernel_rfl) (by kernel_rfl) (fun _ _ _ h => h) (Or.inl ⟨by rfl, ?_⟩) hH ?_
          rotate_left
          · (intro v hS; obtain ⟨s0, s1, s2, s3⟩ := hS; go_simp; try with_reducible rfl)
          simp only [Act.put, List.setIfInBounds_toArray, List.set_cons_zero, List.set_cons_succ, List.getElem_toArray, List.getElem_cons_succ, List.getElem_cons_zero]
          refine wpAnyH_take (i := 1) (v := ?_) rfl (by kernel_rfl) (by kernel_rfl) (by kernel_rfl) (fun _ _ _ h => h) (Or.inl ⟨by rfl, ?_⟩) hH ?_
          rotate_left
          · (intro v hS; obtain ⟨s0, s1, s2, s3⟩ := hS; go_simp; try with_reducible rfl)
          simp only [Act.put, List.setIfInBounds_toArray, List.set_cons_zero, List.set_cons_succ, List.getElem_toArray, List.getElem_cons_succ, List.getElem_cons_zero]
          refine wpAnyH_take (i := 2) (v := ?_) rfl (by kernel_rfl) (by kernel_rfl) (by kernel_rfl) (fun _ _ _ h => h) (Or.inl ⟨by rfl, ?_⟩) hH ?_
          rotate_left
          · (intro v hS; obtain ⟨s0, s1, s2, s3⟩ := hS; go_simp; try with_reducible rfl)
          simp only [Act.put, List.setIfInBounds_toArray, List.set_cons_zero, List.set_cons_succ, List.getElem_toArray, List.getElem_cons_succ, List.getElem_cons_zero]
          refine wpAnyH_take (i := 3) (v := ?_) rfl (by kernel_rfl) (by kernel_rfl) (by kernel_rfl) (fun _ _ _ h => h) (Or.inl ⟨by rfl, ?_⟩) hH ?_
          rotate_left
          · (intro v hS; obtain ⟨s0, s1, s2, s3⟩ := hS; go_simp; try with_reducible rfl)
          simp only [Act.put, List.setIfInBounds_toArray, List.set_cons_zero, List.set_cons_succ, List.getElem_toArray, List.getElem_cons_succ, List.getElem_cons_zero]
          refine wpAnyH_ready (rs := [4]) (by kernel_rfl) (by simp) ?_
          refine AllReadyH.cons rfl (fun K hK => ?_) AllReadyH.nil
          go_simp
          refine Calls.mono CC.out ?_
          rintro e u6 ⟨a6, c6, bd, rfl, hg, hN, hna⟩
          refine hK.out _ _ (HV.out _ (grown_trans GD.out.1 hg)) (fun hH2 => ?_)
          have ga := World.grownBy_alloc u6 (.cells #[.int .i64 n2, .int .i64 k1, .int .i64 n1, .slice a6 l1 c6] 44) none
          have hsw := GD.out.2.size
          have LB : Hid (SlOB (u6.alloc (.cells #[.int .i64 n2, .int .i64 k1, .int .i64 n1, .slice a6 l1 c6] 44)) 25 44 al L.len cl L bs ∧ bs.Nodup ∧ (cl = 0 → al = none) ∧ SlO (u6.alloc (.cells #[.int .i64 n2, .int .i64 k1, .int .i64 n1, .slice a6 l1 c6] 44)) 25 a6 l1 c6 d1 bd ∧ bd.Nodup ∧ (∀ x ∈ bd, w.heap.size ≤ x) ∧ (∀ x ∈ bs, x ∉ bd) ∧ w.grownBy (u6.alloc (.cells #[.int .i64 n2, .int .i64 k1, .int .i64 n1, .slice a6 l1 c6] 44)) none ∧ w5.grownBy (u6.alloc (.cells #[.int .i64 n2, .int .i64 k1, .int .i64 n1, .slice a6 l1 c6] 44)) none) := by
            have gg := grown_trans (grown_trans GD.out.2 hg) ga
            refine ⟨HW.out.1.old gg, HW.out.2.2.2.2.2.2.1, HW.out.2.2.2.2.2.2.2, hN.1.kept ga (by simp), hN.2.1, fun x hx => by have := hN.2.2 x hx; omega, fun x hx hx' => by have h1 := hN.2.2 x hx'; have h2 := HW.out.1.lt x hx; omega, gg, grown_trans (grown_trans GD.out.1 hg) ga⟩
          have NW : Hid _ := news4 (q := u6.heap.size) (u := (u6.alloc (.cells #[.int .i64 n2, .int .i64 k1, .int .i64 n1, .slice a6 l1 c6] 44))) (v0 := .int .i64 n2) (v1 := .int .i64 k1) (v2 := .int .i64 n1) (v3 := .slice a6 l1 c6) (four (heap_alloc_new u6 _)).1
          obtain ⟨i0, hi, hz0, hzi1, hzi2⟩ := info_parts infoB
          clear ga hN hg hna hsw CC
          clear hK K hH
          have hH := hH2
          clear hH2
          simp only [Act.put, List.setIfInBounds_toArray, List.set_cons_zero, List.set_cons_succ, List.getElem_toArray, List.getElem_cons_succ, List.getElem_cons_zero]
          refine wpAnyH_take (i := 5) (v := ?_) rfl (by kernel_rfl) (by kernel_rfl) (by kernel_rfl) (fun _ _ _ h => h) (Or.inl ⟨by rfl, ?_⟩) hH ?_
          rotate_left
          · (intro v hS; go_simp; try with_reducible rfl)
          simp only [Act.put, List.setIfInBounds_toArray, List.set_cons_zero, List.set_cons_succ, List.getElem_toArray, List.getElem_cons_succ, List.getElem_cons_zero]
          refine wpAnyH_ready (rs := [6]) (by kernel_rfl) (by simp) ?_
          refine AllReadyH.cons rfl (fun K hK => ?_) AllReadyH.nil
          go_simp
          refine hK.out _ _ (HV.out _ LB.out.2.2.2.2.2.2.2.2) (fun hH2 => ?_)
          generalize (u6.alloc (.cells #[.int .i64 n2, .int .i64 k1, .int .i64 n1, .slice a6 l1 c6] 44)) = ub at *
          generalize u6.heap.size = qq at *
          clear hK K hH
          have hH := hH2
          clear hH2
          simp only [Act.put, List.setIfInBounds_toArray, List.set_cons_zero, List.set_cons_succ, List.getElem_toArray, List.getElem_cons_succ, List.getElem_cons_zero]
          refine wpAnyH_ready (rs := [7]) (by kernel_rfl) (by simp) ?_
          refine AllReadyH.cons rfl (fun K hK => ?_) AllReadyH.nil
          refine step_pushB rfl (.tmp 77) (.tmp 83) 37 rfl 44 25 i0 _ Try.underlying37 hi hz0 hzi1 hzi2 rfl al L.len cl L bs rfl LB.out.1 LB.out.2.1 LB.out.2.2.1 hjL ⟨qq, 0, none⟩ rfl n2 k1 n1 a6 l1 c6 NW.out d1 bd LB.out.2.2.2.1 LB.out.2.2.2.2.1 LB.out.2.2.2.2.2.2.1 ?_
          intro a3 c3 bs3 u3 h1 h2 h3 h4 h5
          have HE : Hid (Tn w u3 bs ∧ SlOB u3 25 44 a3 (L.len + 1) c3 (L.app (.cons n2 k1 n1 d1 .nil)) bs3 ∧ bs3.Nodup ∧ (∀ x ∈ bs3, x ∈ bs ∨ w.heap.size ≤ x) ∧ 0 < c3) := ⟨(Tn.grown LB.out.2.2.2.2.2.2.2.1 bs).trans h4, h1, h2, fun x hx => by
            rcases h3 x hx with h | h | h
            · exact .inl h
            · exact .inr (LB.out.2.2.2.2.2.1 x h)
            · exact .inr (by have := LB.out.2.2.2.2.2.2.2.1.size; omega), h5⟩
          have hSS : u3.cell? ⟨q, 1, none⟩ = some (.int .i64 n2) ∧ Tri (q + 1) 0 (.int .i64 k1) (.int .i64 n1) (.slice a1 l1 c1) u3 := by
            have hbl := fun x hx => HW.out.1.lt x hx
            have e1 := h4.block q (by have := lt_of_block H5.out.2.2.2.1; have := LB.out.2.2.2.2.2.2.2.2.size; omega) (fun hx => by have := hbl _ hx; omega)
            have e2 := h4.block (q + 1) (by have := lt_of_block H5.out.2.2.2.2; have := LB.out.2.2.2.2.2.2.2.2.size; omega) (fun hx => by have := hbl _ hx; omega)
            have r := HV.out _ LB.out.2.2.2.2.2.2.2.2
            exact ⟨(cell_of_heap e1).trans r.1, (cell_of_heap e2).trans r.2.1, (cell_of_heap e2).trans r.2.2.1, (cell_of_heap e2).trans r.2.2.2⟩
          clear h1 h2 h3 h4 h5 LB NW
          refine hK.out _ _ hSS (fun hH2 => ?_)
          clear hK K hH
          have hH := hH2
          clear hH2
          simp only [Act.put, List.setIfInBounds_toArray, List.set_cons_zero, List.set_cons_succ, List.getElem_toArray, List.getElem_cons_succ, List.getElem_cons_zero]
          refine wpAnyH_take (i := 8) (v := ?_) rfl (by kernel_rfl) (by kernel_rfl) (by kernel_rfl) (fun _ _ _ h => h) (Or.inl ⟨by rfl, ?_⟩) hH ?_
          rotate_left
          · (intro v hS; go_simp; try with_reducible rfl)
          simp only [Act.put, List.setIfInBounds_toArray, List.set_cons_zero, List.set_cons_succ, List.getElem_toArray, List.getElem_cons_succ, List.getElem_cons_zero]
          refine wpAnyH_take (i := 9) (v := ?_) rfl (by kernel_rfl) (by kernel_rfl) (by kernel_rfl) (fun _ _ _ h => h) (Or.inl ⟨by rfl, ?_⟩) hH ?_
          rotate_left
          · (intro v hS; go_simp; try with_reducible rfl)
          simp only [Act.put, List.setIfInBounds_toArray, List.set_cons_zero, List.set_cons_succ, List.getElem_toArray, List.getElem_cons_succ, List.getElem_cons_zero]
          refine wpAnyH_done (by kernel_rfl) ?_ _
          go_wp2
          go_ret2
          rw [HRS.out.1]
          refine ⟨HE.out.1, ?_⟩
          simp only []
          rw [HRS.out.2]
          exact ⟨a3, c3, bs3, rfl, HE.out.2.1, HE.out.2.2.1, HE.out.2.2.2.1, fun e => by have := HE.out.2.2.2.2; omega⟩
    have hk1 : (k1 == 7) = false := by simpa using h71
    have hk2 : (k2 == 7) = false := by simpa using h72
    rcases HU2 with ⟨⟨e1, e2, e3⟩, hR⟩ | ⟨hne, hR⟩
    rotate_left
    · have HR : Hid (R = none) := hR
      by_cases h1 : k1 = k2
      · subst h1
        by_cases h2 : n1 = n2
        · subst h2
          have h3 : ¬ (l1 = l2) := fun e => hne ⟨rfl, rfl, by rw [HM.out.1, HM.out.2]; exact e⟩
          clear hR hne IH
          go_wp2
          go_ret2
          rw [HR.out]
          exact ⟨Tn.grown H2.out.1 _, rfl⟩
        · clear hR hne IH
          go_wp2
          go_ret2
          rw [HR.out]
          exact ⟨Tn.grown H2.out.1 _, rfl⟩
      · clear hR hne IH
        go_wp2
        go_ret2
        rw [HR.out]
        exact ⟨Tn.grown H2.out.1 _, rfl⟩
    subst e1 e2
    have hl12 : l1 = l2 := by rw [← HM.out.1, ← HM.out.2]; exact e3
    have HR : Hid (unL (un s) L d1 d2 = some R) := hR
    clear e3 hR
    subst hl12
    have hz1' := okT_size HO.out.1
    have hz2' := okT_size HO.out.2.1
    have HG : Hid (fitF d1 = true ∧ fitF d2 = true) := ⟨(gT_ok HO.out.1).2, (gT_ok HO.out.2.1).2⟩
    by_cases hl0 : l1 = 0
    · subst hl0
      have hRL : R = some L := by
        have := HR.out
        have hd : d1 = .nil := F.nil_of_len HM.out.1
        rw [hd] at this
        cases d2 <;> (cases this; rfl)
      have HR : Hid (R = some L) := hRL
      clear hRL IH
      go_wp2
      refine wp_loop_rounds 1 ?_
      rw [rounds_succ]
      go_wp2
      go_ret2
      rw [HR.out]
      exact ⟨Tn.grown H2.out.1 _, al, cl, bs, rfl, HW.out.1.old H2.out.1, HW.out.2.2.2.2.2.2.1, fun x hx => .inl hx, HW.out.2.2.2.2.2.2.2⟩
    have hlc1 := H2.out.2.2.2.1.2.2.1
    have hlc2 := H2.out.2.2.2.2.1.2.2.1
    obtain ⟨g, bs1', -, rfl, hbs1, -, -⟩ := H2.out.2.2.2.1.2.2.2.resolve_left (fun h => by omega)
    obtain ⟨g', bs2', -, rfl, hbs2, -, -⟩ := H2.out.2.2.2.2.1.2.2.2.resolve_left (fun h => by omega)
    have hgw := H2.out.1.size
    have HF : Hid (∀ u, Tn W2 u bs → u.heap[q]? = W2.heap[q]? ∧ u.heap[q + 1]? = W2.heap[q + 1]? ∧ (∀ x ∈ bs1, u.heap[x]? = W2.heap[x]?) ∧ (∀ x ∈ bs2, u.heap[x]? = W2.heap[x]?) ∧ u.heap[g]? = W2.heap[g]? ∧ u.heap[g']? = W2.heap[g']?) := fun u hu => by
      have hbl := fun x hx => HW.out.1.lt x hx
      have h1 : ∀ x ∈ bs1, u.heap[x]? = W2.heap[x]? := fun x hx => hu.block x (H2.out.2.2.2.1.lt x hx) (fun hb => by have := hbl _ hb; have := H2.out.2.2.2.2.2.1 x hx; omega)
      have h2 : ∀ x ∈ bs2, u.heap[x]? = W2.heap[x]? := fun x hx => hu.block x (H2.out.2.2.2.2.1.lt x hx) (fun hb => by have := hbl _ hb; have := H2.out.2.2.2.2.2.2 x hx; omega)
      exact ⟨hu.block q hqu (fun hb => by have := hbl _ hb; omega), hu.block (q + 1) hq1u (fun hb => by have := hbl _ hb; omega), h1, h2, h1 g (by rw [hbs1]; simp), h2 g' (by rw [hbs2]; simp)⟩
    clear hbs1 hbs2 hlc1 hlc2 hgw
    go_wp2_with fail
    clear x0 x1 x2 y0 y1 y2 f0 f1 f2 g0 g1 g2
    go_loopw [0, 12] (fun lst i wr => ∃ (j : Nat) (P D P' E : F) (Lj : B) (al' : Option Addr) (cl' : Nat) (bsj : List Nat), j ≤ l1 ∧ i = .int .i64 j ∧ lst = .slice al' Lj.len cl' ∧ (P.len = j ∧ P'.len = j) ∧ (D.len + j = l1 ∧ E.len + j = l1) ∧ (D.size ≤ 59 ∧ E.size ≤ 59) ∧ Hid (Tn W2 wr bs ∧ SlOB wr 25 44 al' Lj.len cl' Lj bsj ∧ bsj.Nodup ∧ (∀ x ∈ bsj, x ∈ bs ∨ W2.heap.size ≤ x) ∧ (cl' = 0 → al' = none) ∧ wfB Lj ∧ unL (un s) Lj D E = some R ∧ (fitF D = true ∧ fitF E = true) ∧ d1 = P.app D ∧ d2 = P'.app E)) (fun _ i _ => l1 - (intOf i).toNat)
    case atStart =>
      exact ⟨0, .nil, d1, .nil, d2, L, al, cl, bs, Nat.zero_le _, rfl, rfl, ⟨rfl, rfl⟩, ⟨by have := HM.out; omega, by have := HM.out; omega⟩, ⟨hz1', hz2'⟩, Tn.refl _ _, HW.out.1.old H2.out.1, HW.out.2.2.2.2.2.2.1, fun x hx => .inl hx, HW.out.2.2.2.2.2.2.2, HL.out, HR.out, HG.out, rfl, rfl⟩
    case round =>
      obtain ⟨j, P, D, P', E, Lj, al', cl', bsj, hj, rfl, rfl, ⟨hP, hP'⟩, ⟨hDl, hEl⟩, hsz, HQ⟩ := hrel
      by_cases hlt : j < l1
      · obtain ⟨q1, hq1⟩ : ∃ q1, D.len = q1 + 1 := ⟨D.len - 1, by omega⟩
        obtain ⟨kk, nn, dd, D1, rfl, hD1⟩ := F.cons_of_len hq1
        obtain ⟨q2, hq2⟩ : ∃ q2, E.len = q2 + 1 := ⟨E.len - 1, by omega⟩
        obtain ⟨kk', nn', ee, E1, rfl, hE1⟩ := F.cons_of_len hq2
        have gd := grown_drew (World.grownBy.refl wr none)
        have htd : Tn W2 wr.drew bs := HQ.out.1.trans (Tn.grown gd bs)
        have fx := HF.out _ htd
        have S1 := (H2.out.2.2.2.1.of fx.2.2.1).reads
        have S2 := (H2.out.2.2.2.2.1.of fx.2.2.2.1).reads
        have hdl := HM.out
        rcases S1.2.2 with h0 | ⟨b, o, eb, hin1⟩
        · omega
        rcases S2.2.2 with h0 | ⟨b', o', eb', hin2⟩
        · omega
        cases eb
        cases eb'
        obtain ⟨kx, nx, dx, a3, l3, x3, hnth, c0, c1', c2', hd3⟩ := hin1.nth (i := j) (by omega)
        rw [HQ.out.2.2.2.2.2.2.2.2.1, ← hP, nth_mid] at hnth
        obtain ⟨rfl, rfl, rfl⟩ : kk = kx ∧ nn = nx ∧ dd = dx := by injection hnth with h; injection h with h1 h; injection h with h2 h3; exact ⟨h1, h2, h3⟩
        obtain ⟨ky, ny, dy, a4, l4, x4, hnth', e0, e1, e2, hd4⟩ := hin2.nth (i := j) (by omega)
        rw [HQ.out.2.2.2.2.2.2.2.2.2, ← hP', nth_mid] at hnth'
        obtain ⟨rfl, rfl, rfl⟩ : kk' = ky ∧ nn' = ny ∧ ee = dy := by injection hnth' with h; injection h with h1 h; injection h with h2 h3; exact ⟨h1, h2, h3⟩
        obtain ⟨u1, u2', u3', u4, u5, hLj, hUL, hfit, hPD, hPE⟩ := HQ.out
        simp only [unL] at hUL
        cases hgg : un s Lj (kk, nn, dd) (kk', nn', ee) with
        | none => rw [hgg] at hUL; cases hUL
        | some R1 =>
        rw [hgg] at hUL
        simp only [fitF, Bool.and_eq_true] at hfit
        simp only [F.size] at hsz
        simp only [F.len] at hDl hEl
        have CC : Hid _ := IH.out Lj al' cl' bsj dd ee kk nn kk' nn' a3 a4 l3 x3 l4 x4 R1 wr.drew hgg hLj ⟨hfit.1.1, hfit.1.2.1⟩ ⟨hfit.2.1, hfit.2.2.1⟩ (by omega) (by omega) (u2'.old gd) u3' u5 hd3 hd4
        have HV : Hid (∀ u, Tn W2 u bs → (u.cell? ⟨q, 2, none⟩ = some (.slice (some ⟨g, 0, none⟩) l1 c1) ∧ Tri g (j * 3) (.int .i64 kk) (.int .i64 nn) (.slice a3 l3 x3) u ∧ u.cell? ⟨q + 1, 2, none⟩ = some (.slice (some ⟨g', 0, none⟩) l1 c2) ∧ Tri g' (j * 3) (.int .i64 kk') (.int .i64 nn') (.slice a4 l4 x4) u)) := fun u hu => by
          have fy := HF.out _ hu
          have v1 := fy.2.2.2.2.1.trans fx.2.2.2.2.1.symm
          have v2 := fy.2.2.2.2.2.trans fx.2.2.2.2.2.symm
          simp only [Nat.zero_add] at c0 c1' c2' e0 e1 e2
          exact ⟨(three (fy.1.trans H2.out.2.1)).1.2.2, ⟨(cell_of_heap v1).trans c0, (cell_of_heap v1).trans c1', (cell_of_heap v1).trans c2'⟩, (three (fy.2.1.trans H2.out.2.2.1)).1.2.2, (cell_of_heap v2).trans e0, (cell_of_heap v2).trans e1, (cell_of_heap v2).trans e2⟩
        have HN : Hid (Tn W2 wr.drew bs ∧ (∀ x ∈ bsj, x ∈ bs ∨ W2.heap.size ≤ x) ∧ ((R1 = none → R = none) ∧ (∀ L', R1 = some L' → unL (un s) L' D1 E1 = some R)) ∧ (fitF D1 = true ∧ fitF E1 = true) ∧ (∀ L', R1 = some L' → wfB L') ∧ d1 = (P.app (.cons kk nn dd .nil)).app D1 ∧ d2 = (P'.app (.cons kk' nn' ee .nil)).app E1) :=
          ⟨htd, u4, ⟨fun e => (by rw [e] at hUL; injection hUL with h; exact h.symm), fun L' e => (by rw [e] at hUL; exact hUL)⟩, ⟨hfit.1.2.2, hfit.2.2.2⟩, fun L' e => (un_wf s Lj _ _ L' hLj ⟨hfit.1.1, hfit.1.2.1⟩ ⟨hfit.2.1, hfit.2.2.1⟩ (by rw [hgg, e])).1, by rw [F.app_assoc]; exact hPD, by rw [F.app_assoc]; exact hPE⟩
        have HP : Hid ((P.app (.cons kk nn dd .nil)).len = j + 1 ∧ (P'.app (.cons kk' nn' ee .nil)).len = j + 1) := ⟨by rw [F.app_len, hP]; rfl, by rw [F.app_len, hP']; rfl⟩
        obtain ⟨⟨x0, x1, x2⟩, -⟩ := three ((HF.out _ HQ.out.1).1.trans H2.out.2.1)
        have hlt' : (j : Int) < (l1 : Int) := by omega
        clear hgg hUL gd htd fx S1 S2 hdl hin1 hin2 hnth hnth' c0 c1' c2' e0 e1 e2 hd3 hd4 u1 u2' u3' u4 u5 hLj hfit hPD hPE HQ IH
        go_wp2_with fail
        refine wp_region_held_drew (S := (fun u => u.cell? ⟨q, 2, none⟩ = some (.slice (some ⟨g, 0, none⟩) l1 c1) ∧ Tri g (j * 3) (.int .i64 kk) (.int .i64 nn) (.slice a3 l3 x3) u ∧ u.cell? ⟨q + 1, 2, none⟩ = some (.slice (some ⟨g', 0, none⟩) l1 c2) ∧ Tri g' (j * 3) (.int .i64 kk') (.int .i64 nn') (.slice a4 l4 x4) u)) (by kernel_rfl) (HV.out _ HN.out.1) (fun hH => ?_)
        clear x0 x1 x2
        generalize wr.drew = t0 at *
        simp only [List.size_toArray, List.length_cons, List.length_nil, Nat.reduceAdd, Array.replicate, List.replicate]
        refine wpAnyH_take (i := 0) (v := ?_) rfl (by kernel_rfl) (by kernel_rfl) (by kernel_rfl) (fun _ _ _ h => h) (Or.inl ⟨by rfl, ?_⟩) hH ?_
        rotate_left
        · (intro v hS; obtain ⟨s0, ⟨s1, s2, s3⟩, s4, s5, s6, s7⟩ := hS; go_simp; try with_reducible rfl)
        simp only [Act.put, List.setIfInBounds_toArray, List.set_cons_zero, List.set_cons_succ, List.getElem_toArray, List.getElem_cons_succ, List.getElem_cons_zero]
        refine wpAnyH_take (i := 1) (v := ?_) rfl (by kernel_rfl) (by kernel_rfl) (by kernel_rfl) (fun _ _ _ h => h) (Or.inl ⟨by rfl, ?_⟩) hH ?_
        rotate_left
        · (intro v hS; obtain ⟨s0, ⟨s1, s2, s3⟩, s4, s5, s6, s7⟩ := hS; go_simp; try with_reducible rfl)
        simp only [Act.put, List.setIfInBounds_toArray, List.set_cons_zero, List.set_cons_succ, List.getElem_toArray, List.getElem_cons_succ, List.getElem_cons_zero]
        refine wpAnyH_take (i := 2) (v := ?_) rfl (by kernel_rfl) (by kernel_rfl) (by kernel_rfl) (fun _ _ _ h => h) (Or.inl ⟨by rfl, ?_⟩) hH ?_
        rotate_left
        · (intro v hS; obtain ⟨s0, ⟨s1, s2, s3⟩, s4, s5, s6, s7⟩ := hS; go_simp; try with_reducible rfl)
        simp only [Act.put, List.setIfInBounds_toArray, List.set_cons_zero, List.set_cons_succ, List.getElem_toArray, List.getElem_cons_succ, List.getElem_cons_zero]
        refine wpAnyH_take (i := 3) (v := ?_) rfl (by kernel_rfl) (by kernel_rfl) (by kernel_rfl) (fun _ _ _ h => h) (Or.inl ⟨by rfl, ?_⟩) hH ?_
        rotate_left
        · (intro v hS; obtain ⟨s0, ⟨s1, s2, s3⟩, s4, s5, s6, s7⟩ := hS; go_simp; try with_reducible rfl)
        simp only [Act.put, List.setIfInBounds_toArray, List.set_cons_zero, List.set_cons_succ, List.getElem_toArray, List.getElem_cons_succ, List.getElem_cons_zero]
        refine wpAnyH_take (i := 4) (v := ?_) rfl (by kernel_rfl) (by kernel_rfl) (by kernel_rfl) (fun _ _ _ h => h) (Or.inl ⟨by rfl, ?_⟩) hH ?_
        rotate_left
        · (intro v hS; obtain ⟨s0, ⟨s1, s2, s3⟩, s4, s5, s6, s7⟩ := hS; go_simp; try with_reducible rfl)
        simp only [Act.put, List.setIfInBounds_toArray, List.set_cons_zero, List.set_cons_succ, List.getElem_toArray, List.getElem_cons_succ, List.getElem_cons_zero]
        refine wpAnyH_take (i := 5) (v := ?_) rfl (by kernel_rfl) (by kernel_rfl) (by kernel_rfl) (fun _ _ _ h => h) (Or.inl ⟨by rfl, ?_⟩) hH ?_
        rotate_left
        · (intro v hS; obtain ⟨s0, ⟨s1, s2, s3⟩, s4, s5, s6, s7⟩ := hS; go_simp; try with_reducible rfl)
        simp only [Act.put, List.setIfInBounds_toArray, List.set_cons_zero, List.set_cons_succ, List.getElem_toArray, List.getElem_cons_succ, List.getElem_cons_zero]
        refine wpAnyH_take (i := 6) (v := ?_) rfl (by kernel_rfl) (by kernel_rfl) (by kernel_rfl) (fun _ _ _ h => h) (Or.inl ⟨by rfl, ?_⟩) hH ?_
        rotate_left
        · (intro v hS; obtain ⟨s0, ⟨s1, s2, s3⟩, s4, s5, s6, s7⟩ := hS; go_simp; try with_reducible rfl)
        simp only [Act.put, List.setIfInBounds_toArray, List.set_cons_zero, List.set_cons_succ, List.getElem_toArray, List.getElem_cons_succ, List.getElem_cons_zero]
        refine wpAnyH_take (i := 7) (v := ?_) rfl (by kernel_rfl) (by kernel_rfl) (by kernel_rfl) (fun _ _ _ h => h) (Or.inl ⟨by rfl, ?_⟩) hH ?_
        rotate_left
        · (intro v hS; obtain ⟨s0, ⟨s1, s2, s3⟩, s4, s5, s6, s7⟩ := hS; go_simp; try with_reducible rfl)
        simp only [Act.put, List.setIfInBounds_toArray, List.set_cons_zero, List.set_cons_succ, List.getElem_toArray, List.getElem_cons_succ, List.getElem_cons_zero]
        refine wpAnyH_take (i := 8) (v := ?_) rfl (by kernel_rfl) (by kernel_rfl) (by kernel_rfl) (fun _ _ _ h => h) (Or.inl ⟨by rfl, ?_⟩) hH ?_
        rotate_left
        · (intro v hS; obtain ⟨s0, ⟨s1, s2, s3⟩, s4, s5, s6, s7⟩ := hS; go_simp; try with_reducible rfl)
        simp only [Act.put, List.setIfInBounds_toArray, List.set_cons_zero, List.set_cons_succ, List.getElem_toArray, List.getElem_cons_succ, List.getElem_cons_zero]
        refine wpAnyH_take (i := 9) (v := ?_) rfl (by kernel_rfl) (by kernel_rfl) (by kernel_rfl) (fun _ _ _ h => h) (Or.inl ⟨by rfl, ?_⟩) hH ?_
        rotate_left
        · (intro v hS; obtain ⟨s0, ⟨s1, s2, s3⟩, s4, s5, s6, s7⟩ := hS; go_simp; try with_reducible rfl)
        simp only [Act.put, List.setIfInBounds_toArray, List.set_cons_zero, List.set_cons_succ, List.getElem_toArray, List.getElem_cons_succ, List.getElem_cons_zero]
        refine wpAnyH_take (i := 10) (v := ?_) rfl (by kernel_rfl) (by kernel_rfl) (by kernel_rfl) (fun _ _ _ h => h) (Or.inl ⟨by rfl, ?_⟩) hH ?_
        rotate_left
        · (intro v hS; obtain ⟨s0, ⟨s1, s2, s3⟩, s4, s5, s6, s7⟩ := hS; go_simp; try with_reducible rfl)
        simp only [Act.put, List.setIfInBounds_toArray, List.set_cons_zero, List.set_cons_succ, List.getElem_toArray, List.getElem_cons_succ, List.getElem_cons_zero]
        refine wpAnyH_ready (rs := [11]) (by kernel_rfl) (by simp) ?_
        refine AllReadyH.cons rfl (fun K hK => ?_) AllReadyH.nil
        go_simp
        refine Calls.mono CC.out ?_
        rintro e u6 ⟨hT, he⟩
        have htu : Tn W2 u6 bs := Tn.comp HN.out.1 hT HN.out.2.1
        cases R1 with
        | none =>
          simp only [] at he
          subst he
          refine hK.out _ _ (HV.out _ htu) (fun hH2 => ?_)
          have HR2 : Hid (R = none ∧ Tn W2 u6 bs) := ⟨HN.out.2.2.1.1 rfl, htu⟩
          clear hT htu CC HN HV
          clear hK K hH
          have hH := hH2
          clear hH2
          simp only [Act.put, List.setIfInBounds_toArray, List.set_cons_zero, List.set_cons_succ, List.getElem_toArray, List.getElem_cons_succ, List.getElem_cons_zero]
          refine wpAnyH_take (i := 12) (v := ?_) rfl (by kernel_rfl) (by kernel_rfl) (by kernel_rfl) (fun _ _ _ h => h) (Or.inl ⟨by rfl, ?_⟩) hH ?_
          rotate_left
          · (intro v hS; go_simp; try with_reducible rfl)
          simp only [Act.put, List.setIfInBounds_toArray, List.set_cons_zero, List.set_cons_succ, List.getElem_toArray, List.getElem_cons_succ, List.getElem_cons_zero]
          refine wpAnyH_take (i := 13) (v := ?_) rfl (by kernel_rfl) (by kernel_rfl) (by kernel_rfl) (fun _ _ _ h => h) (Or.inl ⟨by rfl, ?_⟩) hH ?_
          rotate_left
          · (intro v hS; go_simp; try with_reducible rfl)
          simp only [Act.put, List.setIfInBounds_toArray, List.set_cons_zero, List.set_cons_succ, List.getElem_toArray, List.getElem_cons_succ, List.getElem_cons_zero]
          refine wpAnyH_take (i := 14) (v := ?_) rfl (by kernel_rfl) (by kernel_rfl) (by kernel_rfl) (fun _ _ _ h => h) (Or.inl ⟨by rfl, ?_⟩) hH ?_
          rotate_left
          · (intro v hS; go_simp; try with_reducible rfl)
          simp only [Act.put, List.setIfInBounds_toArray, List.set_cons_zero, List.set_cons_succ, List.getElem_toArray, List.getElem_cons_succ, List.getElem_cons_zero]
          refine wpAnyH_take (i := 15) (v := ?_) rfl (by kernel_rfl) (by kernel_rfl) (by kernel_rfl) (fun _ _ _ h => h) (Or.inl ⟨by rfl, ?_⟩) hH ?_
          rotate_left
          · (intro v hS; go_simp; try with_reducible rfl)
          simp only [Act.put, List.setIfInBounds_toArray, List.set_cons_zero, List.set_cons_succ, List.getElem_toArray, List.getElem_cons_succ, List.getElem_cons_zero]
          refine wpAnyH_take (i := 16) (v := ?_) rfl (by kernel_rfl) (by kernel_rfl) (by kernel_rfl) (fun _ _ _ h => h) (Or.inl ⟨by rfl, ?_⟩) hH ?_
          rotate_left
          · (intro v hS; go_simp; try with_reducible rfl)
          simp only [Act.put, List.setIfInBounds_toArray, List.set_cons_zero, List.set_cons_succ, List.getElem_toArray, List.getElem_cons_succ, List.getElem_cons_zero]
          refine wpAnyH_done (by kernel_rfl) ?_ _
          go_wp2
          go_ret2
          rw [HR2.out.1]
          exact ⟨(Tn.grown H2.out.1 _).trans HR2.out.2, rfl⟩
        | some L' =>
          simp only [] at he
          obtain ⟨a6, c6, bs6, he, hO6, hnd6, hin6, hna6⟩ := he
          subst he
          refine hK.out _ _ (HV.out _ htu) (fun hH2 => ?_)
          have HN2 : Hid (Tn W2 u6 bs ∧ SlOB u6 25 44 a6 L'.len c6 L' bs6 ∧ bs6.Nodup ∧ (∀ x ∈ bs6, x ∈ bs ∨ W2.heap.size ≤ x) ∧ (c6 = 0 → a6 = none) ∧ wfB L' ∧ unL (un s) L' D1 E1 = some R ∧ (fitF D1 = true ∧ fitF E1 = true) ∧ d1 = (P.app (.cons kk nn dd .nil)).app D1 ∧ d2 = (P'.app (.cons kk' nn' ee .nil)).app E1) :=
            ⟨htu, hO6, hnd6, fun x hx => (hin6 x hx).elim (fun h => HN.out.2.1 x h) (fun h => .inr (Nat.le_trans HN.out.1.size h)), hna6, HN.out.2.2.2.2.1 _ rfl, HN.out.2.2.1.2 _ rfl, HN.out.2.2.2.1, HN.out.2.2.2.2.2.1, HN.out.2.2.2.2.2.2⟩
          clear hT htu CC HN HV hO6 hnd6 hin6 hna6
          clear hK K hH
          have hH := hH2
          clear hH2
          simp only [Act.put, List.setIfInBounds_toArray, List.set_cons_zero, List.set_cons_succ, List.getElem_toArray, List.getElem_cons_succ, List.getElem_cons_zero]
          refine wpAnyH_take (i := 12) (v := ?_) rfl (by kernel_rfl) (by kernel_rfl) (by kernel_rfl) (fun _ _ _ h => h) (Or.inl ⟨by rfl, ?_⟩) hH ?_
          rotate_left
          · (intro v hS; go_simp; try with_reducible rfl)
          simp only [Act.put, List.setIfInBounds_toArray, List.set_cons_zero, List.set_cons_succ, List.getElem_toArray, List.getElem_cons_succ, List.getElem_cons_zero]
          refine wpAnyH_take (i := 13) (v := ?_) rfl (by kernel_rfl) (by kernel_rfl) (by kernel_rfl) (fun _ _ _ h => h) (Or.inl ⟨by rfl, ?_⟩) hH ?_
          rotate_left
          · (intro v hS; go_simp; try with_reducible rfl)
          simp only [Act.put, List.setIfInBounds_toArray, List.set_cons_zero, List.set_cons_succ, List.getElem_toArray, List.getElem_cons_succ, List.getElem_cons_zero]
          refine wpAnyH_take (i := 14) (v := ?_) rfl (by kernel_rfl) (by kernel_rfl) (by kernel_rfl) (fun _ _ _ h => h) (Or.inl ⟨by rfl, ?_⟩) hH ?_
          rotate_left
          · (intro v hS; go_simp; try with_reducible rfl)
          simp only [Act.put, List.setIfInBounds_toArray, List.set_cons_zero, List.set_cons_succ, List.getElem_toArray, List.getElem_cons_succ, List.getElem_cons_zero]
          refine wpAnyH_take (i := 15) (v := ?_) rfl (by kernel_rfl) (by kernel_rfl) (by kernel_rfl) (fun _ _ _ h => h) (Or.inl ⟨by rfl, ?_⟩) hH ?_
          rotate_left
          · (intro v hS; go_simp; try with_reducible rfl)
          simp only [Act.put, List.setIfInBounds_toArray, List.set_cons_zero, List.set_cons_succ, List.getElem_toArray, List.getElem_cons_succ, List.getElem_cons_zero]
          refine wpAnyH_take (i := 16) (v := ?_) rfl (by kernel_rfl) (by kernel_rfl) (by kernel_rfl) (fun _ _ _ h => h) (Or.inl ⟨by rfl, ?_⟩) hH ?_
          rotate_left
          · (intro v hS; go_simp; try with_reducible rfl)
          simp only [Act.put, List.setIfInBounds_toArray, List.set_cons_zero, List.set_cons_succ, List.getElem_toArray, List.getElem_cons_succ, List.getElem_cons_zero]
          refine wpAnyH_done (by kernel_rfl) ?_ _
          go_wp2
          go_roundw
          case rel => exact ⟨j + 1, _, D1, _, E1, L', a6, c6, bs6, by omega, by go_num, rfl, HP.out, ⟨by omega, by omega⟩, ⟨by omega, by omega⟩, HN2.out⟩
          case measure => simp [intOf]; omega
      · obtain rfl : j = l1 := by omega
        have hRL : R = some Lj := by
          have hd0 : D = .nil := F.nil_of_len (by omega)
          have hUL := HQ.out.2.2.2.2.2.2.1
          rw [hd0] at hUL
          cases E <;> (cases hUL; rfl)
        have HR2 : Hid (R = some Lj) := hRL
        obtain ⟨⟨x0, x1, x2⟩, -⟩ := three ((HF.out _ HQ.out.1).1.trans H2.out.2.1)
        clear hRL IH
        go_wp2
        go_ret2
        rw [HR2.out]
        exact ⟨(Tn.grown H2.out.1 _).trans HQ.out.1, al', cl', bsj, rfl, HQ.out.2.1, HQ.out.2.2.1, fun x hx => (HQ.out.2.2.2.1 x hx).elim .inl (fun h => .inr (Nat.le_trans H2.out.1.size h)), HQ.out.2.2.2.2.1⟩
end Go.Proofs.Ytmlganaiajhjeaa.By
