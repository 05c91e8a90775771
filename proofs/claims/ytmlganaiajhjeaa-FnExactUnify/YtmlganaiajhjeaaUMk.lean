/-
  Marks on binds that are our own, and that they are held. No statement is proved here.
-/
import Derived.Test.YtmlganaiajhjeaaUB
import Derived.Test.YtmlganaiajhjeaaTLaw
import Derived.Test.YtmlganaiajhjeaaTMark
namespace Go.Proofs.Ytmlganaiajhjeaa.By
open Go.RowKit
set_option linter.unusedVariables false
set_option linter.unusedSimpArgs false

def markB : B → Int → B
  | .nil, _ => .nil
  | .cons _ _ _ d r, k => .cons k (k + 1) (k + 1 + 1) (markF d (k + 1 + 1 + 1)) (markB r (k + 1 + 1 + 1 + 2 * d.size))
theorem markB_len (f : B) : ∀ k, (markB f k).len = f.len := by
  induction f with
  | nil => intro k; rfl
  | cons v k n d r ih => intro x; simp only [markB, B.len, ih]
/-- Three cells of a block of binds are stored. -/
theorem Blk4.put3 {u : World} {t : TypeId} {g c : Nat} (h : Blk4 u t g c) (p : Nat) (hp : p + 3 < c * 4) (v0 v1 v2 : Value) :
    Blk4 (((u.setCell ⟨g, p, none⟩ v0).setCell ⟨g, p + 1, none⟩ v1).setCell ⟨g, p + 2, none⟩ v2) t g c ∧ u.grownBy (((u.setCell ⟨g, p, none⟩ v0).setCell ⟨g, p + 1, none⟩ v1).setCell ⟨g, p + 2, none⟩ v2) (some g) ∧
    ((((u.setCell ⟨g, p, none⟩ v0).setCell ⟨g, p + 1, none⟩ v1).setCell ⟨g, p + 2, none⟩ v2).cell? ⟨g, p, none⟩ = some v0 ∧ (((u.setCell ⟨g, p, none⟩ v0).setCell ⟨g, p + 1, none⟩ v1).setCell ⟨g, p + 2, none⟩ v2).cell? ⟨g, p + 1, none⟩ = some v1 ∧ (((u.setCell ⟨g, p, none⟩ v0).setCell ⟨g, p + 1, none⟩ v1).setCell ⟨g, p + 2, none⟩ v2).cell? ⟨g, p + 2, none⟩ = some v2) ∧
    ∀ q, (q < p ∨ p + 2 < q) → (((u.setCell ⟨g, p, none⟩ v0).setCell ⟨g, p + 1, none⟩ v1).setCell ⟨g, p + 2, none⟩ v2).cell? ⟨g, q, none⟩ = u.cell? ⟨g, q, none⟩ := by
  obtain ⟨cur, hc, hs⟩ := h
  have h1 := heap_setCell_same u g p cur t v0 hc
  have h2 := heap_setCell_same _ g (p + 1) _ t v1 h1
  have h3 := heap_setCell_same _ g (p + 2) _ t v2 h2
  refine ⟨⟨_, h3, by simpa using hs⟩, grown_trans (grown_trans (grown_setCell _ _ _ _) (grown_setCell _ _ _ _)) (grown_setCell _ _ _ _), ⟨?_, ?_, ?_⟩, fun q hq => ?_⟩
  · rw [cell_of_row _ g _ _ t (0, 0) h3]; simp [show p < cur.size by omega]
  · rw [cell_of_row _ g _ _ t (0, 0) h3]; simp [show p + 1 < cur.size by omega]
  · rw [cell_of_row _ g _ _ t (0, 0) h3]; simp [show p + 2 < cur.size by omega]
  · rw [cell_of_row _ g _ _ t (0, 0) h3, cell_of_row _ g _ _ t (0, 0) hc]
    rw [Array.getElem?_setIfInBounds_ne (by omega), Array.getElem?_setIfInBounds_ne (by omega), Array.getElem?_setIfInBounds_ne (by omega)]

set_option maxHeartbeats 1000000 in
theorem markBs (f : B) (a : Option Addr) (l c : Nat) (bs : List Nat) (k0 : Int) (w : World) (h : SlOB w 25 44 a l c f bs) (hnd : bs.Nodup) (hk0 : 0 ≤ k0) (hk1 : k0 + 2 * f.size + f.len ≤ 4611686018427387904) :
    Calls Try.prog 35 #[.slice a l c, .int .i64 k0] w fun e u => e = .returned (.int .i64 (k0 + 2 * f.size + f.len)) ∧ Tn w u bs ∧ SlOB u 25 44 a l c (markB f k0) bs := by
  obtain ⟨hfl, hl, hlc, hx⟩ := h
  by_cases hl0 : l = 0
  · subst hl0
    obtain rfl := B.nil_of_len hfl
    have HX : Hid _ := hx
    clear hx
    go_enter Try.func35, Try.ntmps35
    go_wp2
    refine wp_loop_rounds 1 ?_
    rw [rounds_succ]
    go_wp2
    go_ret
    refine ⟨by simp [B.size, B.len], Tn.refl _ _, rfl, hl, hlc, ?_⟩
    rcases HX.out with h | ⟨g, bs', hp, _⟩
    · exact .inl h
    · omega
  rcases hx with ⟨hc0, _⟩ | ⟨g, bs', hp0, rfl, rfl, hblk, hown⟩
  · exact absurd hc0 (by omega)
  have H0 : Hid (Blk4 w 44 g c ∧ OwnB w 25 f g 0 bs' ∧ (g :: bs').Nodup) := ⟨hblk, hown, hnd⟩
  clear hblk hown hnd
  go_enter Try.func35, Try.ntmps35
  go_wp2
  go_loopw [1, 5] (fun v i wr => ∃ (j : Nat) (P R : B) (bsP bsR : List Nat) (kj : Int), j ≤ l ∧ i = .int .i64 j ∧ v = .int .i64 kj ∧ 0 ≤ kj ∧ kj + 2 * R.size + R.len = k0 + 2 * f.size + f.len ∧ P.len = j ∧ R.len + j = l ∧ R.size ≤ f.size ∧ Hid (Blk4 wr 44 g c ∧ OwnB wr 25 P g 0 bsP ∧ OwnB wr 25 R g (j * 4) bsR ∧ bsP ++ bsR = bs' ∧ P.app (markB R kj) = markB f k0 ∧ Tn w wr (g :: bs'))) (fun _ i _ => l - (intOf i).toNat)
  case atStart => exact ⟨0, .nil, f, [], bs', k0, Nat.zero_le _, rfl, rfl, hk0, rfl, rfl, by omega, Nat.le_refl _, H0.out.1, rfl, by simpa using H0.out.2.1, rfl, rfl, Tn.refl _ _⟩
  case round =>
    obtain ⟨j, P, R, bsP, bsR, kj, hj, rfl, rfl, hkj, hks, hPl, hRl, hRs, HR⟩ := hrel
    by_cases hlt : j < l
    · obtain ⟨q, hq⟩ : ∃ q, R.len = q + 1 := ⟨R.len - 1, by omega⟩
      obtain ⟨vv, kk, nn, d, R', rfl, hR'⟩ := B.cons_of_len hq
      obtain ⟨hB, hP, hR, hbs, happ, htn⟩ := HR.out
      obtain ⟨bs1, bs2, rfl, ⟨a', l', c', ⟨c0, c1, c2, c3⟩, hd⟩, hR2⟩ := hR
      have hnd := H0.out.2.2
      rw [← hbs] at hnd
      obtain ⟨hng, hnd'⟩ := List.nodup_cons.1 hnd
      obtain ⟨hndP, hnd12, hdisP⟩ := List.nodup_append.1 hnd'
      obtain ⟨hnd1, hnd2, hdis12⟩ := List.nodup_append.1 hnd12
      have e3 : j * 4 + 4 = (j + 1) * 4 := by omega
      rw [e3] at hR2
      have hRs' : R'.size ≤ f.size := by simp only [B.size] at hRs; omega
      simp only [B.size, B.len] at hks
      have f0 := hB.free (j * 4)
      have f1 := hB.free (j * 4 + 1)
      have f2 := hB.free (j * 4 + 2)
      obtain ⟨hB2, hg2, ⟨t0, t1, t2⟩, hoth⟩ := hB.put3 (j * 4) (by omega) (.int .i64 kj) (.int .i64 (kj + 1)) (.int .i64 (kj + 1 + 1))
      have hne1 : ∀ x ∈ bs1, some x ≠ some g := fun x hx => by simp; rintro rfl; exact hng (List.mem_append_right _ (List.mem_append_left _ hx))
      have t3 := (hoth (j * 4 + 3) (.inr (by omega))).trans c3
      have CC : Hid _ := markS (d.size + 1) d a' l' c' bs1 (kj + 1 + 1 + 1) _ (Nat.lt_succ_self _) (hd.kept hg2 hne1) hnd1 (by omega) (by omega)
      have hPP := hP.move (w' := ((wr.setCell ⟨g, j * 4, none⟩ (.int .i64 kj)).setCell ⟨g, j * 4 + 1, none⟩ (.int .i64 (kj + 1))).setCell ⟨g, j * 4 + 2, none⟩ (.int .i64 (kj + 1 + 1))) (b' := g) (off' := 0) (fun i hi => hoth _ (.inl (by omega))) (fun x hx => hg2.block x (hP.lt x hx) (by simp; rintro rfl; exact hng (List.mem_append_left _ hx)))
      have hRR := hR2.move (w' := ((wr.setCell ⟨g, j * 4, none⟩ (.int .i64 kj)).setCell ⟨g, j * 4 + 1, none⟩ (.int .i64 (kj + 1))).setCell ⟨g, j * 4 + 2, none⟩ (.int .i64 (kj + 1 + 1))) (b' := g) (off' := (j + 1) * 4) (fun i hi => hoth _ (.inr (by omega))) (fun x hx => hg2.block x (hR2.lt x hx) (by simp; rintro rfl; exact hng (List.mem_append_right _ (List.mem_append_right _ hx))))
      have hbg : Tn w _ (g :: bs') := htn.trans ((Tn.row hg2).mono (fun x hx => by simp at hx; subst hx; simp))
      have FX : Hid (Blk4 _ 44 g c ∧ OwnB _ 25 P g 0 bsP ∧ OwnB _ 25 R' g ((j + 1) * 4) bs2 ∧ Tn w _ (g :: bs') ∧ Qua g (j * 4) (.int .i64 kj) (.int .i64 (kj + 1)) (.int .i64 (kj + 1 + 1)) (.slice a' l' c') _) := ⟨hB2, hPP, hRR, hbg, t0, t1, t2, t3⟩
      have ND : Hid (g ∉ bs1 ∧ (∀ x ∈ bsP, x ∉ bs1) ∧ (∀ x ∈ bs2, x ∉ bs1) ∧ bsP ++ (bs1 ++ bs2) = bs') := ⟨fun hx => hng (List.mem_append_right _ (List.mem_append_left _ hx)), fun x hx hx1 => hdisP x hx x (List.mem_append_left _ hx1) rfl, fun x hx hx1 => hdis12 x hx1 x hx rfl, hbs⟩
      have AP : Hid (P.app (markB (.cons vv kk nn d R') kj) = markB f k0) := happ
      clear HR hB hP hbs happ htn hd hR2 hnd hng hnd' hndP hnd12 hdisP hnd1 hnd2 hdis12 hB2 hg2 t0 t1 t2 hoth hne1 hPP hRR hbg H0 hRs
      go_wp2_with fail
      refine Calls.mono CC.out ?_
      rintro e u ⟨rfl, htn, hd⟩
      obtain ⟨hB, hP, hR, hbg, t0, t1, t2, t3⟩ := FX.out
      obtain ⟨n1, n2, n3, hbs⟩ := ND.out
      have eg := htn.block g hB.lt n1
      have hP2 := hP.move (w' := u) (b' := g) (off' := 0) (fun i _ => cell_of_heap eg) (fun x hx => htn.block x (hP.lt x hx) (n2 x hx))
      have hR2 := hR.move (w' := u) (b' := g) (off' := (j + 1) * 4) (fun i _ => cell_of_heap eg) (fun x hx => htn.block x (hR.lt x hx) (n3 x hx))
      have hO := hP2.app (OwnB.one (b := g) (off := 0 + P.len * 4) (by rw [hPl, Nat.zero_add]; exact ⟨(cell_of_heap eg).trans t0, (cell_of_heap eg).trans t1, (cell_of_heap eg).trans t2, (cell_of_heap eg).trans t3⟩) hd)
      have hap : (P.app (.cons kj (kj + 1) (kj + 1 + 1) (markF d (kj + 1 + 1 + 1)) .nil)).app (markB R' (kj + 1 + 1 + 1 + 2 * d.size)) = markB f k0 := by rw [B.app_assoc]; exact AP.out
      have hlP : (P.app (.cons kj (kj + 1) (kj + 1 + 1) (markF d (kj + 1 + 1 + 1)) .nil)).len = j + 1 := by rw [B.app_len, hPl]; rfl
      have FY : Hid (Blk4 u 44 g c ∧ OwnB u 25 _ g 0 (bsP ++ bs1) ∧ OwnB u 25 R' g ((j + 1) * 4) bs2 ∧ (bsP ++ bs1) ++ bs2 = bs' ∧ _ = markB f k0 ∧ Tn w u (g :: bs')) := ⟨hB.of eg, hO, hR2, by rw [List.append_assoc]; exact hbs, hap, hbg.trans (htn.mono (fun x hx => by rw [← hbs]; exact List.mem_cons_of_mem _ (List.mem_append_right _ (List.mem_append_left _ hx))))⟩
      clear FX ND AP CC hB hP hR hbg t0 t1 t2 t3 n1 n2 n3 hbs eg hP2 hR2 hO hap htn hd c0 c1 c2 c3
      simp only []
      go_wp2
      go_roundw
      case rel => exact ⟨j + 1, _, R', _, bs2, _, by omega, by go_num, rfl, by omega, by omega, hlP, by omega, hRs', FY⟩
      case measure => simp [intOf]; omega
    · obtain rfl : j = l := by omega
      obtain rfl : R = .nil := B.nil_of_len (by omega)
      obtain ⟨hB, hP, hR, hbs, happ, htn⟩ := HR.out
      have hR' : bsR = [] := hR
      subst hR'
      rw [List.append_nil] at hbs
      subst hbs
      rw [markB, B.app_nil] at happ
      subst happ
      have hkk : Hid (kj = k0 + 2 * f.size + f.len) := by show _ = _; simp only [B.size, B.len] at hks; omega
      have FY : Hid _ := And.intro hB (And.intro hP htn)
      clear HR hB hP hR htn hks
      go_wp2
      go_ret
      exact ⟨by rw [← hkk.out]; rfl, FY.out.2.2, by rw [markB_len]; exact hfl, hl, hlc, .inr ⟨g, bsP, hp0, rfl, rfl, FY.out.1, FY.out.2.1⟩⟩

set_option maxHeartbeats 1000000 in
theorem heldBs (f : B) (a : Option Addr) (l c : Nat) (k0 : Int) (w : World) (h : SlB w a l (markB f k0)) (hk0 : 0 ≤ k0) (hk1 : k0 + 2 * f.size + f.len ≤ 4611686018427387904) :
    Calls Try.prog 36 #[.slice a l c, .int .i64 k0] w fun e u => e = .returned (.int .i64 (k0 + 2 * f.size + f.len)) ∧ w.grownBy u none := by
  have hfl := h.1
  rw [markB_len] at hfl
  have hl := h.2.1
  rcases h.cases with ⟨rfl, hf⟩ | ⟨b, o, rfl, hin, -, hpos⟩
  · obtain rfl := B.nil_of_len hfl
    clear h hf
    go_enter Try.func36, Try.ntmps36
    go_wp2
    refine wp_loop_rounds 1 ?_
    rw [rounds_succ]
    go_wp2
    go_ret
    exact ⟨by simp [B.size, B.len], World.grownBy.refl _ _⟩
  have IN : Hid (InB w (markB f k0) b o) := hin
  clear hin h
  go_enter Try.func36, Try.ntmps36
  go_wp2
  go_loopw [1, 5] (fun v i wr => ∃ (j : Nat) (R : B) (kj : Int), j ≤ l ∧ i = .int .i64 j ∧ v = .int .i64 kj ∧ 0 ≤ kj ∧ kj + 2 * R.size + R.len = k0 + 2 * f.size + f.len ∧ R.len + j = l ∧ R.size ≤ f.size ∧ Hid (InB wr (markB R kj) b (o + j * 4) ∧ w.grownBy wr none)) (fun _ i _ => l - (intOf i).toNat)
  case atStart => exact ⟨0, f, k0, Nat.zero_le _, rfl, rfl, hk0, rfl, by omega, Nat.le_refl _, by simpa using IN.out, World.grownBy.refl _ _⟩
  case round =>
    obtain ⟨j, R, kj, hj, rfl, rfl, hkj, hks, hRl, hRs, HR⟩ := hrel
    by_cases hlt : j < l
    · obtain ⟨q, hq⟩ : ∃ q, R.len = q + 1 := ⟨R.len - 1, by omega⟩
      obtain ⟨vv, kk, nn, d, R', rfl, hR'⟩ := B.cons_of_len hq
      obtain ⟨hR, hg⟩ := HR.out
      rw [markB] at hR
      obtain ⟨⟨a', l', c', ⟨c0, c1, c2, c3⟩, hd⟩, hR2⟩ := hR
      have e3 : o + j * 4 + 4 = o + (j + 1) * 4 := by omega
      rw [e3] at hR2
      have hRs' : R'.size ≤ f.size := by simp only [B.size] at hRs; omega
      simp only [B.size, B.len] at hks
      have CC : Hid _ := heldS (d.size + 1) d a' l' c' (kj + 1 + 1 + 1) wr (Nat.lt_succ_self _) hd (by omega) (by omega)
      have FX : Hid (InB wr (markB R' (kj + 1 + 1 + 1 + 2 * d.size)) b (o + (j + 1) * 4) ∧ w.grownBy wr none) := ⟨hR2, hg⟩
      clear HR hg hd hR2 IN hRs
      go_wp2_with fail
      refine Calls.mono CC.out ?_
      rintro e u ⟨rfl, hgu⟩
      have FY : Hid (InB u (markB R' (kj + 1 + 1 + 1 + 2 * d.size)) b (o + (j + 1) * 4) ∧ w.grownBy u none) := ⟨FX.out.1.none hgu, grown_trans FX.out.2 hgu⟩
      have hnn : ¬ (kj + 1 + 1 + 1 + 2 * (d.size : Int) < 0) := by omega
      clear FX hgu CC c0 c1 c2 c3
      simp only []
      go_wp2
      go_roundw
      case rel => exact ⟨j + 1, R', _, by omega, by go_num, rfl, by omega, by omega, by omega, hRs', FY⟩
      case measure => simp [intOf]; omega
    · obtain rfl : j = l := by omega
      obtain rfl : R = .nil := B.nil_of_len (by omega)
      have hkk : Hid (kj = k0 + 2 * f.size + f.len) := by show _ = _; simp only [B.size, B.len] at hks; omega
      clear hks
      go_wp2
      go_ret
      exact ⟨by rw [← hkk.out]; rfl, HR.out.2⟩
end Go.Proofs.Ytmlganaiajhjeaa.By
