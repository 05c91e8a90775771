/-
  Marks on trees that are our own, and that they are held. No statement is proved here.
-/
import Derived.Test.YtmlganaiajhjeaaTHelpAlso
namespace Go.Proofs.Ytmlganaiajhjeaa.By
open Go.RowKit
set_option linter.unusedVariables false

/-- Nothing that was there has turned but the blocks bs. -/
structure Tn (w u : World) (bs : List Nat) : Prop where
  os : u.os = w.os
  tape : u.tape = w.tape
  output : u.output = w.output
  size : w.heap.size ≤ u.heap.size
  block : ∀ i, i < w.heap.size → i ∉ bs → u.heap[i]? = w.heap[i]?
theorem Tn.refl (w : World) (bs : List Nat) : Tn w w bs := ⟨rfl, rfl, rfl, Nat.le_refl _, fun _ _ _ => rfl⟩
theorem Tn.trans {a b c : World} {bs : List Nat} (h : Tn a b bs) (k : Tn b c bs) : Tn a c bs :=
  ⟨k.os.trans h.os, k.tape.trans h.tape, k.output.trans h.output, Nat.le_trans h.size k.size, fun i hi hn => (k.block i (Nat.lt_of_lt_of_le hi h.size) hn).trans (h.block i hi hn)⟩
theorem Tn.mono {w u : World} {bs bs' : List Nat} (h : Tn w u bs) (hs : ∀ x ∈ bs, x ∈ bs') : Tn w u bs' :=
  ⟨h.os, h.tape, h.output, h.size, fun i hi hn => h.block i hi (fun hx => hn (hs i hx))⟩
theorem Tn.grown {w u : World} (h : w.grownBy u none) (bs : List Nat) : Tn w u bs := ⟨h.os, h.tape, h.output, h.size, fun i hi _ => h.block i hi (by simp)⟩
theorem Tn.row {w u : World} {g : Nat} (h : w.grownBy u (some g)) : Tn w u [g] := ⟨h.os, h.tape, h.output, h.size, fun i hi hn => h.block i hi (by simpa using hn)⟩
theorem Tn.fresh {a w u : World} {bs : List Nat} (h : a.grownBy w none) (k : Tn w u bs) (hb : ∀ x ∈ bs, a.heap.size ≤ x) : a.grownBy u none :=
  ⟨k.os.trans h.os, k.tape.trans h.tape, k.output.trans h.output, Nat.le_trans h.size k.size, fun i hi _ => (k.block i (Nat.lt_of_lt_of_le hi h.size) (fun hx => by have := hb i hx; omega)).trans (h.block i hi (by simp))⟩

/-- k, k + 1, .. in the place of kinds and numbers. -/
def markF : F → Int → F
  | .nil, _ => .nil
  | .cons _ _ d r, k => .cons k (k + 1) (markF d (k + 1 + 1)) (markF r (k + 1 + 1 + 2 * d.size))
theorem markF_len (f : F) : ∀ k, (markF f k).len = f.len := by
  induction f with
  | nil => intro k; rfl
  | cons k n d r _ ih => intro x; simp only [markF, F.len, ih]
theorem markF_size (f : F) : ∀ k, (markF f k).size = f.size := by
  induction f with
  | nil => intro k; rfl
  | cons k n d r ihd ihr => intro x; simp only [markF, F.size, ihd, ihr]

/-- Two cells of a block are stored. -/
theorem Blk.put2 {u : World} {t : TypeId} {g c : Nat} (h : Blk u t g c) (p : Nat) (hp : p + 1 < c * 3) (v0 v1 : Value) :
    Blk ((u.setCell ⟨g, p, none⟩ v0).setCell ⟨g, p + 1, none⟩ v1) t g c ∧ u.grownBy ((u.setCell ⟨g, p, none⟩ v0).setCell ⟨g, p + 1, none⟩ v1) (some g) ∧
    (((u.setCell ⟨g, p, none⟩ v0).setCell ⟨g, p + 1, none⟩ v1).cell? ⟨g, p, none⟩ = some v0 ∧ ((u.setCell ⟨g, p, none⟩ v0).setCell ⟨g, p + 1, none⟩ v1).cell? ⟨g, p + 1, none⟩ = some v1) ∧
    ∀ q, (q < p ∨ p + 1 < q) → ((u.setCell ⟨g, p, none⟩ v0).setCell ⟨g, p + 1, none⟩ v1).cell? ⟨g, q, none⟩ = u.cell? ⟨g, q, none⟩ := by
  obtain ⟨cur, hc, hs⟩ := h
  have h1 := heap_setCell_same u g p cur t v0 hc
  have h2 := heap_setCell_same _ g (p + 1) _ t v1 h1
  refine ⟨⟨_, h2, by simpa using hs⟩, grown_trans (grown_setCell _ _ _ _) (grown_setCell _ _ _ _), ⟨?_, ?_⟩, fun q hq => ?_⟩
  · rw [cell_of_row _ g _ _ t (0, 0) h2]; simp [show p < cur.size by omega]
  · rw [cell_of_row _ g _ _ t (0, 0) h2]; simp [show p + 1 < cur.size by omega]
  · rw [cell_of_row _ g _ _ t (0, 0) h2, cell_of_row _ g _ _ t (0, 0) hc]
    rw [Array.getElem?_setIfInBounds_ne (by omega), Array.getElem?_setIfInBounds_ne (by omega)]

set_option maxHeartbeats 1000000 in
theorem markS (m : Nat) : ∀ (f : F) (a : Option Addr) (l c : Nat) (bs : List Nat) (k0 : Int) (w : World), f.size < m → SlO w 25 a l c f bs → bs.Nodup → 0 ≤ k0 → k0 + 2 * f.size ≤ 4611686018427387904 →
    Calls Try.prog 29 #[.slice a l c, .int .i64 k0] w fun e u => e = .returned (.int .i64 (k0 + 2 * f.size)) ∧ Tn w u bs ∧ SlO u 25 a l c (markF f k0) bs := by
  induction m with
  | zero => intro f a l c bs k0 w hm; exact absurd hm (Nat.not_lt_zero _)
  | succ m ih =>
    intro f a l c bs k0 w hm h hnd hk0 hk1
    obtain ⟨hfl, hl, hlc, hx⟩ := h
    by_cases hl0 : l = 0
    · subst hl0
      obtain rfl := F.nil_of_len hfl
      have HX : Hid _ := hx
      clear ih hx
      go_enter Try.func29, Try.ntmps29
      go_wp2
      refine wp_loop_rounds 1 ?_
      rw [rounds_succ]
      go_wp2
      go_ret
      refine ⟨by simp [F.size], Tn.refl _ _, rfl, hl, hlc, HX.out⟩
    rcases hx with ⟨hc0, _⟩ | ⟨g, bs', hp0, rfl, rfl, hblk, hown⟩
    · exact absurd hc0 (by omega)
    have IH : Hid _ := ih
    have H0 : Hid (Blk w 25 g c ∧ OwnF w 25 f g 0 bs' ∧ (g :: bs').Nodup) := ⟨hblk, hown, hnd⟩
    clear ih hblk hown hnd
    go_enter Try.func29, Try.ntmps29
    go_wp2
    go_loopw [1, 5] (fun v i wr => ∃ (j : Nat) (P R : F) (bsP bsR : List Nat) (kj : Int), j ≤ l ∧ i = .int .i64 j ∧ v = .int .i64 kj ∧ 0 ≤ kj ∧ kj + 2 * R.size = k0 + 2 * f.size ∧ P.len = j ∧ R.len + j = l ∧ R.size ≤ f.size ∧ Hid (Blk wr 25 g c ∧ OwnF wr 25 P g 0 bsP ∧ OwnF wr 25 R g (j * 3) bsR ∧ bsP ++ bsR = bs' ∧ P.app (markF R kj) = markF f k0 ∧ Tn w wr (g :: bs'))) (fun _ i _ => l - (intOf i).toNat)
    case atStart => exact ⟨0, .nil, f, [], bs', k0, Nat.zero_le _, rfl, rfl, hk0, rfl, rfl, by omega, Nat.le_refl _, H0.out.1, rfl, by simpa using H0.out.2.1, rfl, rfl, Tn.refl _ _⟩
    case round =>
      obtain ⟨j, P, R, bsP, bsR, kj, hj, rfl, rfl, hkj, hks, hPl, hRl, hRs, HR⟩ := hrel
      by_cases hlt : j < l
      · obtain ⟨q, hq⟩ : ∃ q, R.len = q + 1 := ⟨R.len - 1, by omega⟩
        obtain ⟨kk, nn, d, R', rfl, hR'⟩ := F.cons_of_len hq
        obtain ⟨hB, hP, hR, hbs, happ, htn⟩ := HR.out
        obtain ⟨bs1, bs2, a', l', c', rfl, c0, c1, c2, hd, hR2⟩ := hR.out
        have hnd := H0.out.2.2
        rw [← hbs] at hnd
        obtain ⟨hng, hnd'⟩ := List.nodup_cons.1 hnd
        obtain ⟨hndP, hnd12, hdisP⟩ := List.nodup_append.1 hnd'
        obtain ⟨hnd1, hnd2, hdis12⟩ := List.nodup_append.1 hnd12
        have e3 : j * 3 + 3 = (j + 1) * 3 := by omega
        rw [e3] at hR2
        have hds : d.size < m := by simp only [F.size] at hRs hm; omega
        have hRs' : R'.size ≤ f.size := by simp only [F.size] at hRs; omega
        simp only [F.size] at hks
        have f0 := hB.free (j * 3)
        have f1 := hB.free (j * 3 + 1)
        obtain ⟨hB2, hg2, ⟨t0, t1⟩, hoth⟩ := hB.put2 (j * 3) (by omega) (.int .i64 kj) (.int .i64 (kj + 1))
        have hne1 : ∀ x ∈ bs1, some x ≠ some g := fun x hx => by simp; rintro rfl; exact hng (List.mem_append_right _ (List.mem_append_left _ hx))
        have t2 := (hoth (j * 3 + 2) (.inr (by omega))).trans c2
        have CC : Hid _ := IH.out d a' l' c' bs1 (kj + 1 + 1) _ hds (hd.kept hg2 hne1) hnd1 (by omega) (by omega)
        have hPP := hP.move (w' := (wr.setCell ⟨g, j * 3, none⟩ (.int .i64 kj)).setCell ⟨g, j * 3 + 1, none⟩ (.int .i64 (kj + 1))) (b' := g) (off' := 0) (fun i hi => hoth _ (.inl (by omega))) (fun x hx => hg2.block x (hP.lt x hx) (by simp; rintro rfl; exact hng (List.mem_append_left _ hx)))
        have hRR := hR2.move (w' := (wr.setCell ⟨g, j * 3, none⟩ (.int .i64 kj)).setCell ⟨g, j * 3 + 1, none⟩ (.int .i64 (kj + 1))) (b' := g) (off' := (j + 1) * 3) (fun i hi => hoth _ (.inr (by omega))) (fun x hx => hg2.block x (hR2.lt x hx) (by simp; rintro rfl; exact hng (List.mem_append_right _ (List.mem_append_right _ hx))))
        have hbg : Tn w _ (g :: bs') := htn.trans ((Tn.row hg2).mono (fun x hx => by simp at hx; subst hx; simp))
        have FX : Hid (Blk _ 25 g c ∧ OwnF _ 25 P g 0 bsP ∧ OwnF _ 25 R' g ((j + 1) * 3) bs2 ∧ Tn w _ (g :: bs') ∧ (_ = some (Value.int .i64 kj) ∧ _ = some (Value.int .i64 (kj + 1)) ∧ _ = some (Value.slice a' l' c'))) := ⟨hB2, hPP, hRR, hbg, t0, t1, t2⟩
        have ND : Hid (g ∉ bs1 ∧ (∀ x ∈ bsP, x ∉ bs1) ∧ (∀ x ∈ bs2, x ∉ bs1) ∧ bsP ++ (bs1 ++ bs2) = bs') := ⟨fun hx => hng (List.mem_append_right _ (List.mem_append_left _ hx)), fun x hx hx1 => hdisP x hx x (List.mem_append_left _ hx1) rfl, fun x hx hx1 => hdis12 x hx1 x hx rfl, hbs⟩
        have AP : Hid (P.app (markF (.cons kk nn d R') kj) = markF f k0) := happ
        clear HR hB hP hR hbs happ htn hd hR2 hnd hng hnd' hndP hnd12 hdisP hnd1 hnd2 hdis12 hB2 hg2 t0 t1 hoth hne1 hPP hRR hbg IH H0 hRs
        go_wp2_with fail
        refine Calls.mono CC.out ?_
        rintro e u ⟨rfl, htn, hd⟩
        obtain ⟨hB, hP, hR, hbg, t0, t1, t2⟩ := FX.out
        obtain ⟨n1, n2, n3, hbs⟩ := ND.out
        have eg := htn.block g hB.lt n1
        have hP2 := hP.move (w' := u) (b' := g) (off' := 0) (fun i _ => cell_of_heap eg) (fun x hx => htn.block x (hP.lt x hx) (n2 x hx))
        have hR2 := hR.move (w' := u) (b' := g) (off' := (j + 1) * 3) (fun i _ => cell_of_heap eg) (fun x hx => htn.block x (hR.lt x hx) (n3 x hx))
        have hO := hP2.app (OwnF.one (b := g) (off := 0 + P.len * 3) (by rw [hPl, Nat.zero_add, cell_of_heap eg]; exact t0) (by rw [hPl, Nat.zero_add, cell_of_heap eg]; exact t1) (by rw [hPl, Nat.zero_add, cell_of_heap eg]; exact t2) hd)
        have hap : (P.app (.cons kj (kj + 1) (markF d (kj + 1 + 1)) .nil)).app (markF R' (kj + 1 + 1 + 2 * d.size)) = markF f k0 := by rw [F.app_assoc]; exact AP.out
        have hlP : (P.app (.cons kj (kj + 1) (markF d (kj + 1 + 1)) .nil)).len = j + 1 := by rw [F.app_len, hPl]; rfl
        have FY : Hid (Blk u 25 g c ∧ OwnF u 25 _ g 0 (bsP ++ bs1) ∧ OwnF u 25 R' g ((j + 1) * 3) bs2 ∧ (bsP ++ bs1) ++ bs2 = bs' ∧ _ = markF f k0 ∧ Tn w u (g :: bs')) := ⟨hB.of eg, hO, hR2, by rw [List.append_assoc]; exact hbs, hap, hbg.trans (htn.mono (fun x hx => by rw [← hbs]; exact List.mem_cons_of_mem _ (List.mem_append_right _ (List.mem_append_left _ hx))))⟩
        clear FX ND AP CC hB hP hR hbg t0 t1 t2 n1 n2 n3 hbs eg hP2 hR2 hO hap htn hd c0 c1 c2
        simp only []
        go_wp2
        go_roundw
        case rel => exact ⟨j + 1, _, R', _, bs2, _, by omega, by go_num, rfl, by omega, by omega, hlP, by omega, hRs', FY⟩
        case measure => simp [intOf]; omega
      · obtain rfl : j = l := by omega
        obtain rfl : R = .nil := F.nil_of_len (by omega)
        obtain ⟨hB, hP, hR, hbs, happ, htn⟩ := HR.out
        have hR' : bsR = [] := hR
        subst hR'
        rw [List.append_nil] at hbs
        subst hbs
        rw [markF, F.app_nil] at happ
        subst happ
        have hkk : Hid (kj = k0 + 2 * f.size) := by show _ = _; simp only [F.size] at hks; omega
        have FY : Hid _ := And.intro hB (And.intro hP htn)
        clear HR hB hP hR htn hks
        go_wp2
        go_ret
        exact ⟨by rw [← hkk.out]; rfl, FY.out.2.2, by rw [markF_len]; exact hfl, hl, hlc, .inr ⟨g, bsP, hp0, rfl, rfl, FY.out.1, FY.out.2.1⟩⟩

set_option maxHeartbeats 1000000 in
theorem heldS (m : Nat) : ∀ (f : F) (a : Option Addr) (l c : Nat) (k0 : Int) (w : World), f.size < m → SlF w a l (markF f k0) → 0 ≤ k0 → k0 + 2 * f.size ≤ 4611686018427387904 →
    Calls Try.prog 58 #[.slice a l c, .int .i64 k0] w fun e u => e = .returned (.int .i64 (k0 + 2 * f.size)) ∧ w.grownBy u none := by
  induction m with
  | zero => intro f a l c k0 w hm; exact absurd hm (Nat.not_lt_zero _)
  | succ m ih =>
    intro f a l c k0 w hm h hk0 hk1
    have hfl := h.1
    rw [markF_len] at hfl
    have hl := h.2.1
    rcases h.cases with ⟨rfl, hf⟩ | ⟨b, o, rfl, hin, -, hpos⟩
    · obtain rfl := F.nil_of_len hfl
      clear ih h hf
      go_enter Try.func58, Try.ntmps58
      go_wp2
      refine wp_loop_rounds 1 ?_
      rw [rounds_succ]
      go_wp2
      go_ret
      exact ⟨by simp [F.size], World.grownBy.refl _ _⟩
    have IH : Hid _ := ih
    have IN : Hid (InF w (markF f k0) b o) := hin
    clear ih hin h
    go_enter Try.func58, Try.ntmps58
    go_wp2
    go_loopw [1, 5] (fun v i wr => ∃ (j : Nat) (R : F) (kj : Int), j ≤ l ∧ i = .int .i64 j ∧ v = .int .i64 kj ∧ 0 ≤ kj ∧ kj + 2 * R.size = k0 + 2 * f.size ∧ R.len + j = l ∧ R.size ≤ f.size ∧ Hid (InF wr (markF R kj) b (o + j * 3) ∧ w.grownBy wr none)) (fun _ i _ => l - (intOf i).toNat)
    case atStart => exact ⟨0, f, k0, Nat.zero_le _, rfl, rfl, hk0, rfl, by omega, Nat.le_refl _, by simpa using IN.out, World.grownBy.refl _ _⟩
    case round =>
      obtain ⟨j, R, kj, hj, rfl, rfl, hkj, hks, hRl, hRs, HR⟩ := hrel
      by_cases hlt : j < l
      · obtain ⟨q, hq⟩ : ∃ q, R.len = q + 1 := ⟨R.len - 1, by omega⟩
        obtain ⟨kk, nn, d, R', rfl, hR'⟩ := F.cons_of_len hq
        obtain ⟨hR, hg⟩ := HR.out
        rw [markF] at hR
        obtain ⟨a', l', c', c0, c1, c2, hd, hR2⟩ := hR.out
        have e3 : o + j * 3 + 3 = o + (j + 1) * 3 := by omega
        rw [e3] at hR2
        have hds : d.size < m := by simp only [F.size] at hRs hm; omega
        have hRs' : R'.size ≤ f.size := by simp only [F.size] at hRs; omega
        simp only [F.size] at hks
        have CC : Hid _ := IH.out d a' l' c' (kj + 1 + 1) wr hds hd (by omega) (by omega)
        have FX : Hid (InF wr (markF R' (kj + 1 + 1 + 2 * d.size)) b (o + (j + 1) * 3) ∧ w.grownBy wr none) := ⟨hR2, hg⟩
        clear HR hR hg hd hR2 IN IH hRs
        go_wp2_with fail
        refine Calls.mono CC.out ?_
        rintro e u ⟨rfl, hgu⟩
        have FY : Hid (InF u (markF R' (kj + 1 + 1 + 2 * d.size)) b (o + (j + 1) * 3) ∧ w.grownBy u none) := ⟨FX.out.1.none hgu, grown_trans FX.out.2 hgu⟩
        have hnn : ¬ (kj + 1 + 1 + 2 * (d.size : Int) < 0) := by omega
        clear FX hgu CC c0 c1 c2
        simp only []
        go_wp2
        go_roundw
        case rel => exact ⟨j + 1, R', _, by omega, by go_num, rfl, by omega, by omega, by omega, hRs', FY⟩
        case measure => simp [intOf]; omega
      · obtain rfl : j = l := by omega
        obtain rfl : R = .nil := F.nil_of_len (by omega)
        have hkk : Hid (kj = k0 + 2 * f.size) := by show _ = _; simp only [F.size] at hks; omega
        clear hks
        go_wp2
        go_ret
        exact ⟨by rw [← hkk.out]; rfl, HR.out.2⟩

set_option maxHeartbeats 400000 in
theorem markTr (d : F) (k n : Int) (a : Option Addr) (l c : Nat) (bs : List Nat) (k0 : Int) (w : World) (h : SlO w 25 a l c d bs) (hnd : bs.Nodup) (h0 : 0 ≤ k0) (h1 : k0 + 2 * d.size ≤ 4611686018427387904) :
    Calls Try.prog 28 #[.agg #[.int .i64 k, .int .i64 n, .slice a l c], .int .i64 k0] w fun e u => e = .returned (.int .i64 (k0 + 2 * d.size)) ∧ Tn w u bs ∧ SlO u 25 a l c (markF d k0) bs := by
  have g0 := World.grownBy_alloc w (.cells #[.int .i64 k, .int .i64 n, .slice a l c] 25) none
  have CC : Hid _ := markS (d.size + 1) d a l c bs k0 _ (Nat.lt_succ_self _) (h.old g0) hnd h0 h1
  have G0 : Hid _ := Tn.grown g0 bs
  clear g0 h hnd
  go_enter Try.func28, Try.ntmps28
  go_wp2_with fail
  refine Calls.mono CC.out ?_
  rintro e u ⟨rfl, ht, hs⟩
  have FIN : Hid (Tn w u bs ∧ SlO u 25 a l c (markF d k0) bs) := ⟨G0.out.trans ht, hs⟩
  clear ht hs CC G0
  simp only []
  go_wp2
  go_ret
  exact ⟨rfl, FIN.out⟩

set_option maxHeartbeats 400000 in
theorem heldTr (d : F) (k n : Int) (a : Option Addr) (l c : Nat) (k0 : Int) (w : World) (h : SlF w a l (markF d k0)) (h0 : 0 ≤ k0) (h1 : k0 + 2 * d.size ≤ 4611686018427387904) :
    Calls Try.prog 30 #[.agg #[.int .i64 k, .int .i64 n, .slice a l c], .int .i64 k0] w fun e u => e = .returned (.int .i64 (k0 + 2 * d.size)) ∧ w.grownBy u none := by
  have g0 := World.grownBy_alloc w (.cells #[.int .i64 k, .int .i64 n, .slice a l c] 25) none
  have CC : Hid _ := heldS (d.size + 1) d a l c k0 _ (Nat.lt_succ_self _) (h.none g0) h0 h1
  have G0 : Hid _ := g0
  have hnn : ¬ (k0 + 2 * (d.size : Int) < 0) := by omega
  clear g0 h
  go_enter Try.func30, Try.ntmps30
  go_wp2_with fail
  refine Calls.mono CC.out ?_
  rintro e u ⟨rfl, hg⟩
  have FIN : Hid (w.grownBy u none) := grown_trans G0.out hg
  clear hg CC G0
  simp only []
  go_wp2
  go_ret
  exact ⟨rfl, FIN.out⟩
end Go.Proofs.Ytmlganaiajhjeaa.By
