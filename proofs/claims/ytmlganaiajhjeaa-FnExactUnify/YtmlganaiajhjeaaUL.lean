/-
  spec.l4go by its contract. No statement is proved here.
-/
import Derived.Test.YtmlganaiajhjeaaUV
import Derived.Deep.DeepCutAuto
import Derived.Deep.CutBlock
namespace Go.Proofs.Ytmlganaiajhjeaa.By
open Go.RowKit
set_option linter.unusedVariables false
set_option linter.unusedSimpArgs false

/-- What l4go answers. -/
def RgA (w : World) (ok : Bool) (r : Int × Int × F) (e : Ending) (u : World) : Prop :=
  w.grownBy u none ∧ (if ok = true then ∃ a' c' bs, e = .returned (.tuple #[.agg #[.int .i64 r.1, .int .i64 r.2.1, .slice a' r.2.2.len c'], .int .i64 ((1 + r.2.2.size : Nat) : Int)]) ∧ New w u 25 a' r.2.2.len c' r.2.2 bs ∧ (c' = 0 → a' = none)
    else e = .returned (.tuple #[.agg #[.int .i64 0, .int .i64 0, .slice none 0 0], .int .i64 (-1)]))
/-- The rank of the variable in the box q. -/
def rkW (L : B) (q : Nat) (w : World) : Nat := match w.cell? ⟨q, 0, none⟩, w.cell? ⟨q, 1, none⟩ with
  | some (.int _ k), some (.int _ n) => rkT L k n
  | _, _ => 0
theorem rkW_eq {L : B} {q : Nat} {w : World} {k n : Int} (h0 : w.cell? ⟨q, 0, none⟩ = some (.int .i64 k)) (h1 : w.cell? ⟨q, 1, none⟩ = some (.int .i64 n)) : rkW L q w = rkT L k n := by
  unfold rkW; rw [h0, h1]
/-- The bind at the place that was found. -/
theorem InB.found {w : World} {L : B} {x : Int} : ∀ {b o j : Nat}, InB w L b o → 0 ≤ findV L x j → ∃ k n d a l c i, findV L x j = ((j + i : Nat) : Int) ∧ i < L.len ∧ L.find x = some (k, n, d) ∧ Qua b (o + i * 4) (.int .i64 x) (.int .i64 k) (.int .i64 n) (.slice a l c) w ∧ SlF w a l d := by
  induction L with
  | nil => intro b o j _ h; simp [findV] at h
  | cons v k n d r ih =>
    intro b o j hin h
    obtain ⟨⟨a, l, c, hq, hs⟩, hr⟩ := hin
    by_cases hv : v = x
    · subst hv
      exact ⟨k, n, d, a, l, c, 0, by simp [findV], by simp [B.len], by simp [B.find], by simpa using hq, hs⟩
    · simp only [findV, if_neg hv] at h ⊢
      obtain ⟨k', n', d', a', l', c', i, e, hi, hf, hq', hs'⟩ := ih hr h
      exact ⟨k', n', d', a', l', c', i + 1, by rw [e]; omega, by simp [B.len]; omega, by simp only [B.find, if_neg hv]; exact hf, by rw [show o + (i + 1) * 4 = o + 4 + i * 4 by omega]; exact hq', hs'⟩
theorem InF.sndF {w : World} {f g : F} {b off : Nat} (h : InF w (f.app g) b off) : InF w g b (off + f.len * 3) := by
  induction f generalizing off with
  | nil => simpa [F.app, F.len] using h
  | cons k n d r _ ih =>
    have e : off + (F.cons k n d r).len * 3 = off + 3 + r.len * 3 := by simp only [F.len]; omega
    rw [e]
    exact ih h.2
theorem findV_none {L : B} {x : Int} (h : findV L x 0 < 0) : L.find x = none := by
  have h1 := findV_dom L x 0
  have h2 := B.find_dom L x
  rw [← h1, decide_eq_false (by omega)] at h2
  exact Option.not_isSome_iff_eq_none.1 (by simp [h2])

theorem kidS_no {L : B} {P R' d dd : F} {kk nn : Int} {D : Nat} (hP : P.app (.cons kk nn dd R') = d) (hno : wOk L kk nn dd D 60 = false ∨ 60 < (1 + (rsF L P).size) + (1 + (rsT L (kk, nn, dd)).2.2.size)) : (decide (1 + depF (rsF L d) ≤ D + 1) && decide (1 + (rsF L d).size ≤ 60)) = false := by
  rw [Bool.eq_false_iff]
  intro h
  simp only [Bool.and_eq_true, decide_eq_true_eq] at h
  obtain ⟨g1, g2⟩ := h
  rw [← hP, rsF_app, rsF_cons, depF_app] at g1
  rw [← hP, rsF_app, rsF_cons, F.app_size] at g2
  simp only [depF] at g1
  simp only [F.size] at g2
  rcases hno with hno | hno
  · have : wOk L kk nn dd D 60 = true := by simp only [wOk, Bool.and_eq_true, decide_eq_true_eq]; omega
    rw [this] at hno; cases hno
  · omega
theorem kidS_yes {L : B} {P dd : F} {kk nn : Int} {D : Nat} (hdp : depF (rsF L P) ≤ D) (hyes : wOk L kk nn dd D 60 = true) (hs : (1 + (rsF L P).size) + (1 + (rsT L (kk, nn, dd)).2.2.size) ≤ 60) : 1 + (rsF L (P.app (.cons kk nn dd .nil))).size ≤ 60 ∧ depF (rsF L (P.app (.cons kk nn dd .nil))) ≤ D ∧ (1 + (rsF L P).size) + (1 + (rsT L (kk, nn, dd)).2.2.size) = 1 + (rsF L (P.app (.cons kk nn dd .nil))).size := by
  simp only [wOk, Bool.and_eq_true, decide_eq_true_eq] at hyes
  rw [rsF_app, rsF_cons, rsF_nil, depF_app, F.app_size]
  simp only [depF, F.size, Nat.max_le]
  omega


set_option maxRecDepth 8000 in
set_option maxHeartbeats 4000000 in
theorem l4goT (L : B) (hL : wfB L) (hlen : L.len ≤ 200000) (D : Nat) : ∀ (d : F) (k n : Int) (a : Option Addr) (l c : Nat) (a0 : Option Addr) (l0 c0 : Nat) (w : World), D ≤ 10 → SlB w a0 l0 L → SlF w a l d → fitsB k n l = true → fitF d = true → d.size ≤ 59 →
    Calls Try.prog 63 #[.slice a0 l0 c0, .agg #[.int .i64 k, .int .i64 n, .slice a l c], .int .i64 (11 - (D : Int))] w fun e u => RgA w (wOk L k n d D 60) (rsT L (k, n, d)) e u := by
  induction D with
  | zero =>
    intro d k n a l c a0 l0 c0 w hD hB hS hf hfd hds
    obtain ⟨b0, b1, bsz⟩ := alloc2_blocks w (.cells #[.int .i64 k, .int .i64 n, .slice a l c] 25) (.cells #[.int .i64 0, .int .i64 0, .slice none 0 0] 25)
    have g0 := grown_alloc (grown_alloc (World.grownBy.refl w none) (.cells #[.int .i64 k, .int .i64 n, .slice a l c] 25)) (.cells #[.int .i64 0, .int .i64 0, .slice none 0 0] 25)
    have HW : Hid (wOk L k n d 0 60 = false) := by show _ = _; simp [wOk]
    have L0 : Hid (w.grownBy ((w.alloc (.cells #[.int .i64 k, .int .i64 n, .slice a l c] 25)).alloc (.cells #[.int .i64 0, .int .i64 0, .slice none 0 0] 25)) none ∧ ((w.alloc (.cells #[.int .i64 k, .int .i64 n, .slice a l c] 25)).alloc (.cells #[.int .i64 0, .int .i64 0, .slice none 0 0] 25)).heap[w.heap.size + 1]? = some (Obj.cells #[.int .i64 0, .int .i64 0, .slice none 0 0] 25)) := ⟨g0, b1⟩
    clear b0 b1 bsz g0 hB hS hf hfd hds hD
    have e11 : (11 : Int) - ((0 : Nat) : Int) = 11 := by omega
    rw [e11]
    clear e11
    go_enter Try.func63, Try.ntmps63
    go_wp2
    (try simp only [Exit.inBlock, Exit.then])
    go_returns
    refine ⟨L0.out.1, ?_⟩
    rw [HW.out]
    simp
  | succ D ih =>
    intro d k n a l c a0 l0 c0 w hD hB hS hf hfd hds
    have IH : Hid _ := ih
    obtain ⟨b0, b1, bsz⟩ := alloc2_blocks w (.cells #[.int .i64 k, .int .i64 n, .slice a l c] 25) (.cells #[.int .i64 0, .int .i64 0, .slice none 0 0] 25)
    have g0 := grown_alloc (grown_alloc (World.grownBy.refl w none) (.cells #[.int .i64 k, .int .i64 n, .slice a l c] 25)) (.cells #[.int .i64 0, .int .i64 0, .slice none 0 0] 25)
    have L0 : Hid (w.grownBy _ none ∧ _ = some (Obj.cells #[.int .i64 k, .int .i64 n, .slice a l c] 25) ∧ _ = some (Obj.cells #[.int .i64 0, .int .i64 0, .slice none 0 0] 25) ∧ _ = w.heap.size + 1 + 1) := ⟨g0, b0, b1, bsz⟩
    have HS : Hid (SlB w a0 l0 L ∧ SlF w a l d ∧ fitsB k n l = true ∧ fitF d = true ∧ d.size ≤ 59 ∧ wfB L) := ⟨hB, hS, hf, hfd, hds, hL⟩
    have hl0 := hB.2.1
    have hl0L := hB.1
    clear ih b0 b1 bsz g0 hB hS hf hfd hds hL
    have e11 : (11 : Int) - ((D + 1 : Nat) : Int) = 10 - (D : Int) := by omega
    rw [e11]
    clear e11
    have hgt : decide (10 < 10 - (D : Int)) = false := by simp; omega
    go_enter Try.func63, Try.ntmps63
    go_upto_block 0 with fail
    generalize (w.alloc (.cells #[.int .i64 k, .int .i64 n, .slice a l c] 25)).alloc (.cells #[.int .i64 0, .int .i64 0, .slice none 0 0] 25) = W0 at *
    generalize eq : w.heap.size = q at *
    go_cut [8] (fun s wx => ∃ (k' n' : Int) (d' : F) (a' : Option Addr) (l' c' : Nat), Hid (w.grownBy wx none ∧ wx.heap[q]? = some (Obj.cells #[.int .i64 k', .int .i64 n', .slice a' l' c'] 25) ∧ wx.heap[q + 1]? = some (Obj.cells #[.int .i64 0, .int .i64 0, .slice none 0 0] 25) ∧ SlF w a' l' d' ∧ fitsB k' n' d'.len = true ∧ fitF d' = true ∧ d'.size ≤ 59 ∧ rsT L (k, n, d) = rsT L (k', n', d') ∧ (k' = 7 → L.find n' = none)))
    case first =>
      go_wp2_with fail
      go_loopw [8] (fun s wr => ∃ (k' n' : Int) (d' : F) (a' : Option Addr) (l' c' : Nat), Hid (w.grownBy wr none ∧ wr.heap[q]? = some (Obj.cells #[.int .i64 k', .int .i64 n', .slice a' l' c'] 25) ∧ wr.heap[q + 1]? = some (Obj.cells #[.int .i64 0, .int .i64 0, .slice none 0 0] 25) ∧ SlF w a' l' d' ∧ fitsB k' n' d'.len = true ∧ fitF d' = true ∧ d'.size ≤ 59 ∧ rsT L (k, n, d) = rsT L (k', n', d'))) (fun _ wr => rkW L q wr)
      case atStart => exact ⟨k, n, d, a, l, c, L0.out.1, L0.out.2.1, L0.out.2.2.1, HS.out.2.1, by rw [HS.out.2.1.1]; exact HS.out.2.2.1, HS.out.2.2.2.1, HS.out.2.2.2.2.1, rfl⟩
      case round =>
        obtain ⟨k', n', d', a', l', c', HR⟩ := hrel
        clear L0
        obtain ⟨⟨y0, y1, y2⟩, f0, f1, f2⟩ := three HR.out.2.1
        by_cases h7 : ¬ (k' = 7)
        · have hk7 : (k' == 7) = false := by simpa using h7
          have HE : Hid (k' = 7 → L.find n' = none) := fun e => absurd e h7
          clear h7
          go_wp2
          go_meet
          case rel =>
            obtain ⟨r1, r2, r3, r4, r5, r6, r7, r8⟩ := HR.out
            exact ⟨k', n', d', a', l', c', r1, r2, r3, r4, r5, r6, r7, r8, HE.out⟩
        have h7 := Decidable.not_not.1 h7
        have hk7 : (k' == 7) = true := by simpa using h7
        have HK : Hid (k' = 7 ∧ rkW L q wr = rkT L k' n') := ⟨h7, rkW_eq y0 y1⟩
        have CC : Hid _ := l4findT L a0 l0 c0 n' wr (HS.out.1.none HR.out.1)
        clear h7
        go_wp2_with fail
        refine Calls.mono CC.out ?_
        rintro e w2 ⟨rfl, hg⟩
        obtain ⟨r1, r2, r3, r4, r5, r6, r7, r8⟩ := HR.out
        have HQ : Hid (w.grownBy w2 none ∧ w2.heap[q]? = some (Obj.cells #[.int .i64 k', .int .i64 n', .slice a' l' c'] 25) ∧ w2.heap[q + 1]? = some (Obj.cells #[.int .i64 0, .int .i64 0, .slice none 0 0] 25)) := ⟨grown_trans r1 hg, (hg.block _ (lt_of_block r2) (by simp)).trans r2, (hg.block _ (lt_of_block r3) (by simp)).trans r3⟩
        clear CC hg r1 r2 r3 y0 y1 y2 f0 f1 f2
        simp only []
        by_cases hfv : findV L n' 0 < 0
        · have HE : Hid (k' = 7 → L.find n' = none) := fun _ => findV_none hfv
          have HX : Hid (SlF w a' l' d' ∧ fitsB k' n' d'.len = true ∧ fitF d' = true ∧ d'.size ≤ 59 ∧ rsT L (k, n, d) = rsT L (k', n', d')) := ⟨r4, r5, r6, r7, r8⟩
          clear r4 r5 r6 r7 r8 HR
          generalize findV L n' 0 = z at *
          go_wp2
          go_meet
          case rel =>
            obtain ⟨r4, r5, r6, r7, r8⟩ := HX.out
            exact ⟨k', n', d', a', l', c', HQ.out.1, HQ.out.2.1, HQ.out.2.2, r4, r5, r6, r7, r8, HE.out⟩
        · have hsl := HS.out.1.none HQ.out.1
          rcases hsl.cases with ⟨rfl, e0⟩ | ⟨b, o, rfl, hin, -, hpos⟩
          · rw [e0] at hfv; simp [findV] at hfv
          obtain ⟨k2, n2, d2, a2, l2, c2, i, efv, hi, hfd, ⟨x0, x1, x2, x3⟩, hs2⟩ := hin.found (x := n') (j := 0) (by omega)
          simp only [Nat.zero_add] at efv
          have hw := wfB_find HS.out.2.2.2.2.2 hfd
          have hk2 := (okT_iff k2 n2 d2).1 hw.2
          have hrs : rsT L (k', n', d') = rsT L (k2, n2, d2) := by rw [HK.out.1]; exact rsT_bound L HS.out.2.2.2.2.2 hfd
          have hrk : rkT L k2 n2 < rkT L k' n' := by rw [HK.out.1]; exact rkT_less HS.out.2.2.2.2.2 hfd
          have hsw : SlF w a2 l2 d2 := by
            rcases HS.out.1.cases with ⟨e1, e0⟩ | ⟨b', o', e1, hin', -, -⟩
            · omega
            · injection e1 with e1
              injection e1 with e2 e3
              subst e2 e3
              obtain ⟨k3, n3, d3, a3, l3, c3, i3, efv3, hi3, hfd3, ⟨p0, p1, p2, p3⟩, hs3⟩ := hin'.found (x := n') (j := 0) (by omega)
              rw [hfd] at hfd3
              have ei : i3 = i := by omega
              subst ei
              have p3' := HQ.out.1.cell p3 (by simp)
              rw [x3] at p3'
              cases p3'
              cases hfd3
              exact hs3
          rw [efv] at hfv ⊢
          have hil : (i : Int) < l0 := by omega
          have HX : Hid (SlF w a2 l2 d2 ∧ fitsB k2 n2 d2.len = true ∧ fitF d2 = true ∧ d2.size ≤ 59 ∧ rsT L (k, n, d) = rsT L (k2, n2, d2) ∧ rkT L k2 n2 < rkT L k' n') := ⟨hsw, hk2.1, hk2.2.1, by omega, r8.trans hrs, hrk⟩
          have fin := fill3 (.int .i64 k2) (.int .i64 n2) (.slice a2 l2 c2) HQ.out.2.1
          have FIN : Hid _ := fin
          obtain ⟨⟨y0, y1, y2⟩, f0, f1, f2⟩ := three HQ.out.2.1
          have hbq : b ≠ q := fun e => by
            subst e
            rcases HS.out.1.cases with ⟨e1, e0⟩ | ⟨b', o', e1, hin', -, -⟩
            · omega
            · injection e1 with e1
              injection e1 with e2 e3
              subst e2 e3
              obtain ⟨k3, n3, d3, a3, l3, c3, i3, efv3, hi3, hfd3, ⟨p0, p1, p2, p3⟩, hs3⟩ := hin'.found (x := n') (j := 0) (by omega)
              have := block_lt_of_cell p0
              simp only [] at this
              omega
          clear fin hsw hk2 hw hrs hrk hfd hs2 hin hsl r4 r5 r6 r7 r8 HR efv hfv
          go_wp2
          go_roundw
          case rel =>
            obtain ⟨r4, r5, r6, r7, r8, r9⟩ := HX.out
            refine ⟨k2, n2, d2, a2, l2, c2, grown_into HQ.out.1 FIN.out.2 (by omega), FIN.out.1, (FIN.out.2.block _ (lt_of_block HQ.out.2.2) (by simp)).trans HQ.out.2.2, r4, r5, r6, r7, r8⟩
          case measure =>
            have e1 := three FIN.out.1
            rw [HK.out.2, rkW_eq e1.1.1 e1.1.2.1]
            exact HX.out.2.2.2.2.2
    case rest =>
      obtain ⟨k', n', d', a', l', c', HC⟩ := hcut
      have HT : Hid (rsT L (k, n, d) = (k', n', rsF L d') ∧ ∀ D, wOk L k n d D 60 = (decide (1 + depF (rsF L d') ≤ D) && decide (1 + (rsF L d').size ≤ 60))) := by
        have h1 := rsT_stay HC.out.2.2.2.2.1 HC.out.2.2.2.2.2.2.2.2
        have h2 := HC.out.2.2.2.2.2.2.2.1.trans h1
        refine ⟨h2, fun D => ?_⟩
        unfold wOk; rw [h2]
      have hdl : d'.len ≤ 59 := Nat.le_trans d'.len_le HC.out.2.2.2.2.2.2.1
      have hl' := HC.out.2.2.2.1.2.1
      have hl'd := HC.out.2.2.2.1.1
      obtain ⟨⟨y0, y1, y2⟩, -⟩ := three HC.out.2.1
      have hqc := lt_of_block HC.out.2.1
      have hqc1 := lt_of_block HC.out.2.2.1
      have ga := World.grownBy_alloc wc (.cells #[.int .i64 k', .int .i64 n', .slice none 0 0] 25) none
      have LS : Hid (wc.grownBy (wc.alloc (.cells #[.int .i64 k', .int .i64 n', .slice none 0 0] 25)) none ∧ (wc.alloc (.cells #[.int .i64 k', .int .i64 n', .slice none 0 0] 25)).heap[wc.heap.size]? = some (Obj.cells #[.int .i64 k', .int .i64 n', .slice none 0 0] 25)) := ⟨ga, heap_alloc_new wc _⟩
      have FC : Hid (∀ u, wc.grownBy u none → w.grownBy u none ∧ u.heap[q]? = some (Obj.cells #[.int .i64 k', .int .i64 n', .slice a' l' c'] 25) ∧ u.heap[q + 1]? = some (Obj.cells #[.int .i64 0, .int .i64 0, .slice none 0 0] 25) ∧ SlF u a' l' d' ∧ SlB u a0 l0 L) := fun u hu => ⟨grown_trans HC.out.1 hu, (hu.block _ hqc (by simp)).trans HC.out.2.1, (hu.block _ hqc1 (by simp)).trans HC.out.2.2.1, (HC.out.2.2.2.1.none HC.out.1).none hu, (HS.out.1.none HC.out.1).none hu⟩
      have HF : Hid (fitF d' = true ∧ d'.size ≤ 59) := ⟨HC.out.2.2.2.2.2.1, HC.out.2.2.2.2.2.2.1⟩
      clear L0 HS HC ga
      go_wp2
      generalize wc.alloc (.cells #[.int .i64 k', .int .i64 n', .slice none 0 0] 25) = W1 at *
      generalize eg : wc.heap.size = g9 at *
      clear y0 y1 y2
      go_loopw [10, 11] (fun v i wr => ∃ (j : Nat) (P R : F) (av : Option Addr) (cv : Nat) (bs : List Nat) (sz : Nat), j ≤ l' ∧ i = .int .i64 j ∧ v = .int .i64 sz ∧ sz ≤ 60 ∧ P.len = j ∧ R.len + j = l' ∧ Hid (P.app R = d' ∧ sz = 1 + (rsF L P).size ∧ depF (rsF L P) ≤ D) ∧ Hid (wc.grownBy wr none ∧ wr.heap[g9]? = some (Obj.cells #[.int .i64 k', .int .i64 n', .slice av j cv] 25) ∧ SlO wr 25 av j cv (rsF L P) bs ∧ bs.Nodup ∧ (∀ x ∈ bs, g9 < x) ∧ (cv = 0 → av = none))) (fun _ i _ => l' - (intOf i).toNat)
      case atStart => exact ⟨0, .nil, d', none, 0, [], 1, Nat.zero_le _, rfl, rfl, by omega, rfl, by omega, ⟨rfl, by rw [rsF_nil]; rfl, by rw [rsF_nil]; simp [depF]⟩, LS.out.1, LS.out.2, by rw [rsF_nil]; exact ⟨rfl, by omega, by omega, .inl ⟨rfl, rfl⟩⟩, List.nodup_nil, fun x hx => by simp at hx, fun _ => rfl⟩
      case round =>
        obtain ⟨j, P, R, av, cv, bs, sz, hj, rfl, rfl, hsz, hPl, hRl, HP, HR⟩ := hrel
        obtain ⟨⟨y0, y1, y2⟩, -⟩ := three (FC.out _ HR.out.1).2.1
        by_cases hlt : j < l'
        · obtain ⟨q2, hq2⟩ : ∃ q2, R.len = q2 + 1 := ⟨R.len - 1, by omega⟩
          obtain ⟨kk, nn, dd, R', rfl, hR'⟩ := F.cons_of_len hq2
          have hsl := (FC.out _ HR.out.1).2.2.2.1
          rw [← HP.out.1] at hsl
          obtain ⟨b, o, rfl, hin⟩ : ∃ b o, a' = some ⟨b, o, none⟩ ∧ InF wr (P.app (.cons kk nn dd R')) b o := by
            rcases hsl.2.2 with h0 | ⟨b, o, e, h0⟩
            · omega
            · exact ⟨b, o, e, h0⟩
          obtain ⟨a1, l1, c1, x0, x1, x2, hd1, -⟩ := (InF.sndF hin).out
          rw [hPl] at x0 x1 x2
          have hfk : fitsB kk nn dd.len = true ∧ fitF dd = true ∧ dd.size ≤ 59 := by
            have h1 := HF.out.1
            have h2 := HF.out.2
            have h3 := HP.out.1
            have : ∀ (P : F), fitF (P.app (.cons kk nn dd R')) = true → fitsB kk nn dd.len = true ∧ fitF dd = true := by
              intro P
              induction P with
              | nil => intro h; simp only [F.app, fitF, Bool.and_eq_true] at h; exact ⟨h.1, h.2.1⟩
              | cons k n d r _ ih => intro h; simp only [F.app, fitF, Bool.and_eq_true] at h; exact ih h.2.2
            have h4 := this P (by rw [h3]; exact h1)
            have h5 := F.app_size P (.cons kk nn dd R')
            rw [h3] at h5
            simp only [F.size] at h5
            exact ⟨h4.1, h4.2, by omega⟩
          have hw9 := lt_of_block HR.out.2.1
          have CC := IH.out dd kk nn a1 l1 c1 a0 l0 c0 wr (by omega) (FC.out _ HR.out.1).2.2.2.2 hd1 (by rw [← hd1.1]; exact hfk.1) hfk.2.1 hfk.2.2
          have edp : (11 : Int) - (D : Int) = 10 - (D : Int) + 1 := by omega
          rw [edp] at CC
          have HCC : Hid _ := CC
          clear hsl hin hd1 hfk edp CC IH
          go_wp2_with fail
          refine Calls.mono HCC.out ?_
          rintro e u ⟨hg, he⟩
          obtain ⟨r1, r4, r5, r6, r7, r8⟩ := HR.out
          have gwc : wc.grownBy u none := grown_trans r1 hg
          have e3 := (FC.out _ gwc).2.2.1
          have e4 : u.heap[g9]? = some (Obj.cells #[.int .i64 k', .int .i64 n', .slice av j cv] 25) := (hg.block _ hw9 (by simp)).trans r4
          have hq1u := lt_of_block e3
          have hg9u := lt_of_block e4
          clear HCC x0 x1 x2 y0 y1 y2
          cases hwo : wOk L kk nn dd D 60 with
          | false =>
            rw [hwo] at he
            simp only [Bool.false_eq_true, if_false] at he
            subst he
            have HW : Hid (wOk L k n d (D + 1) 60 = false) := by
              show _ = _
              rw [HT.out.2]; exact kidS_no HP.out.1 (.inl hwo)
            have fin := fill3 (.int .i64 0) (.int .i64 0) (.slice none 0 0) e3
            have ga := World.grownBy_alloc (((u.setCell ⟨q + 1, 0, none⟩ (.int .i64 0)).setCell ⟨q + 1, 1, none⟩ (.int .i64 0)).setCell ⟨q + 1, 2, none⟩ (.slice none 0 0)) (.cells #[.int .i64 0, .int .i64 0, .slice none 0 0] 25) none
            have FIN : Hid _ := And.intro ((ga.block _ (lt_of_block fin.1) (by simp)).trans fin.1) (grown_trans (grown_into (FC.out _ gwc).1 fin.2 (by omega)) ga)
            obtain ⟨⟨z0, z1, z2⟩, f0, f1, f2⟩ := three e3
            clear hwo ga e3 fin HR r1 r4 r5 r6 r7 r8 e4 gwc hg
            simp only []
            go_wp2
            (try simp only [Exit.inBlock, Exit.then])
            refine bodyPost_ret (results_cell2 (P := Try.prog) Try.results63 _ _ (q + 1) _ _ _ _ rfl FIN.out.1 Try.underlying25 rfl (by kernel_rfl)) rfl ?_
            refine ⟨FIN.out.2, ?_⟩
            rw [HW.out]
            simp
          | true =>
            rw [hwo, if_pos rfl] at he
            obtain ⟨a'', c'', bs', he, hN, hna⟩ := he
            have h60 : 1 + (rsT L (kk, nn, dd)).2.2.size ≤ 60 := by
              have := hwo; simp only [wOk, Bool.and_eq_true, decide_eq_true_eq] at this; exact this.2
            by_cases hbig : 60 < sz + (1 + (rsT L (kk, nn, dd)).2.2.size)
            · have HW : Hid (wOk L k n d (D + 1) 60 = false) := by
                show _ = _
                rw [HT.out.2]; exact kidS_no HP.out.1 (.inr (by have := HP.out.2.1; omega))
              generalize rsT L (kk, nn, dd) = RR at *
              obtain ⟨rk, rn, rd⟩ := RR
              simp only [] at he hN hbig h60
              subst he
              have hb1 : ¬ (((1 + rd.size : Nat) : Int) < 0) := by omega
              have hb2 : (60 : Int) < (sz : Int) + ((1 + rd.size : Nat) : Int) := by omega
              have hb3 : ((1 + rd.size : Nat) : Int) ≤ 60 := by omega
              have fin := fill3 (.int .i64 0) (.int .i64 0) (.slice none 0 0) e3
              have ga := World.grownBy_alloc (((u.setCell ⟨q + 1, 0, none⟩ (.int .i64 0)).setCell ⟨q + 1, 1, none⟩ (.int .i64 0)).setCell ⟨q + 1, 2, none⟩ (.slice none 0 0)) (.cells #[.int .i64 rk, .int .i64 rn, .slice a'' rd.len c''] 25) none
              have FIN : Hid _ := And.intro ((ga.block _ (lt_of_block fin.1) (by simp)).trans fin.1) (grown_trans (grown_into (FC.out _ gwc).1 fin.2 (by omega)) ga)
              obtain ⟨⟨z0, z1, z2⟩, f0, f1, f2⟩ := three e3
              clear hwo ga e3 fin HR r1 r4 r5 r6 r7 r8 e4 gwc hg hN
              generalize ((1 + rd.size : Nat) : Int) = zk at *
              simp only []
              go_wp2
              (try simp only [Exit.inBlock, Exit.then])
              refine bodyPost_ret (results_cell2 (P := Try.prog) Try.results63 _ _ (q + 1) _ _ _ _ rfl FIN.out.1 Try.underlying25 rfl (by kernel_rfl)) rfl ?_
              refine ⟨FIN.out.2, ?_⟩
              rw [HW.out]
              simp
            · have HK : Hid _ := kidS_yes (P := P) HP.out.2.2 hwo (by have := HP.out.2.1; omega)
              have HPP : Hid ((P.app (.cons kk nn dd .nil)).app R' = d' ∧ sz = 1 + (rsF L P).size) := by exact ⟨by rw [F.app_assoc]; exact HP.out.1, HP.out.2.1⟩
              have HRC : Hid (rsF L (P.app (.cons kk nn dd .nil)) = (rsF L P).app (.cons (rsT L (kk, nn, dd)).1 (rsT L (kk, nn, dd)).2.1 (rsT L (kk, nn, dd)).2.2 .nil)) := by show _ = _; rw [rsF_app, rsF_cons, rsF_nil]
              clear hwo
              generalize rsT L (kk, nn, dd) = RR at *
              obtain ⟨rk, rn, rd⟩ := RR
              simp only [] at he hN hbig h60 HK HRC
              subst he
              have ga := World.grownBy_alloc u (.cells #[.int .i64 rk, .int .i64 rn, .slice a'' rd.len c''] 25) none
              have gb := World.grownBy_alloc (u.alloc (.cells #[.int .i64 rk, .int .i64 rn, .slice a'' rd.len c''] 25)) (.cells #[.int .i64 rk, .int .i64 rn, .slice a'' rd.len c''] 25) none
              have gab := grown_trans ga gb
              obtain ⟨b1, b2, bsz⟩ := alloc2_blocks u (.cells #[.int .i64 rk, .int .i64 rn, .slice a'' rd.len c''] 25) (.cells #[.int .i64 rk, .int .i64 rn, .slice a'' rd.len c''] 25)
              have LB : Hid (wc.grownBy ((u.alloc (.cells #[.int .i64 rk, .int .i64 rn, .slice a'' rd.len c''] 25)).alloc (.cells #[.int .i64 rk, .int .i64 rn, .slice a'' rd.len c''] 25)) none ∧ ((u.alloc (.cells #[.int .i64 rk, .int .i64 rn, .slice a'' rd.len c''] 25)).alloc (.cells #[.int .i64 rk, .int .i64 rn, .slice a'' rd.len c''] 25)).heap[g9]? = some (Obj.cells #[.int .i64 k', .int .i64 n', .slice av j cv] 25) ∧ SlO ((u.alloc (.cells #[.int .i64 rk, .int .i64 rn, .slice a'' rd.len c''] 25)).alloc (.cells #[.int .i64 rk, .int .i64 rn, .slice a'' rd.len c''] 25)) 25 av j cv (rsF L P) bs ∧ bs.Nodup ∧ (∀ x ∈ bs, g9 < x ∧ x < wr.heap.size) ∧ (cv = 0 → av = none) ∧ SlO ((u.alloc (.cells #[.int .i64 rk, .int .i64 rn, .slice a'' rd.len c''] 25)).alloc (.cells #[.int .i64 rk, .int .i64 rn, .slice a'' rd.len c''] 25)) 25 a'' rd.len c'' rd bs' ∧ bs'.Nodup ∧ (∀ x ∈ bs', wr.heap.size ≤ x) ∧ (∀ i v, [Value.int .i64 rk, Value.int .i64 rn, Value.slice a'' rd.len c''][i]? = some v → ((u.alloc (.cells #[.int .i64 rk, .int .i64 rn, .slice a'' rd.len c''] 25)).alloc (.cells #[.int .i64 rk, .int .i64 rn, .slice a'' rd.len c''] 25)).cell? ((⟨u.heap.size + 1, 0, none⟩ : Addr).add i) = some v)) :=
                ⟨grown_trans gwc gab, (gab.block _ hg9u (by simp)).trans e4, (r5.old hg).old gab, r6, fun x hx => ⟨r7 x hx, r5.lt x hx⟩, r8, hN.1.old gab, hN.2.1, hN.2.2, news3 (three b2).1.1 (three b2).1.2.1 (three b2).1.2.2⟩
              obtain ⟨i0, hi, hz0, hz1, hz2⟩ := info_parts infoT
              obtain ⟨⟨z0, z1, z2⟩, f0, f1, f2⟩ := three e4
              have hb1 : ¬ (((1 + rd.size : Nat) : Int) < 0) := by omega
              have hb2 : ¬ ((60 : Int) < (sz : Int) + ((1 + rd.size : Nat) : Int)) := by omega
              have hb3 : ((1 + rd.size : Nat) : Int) ≤ 60 := by omega
              have hzk : ∃ zk : Nat, zk = 1 + rd.size := ⟨_, rfl⟩
              obtain ⟨zk, hzk⟩ := hzk
              rw [← hzk] at hb1 hb2 hb3 ⊢
              have HZ : Hid (zk = 1 + rd.size) := hzk
              clear ga gb gab b1 b2 bsz hN hna HR r1 r4 r5 r6 r7 r8 e3 gwc hg HP e4 hzk hbig h60
              simp only []
              go_wp2_with (at_builtin; go_must (refine wpList_pushT rfl _ _ 23 rfl 25 i0 _ Try.underlying23 hi hz0 hz1 hz2 rfl av j cv (rsF L P) bs rfl LB.out.2.2.1 LB.out.2.2.2.1 LB.out.2.2.2.2.2.1 (by omega) ⟨u.heap.size + 1, 0, none⟩ rfl rk rn a'' rd.len c'' LB.out.2.2.2.2.2.2.2.2.2 rd bs' LB.out.2.2.2.2.2.2.1 LB.out.2.2.2.2.2.2.2.1 (fun x hx hx' => by have h1 := LB.out.2.2.2.2.1 x hx; have h2 := LB.out.2.2.2.2.2.2.2.2.1 x hx'; omega) ?_); intro a3 c3 bs3 u3 h1 h2 h3 h4 h5; have hb9 := (h4.block g9 (lt_of_block LB.out.2.1) (fun hx => by have h6 := LB.out.2.2.2.2.1 g9 hx; omega)).trans LB.out.2.1; obtain ⟨⟨v0, v1, v2⟩, t0, t1, t2⟩ := three hb9)
              have g6 := grown_setCell u3 g9 2 (.slice a3 (j + 1) c3)
              have LD : Hid (wc.grownBy (u3.setCell ⟨g9, 2, none⟩ (.slice a3 (j + 1) c3)) none ∧ (u3.setCell ⟨g9, 2, none⟩ (.slice a3 (j + 1) c3)).heap[g9]? = some (Obj.cells #[.int .i64 k', .int .i64 n', .slice a3 (j + 1) c3] 25) ∧ SlO (u3.setCell ⟨g9, 2, none⟩ (.slice a3 (j + 1) c3)) 25 a3 (j + 1) c3 (rsF L (P.app (.cons kk nn dd .nil))) bs3 ∧ bs3.Nodup ∧ (∀ x ∈ bs3, g9 < x) ∧ (c3 = 0 → a3 = none)) := by
                obtain ⟨s1, s4, s5, s6, s7, s8, s9, s10, s11, s12⟩ := LB.out
                have hgt : ∀ x ∈ bs3, g9 < x := fun x hx => by
                  rcases h3 x hx with h | h | h
                  · exact (s7 x h).1
                  · have := s11 x h; omega
                  · have h7 := lt_of_block s4; omega
                refine ⟨grown_into (Tn.fresh s1 h4 (fun x hx => by have := (s7 x hx).1; omega)) g6 (by omega), heap_setCell_same u3 g9 2 _ _ _ hb9, ?_, h2, hgt, fun h => by omega⟩
                rw [HRC.out]
                exact h1.kept g6 (fun x hx e => by have := hgt x hx; have : x = g9 := (by injection e); omega)
              have hPl2 : (P.app (.cons kk nn dd .nil)).len = j + 1 := by rw [F.app_len, hPl]; rfl
              clear h1 h2 h3 h4 h5 g6 LB hb9 v0 v1 v2 t0 t1 t2 HRC
              go_roundw
              case rel => exact ⟨j + 1, P.app (.cons kk nn dd .nil), R', a3, c3, bs3, sz + zk, by omega, by go_num, by go_num, by omega, hPl2, by omega, ⟨HPP.out.1, by have := HK.out.2.2; have := HPP.out.2; have := HZ.out; omega, HK.out.2.1⟩, LD⟩
              case measure => simp [intOf]; omega
        · obtain rfl : j = l' := by omega
          obtain rfl : R = .nil := F.nil_of_len (by omega)
          have hPd : P = d' := by have := HP.out.1; rwa [F.app_nil] at this
          subst hPd
          have HW : Hid (wOk L k n d (D + 1) 60 = true) := by
            show _ = _
            rw [HT.out.2]
            have := HP.out.2
            simp only [Bool.and_eq_true, decide_eq_true_eq]
            omega
          have e3 := (FC.out _ HR.out.1).2.2.1
          have fin := fill3 (.int .i64 k') (.int .i64 n') (.slice av j cv) e3
          have FIN : Hid _ := fin
          obtain ⟨⟨z0, z1, z2⟩, e0, e1, e2⟩ := three e3
          obtain ⟨⟨x0, x1, x2⟩, -⟩ := three HR.out.2.1
          have hne9 : g9 ≠ q + 1 := by omega
          clear fin
          go_wp2
          (try simp only [Exit.inBlock, Exit.then])
          refine bodyPost_ret (results_cell2 (P := Try.prog) Try.results63 _ _ (q + 1) _ _ _ _ rfl FIN.out.1 Try.underlying25 rfl (by kernel_rfl)) rfl ?_
          obtain ⟨r1, r4, r5, r6, r7, r8⟩ := HR.out
          have hk := FIN.out.2
          refine ⟨grown_into (FC.out _ r1).1 hk (by omega), ?_⟩
          rw [if_pos HW.out, HT.out.1]
          simp only [rsF_len]
          refine ⟨av, cv, bs, ?_, ⟨by rw [hPl]; exact r5.kept hk (fun x hx e => by have := r7 x hx; have h1 : x = q + 1 := (by injection e); omega), r6, fun x hx => by have := r7 x hx; omega⟩, r8⟩
          rw [hPl, ← HP.out.2.1]; rfl
end Go.Proofs.Ytmlganaiajhjeaa.By
