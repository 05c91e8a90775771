/-
  Low types: the program's side by its contracts. No statement is proved here.
-/
import Derived.Test.YtpdkgmagjhibkaaGreatDoorEBAlso
import Derived.Test.YtpdkgmagjhibkaaGreatDoorTByAlso
import Derived.Test.YtpdkgmagjhibkaaGreatDoorTSize
import Derived.Deep.RegionHeld
import Derived.Deep.DeepCutAuto
namespace Go.Proofs.YtpdkgmagjhibkaaGreatDoor.By
open Go.RowKit
set_option linter.unusedVariables false
set_option linter.unusedSimpArgs false

/-- No variables, all data without arguments and below M. -/
def lowF (M : Nat) : F → Bool
  | .nil => true
  | .cons k n d r => (if k = 7 then false else if k = 6 then (decide (n < M) && decide (d.len = 0) && lowF M d) else lowF M d) && lowF M r
def lowT (M : Nat) (k n : Int) (d : F) : Bool := if k = 7 then false else if k = 6 then (decide (n < M) && decide (d.len = 0) && lowF M d) else lowF M d
theorem lowF_cons (M : Nat) (k n : Int) (d r : F) : lowF M (.cons k n d r) = (lowT M k n d && lowF M r) := rfl
/-- A list of M data that are all zero. -/
def Zer (w : World) (ad : Option Addr) (M : Nat) : Prop := M ≤ 9223372036854775807 ∧ (M = 0 ∨ ∃ b o, ad = some ⟨b, o, none⟩ ∧ ∀ i, i < M → w.cell? ⟨b, o + i * 3 + 1, none⟩ = some (.int .i64 0))
theorem Zer.none {w u : World} {ad : Option Addr} {M : Nat} (h : Zer w ad M) (k : w.grownBy u Option.none) : Zer u ad M := by
  obtain ⟨h1, h2⟩ := h
  refine ⟨h1, ?_⟩
  rcases h2 with h2 | ⟨b, o, e, h2⟩
  · exact .inl h2
  · exact .inr ⟨b, o, e, fun i hi => k.cell (h2 i hi) (by simp)⟩

set_option maxHeartbeats 1000000 in
theorem searchNil (n : Int) (w : World) :
    Calls Tryz.prog 127 #[.slice none 0 0, .int .i64 n] w fun e u => (∃ r : Int, e = .returned (.tuple #[.int .i64 r, .bool false])) ∧ w.grownBy u none := by
  go_enter Tryz.func127, Tryz.ntmps127
  go_wp2
  refine wp_loop_rounds 1 ?_
  rw [rounds_succ]
  go_wp2
  go_ret2
  exact ⟨⟨_, rfl⟩, World.grownBy.refl _ _⟩

set_option maxHeartbeats 400000 in
theorem openLT (q : Nat) (n : Int) (w : World) (hq : w.cell? ⟨q, 0, none⟩ = some (.slice none 0 0)) :
    Calls Tryz.prog 126 #[.int .i64 n, .pointer (some ⟨q, 0, none⟩)] w fun e u => e = .returned (.bool false) ∧ w.grownBy u none := by
  have CC : Hid _ := searchNil n w
  go_enter Tryz.func126, Tryz.ntmps126
  go_wp2_with fail
  refine Calls.mono CC.out ?_
  rintro e u ⟨⟨r, rfl⟩, hg⟩
  have G : Hid (w.grownBy u none) := hg
  clear CC hg
  simp only []
  go_wp2
  go_ret
  exact ⟨rfl, G.out⟩


/-- What it answers at trees of less than m parts. -/
def StnL (M : Nat) (q m : Nat) : Prop := ∀ (d : F) (k n : Int) (a : Option Addr) (l c p : Nat) (ad : Option Addr) (cd : Nat) (w : World), d.size < m → d.size ≤ 100000 → SlF w a l d → fitsB k n l = true → okF d p = true → Zer w ad M → w.cell? ⟨q, 0, none⟩ = some (.slice none 0 0) →
    Calls Tryz.prog 130 #[.agg #[.int .i64 k, .int .i64 n, .slice a l c], .slice ad M cd, .func (Fn.func 126) #[] #[.pointer (some ⟨q, 0, none⟩)]] w fun e u => e = .returned (.bool (lowT M k n d)) ∧ w.grownBy u none


set_option maxRecDepth 8000 in
set_option maxHeartbeats 4000000 in
theorem standsLT (M : Nat) (q m : Nat) : StnL M q m := by
  induction m with
  | zero => intro d k n a l c p ad cd w hm; exact absurd hm (Nat.not_lt_zero _)
  | succ m ih =>
    intro d k n a l c p ad cd w hm hm2 h hf hok hD hq
    have hfl := h.1
    have hl := h.2.1
    have hdm := hD.1
    have g0 := World.grownBy_alloc w (.cells #[.int .i64 k, .int .i64 n, .slice a l c] 60) none
    have b0 := heap_alloc_new w (.cells #[.int .i64 k, .int .i64 n, .slice a l c] 60)
    have IH : Hid (StnL M q m) := ih
    have HS : Hid (SlF w a l d ∧ okF d p = true ∧ Zer w ad M ∧ w.cell? ⟨q, 0, none⟩ = some (.slice none 0 0)) := ⟨h, hok, hD, hq⟩
    have HG : Hid (w.grownBy (w.alloc (.cells #[.int .i64 k, .int .i64 n, .slice a l c] 60)) none) := g0
    have HB : Hid ((w.alloc (.cells #[.int .i64 k, .int .i64 n, .slice a l c] 60)).heap[w.heap.size]? = some (Obj.cells #[.int .i64 k, .int .i64 n, .slice a l c] 60)) := b0
    have HF : Hid (fitsB k n l = true) := hf
    clear ih h hf hok hD hq g0 b0
    by_cases h7 : k = 7
    · have CO : Hid _ := openLT q n (w.alloc (.cells #[.int .i64 k, .int .i64 n, .slice a l c] 60)) (HG.out.cell HS.out.2.2.2 (by simp))
      have EV : Hid (lowT M k n d = false) := by show _ = _; unfold lowT; rw [if_pos h7]
      obtain ⟨⟨x0, x1, x2⟩, -⟩ := three HB.out
      have hk7 : (k == 7) = true := by simpa using h7
      clear HF IH h7
      go_enter Tryz.func130, Tryz.ntmps130
      go_wp2_with fail
      refine Calls.mono CO.out ?_
      rintro e v ⟨he, hv⟩
      subst he
      have G9 : Hid (w.grownBy v none) := grown_trans HG.out hv
      clear CO hv
      simp only []
      go_wp2
      go_ret
      exact ⟨by rw [EV.out]; rfl, G9.out⟩
    · by_cases h6 : k = 6
      · have hf := HF.out
        have hn0 : 0 ≤ n := by
          rw [h6] at hf
          by_cases hl3 : l ≤ 3
          · rw [fits6 hl3] at hf
            simp only [Bool.and_eq_true, decide_eq_true_eq] at hf
            omega
          · rw [fits6x hl3] at hf
            cases hf
        have hk7 : (k == 7) = false := by simpa using h7
        have hk6 : (k == 6) = true := by simpa using h6
        have ED : lowT M k n d = (decide (n < M) && decide (d.len = 0) && lowF M d) := by unfold lowT; rw [if_neg h7, if_pos h6]
        clear hf h7 h6 HF
        obtain ⟨nn0, rfl⟩ : ∃ nn0 : Nat, n = (nn0 : Int) := ⟨n.toNat, by omega⟩
        obtain ⟨⟨x0, x1, x2⟩, -⟩ := three HB.out
        by_cases hlen : nn0 < M
        · obtain ⟨bD, oD, rfl, hz⟩ : ∃ bD oD, ad = some ⟨bD, oD, none⟩ ∧ ∀ i, i < M → w.cell? ⟨bD, oD + i * 3 + 1, none⟩ = some (.int .i64 0) := by
            rcases HS.out.2.2.1.2 with h | h
            · omega
            · exact h
          have y1 := hz nn0 hlen
          have EX : (decide (((nn0 : Nat) : Int) < M) && decide (d.len = 0)) = decide ((l : Int) = 0) := by rw [hfl]; simp; omega
          have hge : ¬ ((nn0 : Int) ≥ (M : Int)) := by omega
          have hgeb : decide ((nn0 : Int) ≥ (M : Int)) = false := by simp; omega
          have HY : Hid (∀ u, w.grownBy u none → u.cell? ⟨bD, oD + nn0 * 3 + 1, none⟩ = some (.int .i64 0)) := fun u hu => hu.cell y1 (by simp)
          have hlt' : (nn0 : Int) < (M : Int) := by omega
          clear hz y1
          go_enter Tryz.func130, Tryz.ntmps130
          go_upto_region 5 with fail
          clear x0 x1 x2
          generalize w.alloc (.cells #[.int .i64 k, .int .i64 (nn0 : Int), .slice a l c] 60) = W0 at *
          generalize w.heap.size = p0 at *
          have gd := grown_drew (World.grownBy.refl W0 none)
          have HG1 : Hid (w.grownBy W0.drew none) := grown_trans HG.out gd
          have HB1 : Hid (W0.drew.heap[p0]? = some (Obj.cells #[.int .i64 k, .int .i64 (nn0 : Int), .slice a l c] 60)) := (gd.block _ (lt_of_block HB.out) (by simp)).trans HB.out
          clear HG HB gd
          refine wp_region_held_drew (S := (fun u => Tri p0 0 (.int .i64 k) (.int .i64 (nn0 : Int)) (.slice a l c) u ∧ u.cell? ⟨bD, oD + nn0 * 3 + 1, none⟩ = some (.int .i64 0))) (by kernel_rfl) ⟨(three HB1.out).1, HY.out _ HG1.out⟩ (fun hH => ?_)
          generalize W0.drew = W1 at *
          have HG : Hid (w.grownBy W1 none) := HG1.out
          have HB : Hid (W1.heap[p0]? = some (Obj.cells #[.int .i64 k, .int .i64 (nn0 : Int), .slice a l c] 60)) := HB1.out
          clear HG1 HB1
          simp only [List.size_toArray, List.length_cons, List.length_nil, Nat.reduceAdd, Array.replicate, List.replicate]
          refine wpAnyH_take (i := 0) (v := ?_) rfl (by kernel_rfl) (by kernel_rfl) (by kernel_rfl) (fun _ _ _ h => h) (Or.inl ⟨by rfl, ?_⟩) hH ?_
          rotate_left
          · (intro v hS; obtain ⟨⟨s0, s1, s2⟩, s3⟩ := hS; go_simp; try with_reducible rfl)
          simp only [Act.put, List.setIfInBounds_toArray, List.set_cons_zero, List.set_cons_succ, List.getElem_toArray, List.getElem_cons_succ, List.getElem_cons_zero]
          refine wpAnyH_take (i := 1) (v := ?_) rfl (by kernel_rfl) (by kernel_rfl) (by kernel_rfl) (fun _ _ _ h => h) (Or.inl ⟨by rfl, ?_⟩) hH ?_
          rotate_left
          · (intro v hS; obtain ⟨⟨s0, s1, s2⟩, s3⟩ := hS; go_simp; try with_reducible rfl)
          simp only [Act.put, List.setIfInBounds_toArray, List.set_cons_zero, List.set_cons_succ, List.getElem_toArray, List.getElem_cons_succ, List.getElem_cons_zero]
          refine wpAnyH_take (i := 2) (v := ?_) rfl (by kernel_rfl) (by kernel_rfl) (by kernel_rfl) (fun _ _ _ h => h) (Or.inl ⟨by rfl, ?_⟩) hH ?_
          rotate_left
          · (intro v hS; obtain ⟨⟨s0, s1, s2⟩, s3⟩ := hS; go_simp; try with_reducible rfl)
          simp only [Act.put, List.setIfInBounds_toArray, List.set_cons_zero, List.set_cons_succ, List.getElem_toArray, List.getElem_cons_succ, List.getElem_cons_zero]
          refine wpAnyH_take (i := 3) (v := ?_) rfl (by kernel_rfl) (by kernel_rfl) (by kernel_rfl) (fun _ _ _ h => h) (Or.inl ⟨by rfl, ?_⟩) hH ?_
          rotate_left
          · (intro v hS; obtain ⟨⟨s0, s1, s2⟩, s3⟩ := hS; go_simp; try with_reducible rfl)
          simp only [Act.put, List.setIfInBounds_toArray, List.set_cons_zero, List.set_cons_succ, List.getElem_toArray, List.getElem_cons_succ, List.getElem_cons_zero]
          refine wpAnyH_take (i := 4) (v := ?_) rfl (by kernel_rfl) (by kernel_rfl) (by kernel_rfl) (fun _ _ _ h => h) (Or.inl ⟨by rfl, ?_⟩) hH ?_
          rotate_left
          · (intro v hS; obtain ⟨⟨s0, s1, s2⟩, s3⟩ := hS; go_simp; try with_reducible rfl)
          simp only [Act.put, List.setIfInBounds_toArray, List.set_cons_zero, List.set_cons_succ, List.getElem_toArray, List.getElem_cons_succ, List.getElem_cons_zero]
          refine wpAnyH_take (i := 5) (v := ?_) rfl (by kernel_rfl) (by kernel_rfl) (by kernel_rfl) (fun _ _ _ h => h) (Or.inl ⟨by rfl, ?_⟩) hH ?_
          rotate_left
          · (intro v hS; obtain ⟨⟨s0, s1, s2⟩, s3⟩ := hS; go_simp; try with_reducible rfl)
          simp only [Act.put, List.setIfInBounds_toArray, List.set_cons_zero, List.set_cons_succ, List.getElem_toArray, List.getElem_cons_succ, List.getElem_cons_zero]
          refine wpAnyH_take (i := 6) (v := ?_) rfl (by kernel_rfl) (by kernel_rfl) (by kernel_rfl) (fun _ _ _ h => h) (Or.inl ⟨by rfl, ?_⟩) hH ?_
          rotate_left
          · (intro v hS; obtain ⟨⟨s0, s1, s2⟩, s3⟩ := hS; go_simp; try with_reducible rfl)
          simp only [Act.put, List.setIfInBounds_toArray, List.set_cons_zero, List.set_cons_succ, List.getElem_toArray, List.getElem_cons_succ, List.getElem_cons_zero]
          refine wpAnyH_take (i := 7) (v := ?_) rfl (by kernel_rfl) (by kernel_rfl) (by kernel_rfl) (fun _ _ _ h => h) (Or.inl ⟨by rfl, ?_⟩) hH ?_
          rotate_left
          · (intro v hS; obtain ⟨⟨s0, s1, s2⟩, s3⟩ := hS; go_simp; try with_reducible rfl)
          simp only [Act.put, List.setIfInBounds_toArray, List.set_cons_zero, List.set_cons_succ, List.getElem_toArray, List.getElem_cons_succ, List.getElem_cons_zero]
          refine wpAnyH_take (i := 8) (v := ?_) rfl (by kernel_rfl) (by kernel_rfl) (by kernel_rfl) (fun _ _ _ h => h) (Or.inl ⟨by rfl, ?_⟩) hH ?_
          rotate_left
          · (intro v hS; obtain ⟨⟨s0, s1, s2⟩, s3⟩ := hS; go_simp; try with_reducible rfl)
          simp only [Act.put, List.setIfInBounds_toArray, List.set_cons_zero, List.set_cons_succ, List.getElem_toArray, List.getElem_cons_succ, List.getElem_cons_zero]
          refine wpAnyH_take (i := 9) (v := ?_) rfl (by kernel_rfl) (by kernel_rfl) (by kernel_rfl) (fun _ _ _ h => h) (Or.inl ⟨by rfl, ?_⟩) hH ?_
          rotate_left
          · (intro v hS; obtain ⟨⟨s0, s1, s2⟩, s3⟩ := hS; go_simp; try with_reducible rfl)
          simp only [Act.put, List.setIfInBounds_toArray, List.set_cons_zero, List.set_cons_succ, List.getElem_toArray, List.getElem_cons_succ, List.getElem_cons_zero]
          refine wpAnyH_take (i := 10) (v := ?_) rfl (by kernel_rfl) (by kernel_rfl) (by kernel_rfl) (fun _ _ _ h => h) (Or.inl ⟨by rfl, ?_⟩) hH ?_
          rotate_left
          · (intro v hS; obtain ⟨⟨s0, s1, s2⟩, s3⟩ := hS; go_simp; try with_reducible rfl)
          simp only [Act.put, List.setIfInBounds_toArray, List.set_cons_zero, List.set_cons_succ, List.getElem_toArray, List.getElem_cons_succ, List.getElem_cons_zero]
          refine wpAnyH_take (i := 11) (v := ?_) rfl (by kernel_rfl) (by kernel_rfl) (by kernel_rfl) (fun _ _ _ h => h) (Or.inl ⟨by rfl, ?_⟩) hH ?_
          rotate_left
          · (intro v hS; obtain ⟨⟨s0, s1, s2⟩, s3⟩ := hS; go_simp; try with_reducible rfl)
          simp only [Act.put, List.setIfInBounds_toArray, List.set_cons_zero, List.set_cons_succ, List.getElem_toArray, List.getElem_cons_succ, List.getElem_cons_zero]
          refine wpAnyH_take (i := 12) (v := ?_) rfl (by kernel_rfl) (by kernel_rfl) (by kernel_rfl) (fun _ _ _ h => h) (Or.inl ⟨by rfl, ?_⟩) hH ?_
          rotate_left
          · (intro v hS; obtain ⟨⟨s0, s1, s2⟩, s3⟩ := hS; go_simp; try with_reducible rfl)
          simp only [Act.put, List.setIfInBounds_toArray, List.set_cons_zero, List.set_cons_succ, List.getElem_toArray, List.getElem_cons_succ, List.getElem_cons_zero]
          refine wpAnyH_take (i := 13) (v := ?_) rfl (by kernel_rfl) (by kernel_rfl) (by kernel_rfl) (fun _ _ _ h => h) (Or.inl ⟨by rfl, ?_⟩) hH ?_
          rotate_left
          · (intro v hS; obtain ⟨⟨s0, s1, s2⟩, s3⟩ := hS; go_simp; try with_reducible rfl)
          simp only [Act.put, List.setIfInBounds_toArray, List.set_cons_zero, List.set_cons_succ, List.getElem_toArray, List.getElem_cons_succ, List.getElem_cons_zero]
          refine wpAnyH_take (i := 14) (v := ?_) rfl (by kernel_rfl) (by kernel_rfl) (by kernel_rfl) (fun _ _ _ h => h) (Or.inl ⟨by rfl, ?_⟩) hH ?_
          rotate_left
          · (intro v hS; obtain ⟨⟨s0, s1, s2⟩, s3⟩ := hS; go_simp; try with_reducible rfl)
          simp only [Act.put, List.setIfInBounds_toArray, List.set_cons_zero, List.set_cons_succ, List.getElem_toArray, List.getElem_cons_succ, List.getElem_cons_zero]
          refine wpAnyH_take (i := 15) (v := ?_) rfl (by kernel_rfl) (by kernel_rfl) (by kernel_rfl) (fun _ _ _ h => h) (Or.inl ⟨by rfl, ?_⟩) hH ?_
          rotate_left
          · (intro v hS; obtain ⟨⟨s0, s1, s2⟩, s3⟩ := hS; go_simp; try with_reducible rfl)
          simp only [Act.put, List.setIfInBounds_toArray, List.set_cons_zero, List.set_cons_succ, List.getElem_toArray, List.getElem_cons_succ, List.getElem_cons_zero]
          refine wpAnyH_take (i := 16) (v := ?_) rfl (by kernel_rfl) (by kernel_rfl) (by kernel_rfl) (fun _ _ _ h => h) (Or.inl ⟨by rfl, ?_⟩) hH ?_
          rotate_left
          · (intro v hS; obtain ⟨⟨s0, s1, s2⟩, s3⟩ := hS; go_simp; try with_reducible rfl)
          simp only [Act.put, List.setIfInBounds_toArray, List.set_cons_zero, List.set_cons_succ, List.getElem_toArray, List.getElem_cons_succ, List.getElem_cons_zero]
          refine wpAnyH_done (by kernel_rfl) ?_ _
          clear hH
          by_cases hlv : (l : Int) = 0
          · have EV : Hid (lowT M k (nn0 : Int) d = lowF M d) := by show _ = _; rw [ED, EX]; simp [hlv]
            have hne : ((l : Int) != 0) = false := by simp [hlv]
            try rw [hne]
            clear ED EX hlv
            go_upto_region 7 with fail
            rcases HS.out.1.cases with ⟨h1, h2⟩ | ⟨b, o, h1, hin, -, hpos⟩
            · subst h1 h2
              have GF : Hid (w.grownBy W1 none) := HG.out
              obtain ⟨⟨x0, x1, x2⟩, -⟩ := three HB.out
              go_wp2
              refine wp_loop_rounds 1 ?_
              rw [rounds_succ]
              go_wp2
              go_ret
              exact ⟨by rw [EV.out]; rfl, GF.out⟩
            · subst h1
              have IN : Hid (InF W1 d b o) := hin.none HG.out
              obtain ⟨⟨x0, x1, x2⟩, -⟩ := three HB.out
              clear hin
              go_wp2
              clear x0 x1 x2
              go_loopw [39] (fun i wr => ∃ (j : Nat) (R : F), j ≤ l ∧ i = .int .i64 j ∧ R.len + j = l ∧ R.size ≤ d.size ∧ Hid (W1.grownBy wr none ∧ InF W1 R b (o + j * 3) ∧ okF R p = true ∧ lowF M d = lowF M R)) (fun i _ => l - (intOf i).toNat)
              case atStart => exact ⟨0, d, Nat.zero_le _, rfl, by omega, Nat.le_refl _, World.grownBy.refl _ _, by simpa using IN.out, HS.out.2.1, rfl⟩
              case round =>
                obtain ⟨j, R, hj, rfl, hRl, hRs, HR⟩ := hrel
                by_cases hlt : j < l
                · obtain ⟨q1, hq1⟩ : ∃ q1, R.len = q1 + 1 := ⟨R.len - 1, by omega⟩
                  obtain ⟨kk, nn, d', R', rfl, hR'⟩ := F.cons_of_len hq1
                  obtain ⟨hg, hR, hokR, hv⟩ := HR.out
                  obtain ⟨a', l', c', c0, c1, c2', hd, hR2⟩ := hR.out
                  rw [show o + j * 3 + 3 = o + (j + 1) * 3 by omega] at hR2
                  simp only [okF, Bool.and_eq_true, decide_eq_true_eq] at hokR
                  have c0 := hg.cell c0 (by simp)
                  have c1 := hg.cell c1 (by simp)
                  have c2' := hg.cell c2' (by simp)
                  have ga := World.grownBy_alloc wr (.cells #[.int .i64 kk, .int .i64 nn, .slice a' l' c'] 60) none
                  have gw := grown_trans HG.out (grown_trans hg ga)
                  simp only [F.size] at hRs
                  have CC : Hid _ := IH.out d' kk nn a' l' c' (p - 1) (some ⟨bD, oD, none⟩) cd (wr.alloc (.cells #[.int .i64 kk, .int .i64 nn, .slice a' l' c'] 60)) (by omega) (by omega) (hd.none (grown_trans hg ga)) (by rw [← hd.1]; exact hokR.1.1.2) hokR.1.2 (HS.out.2.2.1.none gw) (gw.cell HS.out.2.2.2 (by simp))
                  have FX : Hid (W1.grownBy (wr.alloc (.cells #[.int .i64 kk, .int .i64 nn, .slice a' l' c'] 60)) none ∧ InF W1 R' b (o + (j + 1) * 3) ∧ okF R' p = true ∧ lowF M d = (lowT M kk nn d' && lowF M R')) := ⟨grown_trans hg ga, hR2, hokR.2, by rw [hv, lowF_cons]⟩
                  clear hg hR hokR hv hd hR2 ga gw HR IN
                  go_wp2_with fail
                  refine Calls.mono CC.out ?_
                  rintro e v ⟨he, hgv⟩
                  subst he
                  have FY : Hid (W1.grownBy v none) := grown_trans FX.out.1 hgv
                  clear CC hgv c0 c1 c2'
                  simp only []
                  cases hq : lowT M kk nn d' with
                  | false =>
                    have E2 : Hid (lowT M k (nn0 : Int) d = false) := by show _ = _; rw [EV.out, FX.out.2.2.2, hq]; rfl
                    clear hq
                    go_wp2
                    go_ret
                    exact ⟨by rw [E2.out]; rfl, grown_trans HG.out FY.out⟩
                  | true =>
                    have E2 : Hid (lowF M d = lowF M R') := by show _ = _; rw [FX.out.2.2.2, hq]; rfl
                    clear hq
                    go_wp2
                    go_roundw
                    case rel => exact ⟨j + 1, R', by omega, by go_num, by omega, by omega, FY.out, FX.out.2.1, FX.out.2.2.1, E2.out⟩
                    case measure => simp [intOf]; omega
                · obtain rfl : j = l := by omega
                  obtain rfl : R = .nil := F.nil_of_len (by omega)
                  have E2 : Hid (lowT M k (nn0 : Int) d = true ∧ w.grownBy wr none) := ⟨by rw [EV.out, HR.out.2.2.2]; rfl, grown_trans HG.out HR.out.1⟩
                  clear HR IN
                  go_wp2
                  go_ret
                  exact ⟨by rw [E2.out.1]; rfl, E2.out.2⟩
          · have EV : Hid (lowT M k (nn0 : Int) d = false) := by show _ = _; rw [ED, EX, decide_eq_false hlv]; rfl
            have hne : ((l : Int) != 0) = true := bne_iff_ne.2 hlv
            try rw [hne]
            clear ED EX
            go_wp2
            go_ret
            exact ⟨by rw [EV.out]; rfl, HG.out⟩
        · have EX : (decide (((nn0 : Nat) : Int) < M) && decide (d.len = 0)) = false := by simp; omega
          have EV : Hid (lowT M k (nn0 : Int) d = false) := by show _ = _; rw [ED, EX]; rfl
          have hge : (nn0 : Int) ≥ (M : Int) := by omega
          have hgeb : decide ((nn0 : Int) ≥ (M : Int)) = true := by simp; omega
          clear ED EX
          go_enter Tryz.func130, Tryz.ntmps130
          go_upto_region 5 with fail
          clear x0 x1 x2
          generalize w.alloc (.cells #[.int .i64 k, .int .i64 (nn0 : Int), .slice a l c] 60) = W0 at *
          generalize w.heap.size = p0 at *
          have gd := grown_drew (World.grownBy.refl W0 none)
          have HG1 : Hid (w.grownBy W0.drew none) := grown_trans HG.out gd
          have HB1 : Hid (W0.drew.heap[p0]? = some (Obj.cells #[.int .i64 k, .int .i64 (nn0 : Int), .slice a l c] 60)) := (gd.block _ (lt_of_block HB.out) (by simp)).trans HB.out
          clear HG HB gd
          refine wp_region_held_drew (S := (fun u => Tri p0 0 (.int .i64 k) (.int .i64 (nn0 : Int)) (.slice a l c) u)) (by kernel_rfl) (three HB1.out).1 (fun hH => ?_)
          generalize W0.drew = W1 at *
          have HG : Hid (w.grownBy W1 none) := HG1.out
          clear HG1 HB1
          simp only [List.size_toArray, List.length_cons, List.length_nil, Nat.reduceAdd, Array.replicate, List.replicate]
          refine wpAnyH_take (i := 0) (v := ?_) rfl (by kernel_rfl) (by kernel_rfl) (by kernel_rfl) (fun _ _ _ h => h) (Or.inl ⟨by rfl, ?_⟩) hH ?_
          rotate_left
          · (intro v hS; obtain ⟨s0, s1, s2⟩ := hS; go_simp; try with_reducible rfl)
          simp only [Act.put, List.setIfInBounds_toArray, List.set_cons_zero, List.set_cons_succ, List.getElem_toArray, List.getElem_cons_succ, List.getElem_cons_zero]
          refine wpAnyH_take (i := 1) (v := ?_) rfl (by kernel_rfl) (by kernel_rfl) (by kernel_rfl) (fun _ _ _ h => h) (Or.inl ⟨by rfl, ?_⟩) hH ?_
          rotate_left
          · (intro v hS; obtain ⟨s0, s1, s2⟩ := hS; go_simp; try with_reducible rfl)
          simp only [Act.put, List.setIfInBounds_toArray, List.set_cons_zero, List.set_cons_succ, List.getElem_toArray, List.getElem_cons_succ, List.getElem_cons_zero]
          refine wpAnyH_take (i := 2) (v := ?_) rfl (by kernel_rfl) (by kernel_rfl) (by kernel_rfl) (fun _ _ _ h => h) (Or.inl ⟨by rfl, ?_⟩) hH ?_
          rotate_left
          · (intro v hS; obtain ⟨s0, s1, s2⟩ := hS; go_simp; try with_reducible rfl)
          simp only [Act.put, List.setIfInBounds_toArray, List.set_cons_zero, List.set_cons_succ, List.getElem_toArray, List.getElem_cons_succ, List.getElem_cons_zero]
          refine wpAnyH_take (i := 3) (v := ?_) rfl (by kernel_rfl) (by kernel_rfl) (by kernel_rfl) (fun _ _ _ h => h) (Or.inl ⟨by rfl, ?_⟩) hH ?_
          rotate_left
          · (intro v hS; obtain ⟨s0, s1, s2⟩ := hS; go_simp; try with_reducible rfl)
          simp only [Act.put, List.setIfInBounds_toArray, List.set_cons_zero, List.set_cons_succ, List.getElem_toArray, List.getElem_cons_succ, List.getElem_cons_zero]
          refine wpAnyH_take (i := 4) (v := ?_) rfl (by kernel_rfl) (by kernel_rfl) (by kernel_rfl) (fun _ _ _ h => h) (Or.inl ⟨by rfl, ?_⟩) hH ?_
          rotate_left
          · (intro v hS; obtain ⟨s0, s1, s2⟩ := hS; go_simp; try with_reducible rfl)
          simp only [Act.put, List.setIfInBounds_toArray, List.set_cons_zero, List.set_cons_succ, List.getElem_toArray, List.getElem_cons_succ, List.getElem_cons_zero]
          refine wpAnyH_take (i := 5) (v := ?_) rfl (by kernel_rfl) (by kernel_rfl) (by kernel_rfl) (fun _ _ _ h => h) (Or.inl ⟨by rfl, ?_⟩) hH ?_
          rotate_left
          · (intro v hS; obtain ⟨s0, s1, s2⟩ := hS; go_simp; try with_reducible rfl)
          simp only [Act.put, List.setIfInBounds_toArray, List.set_cons_zero, List.set_cons_succ, List.getElem_toArray, List.getElem_cons_succ, List.getElem_cons_zero]
          refine wpAnyH_take (i := 6) (v := undef) rfl (by kernel_rfl) (by kernel_rfl) (by kernel_rfl) (fun _ _ _ h => h) (Or.inr ⟨by rfl, rfl⟩) hH ?_
          simp only [Act.put, List.setIfInBounds_toArray, List.set_cons_zero, List.set_cons_succ, List.getElem_toArray, List.getElem_cons_succ, List.getElem_cons_zero]
          refine wpAnyH_take (i := 7) (v := undef) rfl (by kernel_rfl) (by kernel_rfl) (by kernel_rfl) (fun _ _ _ h => h) (Or.inr ⟨by rfl, rfl⟩) hH ?_
          simp only [Act.put, List.setIfInBounds_toArray, List.set_cons_zero, List.set_cons_succ, List.getElem_toArray, List.getElem_cons_succ, List.getElem_cons_zero]
          refine wpAnyH_take (i := 8) (v := undef) rfl (by kernel_rfl) (by kernel_rfl) (by kernel_rfl) (fun _ _ _ h => h) (Or.inr ⟨by rfl, rfl⟩) hH ?_
          simp only [Act.put, List.setIfInBounds_toArray, List.set_cons_zero, List.set_cons_succ, List.getElem_toArray, List.getElem_cons_succ, List.getElem_cons_zero]
          refine wpAnyH_take (i := 9) (v := undef) rfl (by kernel_rfl) (by kernel_rfl) (by kernel_rfl) (fun _ _ _ h => h) (Or.inr ⟨by rfl, rfl⟩) hH ?_
          simp only [Act.put, List.setIfInBounds_toArray, List.set_cons_zero, List.set_cons_succ, List.getElem_toArray, List.getElem_cons_succ, List.getElem_cons_zero]
          refine wpAnyH_take (i := 10) (v := undef) rfl (by kernel_rfl) (by kernel_rfl) (by kernel_rfl) (fun _ _ _ h => h) (Or.inr ⟨by rfl, rfl⟩) hH ?_
          simp only [Act.put, List.setIfInBounds_toArray, List.set_cons_zero, List.set_cons_succ, List.getElem_toArray, List.getElem_cons_succ, List.getElem_cons_zero]
          refine wpAnyH_take (i := 11) (v := undef) rfl (by kernel_rfl) (by kernel_rfl) (by kernel_rfl) (fun _ _ _ h => h) (Or.inr ⟨by rfl, rfl⟩) hH ?_
          simp only [Act.put, List.setIfInBounds_toArray, List.set_cons_zero, List.set_cons_succ, List.getElem_toArray, List.getElem_cons_succ, List.getElem_cons_zero]
          refine wpAnyH_take (i := 12) (v := undef) rfl (by kernel_rfl) (by kernel_rfl) (by kernel_rfl) (fun _ _ _ h => h) (Or.inr ⟨by rfl, rfl⟩) hH ?_
          simp only [Act.put, List.setIfInBounds_toArray, List.set_cons_zero, List.set_cons_succ, List.getElem_toArray, List.getElem_cons_succ, List.getElem_cons_zero]
          refine wpAnyH_take (i := 13) (v := undef) rfl (by kernel_rfl) (by kernel_rfl) (by kernel_rfl) (fun _ _ _ h => h) (Or.inr ⟨by rfl, rfl⟩) hH ?_
          simp only [Act.put, List.setIfInBounds_toArray, List.set_cons_zero, List.set_cons_succ, List.getElem_toArray, List.getElem_cons_succ, List.getElem_cons_zero]
          refine wpAnyH_take (i := 14) (v := undef) rfl (by kernel_rfl) (by kernel_rfl) (by kernel_rfl) (fun _ _ _ h => h) (Or.inr ⟨by rfl, rfl⟩) hH ?_
          simp only [Act.put, List.setIfInBounds_toArray, List.set_cons_zero, List.set_cons_succ, List.getElem_toArray, List.getElem_cons_succ, List.getElem_cons_zero]
          refine wpAnyH_take (i := 15) (v := undef) rfl (by kernel_rfl) (by kernel_rfl) (by kernel_rfl) (fun _ _ _ h => h) (Or.inr ⟨by rfl, rfl⟩) hH ?_
          simp only [Act.put, List.setIfInBounds_toArray, List.set_cons_zero, List.set_cons_succ, List.getElem_toArray, List.getElem_cons_succ, List.getElem_cons_zero]
          refine wpAnyH_take (i := 16) (v := ?_) rfl (by kernel_rfl) (by kernel_rfl) (by kernel_rfl) (fun _ _ _ h => h) (Or.inl ⟨by rfl, ?_⟩) hH ?_
          rotate_left
          · (intro v hS; go_simp; try with_reducible rfl)
          simp only [Act.put, List.setIfInBounds_toArray, List.set_cons_zero, List.set_cons_succ, List.getElem_toArray, List.getElem_cons_succ, List.getElem_cons_zero]
          refine wpAnyH_done (by kernel_rfl) ?_ _
          clear hH
          go_wp2
          go_ret
          exact ⟨by rw [EV.out]; rfl, HG.out⟩
      · have EV : Hid (lowT M k n d = lowF M d) := by show _ = _; unfold lowT; rw [if_neg h7, if_neg h6]
        obtain ⟨⟨x0, x1, x2⟩, -⟩ := three HB.out
        have hk7 : (k == 7) = false := by simpa using h7
        have hk6 : (k == 6) = false := by simpa using h6
        clear HF
        go_enter Tryz.func130, Tryz.ntmps130
        go_upto_region 7 with fail
        clear x0 x1 x2
        generalize w.alloc (.cells #[.int .i64 k, .int .i64 n, .slice a l c] 60) = W0 at *
        generalize w.heap.size = p0 at *
        rcases HS.out.1.cases with ⟨h1, h2⟩ | ⟨b, o, h1, hin, -, hpos⟩
        · subst h1 h2
          have GF : Hid (w.grownBy W0 none) := HG.out
          obtain ⟨⟨x0, x1, x2⟩, -⟩ := three HB.out
          go_wp2
          refine wp_loop_rounds 1 ?_
          rw [rounds_succ]
          go_wp2
          go_ret
          exact ⟨by rw [EV.out]; rfl, GF.out⟩
        · subst h1
          have IN : Hid (InF W0 d b o) := hin.none HG.out
          obtain ⟨⟨x0, x1, x2⟩, -⟩ := three HB.out
          clear hin
          go_wp2
          clear x0 x1 x2
          go_loopw [39] (fun i wr => ∃ (j : Nat) (R : F), j ≤ l ∧ i = .int .i64 j ∧ R.len + j = l ∧ R.size ≤ d.size ∧ Hid (W0.grownBy wr none ∧ InF W0 R b (o + j * 3) ∧ okF R p = true ∧ lowF M d = lowF M R)) (fun i _ => l - (intOf i).toNat)
          case atStart => exact ⟨0, d, Nat.zero_le _, rfl, by omega, Nat.le_refl _, World.grownBy.refl _ _, by simpa using IN.out, HS.out.2.1, rfl⟩
          case round =>
            obtain ⟨j, R, hj, rfl, hRl, hRs, HR⟩ := hrel
            by_cases hlt : j < l
            · obtain ⟨q1, hq1⟩ : ∃ q1, R.len = q1 + 1 := ⟨R.len - 1, by omega⟩
              obtain ⟨kk, nn, d', R', rfl, hR'⟩ := F.cons_of_len hq1
              obtain ⟨hg, hR, hokR, hv⟩ := HR.out
              obtain ⟨a', l', c', c0, c1, c2', hd, hR2⟩ := hR.out
              rw [show o + j * 3 + 3 = o + (j + 1) * 3 by omega] at hR2
              simp only [okF, Bool.and_eq_true, decide_eq_true_eq] at hokR
              have c0 := hg.cell c0 (by simp)
              have c1 := hg.cell c1 (by simp)
              have c2' := hg.cell c2' (by simp)
              have ga := World.grownBy_alloc wr (.cells #[.int .i64 kk, .int .i64 nn, .slice a' l' c'] 60) none
              have gw := grown_trans HG.out (grown_trans hg ga)
              simp only [F.size] at hRs
              have CC : Hid _ := IH.out d' kk nn a' l' c' (p - 1) ad cd (wr.alloc (.cells #[.int .i64 kk, .int .i64 nn, .slice a' l' c'] 60)) (by omega) (by omega) (hd.none (grown_trans hg ga)) (by rw [← hd.1]; exact hokR.1.1.2) hokR.1.2 (HS.out.2.2.1.none gw) (gw.cell HS.out.2.2.2 (by simp))
              have FX : Hid (W0.grownBy (wr.alloc (.cells #[.int .i64 kk, .int .i64 nn, .slice a' l' c'] 60)) none ∧ InF W0 R' b (o + (j + 1) * 3) ∧ okF R' p = true ∧ lowF M d = (lowT M kk nn d' && lowF M R')) := ⟨grown_trans hg ga, hR2, hokR.2, by rw [hv, lowF_cons]⟩
              clear hg hR hokR hv hd hR2 ga gw HR IN
              go_wp2_with fail
              refine Calls.mono CC.out ?_
              rintro e v ⟨he, hgv⟩
              subst he
              have FY : Hid (W0.grownBy v none) := grown_trans FX.out.1 hgv
              clear CC hgv c0 c1 c2'
              simp only []
              cases hq : lowT M kk nn d' with
              | false =>
                have E2 : Hid (lowT M k n d = false) := by show _ = _; rw [EV.out, FX.out.2.2.2, hq]; rfl
                clear hq
                go_wp2
                go_ret
                exact ⟨by rw [E2.out]; rfl, grown_trans HG.out FY.out⟩
              | true =>
                have E2 : Hid (lowF M d = lowF M R') := by show _ = _; rw [FX.out.2.2.2, hq]; rfl
                clear hq
                go_wp2
                go_roundw
                case rel => exact ⟨j + 1, R', by omega, by go_num, by omega, by omega, FY.out, FX.out.2.1, FX.out.2.2.1, E2.out⟩
                case measure => simp [intOf]; omega
            · obtain rfl : j = l := by omega
              obtain rfl : R = .nil := F.nil_of_len (by omega)
              have E2 : Hid (lowT M k n d = true ∧ w.grownBy wr none) := ⟨by rw [EV.out, HR.out.2.2.2]; rfl, grown_trans HG.out HR.out.1⟩
              clear HR IN
              go_wp2
              go_ret
              exact ⟨by rw [E2.out.1]; rfl, E2.out.2⟩
end Go.Proofs.YtpdkgmagjhibkaaGreatDoor.By
