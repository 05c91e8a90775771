/-
  The specification's reading of a tree, by its contract. No statement is proved here.
-/
import Derived.Test.YtbannlaeapfllabTRd
import Derived.Test.YtbannlaeapfllabGet
import Derived.Test.YtbannlaeapfllabTSubF
import Derived.Deep.DeepCutAuto
import Derived.Deep.CutBlock
namespace Go.Proofs.Ytbannlaeapfllab.By
open Go.RowKit
set_option linter.unusedVariables false
set_option linter.unusedSimpArgs false

theorem specGet2 (a : Option Addr) (n cap : Nat) (zs : List Int) (p : Int) (w : World) (h : Reads w a n zs) (hz : Byt zs) (hn : n ≤ 4194304) (hp : p ≤ 9223372036854775807) :
    Calls Try.prog 62 #[.slice a n cap, .int .i64 p] w fun e u => e = .returned (.tuple #[.int .i64 (getNum zs p).1, .int .i64 (getNum zs p).2]) ∧ w.grownBy u none :=
  (specGet a n cap zs p w h hz hn hp).mono fun e u ⟨he, hq⟩ => ⟨he, quiet hq⟩

/-- A tree and a place are handed back, in memory of their own. -/
def RdP (w : World) (R : Int × Int × F × Int) (e : Ending) (u : World) : Prop := ∃ a' l' c' bs, e = .returned (.tuple #[.agg #[.int .i64 R.1, .int .i64 R.2.1, .slice a' l' c'], .int .i64 R.2.2.2]) ∧ w.grownBy u none ∧ New w u 29 a' l' c' R.2.2.1 bs

set_option maxRecDepth 8000 in
set_option maxHeartbeats 1600000 in
theorem l3readT (a : Option Addr) (N cap : Nat) (zs : List Int) (hz : Byt zs) (hN : N ≤ 1048576) (pd : Nat) : ∀ (p : Int) (w : World), pd ≤ 10 → Reads w a N zs → p ≤ 9223372036854775807 →
    Calls Try.prog 49 #[.slice a N cap, .int .i64 p, .int .i64 (11 - pd)] w fun e u => RdP w (rdR zs pd p) e u := by
  induction pd with
  | zero =>
    intro p w _ h hp
    have EN : Hid (rdR zs 0 p = (0, 0, .nil, -1)) := rfl
    have hl := h.1
    by_cases h1 : p < 0
    · clear h
      go_enter Try.func49, Try.ntmps49
      go_wp2
      (try simp only [Exit.inBlock, Exit.then])
      refine bodyPost_ret (results_cell2 (P := Try.prog) Try.results49 _ _ w.heap.size _ _ _ _ rfl (heap_alloc_new w _) Try.underlying29 rfl (by kernel_rfl)) rfl ?_
      rw [EN.out]
      exact ⟨none, 0, 0, [], rfl, World.grownBy_alloc _ _ _, New.nil _ _ _⟩
    · by_cases h2 : (N : Int) ≤ p
      · clear h
        go_enter Try.func49, Try.ntmps49
        go_wp2
        (try simp only [Exit.inBlock, Exit.then])
        refine bodyPost_ret (results_cell2 (P := Try.prog) Try.results49 _ _ w.heap.size _ _ _ _ rfl (heap_alloc_new w _) Try.underlying29 rfl (by kernel_rfl)) rfl ?_
        rw [EN.out]
        exact ⟨none, 0, 0, [], rfl, World.grownBy_alloc _ _ _, New.nil _ _ _⟩
      · clear h
        go_enter Try.func49, Try.ntmps49
        go_wp2
        (try simp only [Exit.inBlock, Exit.then])
        refine bodyPost_ret (results_cell2 (P := Try.prog) Try.results49 _ _ w.heap.size _ _ _ _ rfl (heap_alloc_new w _) Try.underlying29 rfl (by kernel_rfl)) rfl ?_
        rw [EN.out]
        exact ⟨none, 0, 0, [], rfl, World.grownBy_alloc _ _ _, New.nil _ _ _⟩
  | succ pd ih =>
    intro p w hpd h hp
    have hl := h.1
    by_cases h1 : p < 0
    · have EN : Hid (rdR zs (pd + 1) p = (0, 0, .nil, -1)) := rdR_no (by unfold hd; rw [if_pos (.inl h1)])
      clear h ih
      go_enter Try.func49, Try.ntmps49
      go_wp2
      (try simp only [Exit.inBlock, Exit.then])
      refine bodyPost_ret (results_cell2 (P := Try.prog) Try.results49 _ _ w.heap.size _ _ _ _ rfl (heap_alloc_new w _) Try.underlying29 rfl (by kernel_rfl)) rfl ?_
      rw [EN.out]
      exact ⟨none, 0, 0, [], rfl, World.grownBy_alloc _ _ _, New.nil _ _ _⟩
    by_cases h2 : (N : Int) ≤ p
    · have EN : Hid (rdR zs (pd + 1) p = (0, 0, .nil, -1)) := rdR_no (by unfold hd; rw [if_pos (.inr (by omega))])
      clear h ih
      go_enter Try.func49, Try.ntmps49
      go_wp2
      (try simp only [Exit.inBlock, Exit.then])
      refine bodyPost_ret (results_cell2 (P := Try.prog) Try.results49 _ _ w.heap.size _ _ _ _ rfl (heap_alloc_new w _) Try.underlying29 rfl (by kernel_rfl)) rfl ?_
      rw [EN.out]
      exact ⟨none, 0, 0, [], rfl, World.grownBy_alloc _ _ _, New.nil _ _ _⟩
    obtain ⟨pn, rfl⟩ : ∃ pn : Nat, p = (pn : Int) := ⟨p.toNat, by omega⟩
    have hpn : pn < N := by omega
    have hbk := byt_get hz pn
    rcases h.2 with h0 | ⟨b, off, rfl, hc⟩
    · exact absurd hpn (by omega)
    have hck := hc pn hpn
    have hbl := block_lt_of_cell hck
    have HR : Hid (Reads w (some ⟨b, off, none⟩) N zs) := h
    have EH : Hid (hd zs (pn : Int) = hdN zs (zs.getD pn 0) ((pn : Int) + 1)) := by show _ = _; unfold hd; rw [if_neg (by omega)]; simp
    rw [List.getD_eq_getElem?_getD] at EH hck
    generalize hk : zs[pn]?.getD 0 = k at *
    have hdeep : ¬ (10 < (11 : Int) - ((pd + 1 : Nat) : Int)) := by omega
    generalize hdp : (11 : Int) - ((pd + 1 : Nat) : Int) = deep at *
    have IH : Hid _ := ih
    have DP : Hid ((11 : Int) - ((pd + 1 : Nat) : Int) = deep ∧ pd + 1 ≤ 10) := ⟨hdp, hpd⟩
    clear ih h hc hk hdp hpd
    obtain ⟨b6, b8, bsz⟩ := alloc2_blocks w (.cells #[.int .i64 0, .int .i64 0, .slice none 0 0] 29) (.cells #[.int .i64 k, .int .i64 0, .slice none 0 0] 29)
    have g0 := grown_alloc (grown_alloc (World.grownBy.refl w none) (.cells #[.int .i64 0, .int .i64 0, .slice none 0 0] 29)) (.cells #[.int .i64 k, .int .i64 0, .slice none 0 0] 29)
    have L0 : Hid (w.grownBy _ none ∧ _ = some (Obj.cells #[.int .i64 0, .int .i64 0, .slice none 0 0] 29) ∧ _ = some (Obj.cells #[.int .i64 k, .int .i64 0, .slice none 0 0] 29)) := ⟨g0, b6, b8⟩
    clear g0 b6 b8 bsz
    go_enter Try.func49, Try.ntmps49
    go_upto_block 0 with fail
    obtain ⟨g0, b6, b8⟩ := L0.out
    clear L0
    generalize (w.alloc (.cells #[.int .i64 0, .int .i64 0, .slice none 0 0] 29)).alloc (.cells #[.int .i64 k, .int .i64 0, .slice none 0 0] 29) = W0 at *
    generalize e6 : w.heap.size = q6 at *
    generalize e8 : q6 + 1 = q8 at *
    have PQ : Hid (w.heap.size = q6 ∧ q6 + 1 = q8) := ⟨e6, e8⟩
    have LI : Hid (w.grownBy W0 none ∧ W0.heap[q6]? = some (Obj.cells #[.int .i64 0, .int .i64 0, .slice none 0 0] 29) ∧ W0.heap[q8]? = some (Obj.cells #[.int .i64 k, .int .i64 0, .slice none 0 0] 29)) := ⟨g0, b6, b8⟩
    have zero : ∀ u, w.grownBy u none → u.heap[q6]? = some (Obj.cells #[.int .i64 0, .int .i64 0, .slice none 0 0] 29) → _ ∧ w.grownBy (((u.setCell ⟨q6, 0, none⟩ (.int .i64 0)).setCell ⟨q6, 1, none⟩ (.int .i64 0)).setCell ⟨q6, 2, none⟩ (.slice none 0 0)) none := fun u hu hp => ⟨(fill3 (.int .i64 0) (.int .i64 0) (.slice none 0 0) hp).1, grown_into hu (fill3 (.int .i64 0) (.int .i64 0) (.slice none 0 0) hp).2 (by omega)⟩
    have ZR : Hid _ := zero
    clear zero g0 b6 b8 e6 e8 hck
    go_cut [1, 9] (fun s1 s9 wx => ∃ (n nx : Int) (cc : Nat), s1 = .int .i64 nx ∧ s9 = .int .i64 cc ∧ Hid (hdN zs k ((pn : Int) + 1) = some (k, n, cc, nx)) ∧ Hid (w.grownBy wx none ∧ wx.heap[q6]? = some (Obj.cells #[.int .i64 0, .int .i64 0, .slice none 0 0] 29) ∧ wx.heap[q8]? = some (Obj.cells #[.int .i64 k, .int .i64 n, .slice none 0 0] 29)))
    case first =>
      clear IH
      by_cases k0 : k = 0
      · subst k0; go_wp2; go_meet; case rel => exact ⟨0, _, 0, rfl, rfl, rfl, LI⟩
      by_cases k1 : k = 1
      · subst k1; go_wp2; go_meet; case rel => exact ⟨0, _, 0, rfl, rfl, rfl, LI⟩
      by_cases k2 : k = 2
      · subst k2; go_wp2; go_meet; case rel => exact ⟨0, _, 0, rfl, rfl, rfl, LI⟩
      by_cases k3 : k = 3
      · subst k3; go_wp2; go_meet; case rel => exact ⟨0, _, 2, rfl, rfl, rfl, LI⟩
      by_cases k4 : k = 4
      · subst k4; go_wp2; go_meet; case rel => exact ⟨0, _, 2, rfl, rfl, rfl, LI⟩
      by_cases k5 : k = 5
      · subst k5; go_wp2; go_meet; case rel => exact ⟨0, _, 1, rfl, rfl, rfl, LI⟩
      by_cases k7 : k = 7
      · subst k7
        clear k0 k1 k2 k3 k4 k5
        have G1 : Hid (Reads W0 (some ⟨b, off, none⟩) N zs) := HR.out.none LI.out.1
        have C1 : Hid _ := specGet2 (some ⟨b, off, none⟩) N cap zs ((pn : Int) + 1) W0 G1.out hz (by omega) (by omega)
        have bd := getNum_bounds zs hz ((pn : Int) + 1)
        have EX : Hid (∃ n1 x1, getNum zs ((pn : Int) + 1) = (n1, x1)) := ⟨_, _, rfl⟩
        obtain ⟨n1, x1, hG⟩ := EX.out
        clear EX
        rw [hG] at C1 bd
        simp only [] at C1 bd
        have HG : Hid (getNum zs ((pn : Int) + 1) = (n1, x1)) := hG
        have BD : Hid (x1 ≤ N ∧ -1 ≤ x1) := by rcases bd with bd | bd <;> (try (injection bd with b1 b2)) <;> (show _ ∧ _; omega)
        clear hG bd G1
        go_wp2_with fail
        refine Calls.mono C1.out ?_
        rintro e u1 ⟨rfl, hg⟩
        have L1 : Hid (w.grownBy u1 none ∧ u1.heap[q6]? = some (Obj.cells #[.int .i64 0, .int .i64 0, .slice none 0 0] 29) ∧ u1.heap[q8]? = some (Obj.cells #[.int .i64 7, .int .i64 0, .slice none 0 0] 29)) := ⟨grown_trans LI.out.1 hg, (hg.block _ (lt_of_block LI.out.2.1) (by simp)).trans LI.out.2.1, (hg.block _ (lt_of_block LI.out.2.2) (by simp)).trans LI.out.2.2⟩
        have hne : q6 ≠ q8 := by have := PQ.out; omega
        have ks := grown_setCell u1 q8 1 (.int .i64 n1)
        have L2 : Hid (w.grownBy _ none ∧ _ = some (Obj.cells #[.int .i64 0, .int .i64 0, .slice none 0 0] 29) ∧ _ = some (Obj.cells #[.int .i64 7, .int .i64 n1, .slice none 0 0] 29)) := ⟨grown_into L1.out.1 ks (by have := PQ.out; omega), (ks.block _ (lt_of_block L1.out.2.1) (by simp; omega)).trans L1.out.2.1, heap_setCell_same u1 q8 1 _ _ _ L1.out.2.2⟩
        obtain ⟨⟨y0, y1, y2⟩, f0, f1, f2⟩ := three L1.out.2.2
        obtain ⟨⟨z0, z1, z2⟩, h0, h3, h4⟩ := three L2.out.2.1
        clear hg C1 LI ks
        simp only []
        by_cases hx : x1 < 0
        · have EN : Hid (rdR zs (pd + 1) (pn : Int) = (0, 0, .nil, -1)) := rdR_no (by rw [EH.out]; unfold hdN; rw [HG.out]; simp [hx])
          have FQ : Hid _ := ZR.out _ L2.out.1 L2.out.2.1
          clear ZR HG BD L1 L2 EH HR
          go_wp2
          (try simp only [Exit.inBlock, Exit.then])
          refine bodyPost_ret (results_cell2 (P := Try.prog) Try.results49 _ _ q6 _ _ _ _ rfl FQ.out.1 Try.underlying29 rfl (by kernel_rfl)) rfl ?_
          rw [EN.out]
          exact ⟨none, 0, 0, [], rfl, FQ.out.2, New.nil _ _ _⟩
        · have HH : Hid (hdN zs 7 ((pn : Int) + 1) = some (7, n1, 0, x1)) := by show _ = _; unfold hdN; rw [HG.out]; simp [hx]
          clear ZR HG BD L1 EH HR
          go_wp2
          go_meet
          case rel => exact ⟨n1, x1, 0, rfl, rfl, HH, L2⟩
      by_cases k6 : k = 6
      · subst k6
        clear k0 k1 k2 k3 k4 k5 k7
        have G1 : Hid (Reads W0 (some ⟨b, off, none⟩) N zs) := HR.out.none LI.out.1
        have C1 : Hid _ := specGet2 (some ⟨b, off, none⟩) N cap zs ((pn : Int) + 1) W0 G1.out hz (by omega) (by omega)
        have bd := getNum_bounds zs hz ((pn : Int) + 1)
        have EX : Hid (∃ n1 x1, getNum zs ((pn : Int) + 1) = (n1, x1)) := ⟨_, _, rfl⟩
        obtain ⟨n1, x1, hG⟩ := EX.out
        clear EX
        rw [hG] at C1 bd
        simp only [] at C1 bd
        have HG : Hid (getNum zs ((pn : Int) + 1) = (n1, x1)) := hG
        have BD : Hid (x1 ≤ N ∧ -1 ≤ x1) := by rcases bd with bd | bd <;> (try (injection bd with b1 b2)) <;> (show _ ∧ _; omega)
        clear hG bd G1
        go_wp2_with fail
        refine Calls.mono C1.out ?_
        rintro e u1 ⟨rfl, hg⟩
        have L1 : Hid (w.grownBy u1 none ∧ u1.heap[q6]? = some (Obj.cells #[.int .i64 0, .int .i64 0, .slice none 0 0] 29) ∧ u1.heap[q8]? = some (Obj.cells #[.int .i64 6, .int .i64 0, .slice none 0 0] 29)) := ⟨grown_trans LI.out.1 hg, (hg.block _ (lt_of_block LI.out.2.1) (by simp)).trans LI.out.2.1, (hg.block _ (lt_of_block LI.out.2.2) (by simp)).trans LI.out.2.2⟩
        have hne : q6 ≠ q8 := by have := PQ.out; omega
        have ks := grown_setCell u1 q8 1 (.int .i64 n1)
        have L2 : Hid (w.grownBy _ none ∧ _ = some (Obj.cells #[.int .i64 0, .int .i64 0, .slice none 0 0] 29) ∧ _ = some (Obj.cells #[.int .i64 6, .int .i64 n1, .slice none 0 0] 29)) := ⟨grown_into L1.out.1 ks (by have := PQ.out; omega), (ks.block _ (lt_of_block L1.out.2.1) (by simp; omega)).trans L1.out.2.1, heap_setCell_same u1 q8 1 _ _ _ L1.out.2.2⟩
        obtain ⟨⟨y0, y1, y2⟩, f0, f1, f2⟩ := three L1.out.2.2
        obtain ⟨⟨z0, z1, z2⟩, h0, h3, h4⟩ := three L2.out.2.1
        clear hg C1 LI ks
        simp only []
        by_cases hx : x1 < 0
        · have EN : Hid (rdR zs (pd + 1) (pn : Int) = (0, 0, .nil, -1)) := rdR_no (by rw [EH.out]; unfold hdN; rw [HG.out]; simp [hx])
          have FQ : Hid _ := ZR.out _ L2.out.1 L2.out.2.1
          clear ZR HG BD L1 L2 EH HR
          go_wp2
          (try simp only [Exit.inBlock, Exit.then])
          refine bodyPost_ret (results_cell2 (P := Try.prog) Try.results49 _ _ q6 _ _ _ _ rfl FQ.out.1 Try.underlying29 rfl (by kernel_rfl)) rfl ?_
          rw [EN.out]
          exact ⟨none, 0, 0, [], rfl, FQ.out.2, New.nil _ _ _⟩
        have C2 : Hid _ := specGet2 (some ⟨b, off, none⟩) N cap zs x1 _ (HR.out.none L2.out.1) hz (by omega) (by have := BD.out; omega)
        have bd := getNum_bounds zs hz x1
        have EX : Hid (∃ n2 x2, getNum zs x1 = (n2, x2)) := ⟨_, _, rfl⟩
        obtain ⟨n2, x2, hG⟩ := EX.out
        clear EX
        rw [hG] at C2 bd
        simp only [] at C2 bd
        have HG2 : Hid (getNum zs x1 = (n2, x2)) := hG
        have BD2 : Hid (0 ≤ n2) := by rcases bd with bd | bd <;> (try (injection bd with b1 b2)) <;> (show _ ≤ _; omega)
        clear hG bd
        go_wp2_with fail
        refine Calls.mono C2.out ?_
        rintro e u2 ⟨rfl, hg⟩
        have L3 : Hid (w.grownBy u2 none ∧ u2.heap[q6]? = some (Obj.cells #[.int .i64 0, .int .i64 0, .slice none 0 0] 29) ∧ u2.heap[q8]? = some (Obj.cells #[.int .i64 6, .int .i64 n1, .slice none 0 0] 29)) := ⟨grown_trans L2.out.1 hg, (hg.block _ (lt_of_block L2.out.2.1) (by simp)).trans L2.out.2.1, (hg.block _ (lt_of_block L2.out.2.2) (by simp)).trans L2.out.2.2⟩
        clear hg C2 L1 L2 y0 y1 y2 f0 f1 f2 z0 z1 z2 h0 h3 h4
        obtain ⟨⟨z0, z1, z2⟩, h0, h3, h4⟩ := three L3.out.2.1
        obtain ⟨nn2, rfl⟩ : ∃ nn2 : Nat, n2 = (nn2 : Int) := ⟨n2.toNat, by have := BD2.out; omega⟩
        simp only []
        by_cases hx2 : x2 < 0
        · have EN : Hid (rdR zs (pd + 1) (pn : Int) = (0, 0, .nil, -1)) := rdR_no (by rw [EH.out]; unfold hdN; rw [HG.out]; simp only []; rw [HG2.out]; simp [hx2])
          have FQ : Hid _ := ZR.out _ L3.out.1 L3.out.2.1
          clear ZR HG BD HG2 BD2 L3 EH HR
          go_wp2
          (try simp only [Exit.inBlock, Exit.then])
          refine bodyPost_ret (results_cell2 (P := Try.prog) Try.results49 _ _ q6 _ _ _ _ rfl FQ.out.1 Try.underlying29 rfl (by kernel_rfl)) rfl ?_
          rw [EN.out]
          exact ⟨none, 0, 0, [], rfl, FQ.out.2, New.nil _ _ _⟩
        by_cases hc3 : (3 : Int) < nn2
        · have EN : Hid (rdR zs (pd + 1) (pn : Int) = (0, 0, .nil, -1)) := rdR_no (by rw [EH.out]; unfold hdN; rw [HG.out]; simp only []; rw [HG2.out]; simp; omega)
          have FQ : Hid _ := ZR.out _ L3.out.1 L3.out.2.1
          clear ZR HG BD HG2 BD2 L3 EH HR
          go_wp2
          (try simp only [Exit.inBlock, Exit.then])
          refine bodyPost_ret (results_cell2 (P := Try.prog) Try.results49 _ _ q6 _ _ _ _ rfl FQ.out.1 Try.underlying29 rfl (by kernel_rfl)) rfl ?_
          rw [EN.out]
          exact ⟨none, 0, 0, [], rfl, FQ.out.2, New.nil _ _ _⟩
        have HH : Hid (hdN zs 6 ((pn : Int) + 1) = some (6, n1, nn2, x2)) := by show _ = _; unfold hdN; rw [HG.out]; simp only []; rw [HG2.out]; simp; omega
        clear ZR HG BD HG2 BD2 EH HR
        go_wp2
        go_meet
        case rel => exact ⟨n1, x2, nn2, rfl, rfl, HH, L3⟩
      have EN : Hid (rdR zs (pd + 1) (pn : Int) = (0, 0, .nil, -1)) := rdR_no (by rw [EH.out]; unfold hdN; rw [if_neg (by omega), if_neg (by omega), if_neg k5, if_neg k7, if_neg k6])
      obtain ⟨⟨z0, z1, z2⟩, h0, h3, h4⟩ := three LI.out.2.1
      have FQ : Hid _ := ZR.out _ LI.out.1 LI.out.2.1
      clear ZR LI EH HR
      go_wp2
      (try simp only [Exit.inBlock, Exit.then])
      refine bodyPost_ret (results_cell2 (P := Try.prog) Try.results49 _ _ q6 _ _ _ _ rfl FQ.out.1 Try.underlying29 rfl (by kernel_rfl)) rfl ?_
      rw [EN.out]
      exact ⟨none, 0, 0, [], rfl, FQ.out.2, New.nil _ _ _⟩
    case rest =>
      obtain ⟨n, nx, cc, rfl, rfl, HH, LC⟩ := hcut
      have hbn := hdN_bounds hz (by omega) (by omega) HH.out
      simp only [] at hbn
      obtain ⟨-, hc3, hx0, hx1⟩ := hbn
      have ER : Hid (rdR zs (pd + 1) (pn : Int) = match rdL (rdT zs pd) cc nx with | none => (0, 0, .nil, -1) | some y => (k, n, y.1, y.2)) := rdR_head (EH.out.trans HH.out)
      generalize hL : rdL (rdT zs pd) cc nx = LR at *
      have HL : Hid (LR = appL .nil (rdL (rdT zs pd) cc nx)) := by show _ = _; rw [appL_nil, hL]
      clear HH LI EH hL
      have dpp : (11 : Int) - (pd : Int) = deep + 1 := by have := DP.out; omega
      rw [dpp] at IH
      have hdl : 1 ≤ deep := by have := DP.out; omega
      have hdu : deep ≤ 10 := by omega
      clear dpp hdeep
      obtain ⟨i0, hi, hz0, hz1, hz2⟩ := info_parts infoT
      go_wp2
      go_loopw [1, 10] (fun v i wr => ∃ (j : Nat) (P : F) (x : Int) (av : Option Addr) (cv : Nat) (bs : List Nat), j ≤ cc ∧ i = .int .i64 j ∧ v = .int .i64 x ∧ 0 ≤ x ∧ x ≤ N ∧ P.len = j ∧ Hid (LR = appL P (rdL (rdT zs pd) (cc - j) x)) ∧ Hid (w.grownBy wr none ∧ wr.heap[q6]? = some (Obj.cells #[.int .i64 0, .int .i64 0, .slice none 0 0] 29) ∧ wr.heap[q8]? = some (Obj.cells #[.int .i64 k, .int .i64 n, .slice av j cv] 29) ∧ SlO wr 29 av j cv P bs ∧ bs.Nodup ∧ (∀ y ∈ bs, q8 < y) ∧ (cv = 0 → av = none))) (fun _ i _ => cc - (intOf i).toNat)
      case atStart => exact ⟨0, .nil, nx, none, 0, [], Nat.zero_le _, rfl, rfl, hx0, by omega, rfl, HL, LC.out.1, LC.out.2.1, LC.out.2.2, ⟨rfl, by omega, by omega, .inl ⟨rfl, rfl⟩⟩, List.nodup_nil, fun y hy => by simp at hy, fun _ => rfl⟩
      case round =>
        clear HL LC
        obtain ⟨j, P, x, av, cv, bs, hj, rfl, rfl, hxx0, hxx1, hPl, HL, LI⟩ := hrel
        by_cases hlt : j < cc
        · have hlt' : (j : Int) < (cc : Int) := by omega
          obtain ⟨r, hr⟩ : ∃ r, cc - j = r + 1 := ⟨cc - j - 1, by omega⟩
          have CC : Hid _ := IH.out x wr (by have := DP.out; omega) (HR.out.none LI.out.1) (by omega)
          go_wp2_with fail
          refine Calls.mono CC.out ?_
          rintro e u ⟨a2, l2, c2, bd, he, hg, hnew⟩
          subst he
          obtain ⟨g1, b6, b8, acc, nd, gt, na⟩ := LI.out
          have hl8 := lt_of_block b8
          have LV : Hid (w.grownBy u none ∧ u.heap[q6]? = some (Obj.cells #[.int .i64 0, .int .i64 0, .slice none 0 0] 29) ∧ u.heap[q8]? = some (Obj.cells #[.int .i64 k, .int .i64 n, .slice av j cv] 29) ∧ SlO u 29 av j cv P bs ∧ SlO u 29 a2 l2 c2 (rdR zs pd x).2.2.1 bd ∧ (∀ y ∈ bd, q8 < y) ∧ (∀ y ∈ bs, y ∉ bd) ∧ bd.Nodup ∧ bs.Nodup ∧ (∀ y ∈ bs, q8 < y) ∧ (cv = 0 → av = none)) := ⟨grown_trans g1 hg, (hg.block _ (lt_of_block b6) (by simp)).trans b6, (hg.block _ hl8 (by simp)).trans b8, acc.old hg, hnew.1, fun y hy => Nat.lt_of_lt_of_le hl8 (hnew.2.2 y hy), fun y hy hy2 => by have := acc.lt y hy; have := hnew.2.2 y hy2; omega, hnew.2.1, nd, gt, na⟩
          have lt8 : q8 < u.heap.size := lt_of_block LV.out.2.2.1
          have lt6 : q6 < u.heap.size := lt_of_block LV.out.2.1
          have n68 : q6 ≠ q8 := by have := PQ.out; omega
          clear hg hnew CC g1 b6 b8 acc hl8 LI nd gt na IH
          cases hT : rdT zs pd x with
          | none =>
            have eR : rdR zs pd x = (0, 0, .nil, -1) := by unfold rdR; rw [hT]
            have hLR : LR = none := by rw [HL.out, hr]; exact appL_none hT
            have EN : Hid (rdR zs (pd + 1) (pn : Int) = (0, 0, .nil, -1)) := by show _ = _; rw [ER.out, hLR]
            rw [eR]
            obtain ⟨⟨z0, z1, z2⟩, h0, h3, h4⟩ := three LV.out.2.1
            obtain ⟨d1, k1⟩ := ZR.out u LV.out.1 LV.out.2.1
            have ga := World.grownBy_alloc (((u.setCell ⟨q6, 0, none⟩ (.int .i64 0)).setCell ⟨q6, 1, none⟩ (.int .i64 0)).setCell ⟨q6, 2, none⟩ (.slice none 0 0)) (.cells #[.int .i64 0, .int .i64 0, .slice a2 l2 c2] 29) none
            have FQ : Hid _ := And.intro ((ga.block _ (lt_of_block d1) (by simp)).trans d1) (grown_trans k1 ga)
            clear ga d1 k1 hT eR hLR HL ER ZR HR LV hi hz0 hz1 hz2
            simp only []
            go_wp2
            (try simp only [Exit.inBlock, Exit.then])
            refine bodyPost_ret (results_cell2 (P := Try.prog) Try.results49 _ _ q6 _ _ _ _ rfl FQ.out.1 Try.underlying29 rfl (by kernel_rfl)) rfl ?_
            rw [EN.out]
            exact ⟨none, 0, 0, [], rfl, FQ.out.2, New.nil _ _ _⟩
          | some y =>
            have eR : rdR zs pd x = y := by unfold rdR; rw [hT]
            have hyb := rdT_bounds hz pd x y hT
            have HL2 : Hid (LR = appL (P.app (.cons y.1 y.2.1 y.2.2.1 .nil)) (rdL (rdT zs pd) r y.2.2.2)) := by show _ = _; rw [HL.out, hr]; exact appL_some hT
            rw [eR] at LV ⊢
            obtain ⟨rk, rn, rd, x'⟩ := y
            simp only [] at LV HL2 hyb ⊢
            obtain ⟨hy0, hy1⟩ := hyb
            have gA := World.grownBy_alloc u (.cells #[.int .i64 rk, .int .i64 rn, .slice a2 l2 c2] 29) none
            have gB := World.grownBy_alloc (u.alloc (.cells #[.int .i64 rk, .int .i64 rn, .slice a2 l2 c2] 29)) (.cells #[.int .i64 rk, .int .i64 rn, .slice a2 l2 c2] 29) none
            have gAB := grown_trans gA gB
            have bB := three (heap_alloc_new (u.alloc (.cells #[.int .i64 rk, .int .i64 rn, .slice a2 l2 c2] 29)) (.cells #[.int .i64 rk, .int .i64 rn, .slice a2 l2 c2] 29))
            have esz : (u.alloc (.cells #[.int .i64 rk, .int .i64 rn, .slice a2 l2 c2] 29)).heap.size = u.heap.size + 1 := by simp
            rw [esz] at bB
            obtain ⟨g1, b6, b8, acc, kid, gtk, dis, ndk, nd, gt, na⟩ := LV.out
            have AC : Hid (SlO ((u.alloc (.cells #[.int .i64 rk, .int .i64 rn, .slice a2 l2 c2] 29)).alloc (.cells #[.int .i64 rk, .int .i64 rn, .slice a2 l2 c2] 29)) 29 av j cv P bs ∧ SlO ((u.alloc (.cells #[.int .i64 rk, .int .i64 rn, .slice a2 l2 c2] 29)).alloc (.cells #[.int .i64 rk, .int .i64 rn, .slice a2 l2 c2] 29)) 29 a2 l2 c2 rd bd ∧ bs.Nodup ∧ bd.Nodup ∧ (∀ y ∈ bs, y ∉ bd) ∧ (cv = 0 → av = none)) := ⟨acc.old gAB, kid.old gAB, nd, ndk, dis, na⟩
            have NW : Hid _ := news3 bB.1.1 bB.1.2.1 bB.1.2.2
            have FB : Hid (∀ u3, Tn ((u.alloc (.cells #[.int .i64 rk, .int .i64 rn, .slice a2 l2 c2] 29)).alloc (.cells #[.int .i64 rk, .int .i64 rn, .slice a2 l2 c2] 29)) u3 bs → w.grownBy u3 none ∧ u3.heap[q6]? = some (Obj.cells #[.int .i64 0, .int .i64 0, .slice none 0 0] 29) ∧ u3.heap[q8]? = some (Obj.cells #[.int .i64 k, .int .i64 n, .slice av j cv] 29)) := by
              intro u3 ht
              have q1 := (gAB.block _ lt6 (by simp)).trans b6
              have q2 := (gAB.block _ lt8 (by simp)).trans b8
              exact ⟨Tn.fresh (grown_trans g1 gAB) ht (fun y hy => by have := gt y hy; have := PQ.out; omega), (ht.block _ (lt_of_block q1) (fun hy => by have := gt _ hy; have := PQ.out; omega)).trans q1, (ht.block _ (lt_of_block q2) (fun hy => by have := gt _ hy; omega)).trans q2⟩
            have GT : Hid ((∀ y ∈ bs, q8 < y) ∧ (∀ y ∈ bd, q8 < y) ∧ q8 < ((u.alloc (.cells #[.int .i64 rk, .int .i64 rn, .slice a2 l2 c2] 29)).alloc (.cells #[.int .i64 rk, .int .i64 rn, .slice a2 l2 c2] 29)).heap.size) := ⟨gt, gtk, by simp; omega⟩
            obtain ⟨⟨z0, z1, z2⟩, -⟩ := three b8
            clear hT eR HL LV gA gB gAB bB esz g1 b6 b8 acc kid gtk dis ndk nd gt na ZR
            have hjl : j ≤ 100000 := by omega
            go_wp2_with (at_builtin; go_must (refine wpList_pushT rfl (.tmp 93) (.tmp 95) 27 rfl 29 i0 _ Try.underlying27 hi hz0 hz1 hz2 rfl av j cv P bs rfl AC.out.1 AC.out.2.2.1 AC.out.2.2.2.2.2 hjl ⟨u.heap.size + 1, 0, none⟩ rfl rk rn a2 l2 c2 NW.out rd bd AC.out.2.1 AC.out.2.2.2.1 AC.out.2.2.2.2.1 ?_); intro a3 c3 bs3 u3 h1 h2 h3 h4 h5; obtain ⟨⟨v0, v1, v2⟩, f0, f1, f2⟩ := three (FB.out u3 h4).2.2)
            have ks := grown_setCell u3 q8 2 (.slice a3 (j + 1) c3)
            obtain ⟨g3, b63, b83⟩ := FB.out u3 h4
            have hgt : ∀ y ∈ bs3, q8 < y := fun y hy => by
              rcases h3 y hy with hy | hy | hy
              · exact GT.out.1 y hy
              · exact GT.out.2.1 y hy
              · have := GT.out.2.2; omega
            have LN : Hid (w.grownBy (u3.setCell ⟨q8, 2, none⟩ (.slice a3 (j + 1) c3)) none ∧ (u3.setCell ⟨q8, 2, none⟩ (.slice a3 (j + 1) c3)).heap[q6]? = some (Obj.cells #[.int .i64 0, .int .i64 0, .slice none 0 0] 29) ∧ (u3.setCell ⟨q8, 2, none⟩ (.slice a3 (j + 1) c3)).heap[q8]? = some (Obj.cells #[.int .i64 k, .int .i64 n, .slice a3 (j + 1) c3] 29) ∧ SlO (u3.setCell ⟨q8, 2, none⟩ (.slice a3 (j + 1) c3)) 29 a3 (j + 1) c3 (P.app (.cons rk rn rd .nil)) bs3 ∧ bs3.Nodup ∧ (∀ y ∈ bs3, q8 < y) ∧ (c3 = 0 → a3 = none)) := ⟨grown_into g3 ks (by have := PQ.out; omega), (ks.block _ (lt_of_block b63) (by simp; omega)).trans b63, heap_setCell_same u3 q8 2 _ _ _ b83, h1.kept ks (fun y hy => by have := hgt y hy; simp; omega), h2, hgt, fun h => by omega⟩
            have hlen : (P.app (.cons rk rn rd .nil)).len = j + 1 := h1.1
            have hcr : cc - (j + 1) = r := by omega
            clear ks g3 b63 b83 hgt h1 h2 h3 h4 FB GT NW AC
            go_roundw
            case rel => exact ⟨j + 1, P.app (.cons rk rn rd .nil), x', a3, c3, bs3, by omega, by go_num, rfl, by omega, by omega, hlen, by rw [hcr]; exact HL2, LN⟩
            case measure => simp [intOf]; omega
        · obtain rfl : j = cc := by omega
          obtain ⟨g1, b6, b8, acc, nd, gt, na⟩ := LI.out
          have hLR : LR = some (P, x) := by rw [HL.out, Nat.sub_self]; simp [rdL, appL, F.app_nil]
          have EN : Hid (rdR zs (pd + 1) (pn : Int) = (k, n, P, x)) := by show _ = _; rw [ER.out, hLR]
          obtain ⟨⟨z0, z1, z2⟩, h0, h3, h4⟩ := three b6
          obtain ⟨⟨y0, y1, y2⟩, f0, f1, f2⟩ := three b8
          obtain ⟨d1, k1⟩ := fill3 (.int .i64 k) (.int .i64 n) (.slice av j cv) b6
          have FQ : Hid (_ ∧ w.grownBy _ none ∧ New w _ 29 av j cv P bs) := ⟨d1, grown_into g1 k1 (by have := PQ.out; omega), acc.kept k1 (fun y hy => by have := gt y hy; have := PQ.out; simp; omega), nd, fun y hy => by have := gt y hy; have := PQ.out; omega⟩
          clear g1 b6 b8 acc nd gt na hLR HL ER d1 k1 LI IH HR ZR
          go_wp2
          (try simp only [Exit.inBlock, Exit.then])
          refine bodyPost_ret (results_cell2 (P := Try.prog) Try.results49 _ _ q6 _ _ _ _ rfl FQ.out.1 Try.underlying29 rfl (by kernel_rfl)) rfl ?_
          rw [EN.out]
          exact ⟨av, j, cv, bs, rfl, FQ.out.2.1, FQ.out.2.2⟩
end Go.Proofs.Ytbannlaeapfllab.By
